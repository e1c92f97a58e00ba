/-
  A range over a function whose iterator and body share memory: one invariant for both, and what holds at each call of yield.
-/
import Derived.Test.YtdampfngdnicoaaDoorProg
import Derived.RangeFuncFrom
namespace Go.Proofs.YtdampfngdnicoaaDoor
open Go.RowKit

section
variable {F : Fence} {n : Nat} {P : Program}
/-- A fact on what is no cells: it abides whatever leaves that. -/
def Stays (B : World → Prop) : Prop := ∀ A C, KeepsOthers A C → B A → B C
/-- A fact that abides the loop's own book-keeping, from block m on. -/
def Booked (m : Nat) (B : World → Prop) : Prop := ∀ (W : World) (l : Nat) (o o' : Obj), m ≤ l → W.heap[l]? = some o → o.isCells = false → B W → B (W.putObj l o')
/-- How a round's body is left. -/
def roundPost (J : World → Prop) (Jx : Code → World → Prop) (W : World) : Exit → Act → World → Prop
  | .normal, _, W' => KeepsOthers W W' ∧ J W'
  | .ret, _, W' => KeepsOthers W W' ∧ Jx .ret W'
  | .exit id, _, W' => KeepsOthers W W' ∧ Jx (.exit id) W'
  | .goto t, _, W' => KeepsOthers W W' ∧ Jx (.goto t) W'
  | .panic _, _, _ => False
  | .outgrown, _, _ => False
/-- What the iterator promises: with rounds that go from Pre to J (or to Jx, where one stops), it comes to Dn (or to St). x: what is told, and whatever else is known. B, Bx: the loop's own book-keeping. -/
def Tells {α : Type} (F : Fence) (n : Nat) (P : Program) (gf : Nat) (lb : Array Value) (encs : α → Array Value) (Pre J : α → World → Prop) (Jx : Code → α → World → Prop) (Dn : World → Prop) (St : Code → World → Prop) (W : World) : Prop :=
  ∀ (l : Nat) (B : World → Prop) (Bx : Code → World → Prop), Stays B → (∀ c, Stays (Bx c)) → B W →
    (∀ x W1, B W1 → Pre x W1 → YieldAt F (n - 1) P l (encs x) W1 fun e W' => (e = .returned (.bool true) ∧ B W' ∧ J x W') ∨ (e = .returned (.bool false) ∧ ∃ c, Bx c W' ∧ Jx c x W')) →
    CallsIn F n P gf (#[.func (.yield l) #[] #[]] ++ lb) W fun e W' => (∃ v, e = .returned v) ∧ ((B W' ∧ Dn W') ∨ ∃ c, Bx c W' ∧ St c W')

theorem rangeFunc_joint {α : Type} {g : Operand} {ps : Array Tmp} {assign body : Code} {Q : Exit → Act → World → Prop} {a : Act} {w : World}
    (hro : F.round = none) (h1 : 1 ≤ n) {gf : Nat} {lb : Array Value} (hg : a.eval g = .func (.func gf) #[] lb) (hFg : F.fn gf) (eg : ∀ args w, (callFunc gf args).run P w = .ok (.enter gf args) w)
    {encs : α → Array Value} (hps : ∀ x, (encs x).size = ps.size) {Pre J : α → World → Prop} {Jx : Code → α → World → Prop} {Dn : World → Prop} {St : Code → World → Prop}
    (hPre : ∀ x, Booked w.heap.size (Pre x)) (hJ : ∀ x, Booked w.heap.size (J x)) (hJx : ∀ c x, Booked w.heap.size (Jx c x)) (hDn : Booked w.heap.size Dn) (hSt : ∀ c, Booked w.heap.size (St c)) (a₁ : α → Act)
    (hassign : ∀ (l : Nat) (x : α) (W : World) (K : Act → World → Prop), K (a₁ x) W →
      assign.wpIn (F.inRound l) (n - 1 - 1) P (Exit.then K (fun _ _ _ => False)) { tmps := (ps.zip (encs x)).foldl (fun t (p, v) => t.setIfInBounds p v) a.tmps, defers := [] } W)
    (hbody : ∀ (l : Nat) (x : α) (W : World), Pre x W → body.wpIn (F.inRound l) (n - 1 - 1) P (roundPost (J x) (fun c => Jx c x) W) (a₁ x) W)
    (hiter : ∀ o1 o2 : Obj, o1.isCells = false → o2.isCells = false → Tells F (n - 1) P gf lb encs Pre J Jx Dn St ((w.alloc o1).alloc o2))
    (hdone : ∀ (D : Nat) (W : World), w.heap.size ≤ D → Dn W → W.heap[D]? = some (.deferred (some [])) → Q .normal { a with defers := { target := .collected D, args := #[] } :: a.defers } W)
    (hstop : ∀ (D : Nat) (c : Code) (W : World), w.heap.size ≤ D → St c W → W.heap[D]? = some (.deferred (some [])) → c.wpIn F n P Q { a with defers := { target := .collected D, args := #[] } :: a.defers } W) :
    (Code.rangeFunc g ps assign body).wpIn F n P Q a w := by
  refine wpIn_rangeFunc ?_
  intro fn hfn
  rw [hro]
  obtain ⟨rec, hrec⟩ : ∃ rec : LoopState → Option Code → Loop, rec = fun st pe => { state := st, pending := pe, fn, tmps := a.tmps, params := ps, assign, body, defers := w.heap.size } := ⟨_, rfl⟩
  let BK : LoopState → Option Code → World → Prop := fun st pe W => W.heap[w.heap.size + 1]? = some (.loop (rec st pe)) ∧ W.heap[w.heap.size]? = some (.deferred (some []))
  have hBK : ∀ st pe, Stays (BK st pe) := fun st pe A C hk h => ⟨hk.same _ _ h.1 rfl, hk.same _ _ h.2 rfl⟩
  obtain ⟨W1, hW1⟩ : ∃ W1, (w.alloc (.deferred (some []))).alloc (.loop (rec .ready none)) = W1 := ⟨_, rfl⟩
  have hB1 : BK .ready none W1 := by
    rw [← hW1]
    refine ⟨?_, (Below.heap_alloc _ _ _ (by simp)).trans (World.alloc_heap_new w _)⟩
    have := World.alloc_heap_new (w.alloc (.deferred (some []))) (.loop (rec .ready none))
    rwa [World.size_alloc] at this
  have hit := hiter (.deferred (some [])) (.loop (rec .ready none)) rfl rfl
  rw [hW1] at hit
  refine ⟨w.heap.size + 1, [{ target := .collected w.heap.size, args := #[] }], W1, { target := .fn (.func gf) lb, args := #[.func (.yield (w.heap.size + 1)) #[] #[]] }, W1, gf,
    #[.func (.yield (w.heap.size + 1)) #[] #[]] ++ lb, W1, ?_, ?_, ?_, ?_, fun _ => h1, ?_⟩
  · rw [← hW1, hrec]; exact run_enterLoop_outer _ _ _ _ _
  · simp only [resolve, hg]
    simp [go_sem]
  · intro f' hf'; simp [Target.leads] at hf'; subst hf'; exact hFg
  · simp [invoke, go_sem, eg]
  · refine (hit (w.heap.size + 1) (BK .ready none) (fun c => BK .done (some c)) (hBK _ _) (fun c => hBK _ _) hB1 ?_).mono ?_
    · rintro x W ⟨hl, hk⟩ hp
      have hlt : w.heap.size + 1 < W.heap.size := (Array.getElem?_eq_some_iff.1 hl).1
      have hy := run_yield (P := P) (args := encs x) hl (by rw [hrec]; exact hps x)
      rw [hrec] at hy
      refine ⟨fn, _, assign, body, hy, roundIn_of_wpIn hfn (hassign _ x W _ ⟨_, run_beginRound hl (by rw [hrec]), ?_⟩)⟩
      obtain ⟨Wb, hWb⟩ : ∃ Wb, W.putObj (w.heap.size + 1) (.loop { rec .ready none with state := .busy }) = Wb := ⟨_, rfl⟩
      have hl2 : Wb.heap[w.heap.size + 1]? = some (.loop { rec .ready none with state := .busy }) := by rw [← hWb]; exact World.putObj_heap_same hlt
      have hk2 : Wb.heap[w.heap.size]? = some (.deferred (some [])) := by rw [← hWb]; exact (World.putObj_heap_other (by omega)).trans hk
      have hp2 : Pre x Wb := by rw [← hWb]; exact hPre x _ _ _ _ (by omega) hl rfl hp
      rw [hWb]
      refine wpIn_mono (hbody _ x _ hp2) ?_
      have fin : ∀ (jump : Option Code) (W3 : World), KeepsOthers Wb W3 →
          (Instr.endRound (w.heap.size + 1) jump).run P W3 = .ok (.bool jump.isNone) (W3.putObj (w.heap.size + 1) (.loop (rec (if jump.isNone then .ready else .done) jump))) ∧
          BK (if jump.isNone then .ready else .done) jump (W3.putObj (w.heap.size + 1) (.loop (rec (if jump.isNone then .ready else .done) jump))) ∧
          ∀ R : World → Prop, Booked w.heap.size R → R W3 → R (W3.putObj (w.heap.size + 1) (.loop (rec (if jump.isNone then .ready else .done) jump))) := fun jump W3 hk3 => by
        have hl3 := hk3.same _ _ hl2 rfl
        have hr := run_endRound (P := P) jump hl3
        refine ⟨?_, ⟨World.putObj_heap_same (Array.getElem?_eq_some_iff.1 hl3).1, (World.putObj_heap_other (by omega)).trans (hk3.same _ _ hk2 rfl)⟩, fun R hR h => hR _ _ _ _ (by omega) hl3 rfl h⟩
        rw [hrec] at hr ⊢
        exact hr
      rintro e a3 W3 hq
      cases e with
      | normal =>
        obtain ⟨hk3, hi3⟩ := hq
        obtain ⟨hr, hb, hR⟩ := fin none W3 hk3
        exact ⟨_, _, hr, .inl ⟨rfl, hb, hR _ (hJ _) hi3⟩⟩
      | ret =>
        obtain ⟨hk3, hi3⟩ := hq
        obtain ⟨hr, hb, hR⟩ := fin (some .ret) W3 hk3
        exact ⟨_, _, hr, .inr ⟨rfl, _, hb, hR _ (hJx _ _) hi3⟩⟩
      | exit id =>
        obtain ⟨hk3, hi3⟩ := hq
        obtain ⟨hr, hb, hR⟩ := fin (some (.exit id)) W3 hk3
        exact ⟨_, _, hr, .inr ⟨rfl, _, hb, hR _ (hJx _ _) hi3⟩⟩
      | goto t =>
        obtain ⟨hk3, hi3⟩ := hq
        obtain ⟨hr, hb, hR⟩ := fin (some (.goto t)) W3 hk3
        exact ⟨_, _, hr, .inr ⟨rfl, _, hb, hR _ (hJx _ _) hi3⟩⟩
      | panic ch => exact hq.elim
      | outgrown => exact hq.elim
    · rintro e W2 ⟨⟨v, rfl⟩, (⟨⟨hl, hk⟩, hd⟩ | ⟨c, ⟨hl, hk⟩, hs⟩)⟩
      · exact ⟨none, _, by have := run_endLoop (P := P) hl (by rw [hrec]; simp); rw [hrec] at this; exact this, hdone _ _ (Nat.le_refl _) (hDn _ _ _ _ (by omega) hl rfl hd) ((World.putObj_heap_other (by omega)).trans hk)⟩
      · exact ⟨some c, _, by have := run_endLoop (P := P) hl (by rw [hrec]; simp); rw [hrec] at this; exact this, hstop _ c _ (Nat.le_refl _) (hSt c _ _ _ _ (by omega) hl rfl hs) ((World.putObj_heap_other (by omega)).trans hk)⟩
end
end Go.Proofs.YtdampfngdnicoaaDoor
