/-
  A range over a function whose body is told of its loop's record; a range over a function within a round.
-/
import Derived.Test.YtlhaefgchmakfaaFl
import Derived.RangeFuncNested
namespace Go.Proofs.Ytlhaefgchmakfaa
open Go.RowKit Go.Lib Go.Deep

section
variable {F : Fence} {n : Nat} {P : Program}
theorem SeqF.inRound {α : Type} {gf : Nat} {lb : Array Value} {encs : α → Array Value} {el : Nat → α → World → Prop} {N : Nat} {R : World → Prop} {W : World} (l : Nat) (h : SeqF F n P gf lb encs el N R W) : SeqF (F.inRound l) n P gf lb encs el N R W := h
theorem rangeFunc_seqH {α : Type} {g : Operand} {ps : Array Tmp} {assign body : Code} {Q : Exit → Act → World → Prop} {a : Act} {w : World}
    (hro : F.round = none) (h1 : 1 ≤ n) {gf : Nat} {lb : Array Value} (hg : a.eval g = .func (.func gf) #[] lb) (hFg : F.fn gf) (eg : ∀ args w, (callFunc gf args).run P w = .ok (.enter gf args) w)
    {encs : α → Array Value} (hps : ∀ x, (encs x).size = ps.size) {el : Nat → α → World → Prop} {N : Nat} {R : World → Prop}
    (I : Nat → List Nat → World → Prop) (Ix : Code → Nat → List Nat → World → Prop) (hI : ∀ k S, Abides w.heap.size (I k S)) (hIx : ∀ c k S, Abides w.heap.size (Ix c k S)) (hR : ∀ k S V, I k S V → R V) (h0 : I 0 [] w)
    (Ax : Nat → List Nat → α → Act → World → Prop) (hAx : ∀ k S x a', Abides w.heap.size (Ax k S x a'))
    (hassign : ∀ (l k : Nat) (x : α) (S : List Nat) (W : World) (K : Act → World → Prop), k < N → el k x W → I k S W → w.heap.size + 2 ≤ W.heap.size → (∀ a' W', Touch w.heap.size W W' S S → Ax k S x a' W' → K a' W') →
      assign.wpIn (F.inRound l) (n - 1 - 1) P (Exit.then K (fun _ _ _ => False)) { tmps := (ps.zip (encs x)).foldl (fun t (p, v) => t.setIfInBounds p v) a.tmps, defers := [] } W)
    (hbody : ∀ (l k : Nat) (x : α) (S : List Nat) (a' : Act) (W : World), k < N → Ax k S x a' W → w.heap.size + 2 ≤ W.heap.size → l = w.heap.size + 1 → (∃ r, W.heap[l]? = some (.loop r)) → (∀ q ∈ S, w.heap.size + 2 ≤ q) → body.wpIn (F.inRound l) (n - 1 - 1) P (roundF w.heap.size S (I (k + 1)) (fun c => Ix c (k + 1)) W) a' W)
    (hiter : ∀ o1 o2 : Obj, o1.isCells = false → o2.isCells = false → SeqF F (n - 1) P gf lb encs el N R ((w.alloc o1).alloc o2))
    (hdone : ∀ (D : Nat) (S : List Nat) (W : World), w.heap.size ≤ D → I N S W → W.heap[D]? = some (.deferred (some [])) → Q .normal { a with defers := { target := .collected D, args := #[] } :: a.defers } W)
    (hstop : ∀ (D k : Nat) (c : Code) (S : List Nat) (W : World), w.heap.size ≤ D → k < N → Ix c (k + 1) S W → W.heap[D]? = some (.deferred (some [])) → c.wpIn F n P Q { a with defers := { target := .collected D, args := #[] } :: a.defers } W) :
    (Code.rangeFunc g ps assign body).wpIn F n P Q a w := by
  refine wpIn_rangeFunc ?_
  intro fn hfn
  rw [hro]
  obtain ⟨rec, hrec⟩ : ∃ rec : LoopState → Option Code → Loop, rec = fun st pe => { state := st, pending := pe, fn, tmps := a.tmps, params := ps, assign, body, defers := w.heap.size } := ⟨_, rfl⟩
  let BK : LoopState → Option Code → World → Prop := fun st pe W => W.heap[w.heap.size + 1]? = some (.loop (rec st pe)) ∧ W.heap[w.heap.size]? = some (.deferred (some []))
  obtain ⟨W1, hW1⟩ : ∃ W1, (w.alloc (.deferred (some []))).alloc (.loop (rec .ready none)) = W1 := ⟨_, rfl⟩
  have hz1 : W1.heap.size = w.heap.size + 2 := by rw [← hW1]; simp
  have hBK : ∀ st pe, Abides W1.heap.size (BK st pe) := fun st pe A C hk h => ⟨hk.block _ _ h.1 (.inl (by omega)), hk.block _ _ h.2 (.inl (by omega))⟩
  have hB1 : BK .ready none W1 := by
    rw [← hW1]
    refine ⟨?_, (Below.heap_alloc _ _ _ (by simp)).trans (World.alloc_heap_new w _)⟩
    have := World.alloc_heap_new (w.alloc (.deferred (some []))) (.loop (rec .ready none))
    rwa [World.size_alloc] at this
  have hit := hiter (.deferred (some [])) (.loop (rec .ready none)) rfl rfl
  rw [hW1] at hit
  have hI1 : I 0 [] W1 := by rw [← hW1]; exact hI 0 [] _ _ ((Grow.alloc w _ _).trans (Grow.alloc _ _ _)) h0
  let FS : List Nat → Prop := fun S => ∀ k ∈ S, w.heap.size + 2 ≤ k
  refine ⟨w.heap.size + 1, [{ target := .collected w.heap.size, args := #[] }], W1, { target := .fn (.func gf) lb, args := #[.func (.yield (w.heap.size + 1)) #[] #[]] }, W1, gf,
    #[.func (.yield (w.heap.size + 1)) #[] #[]] ++ lb, W1, ?_, ?_, ?_, ?_, fun _ => h1, ?_⟩
  · rw [← hW1, hrec]; exact run_enterLoop_outer _ _ _ _ _
  · simp only [resolve, hg]
    simp [go_sem]
  · intro f' hf'; simp [Target.leads] at hf'; subst hf'; exact hFg
  · simp [invoke, go_sem, eg]
  · have hle : w.heap.size ≤ W1.heap.size := by omega
    refine (hit (w.heap.size + 1) (fun k S V => FS S ∧ I k S V ∧ BK .ready none V) (fun k S V => ∃ c, Ix c k S V ∧ BK .done (some c) V)
      (fun k S A C hk h => ⟨h.1, hI k S _ _ (hk.mono hle) h.2.1, hBK _ _ _ _ hk h.2.2⟩) (fun k S A C hk ⟨c, h1, h2⟩ => ⟨c, hIx c k S _ _ (hk.mono hle) h1, hBK _ _ _ _ hk h2⟩) (fun k S V h => hR k S V h.2.1) ⟨fun _ h => (by cases h), hI1, hB1⟩ ?_).mono ?_
    · rintro k x S W hkN hel ⟨hfs, hi, hl, hk⟩ hsz
      have hlt : w.heap.size + 1 < W.heap.size := (Array.getElem?_eq_some_iff.1 hl).1
      have hy := run_yield (P := P) (args := encs x) hl (by rw [hrec]; exact hps x)
      rw [hrec] at hy
      refine ⟨fn, _, assign, body, hy, roundIn_of_wpIn hfn (hassign _ k x S W _ hkN hel hi (by omega) fun a' Wa hta hax => ⟨_, run_beginRound ((hta.block _ (by omega) hlt (fun q => by have := hfs _ q; omega)).trans hl) (by rw [hrec]), ?_⟩)⟩
      have hla := (hta.block _ (by omega) hlt (fun q => by have := hfs _ q; omega)).trans hl
      have hka := (hta.block w.heap.size (by omega) (by omega) (fun q => by have := hfs _ q; omega)).trans hk
      have hza := hta.size
      obtain ⟨Wb, hWb⟩ : ∃ Wb, Wa.putObj (w.heap.size + 1) (.loop { rec .ready none with state := .busy }) = Wb := ⟨_, rfl⟩
      have hl2 : Wb.heap[w.heap.size + 1]? = some (.loop { rec .ready none with state := .busy }) := by rw [← hWb]; exact World.putObj_heap_same (by omega)
      have hk2 : Wb.heap[w.heap.size]? = some (.deferred (some [])) := by rw [← hWb]; exact (World.putObj_heap_other (by omega)).trans hka
      have hp2 : Ax k S x a' Wb := by rw [← hWb]; exact hAx k S x a' _ _ (Grow.put _ (by omega) hla rfl) hax
      have hzb : Wb.heap.size = Wa.heap.size := by rw [← hWb]; simp
      have htb : Touch W1.heap.size W Wb S S := (hta.mono hle).trans (by rw [← hWb]; exact Touch.put _ _ (by omega) _)
      rw [hWb]
      refine wpIn_mono (hbody _ k x S a' _ hkN hp2 (by omega) rfl ⟨_, hl2⟩ hfs) ?_
      have fin : ∀ (jump : Option Code) (S' : List Nat) (W3 : World), Touch w.heap.size Wb W3 S S' →
          (Instr.endRound (w.heap.size + 1) jump).run P W3 = .ok (.bool jump.isNone) (W3.putObj (w.heap.size + 1) (.loop (rec (if jump.isNone then .ready else .done) jump))) ∧
          BK (if jump.isNone then .ready else .done) jump (W3.putObj (w.heap.size + 1) (.loop (rec (if jump.isNone then .ready else .done) jump))) ∧
          Grow w.heap.size W3 (W3.putObj (w.heap.size + 1) (.loop (rec (if jump.isNone then .ready else .done) jump))) ∧ Touch W1.heap.size W (W3.putObj (w.heap.size + 1) (.loop (rec (if jump.isNone then .ready else .done) jump))) S S' ∧ FS S' := fun jump S' W3 ht3 => by
        have hl3 := (ht3.block _ (by omega) (by omega) (fun q => by have := hfs _ q; omega)).trans hl2
        have hk3 := (ht3.block w.heap.size (by omega) (by omega) (fun q => by have := hfs _ q; omega)).trans hk2
        have hr := run_endRound (P := P) jump hl3
        refine ⟨?_, ⟨World.putObj_heap_same (Array.getElem?_eq_some_iff.1 hl3).1, (World.putObj_heap_other (by omega)).trans hk3⟩, Grow.put _ (by omega) hl3 rfl, (htb.trans (ht3.mono hle)).trans (Touch.put _ _ (by omega) _), fun q hq => ?_⟩
        · rw [hrec] at hr ⊢
          exact hr
        · rcases ht3.from' q hq with h | h
          · exact hfs q h
          · omega
      rintro e a3 W3 hq
      cases e with
      | normal =>
        obtain ⟨S', ht3, hi3⟩ := hq
        obtain ⟨hr, hb, hG, hT, hF⟩ := fin none S' W3 ht3
        exact ⟨_, _, hr, S', hT, .inl ⟨rfl, hF, hI _ _ _ _ hG hi3, hb⟩⟩
      | ret =>
        obtain ⟨S', ht3, hi3⟩ := hq
        obtain ⟨hr, hb, hG, hT, hF⟩ := fin (some .ret) S' W3 ht3
        exact ⟨_, _, hr, S', hT, .inr ⟨rfl, _, hIx _ _ _ _ _ hG hi3, hb⟩⟩
      | exit id =>
        obtain ⟨S', ht3, hi3⟩ := hq
        obtain ⟨hr, hb, hG, hT, hF⟩ := fin (some (.exit id)) S' W3 ht3
        exact ⟨_, _, hr, S', hT, .inr ⟨rfl, _, hIx _ _ _ _ _ hG hi3, hb⟩⟩
      | goto t =>
        obtain ⟨S', ht3, hi3⟩ := hq
        obtain ⟨hr, hb, hG, hT, hF⟩ := fin (some (.goto t)) S' W3 ht3
        exact ⟨_, _, hr, S', hT, .inr ⟨rfl, _, hIx _ _ _ _ _ hG hi3, hb⟩⟩
      | panic ch => exact hq.elim
      | outgrown => exact hq.elim
    · rintro e W2 ⟨⟨v, rfl⟩, (⟨S, _, hd, hl, hk⟩ | ⟨k, S, hkN, c, hs, hl, hk⟩)⟩
      · exact ⟨none, _, by have := run_endLoop (P := P) hl (by rw [hrec]; simp); rw [hrec] at this; exact this, hdone _ S _ (Nat.le_refl _) (hI _ _ _ _ (Grow.put _ (by omega) hl rfl) hd) ((World.putObj_heap_other (by omega)).trans hk)⟩
      · exact ⟨some c, _, by have := run_endLoop (P := P) hl (by rw [hrec]; simp); rw [hrec] at this; exact this, hstop _ k c S _ (Nat.le_refl _) hkN (hIx _ _ _ _ _ (Grow.put _ (by omega) hl rfl) hs) ((World.putObj_heap_other (by omega)).trans hk)⟩
theorem rangeFunc_seqN {α : Type} {g : Operand} {ps : Array Tmp} {assign body : Code} {Q : Exit → Act → World → Prop} {a : Act} {w : World}
    {l₀ : Nat} {r₀ : Loop} (hro : F.round = some l₀) (hl₀ : w.heap[l₀]? = some (.loop r₀)) (h1 : 1 ≤ n) {gf : Nat} {lb : Array Value} (hg : a.eval g = .func (.func gf) #[] lb) (hFg : F.fn gf) (eg : ∀ args w, (callFunc gf args).run P w = .ok (.enter gf args) w)
    {encs : α → Array Value} (hps : ∀ x, (encs x).size = ps.size) {el : Nat → α → World → Prop} {N : Nat} {R : World → Prop}
    (I : Nat → List Nat → World → Prop) (Ix : Code → Nat → List Nat → World → Prop) (hI : ∀ k S, Abides w.heap.size (I k S)) (hIx : ∀ c k S, Abides w.heap.size (Ix c k S)) (hR : ∀ k S V, I k S V → R V) (h0 : I 0 [] w)
    (Ax : Nat → List Nat → α → Act → World → Prop) (hAx : ∀ k S x a', Abides w.heap.size (Ax k S x a'))
    (hassign : ∀ (l k : Nat) (x : α) (S : List Nat) (W : World) (K : Act → World → Prop), k < N → el k x W → I k S W → w.heap.size + 1 ≤ W.heap.size → (∀ a' W', Touch w.heap.size W W' S S → Ax k S x a' W' → K a' W') →
      assign.wpIn (F.inRound l) (n - 1 - 1) P (Exit.then K (fun _ _ _ => False)) { tmps := (ps.zip (encs x)).foldl (fun t (p, v) => t.setIfInBounds p v) a.tmps, defers := [] } W)
    (hbody : ∀ (l k : Nat) (x : α) (S : List Nat) (a' : Act) (W : World), k < N → Ax k S x a' W → w.heap.size + 1 ≤ W.heap.size → l = w.heap.size → (∃ r, W.heap[l]? = some (.loop r)) → (∀ q ∈ S, w.heap.size + 1 ≤ q) → body.wpIn (F.inRound l) (n - 1 - 1) P (roundF w.heap.size S (I (k + 1)) (fun c => Ix c (k + 1)) W) a' W)
    (hiter : ∀ o1 : Obj, o1.isCells = false → SeqF F (n - 1) P gf lb encs el N R (w.alloc o1))
    (hdone : ∀ (S : List Nat) (W : World), I N S W → Q .normal a W)
    (hstop : ∀ (k : Nat) (c : Code) (S : List Nat) (W : World), k < N → Ix c (k + 1) S W → c.wpIn F n P Q a W) :
    (Code.rangeFunc g ps assign body).wpIn F n P Q a w := by
  refine wpIn_rangeFunc ?_
  intro fn hfn
  rw [hro]
  obtain ⟨rec, hrec⟩ : ∃ rec : LoopState → Option Code → Loop, rec = fun st pe => { state := st, pending := pe, fn, tmps := a.tmps, params := ps, assign, body, defers := r₀.defers } := ⟨_, rfl⟩
  let BK : LoopState → Option Code → World → Prop := fun st pe W => W.heap[w.heap.size]? = some (.loop (rec st pe)) ∧ True
  obtain ⟨W1, hW1⟩ : ∃ W1, w.alloc (.loop (rec .ready none)) = W1 := ⟨_, rfl⟩
  have hz1 : W1.heap.size = w.heap.size + 1 := by rw [← hW1]; simp
  have hBK : ∀ st pe, Abides W1.heap.size (BK st pe) := fun st pe A C hk h => ⟨hk.block _ _ h.1 (.inl (by omega)), trivial⟩
  have hB1 : BK .ready none W1 := by
    rw [← hW1]
    exact ⟨World.alloc_heap_new w _, trivial⟩
  have hit := hiter (.loop (rec .ready none)) rfl
  rw [hW1] at hit
  have hI1 : I 0 [] W1 := by rw [← hW1]; exact hI 0 [] _ _ (Grow.alloc w _ _) h0
  let FS : List Nat → Prop := fun S => ∀ k ∈ S, w.heap.size + 1 ≤ k
  refine ⟨w.heap.size, [], W1, { target := .fn (.func gf) lb, args := #[.func (.yield w.heap.size) #[] #[]] }, W1, gf,
    #[.func (.yield w.heap.size) #[] #[]] ++ lb, W1, ?_, ?_, ?_, ?_, fun _ => h1, ?_⟩
  · rw [← hW1, hrec]; exact run_enterLoop_inner hl₀ _ _ _ _ _
  · simp only [resolve, hg]
    simp [go_sem]
  · intro f' hf'; simp [Target.leads] at hf'; subst hf'; exact hFg
  · simp [invoke, go_sem, eg]
  · have hle : w.heap.size ≤ W1.heap.size := by omega
    refine (hit w.heap.size (fun k S V => FS S ∧ I k S V ∧ BK .ready none V) (fun k S V => ∃ c, Ix c k S V ∧ BK .done (some c) V)
      (fun k S A C hk h => ⟨h.1, hI k S _ _ (hk.mono hle) h.2.1, hBK _ _ _ _ hk h.2.2⟩) (fun k S A C hk ⟨c, h1, h2⟩ => ⟨c, hIx c k S _ _ (hk.mono hle) h1, hBK _ _ _ _ hk h2⟩) (fun k S V h => hR k S V h.2.1) ⟨fun _ h => (by cases h), hI1, hB1⟩ ?_).mono ?_
    · rintro k x S W hkN hel ⟨hfs, hi, hl, hk⟩ hsz
      have hlt : w.heap.size < W.heap.size := (Array.getElem?_eq_some_iff.1 hl).1
      have hy := run_yield (P := P) (args := encs x) hl (by rw [hrec]; exact hps x)
      rw [hrec] at hy
      refine ⟨fn, _, assign, body, hy, roundIn_of_wpIn hfn (hassign _ k x S W _ hkN hel hi (by omega) fun a' Wa hta hax => ⟨_, run_beginRound ((hta.block _ (by omega) hlt (fun q => by have := hfs _ q; omega)).trans hl) (by rw [hrec]), ?_⟩)⟩
      have hla := (hta.block _ (by omega) hlt (fun q => by have := hfs _ q; omega)).trans hl
      have hza := hta.size
      obtain ⟨Wb, hWb⟩ : ∃ Wb, Wa.putObj w.heap.size (.loop { rec .ready none with state := .busy }) = Wb := ⟨_, rfl⟩
      have hl2 : Wb.heap[w.heap.size]? = some (.loop { rec .ready none with state := .busy }) := by rw [← hWb]; exact World.putObj_heap_same (by omega)
      have hp2 : Ax k S x a' Wb := by rw [← hWb]; exact hAx k S x a' _ _ (Grow.put _ (by omega) hla rfl) hax
      have hzb : Wb.heap.size = Wa.heap.size := by rw [← hWb]; simp
      have htb : Touch W1.heap.size W Wb S S := (hta.mono hle).trans (by rw [← hWb]; exact Touch.put _ _ (by omega) _)
      rw [hWb]
      refine wpIn_mono (hbody _ k x S a' _ hkN hp2 (by omega) rfl ⟨_, hl2⟩ hfs) ?_
      have fin : ∀ (jump : Option Code) (S' : List Nat) (W3 : World), Touch w.heap.size Wb W3 S S' →
          (Instr.endRound w.heap.size jump).run P W3 = .ok (.bool jump.isNone) (W3.putObj w.heap.size (.loop (rec (if jump.isNone then .ready else .done) jump))) ∧
          BK (if jump.isNone then .ready else .done) jump (W3.putObj w.heap.size (.loop (rec (if jump.isNone then .ready else .done) jump))) ∧
          Grow w.heap.size W3 (W3.putObj w.heap.size (.loop (rec (if jump.isNone then .ready else .done) jump))) ∧ Touch W1.heap.size W (W3.putObj w.heap.size (.loop (rec (if jump.isNone then .ready else .done) jump))) S S' ∧ FS S' := fun jump S' W3 ht3 => by
        have hl3 := (ht3.block _ (by omega) (by omega) (fun q => by have := hfs _ q; omega)).trans hl2
        have hr := run_endRound (P := P) jump hl3
        refine ⟨?_, ⟨World.putObj_heap_same (Array.getElem?_eq_some_iff.1 hl3).1, trivial⟩, Grow.put _ (by omega) hl3 rfl, (htb.trans (ht3.mono hle)).trans (Touch.put _ _ (by omega) _), fun q hq => ?_⟩
        · rw [hrec] at hr ⊢
          exact hr
        · rcases ht3.from' q hq with h | h
          · exact hfs q h
          · omega
      rintro e a3 W3 hq
      cases e with
      | normal =>
        obtain ⟨S', ht3, hi3⟩ := hq
        obtain ⟨hr, hb, hG, hT, hF⟩ := fin none S' W3 ht3
        exact ⟨_, _, hr, S', hT, .inl ⟨rfl, hF, hI _ _ _ _ hG hi3, hb⟩⟩
      | ret =>
        obtain ⟨S', ht3, hi3⟩ := hq
        obtain ⟨hr, hb, hG, hT, hF⟩ := fin (some .ret) S' W3 ht3
        exact ⟨_, _, hr, S', hT, .inr ⟨rfl, _, hIx _ _ _ _ _ hG hi3, hb⟩⟩
      | exit id =>
        obtain ⟨S', ht3, hi3⟩ := hq
        obtain ⟨hr, hb, hG, hT, hF⟩ := fin (some (.exit id)) S' W3 ht3
        exact ⟨_, _, hr, S', hT, .inr ⟨rfl, _, hIx _ _ _ _ _ hG hi3, hb⟩⟩
      | goto t =>
        obtain ⟨S', ht3, hi3⟩ := hq
        obtain ⟨hr, hb, hG, hT, hF⟩ := fin (some (.goto t)) S' W3 ht3
        exact ⟨_, _, hr, S', hT, .inr ⟨rfl, _, hIx _ _ _ _ _ hG hi3, hb⟩⟩
      | panic ch => exact hq.elim
      | outgrown => exact hq.elim
    · rintro e W2 ⟨⟨v, rfl⟩, (⟨S, _, hd, hl, hk⟩ | ⟨k, S, hkN, c, hs, hl, hk⟩)⟩
      · exact ⟨none, _, by have := run_endLoop (P := P) hl (by rw [hrec]; simp); rw [hrec] at this; exact this, hdone S _ (hI _ _ _ _ (Grow.put _ (by omega) hl rfl) hd)⟩
      · exact ⟨some c, _, by have := run_endLoop (P := P) hl (by rw [hrec]; simp); rw [hrec] at this; exact this, hstop k c S _ hkN (hIx _ _ _ _ _ (Grow.put _ (by omega) hl rfl) hs)⟩
end
end Go.Proofs.Ytlhaefgchmakfaa
