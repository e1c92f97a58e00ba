/-
  class.Count: of each class its codes are counted; nothing that lay turns but the page's own block.
-/
import Derived.Test.YtadoiplfglaonaaDoorCta
namespace Go.Proofs.YtadoiplfglaonaaDoor
open Go.RowKit Go.Lib Go.Shelf

def cnt (num : Int) (zs : List Int) (j : Nat) : Nat := zs.countP fun c => decide (ofI num c.toNat = j)
def cntV (num : Int) (zs : List Int) : List Value := (List.range 8).map fun j => .int .i64 (cnt num zs j)
theorem cntV_nil (num : Int) : cntV num [] = [.int .i64 0, .int .i64 0, .int .i64 0, .int .i64 0, .int .i64 0, .int .i64 0, .int .i64 0, .int .i64 0] := rfl
theorem cntV_at (num : Int) (zs : List Int) (j : Nat) (hj : j < 8) : (cntV num zs)[j]? = some (.int .i64 (cnt num zs j)) := by
  simp [cntV, hj]
theorem cnt_le (num : Int) (zs : List Int) (j : Nat) : cnt num zs j ≤ zs.length := List.countP_le_length
theorem ints_snoc (zs : List Int) (k : Nat) (hk : k < zs.length) : zs.take (k + 1) = zs.take k ++ [zs.getD k 0] := by
  rw [List.take_succ_eq_append_getElem hk, List.getD, List.getElem?_eq_getElem hk]
  rfl
theorem cnt_snoc (num : Int) (zs : List Int) (k : Nat) (hk : k < zs.length) (j : Nat) : cnt num (zs.take (k + 1)) j = cnt num (zs.take k) j + if ofI num (zs.getD k 0).toNat = j then 1 else 0 := by
  rw [ints_snoc zs k hk]
  simp only [cnt, List.countP_append, List.countP_cons, List.countP_nil, Nat.zero_add, decide_eq_true_eq]
theorem cntV_snoc (num : Int) (zs : List Int) (k : Nat) (hk : k < zs.length) (J : Nat) (hJ : ofI num (zs.getD k 0).toNat = J) : cntV num (zs.take (k + 1)) = (cntV num (zs.take k)).set J (.int .i64 ((cnt num (zs.take k) J : Int) + 1)) := by
  apply List.ext_getElem?
  intro j
  by_cases hj : j < 8
  · rw [cntV_at _ _ _ hj, List.getElem?_set, cnt_snoc num zs k hk, hJ]
    by_cases e : J = j
    · subst e
      rw [if_pos rfl, if_pos rfl, if_pos (by simp [cntV]; omega)]
      rfl
    · rw [if_neg e, if_neg (by omega), cntV_at _ _ _ hj, Nat.add_zero]
  · rw [List.getElem?_eq_none (by simp [cntV]; omega), List.getElem?_eq_none (by simp [cntV]; omega)]
theorem ofI_nat (num : Int) (c : Nat) : ∃ J : Nat, J < 8 ∧ ofI num c = J := by
  unfold ofI ofSignI
  repeat' split
  all_goals first | exact ⟨0, by omega, rfl⟩ | exact ⟨1, by omega, rfl⟩ | exact ⟨2, by omega, rfl⟩ | exact ⟨3, by omega, rfl⟩ | exact ⟨4, by omega, rfl⟩ | exact ⟨5, by omega, rfl⟩ | exact ⟨6, by omega, rfl⟩ | exact ⟨7, by omega, rfl⟩

theorem Page.store {w : World} {b : Nat} {num : Int} (h : Page w b num) {g : Nat} {cs : Array Value} (hg : w.heap[g]? = some (.cells cs 72 (0, 0))) (hne : b ≠ g) (j : Nat) (u : Value) : Page (w.setCell ⟨g, j, none⟩ u) b num := by
  have hb : ∀ k, k ≠ g → (w.setCell ⟨g, j, none⟩ u).heap[k]? = w.heap[k]? := fun k hk => Below.heap_setCell _ _ _ _ hk
  rcases h with ⟨hn, ⟨se, S, cv, h⟩ | ⟨m, h⟩⟩
  · exact ⟨hn, .inl ⟨se, S, cv, h.of_heap (hb b hne)⟩⟩
  · obtain ⟨se, hp⟩ := h.page
    have hm : m ≠ g := by
      obtain ⟨es, clock, hb, _⟩ := h.map
      intro e
      rw [e, hg] at hb
      cases hb
    exact ⟨hn, .inr ⟨m, ⟨⟨se, hp.of_heap (hb b hne)⟩, ownsMap_heap h.map (hb m hm), h.lt⟩⟩⟩

theorem known_some (b : Nat) (w : World) : Calls Tryd.prog 66 #[.pointer (some ⟨b, 0, none⟩)] w fun e w' => e = .returned (.pointer (some ⟨b, 0, none⟩)) ∧ w = w' := by
  go_enter Tryd.func66, Tryd.ntmps66
  go_wp2
  go_ret
  exact ⟨rfl, rfl⟩

/-- A call on a page has answered; nothing but the page's block has turned. -/
def BDone (v : Value) (b : Nat) (num : Int) (w : World) (e : Ending) (w' : World) : Prop := e = .returned v ∧ Page w' b num ∧ But b w w'

set_option maxRecDepth 100000 in
set_option maxHeartbeats 2000000 in
theorem of_but (b : Nat) (num : Int) (c : Nat) (hc : c < 256) (w : World) (hP : Page w b num) : Calls Tryd.prog 42 #[.pointer (some ⟨b, 0, none⟩), .int .u8 c] w (BDone (.int .i64 (ofI num c)) b num w) := by
  have FIN : Hid (∀ v : Int, ofI num c = v → BDone (.int .i64 (ofI num c)) b num w (.returned (.int .i64 v)) w) := fun v hv => ⟨by rw [hv], hP, But.refl _ _⟩
  have HP := hid hP
  clear hP
  have hcase : c = 0 ∨ c = 12 ∨ c = 13 ∨ c = 21 ∨ c = 25 ∨ c = 28 ∨ c = 30 ∨ c = 63 ∨ c = 255 ∨ c = 64 ∨ (c < 64 ∧ c ≠ 0 ∧ c ≠ 12 ∧ c ≠ 13 ∧ c ≠ 21 ∧ c ≠ 25 ∧ c ≠ 28 ∧ c ≠ 30 ∧ c ≠ 63) ∨ (65 ≤ c ∧ c ≤ 254) := by omega
  rcases hcase with rfl | rfl | rfl | rfl | rfl | rfl | rfl | rfl | rfl | rfl | ⟨k0, k1, k2, k3, k4, k5, k6, k7, k8⟩ | ⟨k0, k1⟩
  iterate 10
    · go_enter Tryd.func42, Tryd.ntmps42
      go_wp2
      go_ret
      exact FIN.out _ rfl
  · have e : ofI num c = 3 := by simp [ofI]; omega
    have HE := hid e
    have q0 : ((c : Int) == 0) = false := by simp; omega
    have q1 : ((c : Int) == 12) = false := by simp; omega
    have q2 : ((c : Int) == 13) = false := by simp; omega
    have q3 : ((c : Int) == 21) = false := by simp; omega
    have q4 : ((c : Int) == 25) = false := by simp; omega
    have q5 : ((c : Int) == 28) = false := by simp; omega
    have q6 : ((c : Int) == 30) = false := by simp; omega
    have q7 : ((c : Int) == 63) = false := by simp; omega
    have q8 : ((c : Int) == 255) = false := by simp; omega
    have q9 : ((c : Int) == 64) = false := by simp; omega
    clear e k1 k2 k3 k4 k5 k6 k7 k8
    go_enter Tryd.func42, Tryd.ntmps42
    go_wp2
    go_ret
    exact FIN.out _ HE.out
  · have e : ofI num c = ofSignI ((signsL num).getD c 0) := by
      unfold ofI
      rw [if_neg (by omega), if_neg (by omega), if_neg (by omega), if_neg (by omega), if_neg (by omega)]
    have HE := hid e
    have q0 : ((c : Int) == 0) = false := by simp; omega
    have q1 : ((c : Int) == 12) = false := by simp; omega
    have q2 : ((c : Int) == 13) = false := by simp; omega
    have q3 : ((c : Int) == 21) = false := by simp; omega
    have q4 : ((c : Int) == 25) = false := by simp; omega
    have q5 : ((c : Int) == 28) = false := by simp; omega
    have q6 : ((c : Int) == 30) = false := by simp; omega
    have q7 : ((c : Int) == 63) = false := by simp; omega
    have q8 : ((c : Int) == 255) = false := by simp; omega
    have q9 : ((c : Int) == 64) = false := by simp; omega
    clear e FIN
    go_enter Tryd.func42, Tryd.ntmps42
    go_wp2_with fail
    refine (known_some b _).mono ?_
    rintro e w1 ⟨rfl, rfl⟩
    go_wp2_with fail
    refine (sign_any b num c hc _ HP.out).mono ?_
    rintro e w2 ⟨rfl, hR, hB⟩
    have HR := hid hR
    have HB := hid hB
    clear hR hB
    go_wp2_with fail
    refine (ofSign_any _ _).mono ?_
    rintro e w' ⟨rfl, rfl⟩
    go_wp2
    go_ret
    exact ⟨by rw [HE.out]; rfl, ⟨HP.out.1, .inr HR.out⟩, HB.out⟩

/-- What holds at each round's head of Count. -/
structure CAt (w1 : World) (b g : Nat) (num : Int) (zs : List Int) (k : Nat) (wr : World) : Prop where
  page : Page wr b num
  row : wr.ownsRow g 72 1 (.slice (some ⟨g, 0, none⟩) 8 8) 8 (cntV num (zs.take k))
  but : But b w1 wr
  ne : b ≠ g
  le : w1.heap.size ≤ g
section
variable {w1 wr : World} {b g : Nat} {num : Int} {zs : List Int} {k : Nat}
theorem CAt.cell (h : CAt w1 b g num zs k wr) {j : Nat} (hj : j < 8) : wr.cell? ⟨g, j, none⟩ = some (.int .i64 (cnt num (zs.take k) j)) := by
  rw [World.ownsRow.cellAt h.row j (by omega), cntV_at _ _ _ hj]
theorem CAt.frozen (h : CAt w1 b g num zs k wr) (j : Nat) : wr.frozen? ⟨g, j, none⟩ = false := World.ownsRow.frozenAt h.row j
theorem CAt.called (h : CAt w1 b g num zs k wr) {w2 : World} (hP : Page w2 b num) (hB : But b wr w2) : CAt w1 b g num zs k w2 :=
  ⟨hP, h.row.kept (w' := w2) (row := some b) ⟨hB.os, hB.tape, hB.output, hB.size, fun i hi hb => hB.block i hi (fun e => hb (by rw [e]))⟩ (.inr (fun e => h.ne (Option.some.inj e).symm)), h.but.trans hB, h.ne, h.le⟩
theorem CAt.stored (h : CAt w1 b g num zs k wr) (hk : k < zs.length) {J : Nat} (hJ : ofI num (zs.getD k 0).toNat = J) : CAt w1 b g num zs (k + 1) (wr.setCell ⟨g, J, none⟩ (.int .i64 ((cnt num (zs.take k) J : Int) + 1))) := by
  have hg : ∃ cs, wr.heap[g]? = some (.cells cs 72 (0, 0)) := by
    rcases h.row.2 with ⟨e, _⟩ | ⟨g', cap, cur, e, _, hh, _⟩
    · cases e
    · cases e; exact ⟨_, hh⟩
  obtain ⟨cs, hg⟩ := hg
  refine ⟨h.page.store hg h.ne _ _, ?_, ?_, h.ne, h.le⟩
  · rw [cntV_snoc num zs k hk J hJ]
    exact (h.row.stored J _).1
  · exact ⟨h.but.os, h.but.tape, h.but.output, by simpa [World.setCell] using h.but.size, fun i hi hb => (Below.heap_setCell _ _ _ _ (by have := h.le; show i ≠ g; omega)).trans (h.but.block i hi hb)⟩
end

/-- Nothing that lay has turned but the page's block, if there is a page. -/
structure Kept (p : Option Addr) (w w' : World) : Prop where
  os : w'.os = w.os
  tape : w'.tape = w.tape
  output : w'.output = w.output
  size : w.heap.size ≤ w'.heap.size
  block : ∀ k, k < w.heap.size → (∀ b, p = some ⟨b, 0, none⟩ → k ≠ b) → w'.heap[k]? = w.heap[k]?
/-- The page is known, in the world that Count goes on in. -/
structure KAt (w : World) (p : Option Addr) (num : Int) (b : Nat) (w1 : World) : Prop where
  page : Page w1 b num
  kept : Below w.heap.size w w1
  new : p = some ⟨b, 0, none⟩ ∧ b < w.heap.size ∨ p = none ∧ w.heap.size ≤ b
theorem known_kept (B0 : Nat) (p : Option Addr) (num : Int) (w : World) (hA : PArg B0 p num w) : Calls Tryd.prog 66 #[.pointer p] w fun e w' => ∃ b, e = .returned (.pointer (some ⟨b, 0, none⟩)) ∧ KAt w p num b w' := by
  obtain ⟨hN, h1, hz, ⟨rfl, rfl⟩ | ⟨b, rfl, hb, hP⟩⟩ := hA
  · have HC := hid (new_page 37 (by decide) w hN)
    clear hN
    go_enter Tryd.func66, Tryd.ntmps66
    go_wp2_with fail
    with_reducible refine HC.out.mono ?_
    rintro e w1 ⟨b, rfl, hb, hP, hB⟩
    have HK : Hid (KAt w none 37 b w1) := ⟨hP, hB, .inr ⟨rfl, hb⟩⟩
    clear hP hB hb
    go_wp2
    go_ret
    exact ⟨_, rfl, HK.out⟩
  · exact (known_some b w).mono fun e w' ⟨he, hw⟩ => ⟨b, he, hw ▸ ⟨hP, Below.refl _ _, .inl ⟨rfl, hP.lt⟩⟩⟩
end Go.Proofs.YtadoiplfglaonaaDoor
