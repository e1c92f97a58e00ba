/-
  class.Count: the walk.
-/
import Derived.Test.YtadoiplfglaonaaDoorCtb
namespace Go.Proofs.YtadoiplfglaonaaDoor
open Go.RowKit Go.Lib Go.Shelf

/-- What is known where the loop begins. -/
structure Ahead (w : World) (p : Option Addr) (num : Int) (gs : Nat) (zs : List Int) (b : Nat) (w1 : World) : Prop where
  page : Page w1 b num
  lt : b < w1.heap.size
  size : w.heap.size < w1.heap.size
  res : w1.heap[w.heap.size]? = some (.cells #[.int .i64 0, .int .i64 0, .int .i64 0, .int .i64 0, .int .i64 0, .int .i64 0, .int .i64 0, .int .i64 0] 72 (0, 0))
  nres : w.heap.size ≠ b
  nrow : gs ≠ b
  glt : gs < w1.heap.size
  cell : ∀ i, i < zs.length → w1.cell? ⟨gs, i, none⟩ = some (.int .u8 (zs.getD i 0))
  kept : Kept p w w1
  page_of : p = none ∨ p = some ⟨b, 0, none⟩
  new : p = none → w.heap.size < b
theorem ahead {w : World} {p : Option Addr} {num : Int} {gs : Nat} {zs : List Int} {b : Nat} {w1 : World} (hgs : gs < w.heap.size) (hgp : ∀ b, p = some ⟨b, 0, none⟩ → gs ≠ b ∧ b < w.heap.size)
    (hcell : ∀ i, i < zs.length → w.cell? ⟨gs, i, none⟩ = some (.int .u8 (zs.getD i 0)))
    (hK : KAt (w.alloc (.cells #[.int .i64 0, .int .i64 0, .int .i64 0, .int .i64 0, .int .i64 0, .int .i64 0, .int .i64 0, .int .i64 0] 72)) p num b w1) : Ahead w p num gs zs b w1 := by
  obtain ⟨hP, hB, hn⟩ := hK
  have hs := hB.size
  simp at hs hn
  have hw : Below w.heap.size w w1 := ((Below.refl _ _).alloc (Nat.le_refl _) _).trans (hB.mono (by simp))
  refine ⟨hP, hP.lt, by omega, ?_, ?_, ?_, by omega, fun i hi => (World.cell?_of_block (hw.block gs hgs)).trans (hcell i hi), ⟨hw.os, hw.tape, hw.output, hw.size, fun k hk _ => hw.block k hk⟩, ?_, ?_⟩
  · rw [hB.block _ (by simp)]
    exact heap_alloc_new w _
  · rcases hn with ⟨h, _⟩ | ⟨_, h⟩
    · have := (hgp b h).2; omega
    · omega
  · rcases hn with ⟨h, _⟩ | ⟨_, h⟩
    · exact (hgp b h).1
    · omega
  · rcases hn with ⟨h, _⟩ | ⟨h, _⟩
    · exact .inr h
    · exact .inl h
  · intro hp
    rcases hn with ⟨h, _⟩ | ⟨_, h⟩
    · rw [hp] at h; cases h
    · omega
theorem Kept.setCell {p : Option Addr} {w w' : World} (h : Kept p w w') {a : Addr} (ha : w.heap.size ≤ a.block) (u : Value) : Kept p w (w'.setCell a u) :=
  ⟨h.os, h.tape, h.output, by simpa [World.setCell] using h.size, fun k hk hb => (Below.heap_setCell _ _ _ _ (by omega)).trans (h.block k hk hb)⟩
theorem Ahead.done {w : World} {p : Option Addr} {num : Int} {gs : Nat} {zs : List Int} {b : Nat} {w1 wr : World} (h : Ahead w p num gs zs b w1) (k : But b w1 wr) : Kept p w wr :=
  ⟨k.os.trans h.kept.os, k.tape.trans h.kept.tape, k.output.trans h.kept.output, Nat.le_trans h.kept.size k.size, fun i hi hb => by
    have hs := h.size
    refine (k.block i (by omega) ?_).trans (h.kept.block i hi hb)
    rcases h.page_of with e | e
    · have := h.new e; omega
    · exact hb b e⟩
theorem Ahead.result {w : World} {p : Option Addr} {num : Int} {gs : Nat} {zs : List Int} {b : Nat} {w1 wr : World} (h : Ahead w p num gs zs b w1) (k : But b w1 wr) :
    wr.heap[w.heap.size]? = some (.cells #[.int .i64 0, .int .i64 0, .int .i64 0, .int .i64 0, .int .i64 0, .int .i64 0, .int .i64 0, .int .i64 0] 72 (0, 0)) :=
  (k.block _ h.size h.nres).trans h.res
theorem set8 (w : World) (g : Nat) (a0 a1 a2 a3 a4 a5 a6 a7 q0 q1 q2 q3 q4 q5 q6 q7 : Value) (hg : w.heap[g]? = some (.cells #[a0, a1, a2, a3, a4, a5, a6, a7] 72 (0, 0))) :
    ((((((((w.setCell ⟨g, 0, none⟩ q0).setCell ⟨g, 1, none⟩ q1).setCell ⟨g, 2, none⟩ q2).setCell ⟨g, 3, none⟩ q3).setCell ⟨g, 4, none⟩ q4).setCell ⟨g, 5, none⟩ q5).setCell ⟨g, 6, none⟩ q6).setCell ⟨g, 7, none⟩ q7).heap[g]? = some (.cells #[q0, q1, q2, q3, q4, q5, q6, q7] 72 (0, 0)) := by
  have h0 := Go.heap_setCell_same w g 0 _ 72 q0 hg
  have h1 := Go.heap_setCell_same _ g 1 _ 72 q1 h0
  have h2 := Go.heap_setCell_same _ g 2 _ 72 q2 h1
  have h3 := Go.heap_setCell_same _ g 3 _ 72 q3 h2
  have h4 := Go.heap_setCell_same _ g 4 _ 72 q4 h3
  have h5 := Go.heap_setCell_same _ g 5 _ 72 q5 h4
  have h6 := Go.heap_setCell_same _ g 6 _ 72 q6 h5
  rw [Go.heap_setCell_same _ g 7 _ 72 q7 h6]
  simp
theorem size72 : (Tryd.prog.info? 72).map (·.size) = some 8 := by kernel_rfl
/-- Count has answered. -/
def CountDone (p : Option Addr) (num : Int) (zs : List Int) (w : World) (e : Ending) (w' : World) : Prop := e = .returned (.agg (cntV num zs).toArray) ∧ Kept p w w'

set_option maxRecDepth 100000 in
set_option maxHeartbeats 2000000 in
theorem count_any (B0 : Nat) (p : Option Addr) (num : Int) (gs cap : Nat) (zs : List Int) (w : World) (hA : PArg B0 p num w) (hgs : gs < w.heap.size) (hgp : ∀ b, p = some ⟨b, 0, none⟩ → gs ≠ b ∧ b < w.heap.size)
    (hzs : ∀ n ∈ zs, 0 ≤ n ∧ n < 256) (hl : zs.length ≤ 300) (hcell : ∀ i, i < zs.length → w.cell? ⟨gs, i, none⟩ = some (.int .u8 (zs.getD i 0))) :
    Calls Tryd.prog 54 #[.pointer p, .slice (some ⟨gs, 0, none⟩) zs.length cap] w (CountDone p num zs w) := by
  have HA : Hid (PArg B0 p num (w.alloc (.cells #[.int .i64 0, .int .i64 0, .int .i64 0, .int .i64 0, .int .i64 0, .int .i64 0, .int .i64 0, .int .i64 0] 72))) := by
    obtain ⟨hN, h1, hz, hp⟩ := hA
    have hB : Below w.heap.size w (w.alloc (.cells #[.int .i64 0, .int .i64 0, .int .i64 0, .int .i64 0, .int .i64 0, .int .i64 0, .int .i64 0, .int .i64 0] 72)) := (Below.refl _ _).alloc (Nat.le_refl _) _
    refine ⟨hN.below hN.1 hB, h1, Nat.le_trans hz hB.size, ?_⟩
    rcases hp with h | ⟨b, h, hb, hP⟩
    · exact .inl h
    · exact .inr ⟨b, h, hb, hP.below hB⟩
  have HG := hid hgp
  have HZ := hid hzs
  have HC := hid hcell
  clear hA hgp hzs hcell
  go_enter Tryd.func54, Tryd.ntmps54
  go_wp2_with fail
  refine (known_kept B0 p num _ HA.out).mono ?_
  rintro e w1 ⟨b, rfl, hK⟩
  have H := hid (ahead hgs HG.out HC.out hK)
  clear hK HA HG HC hgs
  go_wp2_with fail
  go_loopw [12] (fun i wr => ∃ k : Nat, k ≤ zs.length ∧ i = .int .i64 k ∧ Hid (CAt w1 b w1.heap.size num zs k wr)) (fun i _ => zs.length - (intOf i).toNat)
  case atStart => exact ⟨0, by omega, rfl, ⟨H.out.page.below ((Below.refl _ _).alloc (Nat.le_refl _) _), by rw [List.take_zero, cntV_nil]; exact World.ownsRow_lit _ _ 8 (Nat.le_refl _) (by unfold maxLen; omega) rfl, (But.refl _ _).alloc _, by have := H.out.lt; omega, Nat.le_refl _⟩⟩
  case round =>
    obtain ⟨k, hk, rfl, HR⟩ := hrel
    by_cases hlt : k < zs.length
    · obtain ⟨c, hc, hzc⟩ : ∃ c : Nat, c < 256 ∧ zs.getD k 0 = c := by
        have := HZ.out (zs.getD k 0) (by rw [List.getD, List.getElem?_eq_getElem hlt]; simp)
        exact ⟨(zs.getD k 0).toNat, by omega, by omega⟩
      have hcw : wr.cell? ⟨gs, k, none⟩ = some (.int .u8 c) := by
        rw [← hzc]
        exact (World.cell?_of_block (HR.out.but.block gs H.out.glt H.out.nrow)).trans (H.out.cell k hlt)
      obtain ⟨J, hJ, hJe⟩ := ofI_nat num c
      have HOF := hid (of_but b num c hc wr HR.out.page)
      rw [hJe] at HOF
      have HJ : Hid (ofI num (zs.getD k 0).toNat = J) := by show _ = _; rw [hzc]; exact hJe
      clear hzc hJe
      go_wp2_with fail
      with_reducible refine HOF.out.mono ?_
      rintro e w2 ⟨rfl, hP2, hB2⟩
      have HR2 := hid (HR.out.called hP2 hB2)
      clear hP2 hB2 HR HOF
      have hcc := HR2.out.cell hJ
      have hfz := HR2.out.frozen J
      have hle := cnt_le num (zs.take k) J
      have HN := hid (HR2.out.stored hlt HJ.out)
      have hlen : (zs.take k).length ≤ k := by simp; omega
      obtain ⟨q, hq⟩ : ∃ q, q = cnt num (zs.take k) J := ⟨_, rfl⟩
      rw [← hq] at hcc HN hle
      have hq300 : q ≤ 300 := by omega
      clear hq hle hlen
      go_wp2
      go_roundw
      case rel => exact ⟨k + 1, by omega, by go_num, HN⟩
      case measure => simp [intOf]; omega
    · obtain rfl : k = zs.length := by omega
      have hres := H.out.result HR.out.but
      have hkept := H.out.done HR.out.but
      have hne : w.heap.size ≠ w1.heap.size := by have := H.out.size; omega
      have h0 := HR.out.cell (j := 0) (by omega)
      have h1 := HR.out.cell (j := 1) (by omega)
      have h2 := HR.out.cell (j := 2) (by omega)
      have h3 := HR.out.cell (j := 3) (by omega)
      have h4 := HR.out.cell (j := 4) (by omega)
      have h5 := HR.out.cell (j := 5) (by omega)
      have h6 := HR.out.cell (j := 6) (by omega)
      have h7 := HR.out.cell (j := 7) (by omega)
      have HV : Hid (cntV num zs = [.int .i64 (cnt num zs 0), .int .i64 (cnt num zs 1), .int .i64 (cnt num zs 2), .int .i64 (cnt num zs 3), .int .i64 (cnt num zs 4), .int .i64 (cnt num zs 5), .int .i64 (cnt num zs 6), .int .i64 (cnt num zs 7)]) := rfl
      rw [List.take_length] at h0 h1 h2 h3 h4 h5 h6 h7
      generalize cnt num zs 0 = q0 at h0 HV
      generalize cnt num zs 1 = q1 at h1 HV
      generalize cnt num zs 2 = q2 at h2 HV
      generalize cnt num zs 3 = q3 at h3 HV
      generalize cnt num zs 4 = q4 at h4 HV
      generalize cnt num zs 5 = q5 at h5 HV
      generalize cnt num zs 6 = q6 at h6 HV
      generalize cnt num zs 7 = q7 at h7 HV
      have HKP := hid hkept
      have f0 : ∀ j, wr.frozen? ⟨w.heap.size, j, none⟩ = false := fun j => by simp [World.frozen?, hres]
      have c0 : wr.cell? ⟨w.heap.size, 0, none⟩ = some (.int .i64 0) := by simp [World.cell?, hres]
      have c1 : wr.cell? ⟨w.heap.size, 1, none⟩ = some (.int .i64 0) := by simp [World.cell?, hres]
      have c2 : wr.cell? ⟨w.heap.size, 2, none⟩ = some (.int .i64 0) := by simp [World.cell?, hres]
      have c3 : wr.cell? ⟨w.heap.size, 3, none⟩ = some (.int .i64 0) := by simp [World.cell?, hres]
      have c4 : wr.cell? ⟨w.heap.size, 4, none⟩ = some (.int .i64 0) := by simp [World.cell?, hres]
      have c5 : wr.cell? ⟨w.heap.size, 5, none⟩ = some (.int .i64 0) := by simp [World.cell?, hres]
      have c6 : wr.cell? ⟨w.heap.size, 6, none⟩ = some (.int .i64 0) := by simp [World.cell?, hres]
      have c7 : wr.cell? ⟨w.heap.size, 7, none⟩ = some (.int .i64 0) := by simp [World.cell?, hres]
      have HRES := hid hres
      clear hkept HR H hres
      go_wp2
      refine bodyPost_ret (results_cell_row rfl _ _ w.heap.size 72 #[.int .i64 q0, .int .i64 q1, .int .i64 q2, .int .i64 q3, .int .i64 q4, .int .i64 q5, .int .i64 q6, .int .i64 q7] (0, 0) _ rfl (set8 _ _ _ _ _ _ _ _ _ _ _ _ _ _ _ _ _ _ HRES.out) Tryd.underlying72 rfl size72) rfl ?_
      refine ⟨by rw [HV.out], ?_⟩
      iterate 8 with_reducible refine Kept.setCell ?_ (Nat.le_refl _) _
      exact HKP.out
end Go.Proofs.YtadoiplfglaonaaDoor
