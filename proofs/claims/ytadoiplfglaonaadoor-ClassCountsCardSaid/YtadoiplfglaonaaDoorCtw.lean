/-
  The whole road of ClassCounts.
-/
import Derived.Test.YtadoiplfglaonaaDoorCtd
import Derived.Deep.RegionHeld3
namespace Go.Proofs.YtadoiplfglaonaaDoor
open Go.RowKit Go.Lib Go.Shelf

/-- The page and the codes lie ready. -/
structure Setup (w : World) (p : Option Addr) (num : Int) (g : Nat) (zs : List Int) (w3 : World) : Prop where
  arg : ∃ B0, PArg B0 p num w3 ∧ w.heap.size ≤ B0
  glt : g < w3.heap.size
  gne : ∀ b, p = some ⟨b, 0, none⟩ → g ≠ b ∧ b < w3.heap.size
  cell : ∀ i, i < zs.length → w3.cell? ⟨g, i, none⟩ = some (.int .u8 (zs.getD i 0))
  bel : Below w.heap.size w w3
section
variable {w w3 wr w5 : World} {p : Option Addr} {num : Int} {g : Nat} {zs : List Int}
theorem PArg.below {B0 : Nat} (h : PArg B0 p num w3) (hB : Below w3.heap.size w3 wr) : PArg B0 p num wr := by
  obtain ⟨hN, h1, hz, hp⟩ := h
  refine ⟨hN.below hN.1 hB, h1, Nat.le_trans hz hB.size, ?_⟩
  rcases hp with h | ⟨b, h, hb, hP⟩
  · exact .inl h
  · exact .inr ⟨b, h, hb, hP.below hB⟩
theorem Setup.next (h : Setup w p num g zs w3) (hB : Below w3.heap.size w3 wr) : Setup w p num g zs wr := by
  obtain ⟨B0, hA, hw⟩ := h.arg
  have hs := hB.size
  exact ⟨⟨B0, hA.below hB, hw⟩, by have := h.glt; omega, fun b hb => ⟨(h.gne b hb).1, by have := (h.gne b hb).2; omega⟩, fun i hi => (World.cell?_of_block (hB.block g h.glt)).trans (h.cell i hi), h.bel.trans (hB.mono h.bel.size)⟩
theorem Setup.last (h : Setup w p num g zs wr) (hK : Kept p wr w5) : Below w.heap.size w w5 := by
  obtain ⟨B0, hA, hw⟩ := h.arg
  have hs := h.bel.size
  refine h.bel.trans ⟨hK.os, hK.tape, hK.output, hK.size, fun k hk => hK.block k (by omega) (fun b hb => ?_)⟩
  rcases hA.2.2.2 with ⟨e, _⟩ | ⟨b', e, hb', _⟩
  · rw [e] at hb; cases hb
  · rw [e] at hb; cases hb; omega
/-- What holds at each round's head. -/
structure WAt (w3 : World) (num : Int) (zs : List Int) (k : Nat) (wr : World) : Prop where
  row : wr.ownsRow w3.heap.size 72 1 (.slice (some ⟨w3.heap.size, 0, none⟩) 8 8) 8 (cntV num (zs.take k))
  bel : Below w3.heap.size w3 wr
variable {k : Nat}
theorem WAt.cell (h : WAt w3 num zs k wr) {j : Nat} (hj : j < 8) : wr.cell? ⟨w3.heap.size, j, none⟩ = some (.int .i64 (cnt num (zs.take k) j)) := by
  rw [World.ownsRow.cellAt h.row j (by omega), cntV_at _ _ _ hj]
theorem WAt.frozen (h : WAt w3 num zs k wr) (j : Nat) : wr.frozen? ⟨w3.heap.size, j, none⟩ = false := World.ownsRow.frozenAt h.row j
theorem WAt.lt (h : WAt w3 num zs k wr) : w3.heap.size < wr.heap.size := (h.row.lt _ rfl).2
theorem WAt.called (h : WAt w3 num zs k wr) (hB : Below wr.heap.size wr w5) : WAt w3 num zs k w5 :=
  ⟨h.row.kept (w' := w5) (row := none) ⟨hB.os, hB.tape, hB.output, hB.size, fun i hi _ => hB.block i hi⟩ (.inr (fun e => by cases e)), h.bel.trans (hB.mono (Nat.le_of_lt h.lt))⟩
theorem WAt.stored (h : WAt w3 num zs k wr) (hk : k < zs.length) {J : Nat} (hJ : ofI num (zs.getD k 0).toNat = J) : WAt w3 num zs (k + 1) (wr.setCell ⟨w3.heap.size, J, none⟩ (.int .i64 ((cnt num (zs.take k) J : Int) + 1))) :=
  ⟨by rw [cntV_snoc num zs k hk J hJ]; exact (h.row.stored J _).1, h.bel.setCell (Nat.le_refl _) _⟩
end

set_option maxRecDepth 100000 in
set_option maxHeartbeats 2000000 in
theorem classCounts_true (n : Nat) (hn : n < 256) (a1 : Option Addr) (len cap : Nat) (z1 : List Int) (w : World) (hN : Numbers w) (hI : InRow w a1 len cap z1) (hz1 : ∀ n ∈ z1, 0 ≤ n ∧ n < 256) :
    Calls Tryd.prog 13 #[.int .u8 n, .slice a1 len cap] w fun e w' => e = .returned (.bool true) ∧ Below w.heap.size w w' := by
  have HN := hid hN
  have HI := hid hI
  have HZ1 := hid hz1
  clear hN hI hz1
  have HM := hid (picked2_mem n)
  go_enter Tryd.func13, Tryd.ntmps13
  go_wp2_with fail
  refine (awake2_true _ HN.out).mono ?_
  rintro e w1 ⟨rfl, hB1⟩
  have HN1 := hid (HN.out.below HN.out.1 hB1)
  have HB1 := hid hB1
  clear hB1
  go_wp2_with fail
  refine (pick2_any n hn _ HN1.out).mono ?_
  rintro e w2 ⟨p, rfl, hA, hB2⟩
  have HB2 := hid (HB1.out.trans (hB2.mono HB1.out.size))
  have HA := hid hA
  have HW1 := hid HB1.out.size
  clear hA hB2 HB1 HN1 HN
  have HI2 : Hid (InRow w2 a1 len cap z1) := by
    obtain ⟨i1, i2, i3, i4⟩ := HI.out
    refine ⟨i1, i2, i3, ?_⟩
    rcases i4 with h | ⟨x, h, hc⟩
    · exact .inl h
    · refine .inr ⟨x, h, fun i hi => ?_⟩
      exact (World.cell?_of_block (HB2.out.block _ (World.block_lt_of_cell? w _ (hc i hi)))).trans (hc i hi)
  clear HI
  obtain ⟨num, hnum⟩ : ∃ num, num = picked2 n := ⟨_, rfl⟩
  rw [← hnum] at HA HM ⊢
  clear hnum
  go_wp2_with fail
  refine (cut_any a1 len cap z1 _ HI2.out).mono ?_
  rintro e w3 ⟨v, rfl, hO, hB3⟩
  have HZ : Hid (∀ n ∈ z1.take (min len 300), 0 ≤ n ∧ n < 256) := fun n hn => HZ1.out n (List.mem_of_mem_take hn)
  have hl : (z1.take (min len 300)).length ≤ 300 := by simp; omega
  obtain ⟨zs, hzs⟩ : ∃ zs, zs = z1.take (min len 300) := ⟨_, rfl⟩
  rw [← hzs] at HZ hl hO
  obtain ⟨g, cap2, rfl, hg1, hg2, hcell⟩ := hO
  have HS : Hid (Setup w p num g zs w3) := by
    refine ⟨⟨w1.heap.size, HA.out.below hB3, HW1.out⟩, hg2, fun b hb => ?_, hcell, HB2.out.trans (hB3.mono HB2.out.size)⟩
    rcases HA.out.2.2.2 with ⟨e, _⟩ | ⟨b', e, hb', hP⟩
    · rw [e] at hb; cases hb
    · rw [e] at hb; cases hb
      have := hP.lt
      have := hB3.size
      omega
  clear HI2 HZ1 HA HB2 HW1 hB3 hcell hg1 hg2 hzs
  go_wp2_with fail
  go_loopw [21] (fun i wr => ∃ k : Nat, k ≤ zs.length ∧ i = .int .i64 k ∧ Hid (WAt w3 num zs k wr)) (fun i _ => zs.length - (intOf i).toNat)
  case atStart => exact ⟨0, by omega, rfl, ⟨by rw [List.take_zero, cntV_nil]; exact World.ownsRow_lit _ _ 8 (Nat.le_refl _) (by unfold maxLen; omega) rfl, (Below.refl _ _).alloc (Nat.le_refl _) _⟩⟩
  case round =>
    obtain ⟨k, hk, rfl, HR⟩ := hrel
    by_cases hlt : k < zs.length
    · obtain ⟨c, hc, hzc⟩ : ∃ c : Nat, c < 256 ∧ zs.getD k 0 = c := by
        have := HZ.out (zs.getD k 0) (by rw [List.getD, List.getElem?_eq_getElem hlt]; simp)
        exact ⟨(zs.getD k 0).toNat, by omega, by omega⟩
      have hcw : wr.cell? ⟨g, k, none⟩ = some (.int .u8 c) := by
        rw [← hzc]
        exact (World.cell?_of_block (HR.out.bel.block g HS.out.glt)).trans (HS.out.cell k hlt)
      obtain ⟨J, hJ, hJe⟩ := ofI_nat num c
      have HOF := hid (of_ref num HM.out c hc wr)
      rw [hJe] at HOF
      have HJ : Hid (ofI num (zs.getD k 0).toNat = J) := by show _ = _; rw [hzc]; exact hJe
      clear hzc hJe
      go_wp2_with fail
      with_reducible refine HOF.out.mono ?_
      rintro e w4 ⟨rfl, hB4⟩
      have HR2 := hid (HR.out.called hB4)
      clear hB4 HR HOF
      have hcc := HR2.out.cell hJ
      have hfz := HR2.out.frozen J
      have hle := cnt_le num (zs.take k) J
      have HNX := hid (HR2.out.stored hlt HJ.out)
      have hlen : (zs.take k).length ≤ k := by simp; omega
      obtain ⟨q, hq⟩ : ∃ q, q = cnt num (zs.take k) J := ⟨_, rfl⟩
      rw [← hq] at hcc HNX hle
      have hq300 : q ≤ 300 := by omega
      clear hq hle hlen
      go_wp2
      go_roundw
      case rel => exact ⟨k + 1, by omega, by go_num, HNX⟩
      case measure => simp [intOf]; omega
    · obtain rfl : k = zs.length := by omega
      have HSR := hid (HS.out.next HR.out.bel)
      have HSD : Hid (Setup w p num g zs wr.drew) := HSR.out.next (Below.refl _ _).drew
      have HCT : Hid (Calls Tryd.prog 54 #[.pointer p, .slice (some ⟨g, 0, none⟩) zs.length cap2] wr.drew (CountDone p num zs wr.drew)) := by
        obtain ⟨B0, hA, _⟩ := HSD.out.arg
        exact count_any B0 p num g cap2 zs wr.drew hA HSD.out.glt HSD.out.gne HZ.out hl HSD.out.cell
      have hhp : ∀ b, p = some ⟨b, 0, none⟩ → w3.heap.size ≠ b := fun b hb => by have := (HS.out.gne b hb).2; omega
      have HKC : Hid (∀ w5, Kept p wr.drew w5 → ∀ j, w5.cell? ⟨w3.heap.size, j, none⟩ = wr.cell? ⟨w3.heap.size, j, none⟩) := fun w5 hK j => World.cell?_of_block (hK.block _ HR.out.lt hhp)
      have h0 := HR.out.cell (j := 0) (by omega)
      have h1 := HR.out.cell (j := 1) (by omega)
      have h2 := HR.out.cell (j := 2) (by omega)
      have h3 := HR.out.cell (j := 3) (by omega)
      have h4 := HR.out.cell (j := 4) (by omega)
      have h5 := HR.out.cell (j := 5) (by omega)
      have h6 := HR.out.cell (j := 6) (by omega)
      have h7 := HR.out.cell (j := 7) (by omega)
      have HV : Hid (cntV num zs = [.int .i64 (cnt num zs 0), .int .i64 (cnt num zs 1), .int .i64 (cnt num zs 2), .int .i64 (cnt num zs 3), .int .i64 (cnt num zs 4), .int .i64 (cnt num zs 5), .int .i64 (cnt num zs 6), .int .i64 (cnt num zs 7)]) := rfl
      rw [List.take_length] at h0 h1 h2 h3 h4 h5 h6 h7
      generalize cnt num zs 0 = q0 at h0 HV
      generalize cnt num zs 1 = q1 at h1 HV
      generalize cnt num zs 2 = q2 at h2 HV
      generalize cnt num zs 3 = q3 at h3 HV
      generalize cnt num zs 4 = q4 at h4 HV
      generalize cnt num zs 5 = q5 at h5 HV
      generalize cnt num zs 6 = q6 at h6 HV
      generalize cnt num zs 7 = q7 at h7 HV
      clear HS HR hhp HZ hk hlt HM
      have heq := fun w => eq8 q0 q1 q2 q3 q4 q5 q6 q7 w
      go_wp2_with fail
      go_region_held3 (fun w' => w'.cell? ⟨w3.heap.size, 0, none⟩ = some (.int .i64 q0) ∧ w'.cell? ⟨w3.heap.size, 1, none⟩ = some (.int .i64 q1) ∧ w'.cell? ⟨w3.heap.size, 2, none⟩ = some (.int .i64 q2) ∧ w'.cell? ⟨w3.heap.size, 3, none⟩ = some (.int .i64 q3) ∧ w'.cell? ⟨w3.heap.size, 4, none⟩ = some (.int .i64 q4) ∧ w'.cell? ⟨w3.heap.size, 5, none⟩ = some (.int .i64 q5) ∧ w'.cell? ⟨w3.heap.size, 6, none⟩ = some (.int .i64 q6) ∧ w'.cell? ⟨w3.heap.size, 7, none⟩ = some (.int .i64 q7))
        (first | exact ⟨h0, h1, h2, h3, h4, h5, h6, h7⟩ | exact ⟨(HK5.out 0).trans h0, (HK5.out 1).trans h1, (HK5.out 2).trans h2, (HK5.out 3).trans h3, (HK5.out 4).trans h4, (HK5.out 5).trans h5, (HK5.out 6).trans h6, (HK5.out 7).trans h7⟩)
        (first | (go_at_call 54; (with_reducible refine HCT.out.mono ?_); rintro e w5 ⟨rfl, hK⟩; have HK5 := hid (HKC.out w5 hK); have HEND := hid (HSD.out.last hK); clear hK; rw [HV.out]))
      go_wp2
      go_ret
      exact ⟨rfl, HEND.out⟩
end Go.Proofs.YtadoiplfglaonaaDoor
