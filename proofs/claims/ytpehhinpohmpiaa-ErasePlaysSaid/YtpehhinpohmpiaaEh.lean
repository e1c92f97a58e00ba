/-
  The example of erase, as it must be.
-/
import Derived.Test.YtpehhinpohmpiaaEa
import Derived.Test.YtpehhinpohmpiaaEg
namespace Go.Proofs.Ytpehhinpohmpiaa
open Go.RowKit Go.Lib Go.Deep

/-- The example's space. -/
def actJ : ActD := ⟨3, 0, false, 0, cel0, .slice none 0 0, []⟩
def actK : ActD := ⟨3, 4, false, 0, cel0, .slice none 0 0, []⟩
def actT (v : Value) : ActD := ⟨5, 1, false, 0, cel0, v, [129, 130]⟩
def exG : Spc := txS (doS (doS (clearS 2 false) actJ) actK) 1 [129, 130] 2
theorem doS_text (s : Spc) (v : Value) : doS s (actT v) = txS s 1 [129, 130] 2 := by
  unfold doS actT
  dsimp only
  rw [if_neg (by decide), if_neg (by decide), if_neg (by decide), if_neg (by decide), if_neg (by decide)]
  exact rfl
theorem exG_eq (v : Value) : runS (clearS (2 + ((0 % 4 : Nat) : Int)) false) [actJ, actK, actT v] 3 = exG := by
  rw [runS, if_pos (by decide), runS, if_pos (by decide), runS, if_pos (by decide), runS]
  exact doS_text _ v
def fldL (s : Spc) : List Nat := plL s.P s.L.length (s.wr 0)
theorem exG_ins : insB exG 1 = true := by decide +kernel
theorem exG_fld : fldL (insS exG 1 167) = [1, 2, 3] := by decide +kernel
theorem exG_tx : txL (insS exG 1 167) [1, 2, 3] = [167, 129, 130] := by decide +kernel
theorem exG_open : openB (insS exG 1 167) 1 = true := by decide +kernel
theorem exG_fld2 : fldL (delS (insS exG 1 167) 1) = [1, 2, 3] := by decide +kernel
theorem exG_tx2 : txL (delS (insS exG 1 167) 1) [1, 2, 3] = [129, 130, 0] := by decide +kernel
theorem text_ex {S : Spc} {xs : List Int} (hf : fldL S = [1, 2, 3]) (hx : txL S [1, 2, 3] = xs) (b g : Nat) (W : World) (h : SpM W b g S) (hu : ∀ x ∈ xs, 0 ≤ x ∧ x < 256) (hl : xs.length = 3) : Calls Try.prog 61 #[.pointer (some ⟨b, 0, none⟩), .int .i64 0] W fun e w' => ∃ v, e = .returned v ∧ OwnB w' v xs ∧ (∀ k ∈ blkV v, W.heap.size ≤ k) ∧ Below W.heap.size W w' := by
  have q := callsIn_wide.1 (text_in 6 (by omega) b g S 0 ⟨by decide, by decide⟩ W h)
  change Calls _ _ _ W (ListD 5 1 (txV S (fldL S)) (fldL S).length W) at q
  unfold txV at q
  rw [hf, hx] at q
  refine q.mono ?_
  rintro e w' ⟨v, rfl, ho, hk, hb⟩
  exact ⟨v, rfl, ⟨hu, by rw [hl]; exact ho⟩, hk, hb⟩
theorem str_j : strOfNums [167, 129, 130] = ⟨#[167, 129, 130]⟩ := by decide +kernel
theorem str_k : strOfNums [129, 130, 0] = ⟨#[129, 130, 0]⟩ := by decide +kernel
section
attribute [local go_sem] Oper.semAt_some
set_option maxRecDepth 100000 in
set_option maxHeartbeats 4000000 in
theorem awake14 (w : World) : Calls Try.prog 13 #[] w fun e w' => e = .returned (.bool true) ∧ Below w.heap.size w w' := by
  obtain ⟨W0, hW0⟩ : ∃ W0, w.alloc (.cells #[.int .u8 129, .int .u8 130] 5) = W0 := ⟨_, rfl⟩
  have hz0 : W0.heap.size = w.heap.size + 1 := by rw [← hW0]; simp
  have hb00 : Below w.heap.size w W0 := by rw [← hW0]; exact bal (Below.refl _ _) _
  obtain ⟨W1, hW1⟩ : ∃ W1, W0.alloc (.cells #[.int .u8 3, .int .i64 0, .bool false, .int .u8 0, .int .u8 0, .bool false, .int .u8 0, .int .u8 0, .int .u8 0, .int .u8 0, .slice none 0 0, .int .u8 3, .int .i64 4, .bool false, .int .u8 0, .int .u8 0, .bool false, .int .u8 0, .int .u8 0, .int .u8 0, .int .u8 0, .slice none 0 0, .int .u8 5, .int .i64 1, .bool false, .int .u8 0, .int .u8 0, .bool false, .int .u8 0, .int .u8 0, .int .u8 0, .int .u8 0, .slice (some ⟨w.heap.size, 0, none⟩) 2 2] 86) = W1 := ⟨_, rfl⟩
  have hb01 : Below W0.heap.size W0 W1 := by rw [← hW1]; exact bal (Below.refl _ _) _
  have hb0 : Below w.heap.size w W1 := below_t hb00 hb01
  have hz : W1.heap.size = w.heap.size + 2 := by rw [← hW1]; simp [hz0]
  have hacts : ActsIn (w.heap.size + 2) W1 (.slice (some ⟨w.heap.size + 1, 0, none⟩) 3 3) [actJ, actK, actT (.slice (some ⟨w.heap.size, 0, none⟩) 2 2)] := by
    refine ⟨fun i hi => ?_, by simp, ⟨_, _, rfl⟩, fun x c hx i hi => ?_⟩
    · have tx : TxIn (w.heap.size + 2) W1 (.slice none 0 0) [] := ⟨fun x hx => (by cases hx), by simp, ⟨_, _, rfl⟩, fun x c _ i hi => absurd hi (Nat.not_lt_zero i)⟩
      have ty : TxIn (w.heap.size + 2) W1 (.slice (some ⟨w.heap.size, 0, none⟩) 2 2) [129, 130] := ⟨fun x hx => by
          have : x = 129 ∨ x = 130 := by simpa using hx
          rcases this with rfl | rfl <;> exact ⟨by decide, by decide⟩, by simp, ⟨_, _, rfl⟩, fun x c hx i hi => by
        injection hx with hx1 hx2 hx3
        refine ⟨w.heap.size, 0, hx1.symm, by omega, ?_⟩
        have : i = 0 ∨ i = 1 := by simp at hi; omega
        rcases this with rfl | rfl <;> exact keepc hb01 (by rw [← hW0]; simp [go_sem])⟩
      have : i = 0 ∨ i = 1 ∨ i = 2 := by simp at hi; omega
      rcases this with rfl | rfl | rfl
      · exact (show actJ.Fit _ _ from ⟨by decide, ⟨by decide, by decide⟩, ⟨by decide, by decide⟩, cel0_ok, tx⟩)
      · exact (show actK.Fit _ _ from ⟨by decide, ⟨by decide, by decide⟩, ⟨by decide, by decide⟩, cel0_ok, tx⟩)
      · exact ⟨show (5 : Nat) < 256 by decide, show I64 1 from ⟨by decide, by decide⟩, show U8 0 from ⟨by decide, by decide⟩, cel0_ok, ty⟩
    · injection hx with hx1 hx2 hx3
      refine ⟨w.heap.size + 1, 0, hx1.symm, by omega, fun j hj => ?_⟩
      rw [← hW1]
      have h1 : i = 0 ∨ i = 1 ∨ i = 2 := by simp at hi; omega
      have h2 : j = 0 ∨ j = 1 ∨ j = 2 ∨ j = 3 ∨ j = 4 ∨ j = 5 ∨ j = 6 ∨ j = 7 ∨ j = 8 ∨ j = 9 ∨ j = 10 := by omega
      rcases h1 with rfl | rfl | rfl <;> rcases h2 with rfl | rfl | rfl | rfl | rfl | rfl | rfl | rfl | rfl | rfl | rfl <;> simp [go_sem, actJ, actK, actT, ActD.cs, cel0, hz0]
  have HL := hid (show Calls Try.prog 14 #[.int .u8 0, .slice (some ⟨w.heap.size + 1, 0, none⟩) 3 3] W1 _ from lay_any 0 (by decide) (.slice (some ⟨w.heap.size + 1, 0, none⟩) 3 3) [actJ, actK, actT (.slice (some ⟨w.heap.size, 0, none⟩) 2 2)] (w.heap.size + 2) W1 (by omega) hacts)
  have HB0 := hid hb0
  have HW := hid (And.intro hW0 hW1)
  have HIN := hid (fun b g W h => insert_any (b := b) (g := g) (s := exG) 1 ⟨by decide, by decide⟩ 167 ⟨by decide, by decide⟩ W h)
  rw [exG_ins, if_pos rfl] at HIN
  have HDE := hid (fun b g W h => callsIn_wide.1 (delete_in (b := b) (g := g) (s := insS exG 1 167) 8 (by omega) 1 ⟨by decide, by decide⟩ W h))
  rw [exG_open, if_pos rfl] at HDE
  have HT1 := hid (fun b g W h => text_ex exG_fld exG_tx b g W h (by decide) rfl)
  have HT2 := hid (fun b g W h => text_ex exG_fld2 exG_tx2 b g W h (by decide) rfl)
  clear hb0 hz hacts hW1 hW0 hz0 hb00 hb01
  generalize insS exG 1 167 = S1 at HIN HDE HT1 HT2
  generalize delS S1 1 = S2 at HDE HT2
  go_enter Try.func13, Try.ntmps13
  go_wp2_with fail
  rw [HW.out.1, HW.out.2]
  with_reducible refine HL.out.mono ?_
  rintro e w1 ⟨b1, g1, b2, g2, rfl, hd, -⟩
  have hsp : SpM w1 b1 g1 (runS (clearS (2 + ((0 % 4 : Nat) : Int)) false) [actJ, actK, actT (.slice (some ⟨w.heap.size, 0, none⟩) 2 2)] 3) := hd.sp
  rw [exG_eq] at hsp
  have HD := hid (show SpM w1 b1 g1 exG ∧ Below w.heap.size w w1 ∧ w.heap.size ≤ b1 ∧ w.heap.size ≤ g1 from ⟨hsp, below_t HB0.out hd.bel, Nat.le_trans HB0.out.size (hd.lb b1 (by simp)), Nat.le_trans HB0.out.size (hd.lb g1 (by simp))⟩)
  clear hd hsp
  go_wp2_with fail
  with_reducible refine (HIN.out b1 g1 _ HD.out.1).mono ?_
  rintro e w2 ⟨rfl, hs, hm⟩
  have HD2 := hid (And.intro hs (show Below w.heap.size w w2 from HD.out.2.1.trans (hm.toBelow HD.out.2.1.size (fun k hk => by
    simp at hk
    rcases hk with rfl | rfl
    · exact HD.out.2.2.1
    · exact HD.out.2.2.2))))
  clear hs hm
  go_wp2_with fail
  with_reducible refine (HT1.out b1 g1 _ HD2.out.1).mono ?_
  rintro e w3 ⟨v3, rfl, ho3, -, hb3⟩
  have e3 := reads_conv ho3.reads
  rw [str_j] at e3
  have HD3 := hid (And.intro (HD2.out.1.below hb3) (below_t HD2.out.2 hb3))
  clear hb3 ho3
  go_wp2_with fail
  with_reducible refine (HDE.out b1 g1 _ HD3.out.1).mono ?_
  rintro e w4 ⟨rfl, hs, hm⟩
  have HD4 := hid (And.intro hs (show Below w.heap.size w w4 from HD3.out.2.trans (hm.toBelow HD3.out.2.size (fun k hk => by
    simp at hk
    rcases hk with rfl | rfl
    · exact HD.out.2.2.1
    · exact HD.out.2.2.2))))
  clear hs hm
  go_wp2_with fail
  with_reducible refine (HT2.out b1 g1 _ HD4.out.1).mono ?_
  rintro e w5 ⟨v5, rfl, ho5, -, hb5⟩
  have e5 := reads_conv ho5.reads
  rw [str_k] at e5
  have HD5 := hid (below_t HD4.out.2 hb5)
  clear hb5 ho5
  go_wp2
  go_ret
  exact ⟨rfl, HD5.out⟩
end
end Go.Proofs.Ytpehhinpohmpiaa
