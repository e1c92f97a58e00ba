/-
  The example of read, as it must be.
-/
import Derived.Test.YtlhaefgchmakfaaQg
namespace Go.Proofs.Ytlhaefgchmakfaa
open Go.RowKit Go.Lib Go.Deep

def actX : ActD := ⟨3, 0, false, 1, cel0, .slice none 0 0, []⟩
def actT (v : Value) : ActD := ⟨5, 1, false, 0, cel0, v, [193, 0, 194]⟩
def actP : ActD := ⟨1, 2, false, 0, cel0, .slice none 0 0, []⟩
/-- The example's space. -/
def exT : Spc := (txS (doS (clearS 2 false) actX) 1 [193, 0, 194] 3).place 2
theorem doS_text (s : Spc) (v : Value) : doS s (actT v) = txS s 1 [193, 0, 194] 3 := by
  unfold doS actT
  dsimp only
  rw [if_neg (by decide), if_neg (by decide), if_neg (by decide), if_neg (by decide), if_neg (by decide)]
  exact rfl
theorem exT_eq (v : Value) : runS (clearS (2 + ((0 % 4 : Nat) : Int)) false) [actX, actT v, actP] 3 = exT := by
  rw [runS, if_pos (by decide), runS, if_pos (by decide), runS, if_pos (by decide), runS]
  show doS (doS (doS _ actX) (actT v)) actP = exT
  rw [doS_text]
  rfl
theorem exT_L : exT.L = [⟨0, true, 1, 0, 0, 0⟩, ⟨193, false, 0, 0, 0, 0⟩, cel0, ⟨194, false, 0, 0, 0, 0⟩] ++ List.replicate 1916 cel0 := by decide +kernel
theorem exT_len : exT.L.length = 1920 := by rw [exT_L, List.length_append, List.length_replicate]; rfl
theorem exT_cu : exT.cu = 2 := by decide +kernel
theorem exT_cel (i : Nat) : exT.cel i = if i = 0 then ⟨0, true, 1, 0, 0, 0⟩ else if i = 1 then ⟨193, false, 0, 0, 0, 0⟩ else if i = 3 then ⟨194, false, 0, 0, 0, 0⟩ else cel0 := by
  unfold Spc.cel
  rw [exT_L]
  match i with
  | 0 => rfl
  | 1 => rfl
  | 2 => rfl
  | 3 => rfl
  | i + 4 =>
    rw [if_neg (by omega), if_neg (by omega), if_neg (by omega), List.getD_eq_getElem?_getD]
    show ((List.replicate 1916 cel0)[i]?).getD cel0 = cel0
    rw [List.getElem?_replicate]
    split <;> rfl
theorem exT_P : exT.P = fun i => i == 0 := by
  funext i
  unfold Spc.P
  rw [exT_cel]
  by_cases h0 : i = 0
  · subst h0; rfl
  · rw [if_neg h0, show (i == 0) = false by simpa using h0]
    split
    · rfl
    · split <;> rfl
def exG (n : Nat) : List Int := if n = 1 then [193] else if n = 3 then [194] else []
theorem exT_mdc (n : Nat) : mdcB (exT.cel n) = exG n := by
  rw [exT_cel]
  unfold exG
  by_cases h0 : n = 0
  · subst h0; rfl
  · rw [if_neg h0]
    by_cases h1 : n = 1
    · subst h1; decide +kernel
    · rw [if_neg h1, if_neg h1]
      by_cases h3 : n = 3
      · subst h3; decide +kernel
      · rw [if_neg h3, if_neg h3]; rfl
theorem exT_A : exT.A = [0] := by
  unfold Spc.A
  rw [exT_P, exT_len]
  decide +kernel
theorem exT_md : mdS exT exT.A = [0] := by
  rw [exT_A]
  unfold mdS
  rw [List.filter_cons, exT_cel, if_pos rfl, if_pos (by decide +kernel)]
  rfl
theorem exT_fld : fldC exT (fldP exT 0) = [193, 194] := by
  unfold fldC fldP
  rw [exT_P, exT_len, show (fun n => mdcB (exT.cel n)) = exG from funext exT_mdc]
  decide +kernel
theorem exT_snd : sndB 125 exT = [125, 64, 194, 17, 64, 193, 193, 194] := by
  unfold sndB fldB
  rw [exT_md, exT_cu, List.flatMap_cons, List.flatMap_nil, List.append_nil]
  unfold fldB1
  rw [exT_fld]
  unfold Spc.wr
  rw [exT_len]
  decide +kernel
set_option maxRecDepth 100000 in
set_option maxHeartbeats 4000000 in
theorem awake19 (w : World) : Calls Try.prog 8 #[] w fun e w' => e = .returned (.bool true) ∧ Below w.heap.size w w' := by
  obtain ⟨W0, hW0⟩ : ∃ W0, w.alloc (.cells #[.int .u8 193, .int .u8 0, .int .u8 194] 5) = W0 := ⟨_, rfl⟩
  have hz0 : W0.heap.size = w.heap.size + 1 := by rw [← hW0]; simp
  have hb00 : Below w.heap.size w W0 := by rw [← hW0]; exact bal (Below.refl _ _) _
  obtain ⟨W1, hW1⟩ : ∃ W1, W0.alloc (.cells #[.int .u8 3, .int .i64 0, .bool false, .int .u8 1, .int .u8 0, .bool false, .int .u8 0, .int .u8 0, .int .u8 0, .int .u8 0, .slice none 0 0, .int .u8 5, .int .i64 1, .bool false, .int .u8 0, .int .u8 0, .bool false, .int .u8 0, .int .u8 0, .int .u8 0, .int .u8 0, .slice (some ⟨w.heap.size, 0, none⟩) 3 3, .int .u8 1, .int .i64 2, .bool false, .int .u8 0, .int .u8 0, .bool false, .int .u8 0, .int .u8 0, .int .u8 0, .int .u8 0, .slice none 0 0] 79) = W1 := ⟨_, rfl⟩
  have hb01 : Below W0.heap.size W0 W1 := by rw [← hW1]; exact bal (Below.refl _ _) _
  have hb0 : Below w.heap.size w W1 := below_t hb00 hb01
  have hz : W1.heap.size = w.heap.size + 2 := by rw [← hW1]; simp [hz0]
  have hacts : ActsIn (w.heap.size + 2) W1 (.slice (some ⟨w.heap.size + 1, 0, none⟩) 3 3) [actX, actT (.slice (some ⟨w.heap.size, 0, none⟩) 3 3), actP] := by
    refine ⟨fun i hi => ?_, by simp, ⟨_, _, rfl⟩, fun x c hx i hi => ?_⟩
    · have tx : TxIn (w.heap.size + 2) W1 (.slice none 0 0) [] := ⟨fun x hx => (by cases hx), by simp, ⟨_, _, rfl⟩, fun x c _ i hi => absurd hi (Nat.not_lt_zero i)⟩
      have ty : TxIn (w.heap.size + 2) W1 (.slice (some ⟨w.heap.size, 0, none⟩) 3 3) [193, 0, 194] := ⟨fun x hx => by
          have : x = 193 ∨ x = 0 ∨ x = 194 := by simpa using hx
          rcases this with rfl | rfl | rfl <;> exact ⟨by decide, by decide⟩, by simp, ⟨_, _, rfl⟩, fun x c hx i hi => by
        injection hx with hx1 hx2 hx3
        refine ⟨w.heap.size, 0, hx1.symm, by omega, ?_⟩
        have : i = 0 ∨ i = 1 ∨ i = 2 := by simp at hi; omega
        rcases this with rfl | rfl | rfl <;> exact keepc hb01 (by rw [← hW0]; simp [go_sem])⟩
      have : i = 0 ∨ i = 1 ∨ i = 2 := by simp at hi; omega
      rcases this with rfl | rfl | rfl
      · exact (show actX.Fit _ _ from ⟨by decide, ⟨by decide, by decide⟩, ⟨by decide, by decide⟩, cel0_ok, tx⟩)
      · exact ⟨show (5 : Nat) < 256 by decide, show I64 1 from ⟨by decide, by decide⟩, show U8 0 from ⟨by decide, by decide⟩, cel0_ok, ty⟩
      · exact (show actP.Fit _ _ from ⟨by decide, ⟨by decide, by decide⟩, ⟨by decide, by decide⟩, cel0_ok, tx⟩)
    · injection hx with hx1 hx2 hx3
      refine ⟨w.heap.size + 1, 0, hx1.symm, by omega, fun j hj => ?_⟩
      rw [← hW1]
      have h1 : i = 0 ∨ i = 1 ∨ i = 2 := by simp at hi; omega
      have h2 : j = 0 ∨ j = 1 ∨ j = 2 ∨ j = 3 ∨ j = 4 ∨ j = 5 ∨ j = 6 ∨ j = 7 ∨ j = 8 ∨ j = 9 ∨ j = 10 := by omega
      rcases h1 with rfl | rfl | rfl <;> rcases h2 with rfl | rfl | rfl | rfl | rfl | rfl | rfl | rfl | rfl | rfl | rfl <;> simp [go_sem, actX, actP, actT, ActD.cs, cel0, hz0]
  have HL := hid (show Calls Try.prog 9 #[.int .u8 0, .slice (some ⟨w.heap.size + 1, 0, none⟩) 3 3] W1 _ from lay_any 0 (by decide) (.slice (some ⟨w.heap.size + 1, 0, none⟩) 3 3) [actX, actT (.slice (some ⟨w.heap.size, 0, none⟩) 3 3), actP] (w.heap.size + 2) W1 (by omega) hacts)
  have HB0 := hid hb0
  have HW := hid (And.intro hW0 hW1)
  have HMD := hid (fun b g W h => mod_fmt (b := b) (g := g) (s := exT) 125 0 ⟨by decide, by decide⟩ (by decide) (by decide) (by decide) (by decide) (by rw [exT_A]; decide) W h)
  rw [exT_snd] at HMD
  have HSA := hid same_true
  clear hb0 hz hacts hW1 hW0 hz0 hb00 hb01
  go_enter Try.func8, Try.ntmps8
  go_wp2_with fail
  rw [HW.out.1, HW.out.2]
  with_reducible refine HL.out.mono ?_
  rintro e w1 ⟨b1, g1, b2, g2, rfl, hd, -⟩
  have hsp : SpM w1 b1 g1 (runS (clearS (2 + ((0 % 4 : Nat) : Int)) false) [actX, actT (.slice (some ⟨w.heap.size, 0, none⟩) 3 3), actP] 3) := hd.sp
  rw [exT_eq] at hsp
  have HS := hid hsp
  have HB1 := hid (below_t HB0.out hd.bel)
  clear hd hsp
  go_wp2_with fail
  with_reducible refine (HMD.out b1 g1 _ HS.out).mono ?_
  rintro e w2 ⟨v, rfl, ho, -, hb2⟩
  obtain ⟨xv, cv, rfl⟩ := own_len ho 8 rfl
  have HB2 := hid (below_t HB1.out hb2)
  have hal := bal (Below.refl w2.heap.size w2) (.cells #[.int .u8 125, .int .u8 64, .int .u8 194, .int .u8 17, .int .u8 64, .int .u8 193, .int .u8 193, .int .u8 194] 5)
  have HR := hid (reads_below ho.reads hal)
  have HU := hid (own_lit w2 #[.int .u8 125, .int .u8 64, .int .u8 194, .int .u8 17, .int .u8 64, .int .u8 193, .int .u8 193, .int .u8 194] 8 [125, 64, 194, 17, 64, 193, 193, 194] (by decide) rfl rfl (by decide) _ rfl).reads
  have HB3 := hid (below_t HB2.out hal)
  clear ho hb2 hal
  go_wp2_with fail
  with_reducible refine (HSA.out _ _ _ _ HR.out HU.out).mono ?_
  rintro e w3 ⟨rfl, rfl⟩
  go_wp2_with fail
  go_ret
  exact ⟨rfl, HB3.out⟩
end Go.Proofs.Ytlhaefgchmakfaa
