/-
  WriteNames: the law's own walk.
-/
import Derived.Test.YtdampfngdnicoaaDoorMw
namespace Go.Proofs.YtdampfngdnicoaaDoor
open Go.RowKit Go.Lib Go.Deep

theorem cmd_zero : ∀ b : Nat, b < 256 → 0 ≤ (cmdF b).1 ∧ ((cmdF b).2 = false → (cmdF b).1 = 0) := by decide +kernel
set_option maxRecDepth 100000 in
set_option maxHeartbeats 4000000 in
theorem names_walk (ok : Bool) (k want : Int) (hw : ok = true ∧ want = k ∧ 0 ≤ k ∨ ok = false ∧ want = -1 ∧ k = 0) (rd er : Bool) (b : Nat) (c : Int) (hc : I64 c) (hr : 5 ≤ c ∧ c ≤ 7 ∧ rd = true ∧ er = false ∨ 2 ≤ c ∧ c ≤ 4 ∧ rd = false ∧ er = true ∨ c < 2 ∧ rd = false ∧ er = false ∨ 7 < c ∧ rd = false ∧ er = false) (v3 : Value) (ps : List Int) (w : World) (hp : Reads w v3 ps) (hC : Cods w)
    (hcm : ∀ W, Below w.heap.size w W → Calls Tryd.prog 16 #[.int .u8 b] W fun e w' => e = .returned (.tuple #[.int .i64 k, .bool ok]) ∧ Below W.heap.size W w')
    (hrc : ∀ W, Calls Tryd.prog 17 #[.int .u8 b] W fun e w' => e = .returned (.int .i64 want) ∧ w' = W)
    (hrd : ∀ W, Calls Tryd.prog 23 #[.int .i64 c] W fun e w' => e = .returned (.bool rd) ∧ w' = W)
    (her : ∀ W, Calls Tryd.prog 24 #[.int .i64 c] W fun e w' => e = .returned (.bool er) ∧ w' = W) :
    Calls Tryd.prog 5 #[.int .u8 b, .int .i64 c, v3] w fun e w' => e = .returned (.bool true) ∧ Below w.heap.size w w' := by
  have HAW := hid (awake17 w hC)
  have HCM := hid hcm
  have HRC := hid hrc
  have HRD := hid hrd
  have HER := hid her
  have HCT := hid (fun W (hb : Below w.heap.size w W) => (show Calls Tryd.prog 8 #[v3, .int .i64 20] W (OwnDone (ps.take 20) W) from rcut_own v3 20 (by decide) ps W (reads_below hp hb)))
  have HRU := hid run_null
  have HOR := hid (fun v W => orders_null v c W)
  have HBY := hid (fun W (hb : Below w.heap.size w W) => byte_of c hc W (hC.below hC.2 hb))
  have HNM := hid (fun W (hb : Below w.heap.size w W) => name_of c hc W (hC.below hC.2 hb))
  have HRB := hid (fun W => rbyte_any c hc W)
  have HRN := hid (fun W => rname_any c hc W)
  obtain ⟨x3, c3, rfl⟩ := reads_sl hp
  generalize ncF c = cv at HBY HNM HRB HRN
  obtain ⟨nm, f1, s1⟩ := cv
  dsimp only at HBY HNM HRB HRN
  clear hp hC hcm hrc hrd her hc
  rcases hw with ⟨rfl, rfl, hk⟩ | ⟨rfl, rfl, rfl⟩
  · rcases hr with ⟨h5, h7, rfl, rfl⟩ | ⟨h2, h4, rfl, rfl⟩ | ⟨h2, rfl, rfl⟩ | ⟨h7, rfl, rfl⟩
    · have h2 : 2 ≤ c := by omega
      have h4 : ¬ c ≤ 4 := by omega
      go_enter Tryd.func5, Tryd.ntmps5
      go_wp2_with fail
      with_reducible refine HAW.out.mono ?_
      rintro e w1 ⟨rfl, hb1⟩
      have HB1 := hid hb1
      clear hb1
      go_wp2_with fail
      with_reducible refine (HCM.out _ HB1.out).mono ?_
      rintro e w2 ⟨rfl, hb2⟩
      have HB2 := hid (below_t HB1.out hb2)
      clear hb2
      go_wp2_with fail
      with_reducible refine (HRC.out _).mono ?_
      rintro e w3 ⟨rfl, rfl⟩
      go_wp2_with fail
      with_reducible refine (HCT.out _ HB2.out).mono ?_
      rintro e w4 ⟨v4, rfl, -, hb4, -⟩
      have HB4 := hid (below_t HB2.out hb4)
      clear hb4
      go_wp2_with fail
      with_reducible refine (HRU.out v4 _).mono ?_
      rintro e w5 ⟨rfl, hb5⟩
      have HB5 := hid (below_t HB4.out hb5)
      clear hb5
      go_wp2_with fail
      have hb5a : Below w5.heap.size w5 (w5.alloc (.cells #[.int .i64 0, .bool false, .bool false, .bool false, .int .i64 0, .slice none 0 0] 31)) := bal (Below.refl _ _) _
      with_reducible refine (HCT.out _ (below_t HB5.out hb5a)).mono ?_
      rintro e w6 ⟨v6, rfl, -, hb6, -⟩
      have HB6 := hid (below_t HB5.out (below_t hb5a hb6))
      clear hb5a hb6
      go_wp2_with fail
      with_reducible refine (HOR.out v6 _).mono ?_
      rintro e w7 ⟨rfl, hb7⟩
      have HB7 := hid (below_t HB6.out hb7)
      clear hb7
      go_wp2_with fail
      with_reducible refine (HBY.out _ HB7.out).mono ?_
      rintro e w8 ⟨rfl, hb8⟩
      have HB8 := hid (below_t HB7.out hb8)
      clear hb8
      go_wp2_with fail
      with_reducible refine (HRB.out _).mono ?_
      rintro e w9 ⟨rfl, rfl⟩
      go_wp2_with fail
      with_reducible refine (HNM.out _ HB8.out).mono ?_
      rintro e w10 ⟨rfl, hb10⟩
      have HB10 := hid (below_t HB8.out hb10)
      clear hb10
      go_wp2_with fail
      with_reducible refine (HRN.out _).mono ?_
      rintro e w11 ⟨rfl, hb11⟩
      have HB11 := hid (below_t HB10.out hb11)
      clear hb11
      go_wp2_with fail
      with_reducible refine (HRD.out _).mono ?_
      rintro e w12 ⟨rfl, rfl⟩
      go_wp2_with fail
      with_reducible refine (HER.out _).mono ?_
      rintro e w13 ⟨rfl, rfl⟩
      go_wp2
      go_ret
      refine ⟨?_, HB11.out⟩
      first
        | rfl
        | (simp; omega)
        | simp
    · have h5 : ¬ 5 ≤ c := by omega
      go_enter Tryd.func5, Tryd.ntmps5
      go_wp2_with fail
      with_reducible refine HAW.out.mono ?_
      rintro e w1 ⟨rfl, hb1⟩
      have HB1 := hid hb1
      clear hb1
      go_wp2_with fail
      with_reducible refine (HCM.out _ HB1.out).mono ?_
      rintro e w2 ⟨rfl, hb2⟩
      have HB2 := hid (below_t HB1.out hb2)
      clear hb2
      go_wp2_with fail
      with_reducible refine (HRC.out _).mono ?_
      rintro e w3 ⟨rfl, rfl⟩
      go_wp2_with fail
      with_reducible refine (HCT.out _ HB2.out).mono ?_
      rintro e w4 ⟨v4, rfl, -, hb4, -⟩
      have HB4 := hid (below_t HB2.out hb4)
      clear hb4
      go_wp2_with fail
      with_reducible refine (HRU.out v4 _).mono ?_
      rintro e w5 ⟨rfl, hb5⟩
      have HB5 := hid (below_t HB4.out hb5)
      clear hb5
      go_wp2_with fail
      have hb5a : Below w5.heap.size w5 (w5.alloc (.cells #[.int .i64 0, .bool false, .bool false, .bool false, .int .i64 0, .slice none 0 0] 31)) := bal (Below.refl _ _) _
      with_reducible refine (HCT.out _ (below_t HB5.out hb5a)).mono ?_
      rintro e w6 ⟨v6, rfl, -, hb6, -⟩
      have HB6 := hid (below_t HB5.out (below_t hb5a hb6))
      clear hb5a hb6
      go_wp2_with fail
      with_reducible refine (HOR.out v6 _).mono ?_
      rintro e w7 ⟨rfl, hb7⟩
      have HB7 := hid (below_t HB6.out hb7)
      clear hb7
      go_wp2_with fail
      with_reducible refine (HBY.out _ HB7.out).mono ?_
      rintro e w8 ⟨rfl, hb8⟩
      have HB8 := hid (below_t HB7.out hb8)
      clear hb8
      go_wp2_with fail
      with_reducible refine (HRB.out _).mono ?_
      rintro e w9 ⟨rfl, rfl⟩
      go_wp2_with fail
      with_reducible refine (HNM.out _ HB8.out).mono ?_
      rintro e w10 ⟨rfl, hb10⟩
      have HB10 := hid (below_t HB8.out hb10)
      clear hb10
      go_wp2_with fail
      with_reducible refine (HRN.out _).mono ?_
      rintro e w11 ⟨rfl, hb11⟩
      have HB11 := hid (below_t HB10.out hb11)
      clear hb11
      go_wp2_with fail
      with_reducible refine (HRD.out _).mono ?_
      rintro e w12 ⟨rfl, rfl⟩
      go_wp2_with fail
      with_reducible refine (HER.out _).mono ?_
      rintro e w13 ⟨rfl, rfl⟩
      go_wp2
      go_ret
      refine ⟨?_, HB11.out⟩
      first
        | rfl
        | (simp; omega)
        | simp
    · have h5 : ¬ 5 ≤ c := by omega
      have h2n : ¬ 2 ≤ c := by omega
      go_enter Tryd.func5, Tryd.ntmps5
      go_wp2_with fail
      with_reducible refine HAW.out.mono ?_
      rintro e w1 ⟨rfl, hb1⟩
      have HB1 := hid hb1
      clear hb1
      go_wp2_with fail
      with_reducible refine (HCM.out _ HB1.out).mono ?_
      rintro e w2 ⟨rfl, hb2⟩
      have HB2 := hid (below_t HB1.out hb2)
      clear hb2
      go_wp2_with fail
      with_reducible refine (HRC.out _).mono ?_
      rintro e w3 ⟨rfl, rfl⟩
      go_wp2_with fail
      with_reducible refine (HCT.out _ HB2.out).mono ?_
      rintro e w4 ⟨v4, rfl, -, hb4, -⟩
      have HB4 := hid (below_t HB2.out hb4)
      clear hb4
      go_wp2_with fail
      with_reducible refine (HRU.out v4 _).mono ?_
      rintro e w5 ⟨rfl, hb5⟩
      have HB5 := hid (below_t HB4.out hb5)
      clear hb5
      go_wp2_with fail
      have hb5a : Below w5.heap.size w5 (w5.alloc (.cells #[.int .i64 0, .bool false, .bool false, .bool false, .int .i64 0, .slice none 0 0] 31)) := bal (Below.refl _ _) _
      with_reducible refine (HCT.out _ (below_t HB5.out hb5a)).mono ?_
      rintro e w6 ⟨v6, rfl, -, hb6, -⟩
      have HB6 := hid (below_t HB5.out (below_t hb5a hb6))
      clear hb5a hb6
      go_wp2_with fail
      with_reducible refine (HOR.out v6 _).mono ?_
      rintro e w7 ⟨rfl, hb7⟩
      have HB7 := hid (below_t HB6.out hb7)
      clear hb7
      go_wp2_with fail
      with_reducible refine (HBY.out _ HB7.out).mono ?_
      rintro e w8 ⟨rfl, hb8⟩
      have HB8 := hid (below_t HB7.out hb8)
      clear hb8
      go_wp2_with fail
      with_reducible refine (HRB.out _).mono ?_
      rintro e w9 ⟨rfl, rfl⟩
      go_wp2_with fail
      with_reducible refine (HNM.out _ HB8.out).mono ?_
      rintro e w10 ⟨rfl, hb10⟩
      have HB10 := hid (below_t HB8.out hb10)
      clear hb10
      go_wp2_with fail
      with_reducible refine (HRN.out _).mono ?_
      rintro e w11 ⟨rfl, hb11⟩
      have HB11 := hid (below_t HB10.out hb11)
      clear hb11
      go_wp2_with fail
      with_reducible refine (HRD.out _).mono ?_
      rintro e w12 ⟨rfl, rfl⟩
      go_wp2_with fail
      with_reducible refine (HER.out _).mono ?_
      rintro e w13 ⟨rfl, rfl⟩
      go_wp2
      go_ret
      refine ⟨?_, HB11.out⟩
      first
        | rfl
        | (simp; omega)
        | simp
    · have h2 : 2 ≤ c := by omega
      have h5 : 5 ≤ c := by omega
      have h7n : ¬ c ≤ 7 := by omega
      have h4n : ¬ c ≤ 4 := by omega
      go_enter Tryd.func5, Tryd.ntmps5
      go_wp2_with fail
      with_reducible refine HAW.out.mono ?_
      rintro e w1 ⟨rfl, hb1⟩
      have HB1 := hid hb1
      clear hb1
      go_wp2_with fail
      with_reducible refine (HCM.out _ HB1.out).mono ?_
      rintro e w2 ⟨rfl, hb2⟩
      have HB2 := hid (below_t HB1.out hb2)
      clear hb2
      go_wp2_with fail
      with_reducible refine (HRC.out _).mono ?_
      rintro e w3 ⟨rfl, rfl⟩
      go_wp2_with fail
      with_reducible refine (HCT.out _ HB2.out).mono ?_
      rintro e w4 ⟨v4, rfl, -, hb4, -⟩
      have HB4 := hid (below_t HB2.out hb4)
      clear hb4
      go_wp2_with fail
      with_reducible refine (HRU.out v4 _).mono ?_
      rintro e w5 ⟨rfl, hb5⟩
      have HB5 := hid (below_t HB4.out hb5)
      clear hb5
      go_wp2_with fail
      have hb5a : Below w5.heap.size w5 (w5.alloc (.cells #[.int .i64 0, .bool false, .bool false, .bool false, .int .i64 0, .slice none 0 0] 31)) := bal (Below.refl _ _) _
      with_reducible refine (HCT.out _ (below_t HB5.out hb5a)).mono ?_
      rintro e w6 ⟨v6, rfl, -, hb6, -⟩
      have HB6 := hid (below_t HB5.out (below_t hb5a hb6))
      clear hb5a hb6
      go_wp2_with fail
      with_reducible refine (HOR.out v6 _).mono ?_
      rintro e w7 ⟨rfl, hb7⟩
      have HB7 := hid (below_t HB6.out hb7)
      clear hb7
      go_wp2_with fail
      with_reducible refine (HBY.out _ HB7.out).mono ?_
      rintro e w8 ⟨rfl, hb8⟩
      have HB8 := hid (below_t HB7.out hb8)
      clear hb8
      go_wp2_with fail
      with_reducible refine (HRB.out _).mono ?_
      rintro e w9 ⟨rfl, rfl⟩
      go_wp2_with fail
      with_reducible refine (HNM.out _ HB8.out).mono ?_
      rintro e w10 ⟨rfl, hb10⟩
      have HB10 := hid (below_t HB8.out hb10)
      clear hb10
      go_wp2_with fail
      with_reducible refine (HRN.out _).mono ?_
      rintro e w11 ⟨rfl, hb11⟩
      have HB11 := hid (below_t HB10.out hb11)
      clear hb11
      go_wp2_with fail
      with_reducible refine (HRD.out _).mono ?_
      rintro e w12 ⟨rfl, rfl⟩
      go_wp2_with fail
      with_reducible refine (HER.out _).mono ?_
      rintro e w13 ⟨rfl, rfl⟩
      go_wp2
      go_ret
      refine ⟨?_, HB11.out⟩
      first
        | rfl
        | (simp; omega)
        | simp
  · rcases hr with ⟨h5, h7, rfl, rfl⟩ | ⟨h2, h4, rfl, rfl⟩ | ⟨h2, rfl, rfl⟩ | ⟨h7, rfl, rfl⟩
    · have h2 : 2 ≤ c := by omega
      have h4 : ¬ c ≤ 4 := by omega
      go_enter Tryd.func5, Tryd.ntmps5
      go_wp2_with fail
      with_reducible refine HAW.out.mono ?_
      rintro e w1 ⟨rfl, hb1⟩
      have HB1 := hid hb1
      clear hb1
      go_wp2_with fail
      with_reducible refine (HCM.out _ HB1.out).mono ?_
      rintro e w2 ⟨rfl, hb2⟩
      have HB2 := hid (below_t HB1.out hb2)
      clear hb2
      go_wp2_with fail
      with_reducible refine (HRC.out _).mono ?_
      rintro e w3 ⟨rfl, rfl⟩
      go_wp2_with fail
      with_reducible refine (HCT.out _ HB2.out).mono ?_
      rintro e w4 ⟨v4, rfl, -, hb4, -⟩
      have HB4 := hid (below_t HB2.out hb4)
      clear hb4
      go_wp2_with fail
      with_reducible refine (HRU.out v4 _).mono ?_
      rintro e w5 ⟨rfl, hb5⟩
      have HB5 := hid (below_t HB4.out hb5)
      clear hb5
      go_wp2_with fail
      have hb5a : Below w5.heap.size w5 (w5.alloc (.cells #[.int .i64 0, .bool false, .bool false, .bool false, .int .i64 0, .slice none 0 0] 31)) := bal (Below.refl _ _) _
      with_reducible refine (HCT.out _ (below_t HB5.out hb5a)).mono ?_
      rintro e w6 ⟨v6, rfl, -, hb6, -⟩
      have HB6 := hid (below_t HB5.out (below_t hb5a hb6))
      clear hb5a hb6
      go_wp2_with fail
      with_reducible refine (HOR.out v6 _).mono ?_
      rintro e w7 ⟨rfl, hb7⟩
      have HB7 := hid (below_t HB6.out hb7)
      clear hb7
      go_wp2_with fail
      with_reducible refine (HBY.out _ HB7.out).mono ?_
      rintro e w8 ⟨rfl, hb8⟩
      have HB8 := hid (below_t HB7.out hb8)
      clear hb8
      go_wp2_with fail
      with_reducible refine (HRB.out _).mono ?_
      rintro e w9 ⟨rfl, rfl⟩
      go_wp2_with fail
      with_reducible refine (HNM.out _ HB8.out).mono ?_
      rintro e w10 ⟨rfl, hb10⟩
      have HB10 := hid (below_t HB8.out hb10)
      clear hb10
      go_wp2_with fail
      with_reducible refine (HRN.out _).mono ?_
      rintro e w11 ⟨rfl, hb11⟩
      have HB11 := hid (below_t HB10.out hb11)
      clear hb11
      go_wp2_with fail
      with_reducible refine (HRD.out _).mono ?_
      rintro e w12 ⟨rfl, rfl⟩
      go_wp2_with fail
      with_reducible refine (HER.out _).mono ?_
      rintro e w13 ⟨rfl, rfl⟩
      go_wp2
      go_ret
      refine ⟨?_, HB11.out⟩
      first
        | rfl
        | (simp; omega)
        | simp
    · have h5 : ¬ 5 ≤ c := by omega
      go_enter Tryd.func5, Tryd.ntmps5
      go_wp2_with fail
      with_reducible refine HAW.out.mono ?_
      rintro e w1 ⟨rfl, hb1⟩
      have HB1 := hid hb1
      clear hb1
      go_wp2_with fail
      with_reducible refine (HCM.out _ HB1.out).mono ?_
      rintro e w2 ⟨rfl, hb2⟩
      have HB2 := hid (below_t HB1.out hb2)
      clear hb2
      go_wp2_with fail
      with_reducible refine (HRC.out _).mono ?_
      rintro e w3 ⟨rfl, rfl⟩
      go_wp2_with fail
      with_reducible refine (HCT.out _ HB2.out).mono ?_
      rintro e w4 ⟨v4, rfl, -, hb4, -⟩
      have HB4 := hid (below_t HB2.out hb4)
      clear hb4
      go_wp2_with fail
      with_reducible refine (HRU.out v4 _).mono ?_
      rintro e w5 ⟨rfl, hb5⟩
      have HB5 := hid (below_t HB4.out hb5)
      clear hb5
      go_wp2_with fail
      have hb5a : Below w5.heap.size w5 (w5.alloc (.cells #[.int .i64 0, .bool false, .bool false, .bool false, .int .i64 0, .slice none 0 0] 31)) := bal (Below.refl _ _) _
      with_reducible refine (HCT.out _ (below_t HB5.out hb5a)).mono ?_
      rintro e w6 ⟨v6, rfl, -, hb6, -⟩
      have HB6 := hid (below_t HB5.out (below_t hb5a hb6))
      clear hb5a hb6
      go_wp2_with fail
      with_reducible refine (HOR.out v6 _).mono ?_
      rintro e w7 ⟨rfl, hb7⟩
      have HB7 := hid (below_t HB6.out hb7)
      clear hb7
      go_wp2_with fail
      with_reducible refine (HBY.out _ HB7.out).mono ?_
      rintro e w8 ⟨rfl, hb8⟩
      have HB8 := hid (below_t HB7.out hb8)
      clear hb8
      go_wp2_with fail
      with_reducible refine (HRB.out _).mono ?_
      rintro e w9 ⟨rfl, rfl⟩
      go_wp2_with fail
      with_reducible refine (HNM.out _ HB8.out).mono ?_
      rintro e w10 ⟨rfl, hb10⟩
      have HB10 := hid (below_t HB8.out hb10)
      clear hb10
      go_wp2_with fail
      with_reducible refine (HRN.out _).mono ?_
      rintro e w11 ⟨rfl, hb11⟩
      have HB11 := hid (below_t HB10.out hb11)
      clear hb11
      go_wp2_with fail
      with_reducible refine (HRD.out _).mono ?_
      rintro e w12 ⟨rfl, rfl⟩
      go_wp2_with fail
      with_reducible refine (HER.out _).mono ?_
      rintro e w13 ⟨rfl, rfl⟩
      go_wp2
      go_ret
      refine ⟨?_, HB11.out⟩
      first
        | rfl
        | (simp; omega)
        | simp
    · have h5 : ¬ 5 ≤ c := by omega
      have h2n : ¬ 2 ≤ c := by omega
      go_enter Tryd.func5, Tryd.ntmps5
      go_wp2_with fail
      with_reducible refine HAW.out.mono ?_
      rintro e w1 ⟨rfl, hb1⟩
      have HB1 := hid hb1
      clear hb1
      go_wp2_with fail
      with_reducible refine (HCM.out _ HB1.out).mono ?_
      rintro e w2 ⟨rfl, hb2⟩
      have HB2 := hid (below_t HB1.out hb2)
      clear hb2
      go_wp2_with fail
      with_reducible refine (HRC.out _).mono ?_
      rintro e w3 ⟨rfl, rfl⟩
      go_wp2_with fail
      with_reducible refine (HCT.out _ HB2.out).mono ?_
      rintro e w4 ⟨v4, rfl, -, hb4, -⟩
      have HB4 := hid (below_t HB2.out hb4)
      clear hb4
      go_wp2_with fail
      with_reducible refine (HRU.out v4 _).mono ?_
      rintro e w5 ⟨rfl, hb5⟩
      have HB5 := hid (below_t HB4.out hb5)
      clear hb5
      go_wp2_with fail
      have hb5a : Below w5.heap.size w5 (w5.alloc (.cells #[.int .i64 0, .bool false, .bool false, .bool false, .int .i64 0, .slice none 0 0] 31)) := bal (Below.refl _ _) _
      with_reducible refine (HCT.out _ (below_t HB5.out hb5a)).mono ?_
      rintro e w6 ⟨v6, rfl, -, hb6, -⟩
      have HB6 := hid (below_t HB5.out (below_t hb5a hb6))
      clear hb5a hb6
      go_wp2_with fail
      with_reducible refine (HOR.out v6 _).mono ?_
      rintro e w7 ⟨rfl, hb7⟩
      have HB7 := hid (below_t HB6.out hb7)
      clear hb7
      go_wp2_with fail
      with_reducible refine (HBY.out _ HB7.out).mono ?_
      rintro e w8 ⟨rfl, hb8⟩
      have HB8 := hid (below_t HB7.out hb8)
      clear hb8
      go_wp2_with fail
      with_reducible refine (HRB.out _).mono ?_
      rintro e w9 ⟨rfl, rfl⟩
      go_wp2_with fail
      with_reducible refine (HNM.out _ HB8.out).mono ?_
      rintro e w10 ⟨rfl, hb10⟩
      have HB10 := hid (below_t HB8.out hb10)
      clear hb10
      go_wp2_with fail
      with_reducible refine (HRN.out _).mono ?_
      rintro e w11 ⟨rfl, hb11⟩
      have HB11 := hid (below_t HB10.out hb11)
      clear hb11
      go_wp2_with fail
      with_reducible refine (HRD.out _).mono ?_
      rintro e w12 ⟨rfl, rfl⟩
      go_wp2_with fail
      with_reducible refine (HER.out _).mono ?_
      rintro e w13 ⟨rfl, rfl⟩
      go_wp2
      go_ret
      refine ⟨?_, HB11.out⟩
      first
        | rfl
        | (simp; omega)
        | simp
    · have h2 : 2 ≤ c := by omega
      have h5 : 5 ≤ c := by omega
      have h7n : ¬ c ≤ 7 := by omega
      have h4n : ¬ c ≤ 4 := by omega
      go_enter Tryd.func5, Tryd.ntmps5
      go_wp2_with fail
      with_reducible refine HAW.out.mono ?_
      rintro e w1 ⟨rfl, hb1⟩
      have HB1 := hid hb1
      clear hb1
      go_wp2_with fail
      with_reducible refine (HCM.out _ HB1.out).mono ?_
      rintro e w2 ⟨rfl, hb2⟩
      have HB2 := hid (below_t HB1.out hb2)
      clear hb2
      go_wp2_with fail
      with_reducible refine (HRC.out _).mono ?_
      rintro e w3 ⟨rfl, rfl⟩
      go_wp2_with fail
      with_reducible refine (HCT.out _ HB2.out).mono ?_
      rintro e w4 ⟨v4, rfl, -, hb4, -⟩
      have HB4 := hid (below_t HB2.out hb4)
      clear hb4
      go_wp2_with fail
      with_reducible refine (HRU.out v4 _).mono ?_
      rintro e w5 ⟨rfl, hb5⟩
      have HB5 := hid (below_t HB4.out hb5)
      clear hb5
      go_wp2_with fail
      have hb5a : Below w5.heap.size w5 (w5.alloc (.cells #[.int .i64 0, .bool false, .bool false, .bool false, .int .i64 0, .slice none 0 0] 31)) := bal (Below.refl _ _) _
      with_reducible refine (HCT.out _ (below_t HB5.out hb5a)).mono ?_
      rintro e w6 ⟨v6, rfl, -, hb6, -⟩
      have HB6 := hid (below_t HB5.out (below_t hb5a hb6))
      clear hb5a hb6
      go_wp2_with fail
      with_reducible refine (HOR.out v6 _).mono ?_
      rintro e w7 ⟨rfl, hb7⟩
      have HB7 := hid (below_t HB6.out hb7)
      clear hb7
      go_wp2_with fail
      with_reducible refine (HBY.out _ HB7.out).mono ?_
      rintro e w8 ⟨rfl, hb8⟩
      have HB8 := hid (below_t HB7.out hb8)
      clear hb8
      go_wp2_with fail
      with_reducible refine (HRB.out _).mono ?_
      rintro e w9 ⟨rfl, rfl⟩
      go_wp2_with fail
      with_reducible refine (HNM.out _ HB8.out).mono ?_
      rintro e w10 ⟨rfl, hb10⟩
      have HB10 := hid (below_t HB8.out hb10)
      clear hb10
      go_wp2_with fail
      with_reducible refine (HRN.out _).mono ?_
      rintro e w11 ⟨rfl, hb11⟩
      have HB11 := hid (below_t HB10.out hb11)
      clear hb11
      go_wp2_with fail
      with_reducible refine (HRD.out _).mono ?_
      rintro e w12 ⟨rfl, rfl⟩
      go_wp2_with fail
      with_reducible refine (HER.out _).mono ?_
      rintro e w13 ⟨rfl, rfl⟩
      go_wp2
      go_ret
      refine ⟨?_, HB11.out⟩
      first
        | rfl
        | (simp; omega)
        | simp
theorem names_any (b : Nat) (hb : b < 256) (c : Int) (hc : I64 c) (v3 : Value) (ps : List Int) (w : World) (hp : Reads w v3 ps) (hC : Cods w) : Calls Tryd.prog 5 #[.int .u8 b, .int .i64 c, v3] w fun e w' => e = .returned (.bool true) ∧ Below w.heap.size w w' := by
  refine names_walk (cmdF b).2 (cmdF b).1 (if (cmdF b).2 then (cmdF b).1 else -1) ?_ (decide (5 ≤ c) && decide (c ≤ 7)) (decide (2 ≤ c) && decide (c ≤ 4)) b c hc ?_ v3 ps w hp hC (fun W h => command_any b hb W (hC.below hC.2 h)) (rcommand_any b hb) (reads_w c) (erases_w c)
  · have h := cmd_zero b hb
    cases hk : (cmdF b).2
    · exact .inr ⟨rfl, by simp, h.2 hk⟩
    · exact .inl ⟨rfl, by simp, h.1⟩
  · by_cases h5 : 5 ≤ c
    · by_cases h7 : c ≤ 7
      · exact .inl ⟨h5, h7, by simp [h5, h7], by simp; omega⟩
      · exact .inr (.inr (.inr ⟨by omega, by simp; omega, by simp; omega⟩))
    · by_cases h2 : 2 ≤ c
      · exact .inr (.inl ⟨h2, by omega, by simp; omega, by simp; omega⟩)
      · exact .inr (.inr (.inl ⟨by omega, by simp; omega, by simp; omega⟩))
end Go.Proofs.YtdampfngdnicoaaDoor
