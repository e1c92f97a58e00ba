/-
  The models: AddrModels' walk.
-/
import Derived.Test.YtpnfdmfmdacjmaaAwk
namespace Go.Proofs.Ytpnfdmfmdacjmaa
open Go.RowKit Go.Lib

/-- A model's rows and columns. -/
def modR (n : Int) : Int := if n = 2 then 24 else if n = 3 then 32 else if n = 4 then 43 else if n = 5 then 27 else 0
def modC (n : Int) : Int := if n = 2 then 80 else if n = 3 then 80 else if n = 4 then 80 else if n = 5 then 132 else 0
/-- Is there such a model? -/
def Mod (n : Int) : Prop := 2 ≤ n ∧ n ≤ 5
theorem mod_cases {n : Int} (h : Mod n) : n = 2 ∨ n = 3 ∨ n = 4 ∨ n = 5 := by unfold Mod at h; omega
theorem mod_ok {n : Int} (h : Mod n) : Ok (modR n) (modC n) := by
  rcases mod_cases h with rfl | rfl | rfl | rfl
  all_goals exact ⟨by decide, by decide, by decide, by decide, by decide⟩
set_option maxRecDepth 100000 in
set_option maxHeartbeats 2000000 in
theorem model_is (n : Int) (h : Mod n) (w : World) : Calls Try.prog 28 #[.int .i64 n] w fun e w' => e = .returned (.tuple #[.agg #[.int .i64 (modR n), .int .i64 (modC n)], .int .i64 0]) ∧ Below w.heap.size w w' := by
  rcases mod_cases h with rfl | rfl | rfl | rfl
  · clear h
    go_enter Try.func28, Try.ntmps28
    go_wp2
    exact bodyPost_ret (v := .tuple #[.agg #[.int .i64 24, .int .i64 80], .int .i64 0]) (by simp [results, Try.results28, go_sem]) rfl ⟨rfl, (Below.refl _ _).alloc (Nat.le_refl _) _⟩
  · clear h
    go_enter Try.func28, Try.ntmps28
    go_wp2
    exact bodyPost_ret (v := .tuple #[.agg #[.int .i64 32, .int .i64 80], .int .i64 0]) (by simp [results, Try.results28, go_sem]) rfl ⟨rfl, (Below.refl _ _).alloc (Nat.le_refl _) _⟩
  · clear h
    go_enter Try.func28, Try.ntmps28
    go_wp2
    exact bodyPost_ret (v := .tuple #[.agg #[.int .i64 43, .int .i64 80], .int .i64 0]) (by simp [results, Try.results28, go_sem]) rfl ⟨rfl, (Below.refl _ _).alloc (Nat.le_refl _) _⟩
  · clear h
    go_enter Try.func28, Try.ntmps28
    go_wp2
    exact bodyPost_ret (v := .tuple #[.agg #[.int .i64 27, .int .i64 132], .int .i64 0]) (by simp [results, Try.results28, go_sem]) rfl ⟨rfl, (Below.refl _ _).alloc (Nat.le_refl _) _⟩
set_option maxRecDepth 100000 in
set_option maxHeartbeats 2000000 in
theorem model_no (n : Int) (h : ¬ Mod n) (w : World) : Calls Try.prog 28 #[.int .i64 n] w fun e w' => e = .returned (.tuple #[.agg #[.int .i64 0, .int .i64 0], .int .i64 5]) ∧ Below w.heap.size w w' := by
  unfold Mod at h
  have e2 : (n == 2) = false := by simp; omega
  have e3 : (n == 3) = false := by simp; omega
  have e4 : (n == 4) = false := by simp; omega
  have e5 : (n == 5) = false := by simp; omega
  clear h
  go_enter Try.func28, Try.ntmps28
  go_wp2
  exact bodyPost_ret (v := .tuple #[.agg #[.int .i64 0, .int .i64 0], .int .i64 5]) (by simp [results, Try.results28, go_sem]) rfl ⟨rfl, (Below.refl _ _).alloc (Nat.le_refl _) _⟩
set_option maxRecDepth 100000 in
set_option maxHeartbeats 2000000 in
theorem rmodel_is (n : Int) (h : Mod n) (w : World) : Calls Try.prog 29 #[.int .i64 n] w fun e w' => e = .returned (.tuple #[.agg #[.int .i64 (modR n), .int .i64 (modC n)], .bool true]) ∧ Below w.heap.size w w' := by
  rcases mod_cases h with rfl | rfl | rfl | rfl
  · clear h
    go_enter Try.func29, Try.ntmps29
    go_wp2
    exact bodyPost_ret (v := .tuple #[.agg #[.int .i64 24, .int .i64 80], .bool true]) (by simp [results, Try.results29, go_sem]) rfl ⟨rfl, ((Below.refl _ _).alloc (Nat.le_refl _) _).alloc (by simp) _⟩
  · clear h
    go_enter Try.func29, Try.ntmps29
    go_wp2
    exact bodyPost_ret (v := .tuple #[.agg #[.int .i64 32, .int .i64 80], .bool true]) (by simp [results, Try.results29, go_sem]) rfl ⟨rfl, ((Below.refl _ _).alloc (Nat.le_refl _) _).alloc (by simp) _⟩
  · clear h
    go_enter Try.func29, Try.ntmps29
    go_wp2
    exact bodyPost_ret (v := .tuple #[.agg #[.int .i64 43, .int .i64 80], .bool true]) (by simp [results, Try.results29, go_sem]) rfl ⟨rfl, ((Below.refl _ _).alloc (Nat.le_refl _) _).alloc (by simp) _⟩
  · clear h
    go_enter Try.func29, Try.ntmps29
    go_wp2
    exact bodyPost_ret (v := .tuple #[.agg #[.int .i64 27, .int .i64 132], .bool true]) (by simp [results, Try.results29, go_sem]) rfl ⟨rfl, ((Below.refl _ _).alloc (Nat.le_refl _) _).alloc (by simp) _⟩
set_option maxRecDepth 100000 in
set_option maxHeartbeats 2000000 in
theorem rmodel_no (n : Int) (h : ¬ Mod n) (w : World) : Calls Try.prog 29 #[.int .i64 n] w fun e w' => e = .returned (.tuple #[.agg #[.int .i64 0, .int .i64 0], .bool false]) ∧ Below w.heap.size w w' := by
  unfold Mod at h
  by_cases h2 : n < 2
  · clear h
    go_enter Try.func29, Try.ntmps29
    go_wp2
    exact bodyPost_ret (v := .tuple #[.agg #[.int .i64 0, .int .i64 0], .bool false]) (by simp [results, Try.results29, go_sem]) rfl ⟨rfl, (Below.refl _ _).alloc (Nat.le_refl _) _⟩
  · have h5 : 5 < n := by omega
    clear h
    go_enter Try.func29, Try.ntmps29
    go_wp2
    exact bodyPost_ret (v := .tuple #[.agg #[.int .i64 0, .int .i64 0], .bool false]) (by simp [results, Try.results29, go_sem]) rfl ⟨rfl, (Below.refl _ _).alloc (Nat.le_refl _) _⟩
set_option maxRecDepth 100000 in
set_option maxHeartbeats 2000000 in
theorem addrModels_true (n : Int) (w : World) : Calls Try.prog 4 #[.int .i64 n] w fun e w' => e = .returned (.bool true) ∧ Below w.heap.size w w' := by
  by_cases h : Mod n
  · have HM := hid (model_is n h)
    have HR := hid (rmodel_is n h)
    have HV := hid (valid_ok _ _ (mod_ok h))
    generalize modR n = r at HM HR HV
    generalize modC n = c at HM HR HV
    clear h
    go_enter Try.func4, Try.ntmps4
    go_wp2_with fail
    with_reducible refine (awake_true _).mono ?_
    rintro e w1 ⟨rfl, hb1⟩
    have HB1 := hid hb1
    clear hb1
    go_wp2_with fail
    with_reducible refine (HM.out _).mono ?_
    rintro e w2 ⟨rfl, hb2⟩
    have HB2 := hid hb2
    clear hb2
    go_wp2_with fail
    with_reducible refine (HR.out _).mono ?_
    rintro e w3 ⟨rfl, hb3⟩
    have K3 := hid (box_new hb3)
    clear hb3
    obtain ⟨c0, c1, hbb⟩ := K3.out
    have HB3 := hid hbb
    clear hbb K3
    have hz : w2.heap.size < w3.heap.size := World.block_lt_of_cell? w3 _ c0
    go_wp2_with fail
    with_reducible refine (HV.out _).mono ?_
    rintro e w4 ⟨rfl, hb4⟩
    have HB4 := hid hb4
    clear hb4
    go_wp2
    go_ret
    refine ⟨rfl, ?_⟩
    have h1 := HB1.out
    have h2 := h1.trans (HB2.out.mono h1.size)
    have h3 := h2.trans (HB3.out.mono h2.size)
    exact (h3.alloc h3.size _).trans (HB4.out.mono (by have := h3.size; simp; omega))
  · have HM := hid (model_no n h)
    have HR := hid (rmodel_no n h)
    have HV := hid (valid_no 0 0 (by decide))
    clear h
    go_enter Try.func4, Try.ntmps4
    go_wp2_with fail
    with_reducible refine (awake_true _).mono ?_
    rintro e w1 ⟨rfl, hb1⟩
    have HB1 := hid hb1
    clear hb1
    go_wp2_with fail
    with_reducible refine (HM.out _).mono ?_
    rintro e w2 ⟨rfl, hb2⟩
    have HB2 := hid hb2
    clear hb2
    go_wp2_with fail
    with_reducible refine (HR.out _).mono ?_
    rintro e w3 ⟨rfl, hb3⟩
    have K3 := hid (box_new hb3)
    clear hb3
    obtain ⟨c0, c1, hbb⟩ := K3.out
    have HB3 := hid hbb
    clear hbb K3
    have hz : w2.heap.size < w3.heap.size := World.block_lt_of_cell? w3 _ c0
    go_wp2_with fail
    with_reducible refine (HV.out _).mono ?_
    rintro e w4 ⟨rfl, hb4⟩
    have HB4 := hid hb4
    clear hb4
    go_wp2
    go_ret
    refine ⟨rfl, ?_⟩
    have h1 := HB1.out
    have h2 := h1.trans (HB2.out.mono h1.size)
    have h3 := h2.trans (HB3.out.mono h2.size)
    exact (h3.alloc h3.size _).trans (HB4.out.mono (by have := h3.size; simp; omega))

end Go.Proofs.Ytpnfdmfmdacjmaa
