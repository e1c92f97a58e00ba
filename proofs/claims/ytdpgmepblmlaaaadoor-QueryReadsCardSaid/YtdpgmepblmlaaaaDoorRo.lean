/-
  The document's reading of a field.
-/
import Derived.Test.YtdpgmepblmlaaaaDoorRm
namespace Go.Proofs.YtdpgmepblmlaaaaDoor
open Go.RowKit Go.Lib Go.Deep

/-- The bytes of a slice that came in. -/
theorem reads_open {w : World} {v : Value} {xs : List Int} (h : Reads w v xs) : ∃ x c, v = .slice x xs.length c ∧ (0 < xs.length → ∃ g o, x = some ⟨g, o, none⟩ ∧ g < w.heap.size ∧ xs.length ≤ c ∧ c ≤ maxLen ∧ ∀ i, i < xs.length → w.cell? ⟨g, o + i, none⟩ = some (.int .u8 (xs.getD i 0))) := by
  obtain ⟨x, c, rfl⟩ := reads_sl h
  refine ⟨x, c, rfl, fun h0 => ?_⟩
  obtain ⟨g, o, rfl, c0, h1, h2⟩ := reads_at h 0 h0
  refine ⟨g, o, rfl, World.block_lt_of_cell? w _ c0, h1, h2, fun i hi => ?_⟩
  obtain ⟨g', o', q, c, _, _⟩ := reads_at h i hi
  injection q with q
  injection q with q q'
  subst q q'
  exact c
set_option maxRecDepth 100000 in
set_option maxHeartbeats 4000000 in
theorem rof_12 (dv : Value) (xs : List Int) (w : World) (h : Reads w dv xs) : Calls Tryd.prog 17 #[.agg #[.int .u8 12, dv]] w (ErD (inP createM xs) w) := by
  have HE := hid (fun (m : Int × AcD) (e : inP createM xs = m) (h1 : m.2.codes = []) (h2 : m.2.rcd = []) w' (hb : Below w.heap.size w w') => (show ErD (inP createM xs) w (.returned (.tuple #[acV m.2 (.slice none 0 0) (.slice none 0 0), .int .i64 m.1])) w' from by rw [e]; exact er_plain (m := m) (w := w) (w' := w') h1 h2 hb))
  rcases reads_cons h with ⟨x, c, rfl, rfl⟩ | ⟨g, o, c, r, b, hb, rfl, rfl, c0, hc, hm⟩
  · have HE1 := hid (HE.out (4, acZ) rfl rfl rfl)
    clear h HE
    go_enter Tryd.func17, Tryd.ntmps17
    go_wp2
    refine bodyPost_ret (v := .tuple #[.agg #[.int .i64 0, .int .i64 0, .int .i64 0, .bool false, .int .u8 0, .slice none 0 0, .slice none 0 0], .int .i64 4]) (by simp [results, Tryd.results17, go_sem]) rfl (HE1.out _ ?_)
    exact bal (bal (bal (Below.refl _ _) _) _) _
  have hgl : g < w.heap.size := World.block_lt_of_cell? w _ c0
  have hgl1 : g < w.heap.size + 1 := by omega
  have hgl2 : g < w.heap.size + 1 + 1 := by omega
  have hM := inP_cons createM (b : Int) r
  have e0 : ¬ ((r.length + 1 : Nat) : Int) < 1 := by omega
  have e2 : (0 : Int) < ((r.length + 1 : Nat) : Int) := by omega
  have e3 : 0 < r.length + 1 := by omega
  generalize r.length + 1 = N at *
  by_cases hb0 : (b : Int) = 0
  · obtain rfl : b = 0 := by omega
    have HE1 := hid (HE.out (0, acK 6) (by rw [hM]; rw [if_pos (show (createM r).2 = true from rfl)]; exact if_pos rfl) rfl rfl)
    clear h hc hm hM HE hb0
    go_enter Tryd.func17, Tryd.ntmps17
    go_wp2
    refine bodyPost_ret (v := .tuple #[.agg #[.int .i64 6, .int .i64 0, .int .i64 0, .bool false, .int .u8 0, .slice none 0 0, .slice none 0 0], .int .i64 0]) (by simp [results, Tryd.results17, go_sem]) rfl (HE1.out _ ?_)
    exact bal (bal (bal (Below.refl _ _) _) _) _
  · have HE1 := hid (HE.out (1, acZ) (by rw [hM]; rw [if_pos (show (createM r).2 = true from rfl)]; exact if_neg hb0) rfl rfl)
    have e1 : ((b : Int) == 0) = false := by simpa using hb0
    clear h hc hm hM HE hb0
    go_enter Tryd.func17, Tryd.ntmps17
    go_wp2
    refine bodyPost_ret (v := .tuple #[.agg #[.int .i64 0, .int .i64 0, .int .i64 0, .bool false, .int .u8 0, .slice none 0 0, .slice none 0 0], .int .i64 1]) (by simp [results, Tryd.results17, go_sem]) rfl (HE1.out _ ?_)
    exact bal (bal (bal (Below.refl _ _) _) _) _
set_option maxRecDepth 100000 in
set_option maxHeartbeats 4000000 in
theorem rof_13 (dv : Value) (xs : List Int) (w : World) (h : Reads w dv xs) : Calls Tryd.prog 17 #[.agg #[.int .u8 13, dv]] w (ErD (inP destroyM xs) w) := by
  have HE := hid (fun (m : Int × AcD) (e : inP destroyM xs = m) (h1 : m.2.codes = []) (h2 : m.2.rcd = []) w' (hb : Below w.heap.size w w') => (show ErD (inP destroyM xs) w (.returned (.tuple #[acV m.2 (.slice none 0 0) (.slice none 0 0), .int .i64 m.1])) w' from by rw [e]; exact er_plain (m := m) (w := w) (w' := w') h1 h2 hb))
  rcases reads_cons h with ⟨x, c, rfl, rfl⟩ | ⟨g, o, c, r, b, hb, rfl, rfl, c0, hc, hm⟩
  · have HE1 := hid (HE.out (4, acZ) rfl rfl rfl)
    clear h HE
    go_enter Tryd.func17, Tryd.ntmps17
    go_wp2
    refine bodyPost_ret (v := .tuple #[.agg #[.int .i64 0, .int .i64 0, .int .i64 0, .bool false, .int .u8 0, .slice none 0 0, .slice none 0 0], .int .i64 4]) (by simp [results, Tryd.results17, go_sem]) rfl (HE1.out _ ?_)
    exact bal (bal (bal (Below.refl _ _) _) _) _
  have hgl : g < w.heap.size := World.block_lt_of_cell? w _ c0
  have hgl1 : g < w.heap.size + 1 := by omega
  have hgl2 : g < w.heap.size + 1 + 1 := by omega
  have hM := inP_cons destroyM (b : Int) r
  by_cases hr : r = []
  · subst hr
    simp only [List.length_nil, Nat.zero_add] at *
    by_cases hb0 : (b : Int) = 0
    · obtain rfl : b = 0 := by omega
      have HE1 := hid (HE.out (0, acK 7) (by rw [hM]; rw [if_pos (show (destroyM []).2 = true from rfl)]; exact if_pos rfl) rfl rfl)
      clear h hc hm hM HE hb0
      go_enter Tryd.func17, Tryd.ntmps17
      go_wp2
      refine bodyPost_ret (v := .tuple #[.agg #[.int .i64 7, .int .i64 0, .int .i64 0, .bool false, .int .u8 0, .slice none 0 0, .slice none 0 0], .int .i64 0]) (by simp [results, Tryd.results17, go_sem]) rfl (HE1.out _ ?_)
      exact bal (bal (bal (Below.refl _ _) _) _) _
    · have HE1 := hid (HE.out (1, acZ) (by rw [hM]; rw [if_pos (show (destroyM []).2 = true from rfl)]; exact if_neg hb0) rfl rfl)
      have e1 : ((b : Int) == 0) = false := by simpa using hb0
      clear h hc hm hM HE hb0
      go_enter Tryd.func17, Tryd.ntmps17
      go_wp2
      refine bodyPost_ret (v := .tuple #[.agg #[.int .i64 0, .int .i64 0, .int .i64 0, .bool false, .int .u8 0, .slice none 0 0, .slice none 0 0], .int .i64 1]) (by simp [results, Tryd.results17, go_sem]) rfl (HE1.out _ ?_)
      exact bal (bal (bal (Below.refl _ _) _) _) _
  · have hr0 : 0 < r.length := List.length_pos_iff.2 hr
    have hre : r.isEmpty = false := List.isEmpty_eq_false_iff.2 hr
    have HE1 := hid (HE.out (4, acZ) (by rw [hM]; exact if_neg (by show ¬ r.isEmpty = true; rw [hre]; exact Bool.false_ne_true)) rfl rfl)
    have e0 : ¬ ((r.length + 1 : Nat) : Int) < 1 := by omega
    have e1 : (1 : Int) < ((r.length + 1 : Nat) : Int) := by omega
    have e2 : 0 < r.length + 1 := by omega
    generalize r.length + 1 = N at *
    clear h hc hm hM HE hr hr0 hre
    go_enter Tryd.func17, Tryd.ntmps17
    go_wp2
    refine bodyPost_ret (v := .tuple #[.agg #[.int .i64 0, .int .i64 0, .int .i64 0, .bool false, .int .u8 0, .slice none 0 0, .slice none 0 0], .int .i64 4]) (by simp [results, Tryd.results17, go_sem]) rfl (HE1.out _ ?_)
    exact bal (bal (bal (Below.refl _ _) _) _) _
set_option maxRecDepth 100000 in
set_option maxHeartbeats 4000000 in
theorem rof_14 (dv : Value) (xs : List Int) (w : World) (h : Reads w dv xs) : Calls Tryd.prog 17 #[.agg #[.int .u8 14, dv]] w (ErD (inP activateM xs) w) := by
  have HE := hid (fun (m : Int × AcD) (e : inP activateM xs = m) (h1 : m.2.codes = []) (h2 : m.2.rcd = []) w' (hb : Below w.heap.size w w') => (show ErD (inP activateM xs) w (.returned (.tuple #[acV m.2 (.slice none 0 0) (.slice none 0 0), .int .i64 m.1])) w' from by rw [e]; exact er_plain (m := m) (w := w) (w' := w') h1 h2 hb))
  rcases reads_cons h with ⟨x, c, rfl, rfl⟩ | ⟨g, o, c, r, b, hb, rfl, rfl, c0, hc, hm⟩
  · have HE1 := hid (HE.out (4, acZ) rfl rfl rfl)
    clear h HE
    go_enter Tryd.func17, Tryd.ntmps17
    go_wp2
    refine bodyPost_ret (v := .tuple #[.agg #[.int .i64 0, .int .i64 0, .int .i64 0, .bool false, .int .u8 0, .slice none 0 0, .slice none 0 0], .int .i64 4]) (by simp [results, Tryd.results17, go_sem]) rfl (HE1.out _ ?_)
    exact bal (bal (bal (Below.refl _ _) _) _) _
  have hgl : g < w.heap.size := World.block_lt_of_cell? w _ c0
  have hgl1 : g < w.heap.size + 1 := by omega
  have hgl2 : g < w.heap.size + 1 + 1 := by omega
  have hM := inP_cons activateM (b : Int) r
  by_cases hr : r = []
  · subst hr
    simp only [List.length_nil, Nat.zero_add] at *
    by_cases hb0 : (b : Int) = 0
    · obtain rfl : b = 0 := by omega
      have HE1 := hid (HE.out (0, acK 8) (by rw [hM]; rw [if_pos (show (activateM []).2 = true from rfl)]; exact if_pos rfl) rfl rfl)
      clear h hc hm hM HE hb0
      go_enter Tryd.func17, Tryd.ntmps17
      go_wp2
      refine bodyPost_ret (v := .tuple #[.agg #[.int .i64 8, .int .i64 0, .int .i64 0, .bool false, .int .u8 0, .slice none 0 0, .slice none 0 0], .int .i64 0]) (by simp [results, Tryd.results17, go_sem]) rfl (HE1.out _ ?_)
      exact bal (bal (bal (Below.refl _ _) _) _) _
    · have HE1 := hid (HE.out (1, acZ) (by rw [hM]; rw [if_pos (show (activateM []).2 = true from rfl)]; exact if_neg hb0) rfl rfl)
      have e1 : ((b : Int) == 0) = false := by simpa using hb0
      clear h hc hm hM HE hb0
      go_enter Tryd.func17, Tryd.ntmps17
      go_wp2
      refine bodyPost_ret (v := .tuple #[.agg #[.int .i64 0, .int .i64 0, .int .i64 0, .bool false, .int .u8 0, .slice none 0 0, .slice none 0 0], .int .i64 1]) (by simp [results, Tryd.results17, go_sem]) rfl (HE1.out _ ?_)
      exact bal (bal (bal (Below.refl _ _) _) _) _
  · have hr0 : 0 < r.length := List.length_pos_iff.2 hr
    have hre : r.isEmpty = false := List.isEmpty_eq_false_iff.2 hr
    have HE1 := hid (HE.out (4, acZ) (by rw [hM]; exact if_neg (by show ¬ r.isEmpty = true; rw [hre]; exact Bool.false_ne_true)) rfl rfl)
    have e0 : ¬ ((r.length + 1 : Nat) : Int) < 1 := by omega
    have e1 : (1 : Int) < ((r.length + 1 : Nat) : Int) := by omega
    have e2 : 0 < r.length + 1 := by omega
    generalize r.length + 1 = N at *
    clear h hc hm hM HE hr hr0 hre
    go_enter Tryd.func17, Tryd.ntmps17
    go_wp2
    refine bodyPost_ret (v := .tuple #[.agg #[.int .i64 0, .int .i64 0, .int .i64 0, .bool false, .int .u8 0, .slice none 0 0, .slice none 0 0], .int .i64 4]) (by simp [results, Tryd.results17, go_sem]) rfl (HE1.out _ ?_)
    exact bal (bal (bal (Below.refl _ _) _) _) _
set_option maxRecDepth 100000 in
set_option maxHeartbeats 4000000 in
theorem rof_3 (dv : Value) (xs : List Int) (w : World) (h : Reads w dv xs) : Calls Tryd.prog 17 #[.agg #[.int .u8 3, dv]] w (ErD (eraseM xs) w) := by
  have HE := hid (fun (m : Int × AcD) (e : eraseM xs = m) (h1 : m.2.codes = []) (h2 : m.2.rcd = []) w' (hb : Below w.heap.size w w') => (show ErD (eraseM xs) w (.returned (.tuple #[acV m.2 (.slice none 0 0) (.slice none 0 0), .int .i64 m.1])) w' from by rw [e]; exact er_plain (m := m) (w := w) (w' := w') h1 h2 hb))
  rcases reads_cons h with ⟨x, c, rfl, rfl⟩ | ⟨g, o, c, r, q, hq, rfl, rfl, c0, hc, hm⟩
  · have HE1 := hid (HE.out (4, acZ) rfl rfl rfl)
    clear h HE
    go_enter Tryd.func17, Tryd.ntmps17
    go_wp2
    refine bodyPost_ret (v := .tuple #[.agg #[.int .i64 0, .int .i64 0, .int .i64 0, .bool false, .int .u8 0, .slice none 0 0, .slice none 0 0], .int .i64 4]) (by simp [results, Tryd.results17, go_sem]) rfl (HE1.out _ ?_)
    exact bal (bal (bal (Below.refl _ _) _) _) _
  have hgl : g < w.heap.size := World.block_lt_of_cell? w _ c0
  have hgl1 : g < w.heap.size + 1 := by omega
  have hgl2 : g < w.heap.size + 1 + 1 := by omega
  by_cases hr : r = []
  · subst hr
    simp only [List.length_nil, Nat.zero_add] at *
    clear h hc hm
    by_cases h0 : (q : Int) = 0
    · have HE1 := hid (HE.out (0, acK 4) (by rw [h0]; rfl) rfl rfl)
      obtain rfl : q = 0 := by omega
      clear HE h0
      go_enter Tryd.func17, Tryd.ntmps17
      go_wp2
      refine bodyPost_ret (v := .tuple #[.agg #[.int .i64 4, .int .i64 0, .int .i64 0, .bool false, .int .u8 0, .slice none 0 0, .slice none 0 0], .int .i64 0]) (by simp [results, Tryd.results17, go_sem]) rfl (HE1.out _ ?_)
      exact bal (bal (bal (Below.refl _ _) _) _) _
    by_cases h1 : (q : Int) = 128
    · have HE1 := hid (HE.out (0, ⟨4, 0, 0, true, 0, [], []⟩) (by rw [h1]; rfl) rfl rfl)
      obtain rfl : q = 128 := by omega
      clear HE h0 h1
      go_enter Tryd.func17, Tryd.ntmps17
      go_wp2
      refine bodyPost_ret (v := .tuple #[.agg #[.int .i64 4, .int .i64 0, .int .i64 0, .bool true, .int .u8 0, .slice none 0 0, .slice none 0 0], .int .i64 0]) (by simp [results, Tryd.results17, go_sem]) rfl (HE1.out _ ?_)
      exact bal (bal (bal (Below.refl _ _) _) _) _
    have HE1 := hid (HE.out (4, acZ) (by unfold eraseM; rw [if_neg (by simpa using h0), if_neg (by simpa using h1)]) rfl rfl)
    have e0 : ((q : Int) == 0) = false := by simpa using h0
    have e1 : ((q : Int) == 128) = false := by simpa using h1
    have e2 : ((q : Int) != 0) = true := by simpa using h0
    have e3 : ((q : Int) != 128) = true := by simpa using h1
    clear HE h0 h1
    go_enter Tryd.func17, Tryd.ntmps17
    go_wp2
    refine bodyPost_ret (v := .tuple #[.agg #[.int .i64 0, .int .i64 0, .int .i64 0, .bool false, .int .u8 0, .slice none 0 0, .slice none 0 0], .int .i64 4]) (by simp [results, Tryd.results17, go_sem]) rfl (HE1.out _ ?_)
    exact bal (bal (bal (Below.refl _ _) _) _) _
  · have hr0 : 0 < r.length := List.length_pos_iff.2 hr
    have HE1 := hid (HE.out (4, acZ) (by unfold eraseM; rw [if_neg (fun e => hr (List.cons.inj e).2), if_neg (fun e => hr (List.cons.inj e).2)]) rfl rfl)
    have e0 : (((r.length + 1 : Nat) : Int) == 1) = false := by simp; omega
    have e1 : (((r.length + 1 : Nat) : Int) != 1) = true := by simp; omega
    generalize r.length + 1 = N at *
    clear h hc hm hr0 HE hr
    go_enter Tryd.func17, Tryd.ntmps17
    go_wp2
    refine bodyPost_ret (v := .tuple #[.agg #[.int .i64 0, .int .i64 0, .int .i64 0, .bool false, .int .u8 0, .slice none 0 0, .slice none 0 0], .int .i64 4]) (by simp [results, Tryd.results17, go_sem]) rfl (HE1.out _ ?_)
    exact bal (bal (bal (Below.refl _ _) _) _) _
set_option maxRecDepth 100000 in
set_option maxHeartbeats 4000000 in
theorem rof_no (id : Int) (dv : Value) (xs : List Int) (w : World) (h : Reads w dv xs) (h1 : id ≠ 1) (h3 : id ≠ 3) (h9 : id ≠ 9) (h12 : id ≠ 12) (h13 : id ≠ 13) (h14 : id ≠ 14) (h64 : id ≠ 64) : Calls Tryd.prog 17 #[.agg #[.int .u8 id, dv]] w (ErD (10, acZ) w) := by
  have HE1 := hid (fun w' hb => er_plain (m := (10, acZ)) (w := w) (w' := w') rfl rfl hb)
  obtain ⟨xd, cd', rfl⟩ := reads_sl h
  have e1 : (id == 1) = false := by simpa using h1
  have e3 : (id == 3) = false := by simpa using h3
  have e9 : (id == 9) = false := by simpa using h9
  have e12 : (id == 12) = false := by simpa using h12
  have e13 : (id == 13) = false := by simpa using h13
  have e14 : (id == 14) = false := by simpa using h14
  have e64 : (id == 64) = false := by simpa using h64
  clear h h1 h3 h9 h12 h13 h14 h64
  go_enter Tryd.func17, Tryd.ntmps17
  go_wp2
  refine bodyPost_ret (v := .tuple #[.agg #[.int .i64 0, .int .i64 0, .int .i64 0, .bool false, .int .u8 0, .slice none 0 0, .slice none 0 0], .int .i64 10]) (by simp [results, Tryd.results17, go_sem]) rfl (HE1.out _ ?_)
  exact bal (bal (bal (Below.refl _ _) _) _) _
end Go.Proofs.YtdpgmepblmlaaaaDoor
