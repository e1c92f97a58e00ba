/-
  Reasons; an end that is none; NegoNames' walk.
-/
import Derived.Test.YtdpfjbpfafekfaaDoorNu
namespace Go.Proofs.YtdpfjbpfafekfaaDoor
open Go.RowKit Go.Lib

/-- The reasons, as bytes. -/
def nameL : List ByteArray := [⟨#[67, 79, 78, 78, 45, 80, 65, 82, 84, 78, 69, 82]⟩, ⟨#[68, 69, 86, 73, 67, 69, 45, 73, 78, 45, 85, 83, 69]⟩, ⟨#[73, 78, 86, 45, 65, 83, 83, 79, 67, 73, 65, 84, 69]⟩, ⟨#[73, 78, 86, 45, 78, 65, 77, 69]⟩, ⟨#[73, 78, 86, 45, 68, 69, 86, 73, 67, 69, 45, 84, 89, 80, 69]⟩, ⟨#[84, 89, 80, 69, 45, 78, 65, 77, 69, 45, 69, 82, 82, 79, 82]⟩, ⟨#[85, 78, 75, 78, 79, 87, 78, 45, 69, 82, 82, 79, 82]⟩, ⟨#[85, 78, 83, 85, 80, 80, 79, 82, 84, 69, 68, 45, 82, 69, 81]⟩]
def nameS (t : Nat) : ByteArray := nameL.getD t ⟨#[]⟩
/-- The program's variable holds them. -/
def Names (w : World) : Prop := 0 < w.heap.size ∧ ∀ j, j < 8 → w.cell? ⟨0, j, none⟩ = some (.string (nameS j))
theorem Names.step {w w' : World} (h : Names w) (hb : Below w.heap.size w w') : Names w' := ⟨Nat.lt_of_lt_of_le h.1 hb.size, fun j hj => keepc hb (h.2 j hj)⟩
set_option maxRecDepth 100000 in
theorem reason_any (t : Nat) (ht : t < 256) (w : World) (h : Names w) : Calls Tryd.prog 11 #[.int .u8 t] w fun e w' => e = .returned (.string (nameS t)) ∧ w = w' := by
  by_cases h9 : t < 8
  · have c := h.2 t h9
    have hlt := h.1
    have i9 : ¬ (8 : Int) ≤ t := by omega
    clear h
    generalize nameS t = S at c ⊢
    go_enter Tryd.func11, Tryd.ntmps11
    go_wp2
    go_ret
    exact ⟨rfl, rfl⟩
  · have i9 : (8 : Int) ≤ t := by omega
    have hn : nameS t = ⟨#[]⟩ := by
      unfold nameS
      rw [List.getD, List.getElem?_eq_none (by simp [nameL]; omega)]
      rfl
    rw [hn]
    clear hn h
    go_enter Tryd.func11, Tryd.ntmps11
    go_wp2
    go_ret
    exact ⟨rfl, rfl⟩
def nameC : Array Value := (nameL.map Value.string).toArray
theorem nameC_at (t : Nat) (h : t < 8) : nameC[t]? = some (.string (nameS t)) := by
  have h' : t = 0 ∨ t = 1 ∨ t = 2 ∨ t = 3 ∨ t = 4 ∨ t = 5 ∨ t = 6 ∨ t = 7 := by omega
  rcases h' with rfl | rfl | rfl | rfl | rfl | rfl | rfl | rfl <;> rfl
set_option maxRecDepth 100000 in
theorem rreason_any (t : Nat) (ht : t < 256) (w : World) : Calls Tryd.prog 12 #[.int .u8 t] w fun e w' => e = .returned (.string (nameS t)) ∧ Below w.heap.size w w' := by
  by_cases h9 : t < 8
  · have c0 : (w.alloc (.cells nameC 9)).cell? ⟨w.heap.size, t, none⟩ = some (.string (nameS t)) := by
      rw [World.cell?_alloc_new]
      exact nameC_at t h9
    have c1 := c0
    unfold nameC nameL at c1
    simp only [List.map_cons, List.map_nil] at c1
    clear c0
    generalize nameS t = S at c1 ⊢
    have i8 : ¬ (7 : Int) < t := by omega
    have i9 : (t : Int) < 8 := by omega
    go_enter Tryd.func12, Tryd.ntmps12
    go_wp2
    go_ret
    exact ⟨rfl, (Below.refl _ _).alloc (Nat.le_refl _) _⟩
  · have i9 : (7 : Int) < t := by omega
    have hn : nameS t = ⟨#[]⟩ := by
      unfold nameS
      rw [List.getD, List.getElem?_eq_none (by simp [nameL]; omega)]
      rfl
    rw [hn]
    clear hn
    go_enter Tryd.func12, Tryd.ntmps12
    go_wp2
    go_ret
    exact ⟨rfl, Below.refl _ _⟩
set_option maxRecDepth 100000 in
theorem nil_State (w : World) : Calls Tryd.prog 13 #[.pointer none] w fun e w' => e = .returned (.int .i64 4) ∧ w = w' := by
  go_enter Tryd.func13, Tryd.ntmps13
  go_wp2
  go_ret
  exact ⟨rfl, rfl⟩
set_option maxRecDepth 100000 in
theorem nil_Ready (w : World) : Calls Tryd.prog 14 #[.pointer none] w fun e w' => e = .returned (.bool false) ∧ w = w' := by
  have H := hid (nil_State w)
  go_enter Tryd.func14, Tryd.ntmps14
  go_wp2_with fail
  with_reducible refine H.out.mono ?_
  rintro e w1 ⟨rfl, rfl⟩
  go_wp2
  go_ret
  exact ⟨rfl, rfl⟩
set_option maxRecDepth 100000 in
theorem nil_Device (w : World) : Calls Tryd.prog 15 #[.pointer none] w fun e w' => e = .returned (.string ⟨#[]⟩) ∧ w = w' := by
  go_enter Tryd.func15, Tryd.ntmps15
  go_wp2
  go_ret
  exact ⟨rfl, rfl⟩
set_option maxRecDepth 100000 in
theorem nil_Functions (w : World) : Calls Tryd.prog 16 #[.pointer none] w fun e w' => e = .returned (.slice none 0 0) ∧ w = w' := by
  have H := hid (nil_Ready w)
  go_enter Tryd.func16, Tryd.ntmps16
  go_wp2_with fail
  with_reducible refine H.out.mono ?_
  rintro e w1 ⟨rfl, rfl⟩
  go_wp2
  go_ret
  exact ⟨rfl, rfl⟩
set_option maxRecDepth 100000 in
theorem nil_Has (o : Int) (w : World) : Calls Tryd.prog 17 #[.pointer none, .int .u8 o] w fun e w' => e = .returned (.bool false) ∧ w = w' := by
  have H := hid (nil_Ready w)
  go_enter Tryd.func17, Tryd.ntmps17
  go_wp2_with fail
  with_reducible refine H.out.mono ?_
  rintro e w1 ⟨rfl, rfl⟩
  go_wp2
  go_ret
  exact ⟨rfl, rfl⟩
set_option maxRecDepth 100000 in
theorem nil_Hear (o : Int) (x : Option Addr) (n c : Nat) (w : World) : Calls Tryd.prog 6 #[.pointer none, .int .u8 o, .slice x n c] w fun e w' => e = .returned (.tuple #[.slice none 0 0, .int .i64 5]) ∧ w = w' := by
  go_enter Tryd.func6, Tryd.ntmps6
  go_wp2
  go_ret2
  exact ⟨rfl, rfl⟩
set_option maxRecDepth 100000 in
theorem nil_Reset (w : World) : Calls Tryd.prog 8 #[.pointer none] w fun e w' => e = .returned (.tuple #[]) ∧ w = w' := by
  go_enter Tryd.func8, Tryd.ntmps8
  go_wp2
  first | go_end0 | refine bodyPost_ret (results_none rfl _ _ _) rfl ?_
  exact ⟨rfl, rfl⟩
set_option maxRecDepth 100000 in
set_option maxHeartbeats 2000000 in
theorem negoNames_true (s0 : ByteArray) (z : Nat) (hz : z < 256) (v : Value) (ps : List Int) (w : World) (hs0 : s0.size ≤ maxLen) (hN : Names w) (hv : Reads w v ps) : Calls Tryd.prog 3 #[.string s0, .int .u8 z, v] w fun e w' => e = .returned (.bool true) ∧ Below w.heap.size w w' := by
  have HW := hid (nawake_true w)
  have HCT := hid (fun W => show Calls Tryd.prog 5 #[.string s0, .int .i64 60] W (fun e w' => e = .returned (.string (cutS s0 60)) ∧ W = w') from cutText_any s0 60 (by omega) W hs0)
  have hM := cutS_size s0 60
  have HNA := hid (fun W => name_any (cutS s0 60) W (by unfold maxLen; omega))
  have HNB := hid (fun W => rname_any (cutS s0 60) W (by unfold maxLen; omega))
  have HCU := hid (fun W (hb : Below w.heap.size w W) => show Calls Tryd.prog 7 #[v, .int .i64 50] W (OwnDone (ps.take 50) W) from rcut_own v 50 (by omega) ps W (reads_below hv hb))
  have HRE := hid (fun W (h : Names W) => reason_any z hz W h)
  have HRR := hid (fun W => rreason_any z hz W)
  have HNN := hid hN
  obtain ⟨vx, vn, vc, rfl⟩ : ∃ x n c, v = .slice x n c := by
    rcases hv.2 with ⟨rfl, _⟩ | ⟨a, cap, rfl, _⟩
    · exact ⟨_, _, _, rfl⟩
    · exact ⟨_, _, _, rfl⟩
  generalize cutS s0 60 = s at *
  generalize nameB s = nb at *
  generalize nameS z = zs at *
  clear hv hN
  go_enter Tryd.func3, Tryd.ntmps3
  go_wp2_with fail
  with_reducible refine HW.out.mono ?_
  rintro e w1 ⟨rfl, hb1⟩
  have HB1 := hid hb1
  clear hb1
  go_wp2_with fail
  with_reducible refine (HCT.out _).mono ?_
  rintro e wx ⟨rfl, rfl⟩
  go_wp2_with fail
  with_reducible refine (HCU.out _ HB1.out).mono ?_
  rintro e w2 ⟨v2, rfl, ho2, hb2, hk2⟩
  obtain ⟨x2, n2, c2, rfl⟩ := own_slice ho2
  have HB2 := hid (below_t HB1.out hb2)
  clear ho2 hb2 hk2 HB1 HCU HCT HW
  go_wp2_with fail
  with_reducible refine (nil_Hear _ _ _ _ _).mono ?_
  rintro e wx ⟨rfl, rfl⟩
  go_wp2_with fail
  with_reducible refine (nil_Reset _).mono ?_
  rintro e wx ⟨rfl, rfl⟩
  go_wp2_with fail
  with_reducible refine (HNA.out _).mono ?_
  rintro e wx ⟨rfl, rfl⟩
  go_wp2_with fail
  with_reducible refine (HNB.out _).mono ?_
  rintro e wx ⟨rfl, rfl⟩
  have HN2 := hid (HNN.out.step HB2.out)
  go_wp2_with fail
  with_reducible refine (HRE.out _ HN2.out).mono ?_
  rintro e wx ⟨rfl, rfl⟩
  go_wp2_with fail
  with_reducible refine (HRR.out _).mono ?_
  rintro e w3 ⟨rfl, hb3⟩
  have HB3 := hid (below_t HB2.out hb3)
  clear hb3
  go_wp2_with fail
  with_reducible refine (nil_State _).mono ?_
  rintro e wx ⟨rfl, rfl⟩
  go_wp2_with fail
  with_reducible refine (nil_Ready _).mono ?_
  rintro e wx ⟨rfl, rfl⟩
  go_wp2_with fail
  with_reducible refine (nil_Device _).mono ?_
  rintro e wx ⟨rfl, rfl⟩
  go_wp2_with fail
  with_reducible refine (nil_Functions _).mono ?_
  rintro e wx ⟨rfl, rfl⟩
  go_wp2_with fail
  with_reducible refine (nil_Has _ _).mono ?_
  rintro e wx ⟨rfl, rfl⟩
  go_wp2
  go_ret
  exact ⟨rfl, HB3.out⟩
end Go.Proofs.YtdpfjbpfafekfaaDoor
