/-
  Names, messages and states, as plain lists: what an end of a terminal takes and answers.
-/
import Derived.Test.YtdpfjbpfafekfaaBd
namespace Go.Proofs.Ytdpfjbpfafekfaa
open Go.RowKit Go.Lib

/-- A byte of a name. -/
def okC (c : UInt8) : Bool := decide (33 ≤ c.toNat) && decide (c.toNat ≤ 126)
/-- A name. -/
def nameB (s : ByteArray) : Bool := decide (1 ≤ s.size) && decide (s.size ≤ 40) && s.data.toList.all okC
theorem okC_true {c : UInt8} (h1 : ¬ (c.toNat : Int) < 33) (h2 : ¬ (126 : Int) < c.toNat) : okC c = true := by unfold okC; simp; omega
theorem okC_lo {c : UInt8} (h1 : (c.toNat : Int) < 33) : okC c = false := by unfold okC; simp; omega
theorem okC_hi {c : UInt8} (h1 : (126 : Int) < c.toNat) : okC c = false := by unfold okC; simp; omega
theorem take_snocC (s : ByteArray) (k : Nat) (h : k < s.size) : s.data.toList.take (k + 1) = s.data.toList.take k ++ [s[k]] := by
  rw [List.take_succ_eq_append_getElem (by simpa using h)]; rfl
theorem all_snoc (s : ByteArray) (k : Nat) (h : k < s.size) (ha : (s.data.toList.take k).all okC = true) (hc : okC s[k] = true) : (s.data.toList.take (k + 1)).all okC = true := by
  rw [take_snocC s k h, List.all_append, ha]
  simp [hc]
theorem all_fall (s : ByteArray) (k : Nat) (h : k < s.size) (hc : okC s[k] = false) : nameB s = false := by
  unfold nameB
  have : s.data.toList.all okC = false := by
    rw [List.all_eq_false]
    exact ⟨s[k], by show s.data[k] ∈ _; simp, by rw [hc]; simp⟩
  rw [this]
  simp
theorem name_full (s : ByteArray) (h1 : 1 ≤ s.size) (h2 : s.size ≤ 40) (ha : (s.data.toList.take s.size).all okC = true) : nameB s = true := by
  rw [List.take_of_length_le (by simp)] at ha
  unfold nameB
  rw [ha]
  simp [h1, h2]
theorem name_short (s : ByteArray) (h1 : s.size < 1) : nameB s = false := by
  unfold nameB
  rw [show decide (1 ≤ s.size) = false from decide_eq_false (by omega)]
  rfl
theorem name_long (s : ByteArray) (h1 : 40 < s.size) : nameB s = false := by
  unfold nameB
  rw [show decide (s.size ≤ 40) = false from decide_eq_false (by omega)]
  simp
theorem name_fit {s : ByteArray} (h : nameB s = true) : 1 ≤ s.size ∧ s.size ≤ 40 := by
  unfold nameB at h
  simp at h
  omega
set_option maxRecDepth 100000 in
set_option maxHeartbeats 2000000 in
theorem name_any (s : ByteArray) (w : World) (hs : s.size ≤ maxLen) : Calls Try.prog 60 #[.string s] w fun e w' => e = .returned (.bool (nameB s)) ∧ w = w' := by
  unfold maxLen at hs
  by_cases h1 : s.size < 1
  · have H := hid (name_short s h1)
    go_enter Try.func60, Try.ntmps60
    go_wp2
    go_ret
    exact ⟨(by rw [H.out]; rfl), rfl⟩
  by_cases h2 : 40 < s.size
  · have H := hid (name_long s h2)
    have h2' : (40 : Int) < s.size := by omega
    go_enter Try.func60, Try.ntmps60
    go_wp2
    go_ret
    exact ⟨(by rw [H.out]; rfl), rfl⟩
  have h2' : ¬ (40 : Int) < s.size := by omega
  go_enter Try.func60, Try.ntmps60
  go_wp2
  go_loop [14] (fun i => ∃ k : Nat, k ≤ s.size ∧ i = .int .i64 k ∧ Hid ((s.data.toList.take k).all okC = true)) (fun i => s.size - (intOf i).toNat)
  case atStart => exact ⟨0, Nat.zero_le _, rfl, hid (by simp)⟩
  case round =>
    obtain ⟨k, hk, rfl, HA⟩ := hrel
    by_cases hlt : k < s.size
    · by_cases c1 : (s[k].toNat : Int) < 33
      · have H := hid (all_fall s k hlt (okC_lo c1))
        go_wp2
        go_ret
        exact ⟨(by rw [H.out]; rfl), rfl⟩
      · by_cases c2 : (126 : Int) < s[k].toNat
        · have H := hid (all_fall s k hlt (okC_hi c2))
          go_wp2
          go_ret
          exact ⟨(by rw [H.out]; rfl), rfl⟩
        · have H := hid (all_snoc s k hlt HA.out (okC_true c1 c2))
          go_wp2
          go_round
          case rel => exact ⟨k + 1, by omega, by go_num, H.out⟩
          case measure => simp [intOf]; omega
    · obtain rfl : k = s.size := by omega
      have H := hid (name_full s (by omega) (by omega) HA.out)
      go_wp2
      go_ret
      exact ⟨(by rw [H.out]; rfl), rfl⟩
set_option maxRecDepth 100000 in
set_option maxHeartbeats 2000000 in
theorem rname_any (s : ByteArray) (w : World) (hs : s.size ≤ maxLen) : Calls Try.prog 42 #[.string s] w fun e w' => e = .returned (.bool (nameB s)) ∧ w = w' := by
  unfold maxLen at hs
  go_enter Try.func42, Try.ntmps42
  go_wp2
  go_loop [3] (fun i => ∃ k : Nat, k ≤ s.size ∧ i = .int .i64 k ∧ Hid ((s.data.toList.take k).all okC = true)) (fun i => s.size - (intOf i).toNat)
  case atStart => exact ⟨0, Nat.zero_le _, rfl, hid (by simp)⟩
  case round =>
    obtain ⟨k, hk, rfl, HA⟩ := hrel
    by_cases hlt : k < s.size
    · by_cases c1 : (s[k].toNat : Int) < 33
      · have H := hid (all_fall s k hlt (okC_lo c1))
        go_wp2
        go_ret
        exact ⟨(by rw [H.out]; rfl), rfl⟩
      · by_cases c2 : (126 : Int) < s[k].toNat
        · have H := hid (all_fall s k hlt (okC_hi c2))
          go_wp2
          go_ret
          exact ⟨(by rw [H.out]; rfl), rfl⟩
        · have H := hid (all_snoc s k hlt HA.out (okC_true c1 c2))
          go_wp2
          go_round
          case rel => exact ⟨k + 1, by omega, by go_num, H.out⟩
          case measure => simp [intOf]; omega
    · obtain rfl : k = s.size := by omega
      by_cases h1 : s.size < 1
      · have H := hid (name_short s h1)
        have h1' : ¬ (1 : Int) ≤ s.size := by omega
        go_wp2
        go_ret
        exact ⟨(by rw [H.out]; rfl), rfl⟩
      by_cases h2 : 40 < s.size
      · have H := hid (name_long s h2)
        have h1' : (1 : Int) ≤ s.size := by omega
        have h2' : ¬ (s.size : Int) ≤ 40 := by omega
        go_wp2
        go_ret
        exact ⟨(by rw [H.out]; rfl), rfl⟩
      have H := hid (name_full s (by omega) (by omega) HA.out)
      have h1' : (1 : Int) ≤ s.size := by omega
      have h2' : (s.size : Int) ≤ 40 := by omega
      go_wp2
      go_ret
      exact ⟨(by rw [H.out]; rfl), rfl⟩
end Go.Proofs.Ytdpfjbpfafekfaa
