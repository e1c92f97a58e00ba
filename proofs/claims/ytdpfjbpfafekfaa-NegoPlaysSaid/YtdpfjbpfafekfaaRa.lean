/-
  The reference: an end is made; functions that are common, sorted.
-/
import Derived.Test.YtdpfjbpfafekfaaNv
namespace Go.Proofs.Ytdpfjbpfafekfaa
open Go.RowKit Go.Lib

/-- The reference's end was made: of the config's own functions. -/
def RNewD (T D : ByteArray) (sv : Value) (fs : List Int) (w : World) (e : Ending) (w' : World) : Prop :=
  ∃ g, e = .returned (.tuple #[.pointer (some ⟨g, 0, none⟩), .int .i64 0]) ∧ EndM w' g sv (.slice none 0 0) T D fs 0 ⟨#[]⟩ [] ∧ Below w.heap.size w w' ∧ w.heap.size ≤ g
theorem rnewEnd {w w1 : World} {T D : ByteArray} {v : Value} {fs : List Int} (ho : OwnB w1 v fs) (hb : Below w.heap.size w w1) (t : TypeId) : RNewD T D v fs w (.returned (.tuple #[.pointer (some ⟨w1.heap.size, 0, none⟩), .int .i64 0])) (w1.alloc (.cells #[.string T, .string D, v, .int .i64 0, .string ⟨#[]⟩, .slice none 0 0] t)) := by
  refine ⟨w1.heap.size, rfl, ⟨?_, ?_, ?_, ?_, ?_, ?_, ?_, ho.step (bal (Below.refl _ _) _), OwnB.nil _, fun q => ?_, fun q => by cases q⟩, bal hb _, hb.size⟩
  · simp [go_sem]
  · simp [go_sem]
  · simp [go_sem]
  · simp [go_sem]
  · simp [go_sem]
  · simp [go_sem]
  · intro i hi
    simp [go_sem]
  · have := ho.lt _ q
    omega
set_option maxRecDepth 100000 in
set_option maxHeartbeats 2000000 in
theorem rnew_bad (T D : ByteArray) (x : Option Addr) (n c : Nat) (fs : List Int) (w : World) (ho : OwnB w (.slice x n c) fs) (hn : n = fs.length) (hl : n ≤ 1000) (hT : T.size ≤ 1000) (hD : D.size ≤ 1000) (h : nameOk T D = false) : Calls Try.prog 35 #[.agg #[.string T, .string D, .slice x n c]] w (NoD 4 w) := by
  have HNT := hid (fun W => rname_any T W (by unfold maxLen; omega))
  have HND := hid (fun W => rname_any D W (by unfold maxLen; omega))
  cases h1 : nameB T
  · rw [h1] at HNT
    clear h h1 ho hn
    go_enter Try.func35, Try.ntmps35
    go_wp2_with fail
    with_reducible refine (HNT.out _).mono ?_
    rintro e w1 ⟨rfl, rfl⟩
    go_wp2
    go_ret2
    exact ⟨rfl, bal (Below.refl _ _) _⟩
  · rw [h1] at HNT
    cases h2 : nameB D
    · rw [h2] at HND
      have hd : D.size ≠ 0 := fun q => by
        unfold nameOk at h
        rw [h1, show decide (D.size = 0) = true from decide_eq_true q] at h
        cases h
      have hd1 : 0 < D.size := by omega
      have hd2 : (0 : Int) < D.size := by omega
      clear h h1 h2 ho hn hd
      go_enter Try.func35, Try.ntmps35
      go_wp2_with fail
      with_reducible refine (HNT.out _).mono ?_
      rintro e w1 ⟨rfl, rfl⟩
      go_wp2_with fail
      with_reducible refine (HND.out _).mono ?_
      rintro e w1 ⟨rfl, rfl⟩
      go_wp2
      go_ret2
      exact ⟨rfl, bal (Below.refl _ _) _⟩
    · unfold nameOk at h
      rw [h1, h2] at h
      simp at h
/-- The last one so far. -/
def lastOf (fs : List Int) (k : Nat) : Int := if k = 0 then -1 else fs.getD (k - 1) 0
theorem lastOf_succ (fs : List Int) (k : Nat) : lastOf fs (k + 1) = fs.getD k 0 := by unfold lastOf; rw [if_neg (by omega)]; rfl
theorem lastOf_pos (fs : List Int) {k : Nat} (h : 0 < k) : lastOf fs k = fs.getD (k - 1) 0 := if_neg (by omega)
theorem lastOf_lt {fs : List Int} (h : ∀ x ∈ fs, 0 ≤ x ∧ x < 256) {k : Nat} (hk : k ≤ fs.length) : -1 ≤ lastOf fs k ∧ lastOf fs k < 256 := by
  unfold lastOf
  split
  · omega
  · have := getD_byte h (k - 1) (by omega)
    omega
set_option maxRecDepth 100000 in
set_option maxHeartbeats 2000000 in
theorem rnew_arg_none (T D : ByteArray) (x : Option Addr) (n c : Nat) (fs : List Int) (w : World) (ho : OwnB w (.slice x n c) fs) (hn : n = fs.length) (hl : n ≤ 1000) (hT : T.size ≤ 1000) (hD : D.size ≤ 1000) (hd : D.size = 0) (h : nameOk T D = true) (hf : risesL fs = false) : Calls Try.prog 35 #[.agg #[.string T, .string D, .slice x n c]] w (NoD 1 w) := by
  have HNT := hid (fun W => rname_any T W (by unfold maxLen; omega))
  have HND := hid (fun W => rname_any D W (by unfold maxLen; omega))
  have h1 : nameB T = true := by
    unfold nameOk at h
    cases q : nameB T
    · rw [q] at h
      cases h
    · rfl
  rw [h1] at HNT
  obtain rfl := eq_empty hd
  have HBX := hid (bal (Below.refl w.heap.size w) (.cells #[.string T, .string ⟨#[]⟩, .slice x n c] 76))
  have HRD := hid ho.rdg
  have HOW := hid (ho.step HBX.out)
  have HN := hid hn
  clear h h1 ho hn hd
  go_enter Try.func35, Try.ntmps35
  go_wp2_with fail
  with_reducible refine (HNT.out _).mono ?_
  rintro e w1 ⟨rfl, rfl⟩
  go_wp2
  go_loop [4, 26] (fun la i => ∃ k : Nat, k ≤ n ∧ i = .int .i64 k ∧ la = .int .i64 (lastOf fs k) ∧ Hid (∀ i, i < k → fs.getD i 0 ≤ 4 ∧ (0 < i → fs.getD (i - 1) 0 < fs.getD i 0))) (fun _ i => n - (RowKit.intOf i).toNat)
  case atStart => exact ⟨0, Nat.zero_le _, rfl, rfl, hid (fun i h => absurd h (by omega))⟩
  case round =>
    obtain ⟨k, hk, rfl, rfl, HA⟩ := hrel
    by_cases hlt : k < n
    · have hkx : k < fs.length := by rw [← HN.out]; exact hlt
      have hki : (k : Int) < n := by omega
      obtain ⟨g2, o2, cap2, e2, _, _, h2⟩ := HRD.out.row (fun q => by rw [q] at hkx; cases hkx)
      cases e2
      have c0 := keepc HBX.out (h2 k hkx)
      obtain ⟨b0, b1⟩ := getD_byte HRD.out.1 k hkx
      have HLS := hid (lastOf_succ fs k)
      have hlk := lastOf_lt HRD.out.1 (show k ≤ fs.length by omega)
      clear h2
      by_cases hle : fs.getD k 0 ≤ lastOf fs k
      · have hk0 : 0 < k := by
          rcases Nat.eq_zero_or_pos k with h0 | h0
          · subst h0
            have : lastOf fs 0 = -1 := rfl
            omega
          · exact h0
        have HFL := hid (rises_fall k hkx (fun q => by have := q.2 hk0; rw [lastOf_pos fs hk0] at hle; omega))
        generalize fs.getD k 0 = z at *
        generalize lastOf fs k = y at *
        go_wp2
        go_ret2
        exact ⟨rfl, HBX.out⟩
      · by_cases h4 : (4 : Int) < fs.getD k 0
        · have HFL := hid (rises_fall k hkx (fun q => by omega))
          have hle' : ¬ fs.getD k 0 ≤ lastOf fs k := hle
          generalize fs.getD k 0 = z at *
          generalize lastOf fs k = y at *
          go_wp2
          go_ret2
          exact ⟨rfl, HBX.out⟩
        · have HA2 := hid (show ∀ i, i < k + 1 → fs.getD i 0 ≤ 4 ∧ (0 < i → fs.getD (i - 1) 0 < fs.getD i 0) from fun i hi => by
            by_cases hik : i < k
            · exact HA.out i hik
            · obtain rfl : i = k := by omega
              exact ⟨by omega, fun h0 => by rw [lastOf_pos fs h0] at hle; omega⟩)
          have hw : IntKind.i64.wrap (fs.getD k 0) = fs.getD k 0 := IntWalk.i64_in _ (by omega)
          generalize fs.getD k 0 = z at c0 b0 b1 hle h4 HLS hw
          go_wp2
          go_round
          case rel => exact ⟨k + 1, by omega, by go_num, (by rw [HLS.out]), HA2.out⟩
          case measure => simp [RowKit.intOf]; omega
    · obtain rfl : k = n := by omega
      exact absurd (show risesL fs = true from decide_eq_true (by rw [← HN.out]; exact HA.out)) (by rw [hf]; decide)
set_option maxRecDepth 100000 in
set_option maxHeartbeats 2000000 in
theorem rnew_ok_none (T D : ByteArray) (x : Option Addr) (n c : Nat) (fs : List Int) (w : World) (ho : OwnB w (.slice x n c) fs) (hn : n = fs.length) (hl : n ≤ 1000) (hT : T.size ≤ 1000) (hD : D.size ≤ 1000) (hd : D.size = 0) (h : nameOk T D = true) (hf : risesL fs = true) : Calls Try.prog 35 #[.agg #[.string T, .string D, .slice x n c]] w (RNewD T D (.slice x n c) fs w) := by
  have HNT := hid (fun W => rname_any T W (by unfold maxLen; omega))
  have HND := hid (fun W => rname_any D W (by unfold maxLen; omega))
  have h1 : nameB T = true := by
    unfold nameOk at h
    cases q : nameB T
    · rw [q] at h
      cases h
    · rfl
  rw [h1] at HNT
  obtain rfl := eq_empty hd
  have HBX := hid (bal (Below.refl w.heap.size w) (.cells #[.string T, .string ⟨#[]⟩, .slice x n c] 76))
  have HRD := hid ho.rdg
  have HOW := hid (ho.step HBX.out)
  have HN := hid hn
  clear h h1 ho hn hd
  go_enter Try.func35, Try.ntmps35
  go_wp2_with fail
  with_reducible refine (HNT.out _).mono ?_
  rintro e w1 ⟨rfl, rfl⟩
  go_wp2
  go_loop [4, 26] (fun la i => ∃ k : Nat, k ≤ n ∧ i = .int .i64 k ∧ la = .int .i64 (lastOf fs k) ∧ Hid (∀ i, i < k → fs.getD i 0 ≤ 4 ∧ (0 < i → fs.getD (i - 1) 0 < fs.getD i 0))) (fun _ i => n - (RowKit.intOf i).toNat)
  case atStart => exact ⟨0, Nat.zero_le _, rfl, rfl, hid (fun i h => absurd h (by omega))⟩
  case round =>
    obtain ⟨k, hk, rfl, rfl, HA⟩ := hrel
    by_cases hlt : k < n
    · have hkx : k < fs.length := by rw [← HN.out]; exact hlt
      have hki : (k : Int) < n := by omega
      obtain ⟨g2, o2, cap2, e2, _, _, h2⟩ := HRD.out.row (fun q => by rw [q] at hkx; cases hkx)
      cases e2
      have c0 := keepc HBX.out (h2 k hkx)
      obtain ⟨b0, b1⟩ := getD_byte HRD.out.1 k hkx
      have HLS := hid (lastOf_succ fs k)
      have hlk := lastOf_lt HRD.out.1 (show k ≤ fs.length by omega)
      clear h2
      by_cases hle : fs.getD k 0 ≤ lastOf fs k
      · have hk0 : 0 < k := by
          rcases Nat.eq_zero_or_pos k with h0 | h0
          · subst h0
            have : lastOf fs 0 = -1 := rfl
            omega
          · exact h0
        have HFL := hid (rises_fall k hkx (fun q => by have := q.2 hk0; rw [lastOf_pos fs hk0] at hle; omega))
        exact absurd HFL.out (by rw [hf]; decide)
      · by_cases h4 : (4 : Int) < fs.getD k 0
        · have HFL := hid (rises_fall k hkx (fun q => by omega))
          exact absurd HFL.out (by rw [hf]; decide)
        · have HA2 := hid (show ∀ i, i < k + 1 → fs.getD i 0 ≤ 4 ∧ (0 < i → fs.getD (i - 1) 0 < fs.getD i 0) from fun i hi => by
            by_cases hik : i < k
            · exact HA.out i hik
            · obtain rfl : i = k := by omega
              exact ⟨by omega, fun h0 => by rw [lastOf_pos fs h0] at hle; omega⟩)
          have hw : IntKind.i64.wrap (fs.getD k 0) = fs.getD k 0 := IntWalk.i64_in _ (by omega)
          generalize fs.getD k 0 = z at c0 b0 b1 hle h4 HLS hw
          go_wp2
          go_round
          case rel => exact ⟨k + 1, by omega, by go_num, (by rw [HLS.out]), HA2.out⟩
          case measure => simp [RowKit.intOf]; omega
    · obtain rfl : k = n := by omega
      have HX := hid (rnewEnd (T := T) (D := ⟨#[]⟩) HOW.out HBX.out 90)
      rw [World.size_alloc] at HX
      go_wp2
      go_ret2
      exact HX.out
set_option maxRecDepth 100000 in
set_option maxHeartbeats 2000000 in
theorem rnew_arg_some (T D : ByteArray) (x : Option Addr) (n c : Nat) (fs : List Int) (w : World) (ho : OwnB w (.slice x n c) fs) (hn : n = fs.length) (hl : n ≤ 1000) (hT : T.size ≤ 1000) (hD : D.size ≤ 1000) (hd : D.size ≠ 0) (h : nameOk T D = true) (hf : risesL fs = false) : Calls Try.prog 35 #[.agg #[.string T, .string D, .slice x n c]] w (NoD 1 w) := by
  have HNT := hid (fun W => rname_any T W (by unfold maxLen; omega))
  have HND := hid (fun W => rname_any D W (by unfold maxLen; omega))
  have h1 : nameB T = true := by
    unfold nameOk at h
    cases q : nameB T
    · rw [q] at h
      cases h
    · rfl
  rw [h1] at HNT
  have h2 : nameB D = true := by
    unfold nameOk at h
    rw [h1, show decide (D.size = 0) = false from decide_eq_false hd] at h
    simpa using h
  rw [h2] at HND
  clear h2
  have hd1 : 0 < D.size := by omega
  have hd2 : (0 : Int) < D.size := by omega
  have HBX := hid (bal (Below.refl w.heap.size w) (.cells #[.string T, .string D, .slice x n c] 76))
  have HRD := hid ho.rdg
  have HOW := hid (ho.step HBX.out)
  have HN := hid hn
  clear h h1 ho hn hd
  go_enter Try.func35, Try.ntmps35
  go_wp2_with fail
  with_reducible refine (HNT.out _).mono ?_
  rintro e w1 ⟨rfl, rfl⟩
  go_wp2_with fail
  with_reducible refine (HND.out _).mono ?_
  rintro e w1 ⟨rfl, rfl⟩
  go_wp2
  go_loop [4, 26] (fun la i => ∃ k : Nat, k ≤ n ∧ i = .int .i64 k ∧ la = .int .i64 (lastOf fs k) ∧ Hid (∀ i, i < k → fs.getD i 0 ≤ 4 ∧ (0 < i → fs.getD (i - 1) 0 < fs.getD i 0))) (fun _ i => n - (RowKit.intOf i).toNat)
  case atStart => exact ⟨0, Nat.zero_le _, rfl, rfl, hid (fun i h => absurd h (by omega))⟩
  case round =>
    obtain ⟨k, hk, rfl, rfl, HA⟩ := hrel
    by_cases hlt : k < n
    · have hkx : k < fs.length := by rw [← HN.out]; exact hlt
      have hki : (k : Int) < n := by omega
      obtain ⟨g2, o2, cap2, e2, _, _, h2⟩ := HRD.out.row (fun q => by rw [q] at hkx; cases hkx)
      cases e2
      have c0 := keepc HBX.out (h2 k hkx)
      obtain ⟨b0, b1⟩ := getD_byte HRD.out.1 k hkx
      have HLS := hid (lastOf_succ fs k)
      have hlk := lastOf_lt HRD.out.1 (show k ≤ fs.length by omega)
      clear h2
      by_cases hle : fs.getD k 0 ≤ lastOf fs k
      · have hk0 : 0 < k := by
          rcases Nat.eq_zero_or_pos k with h0 | h0
          · subst h0
            have : lastOf fs 0 = -1 := rfl
            omega
          · exact h0
        have HFL := hid (rises_fall k hkx (fun q => by have := q.2 hk0; rw [lastOf_pos fs hk0] at hle; omega))
        generalize fs.getD k 0 = z at *
        generalize lastOf fs k = y at *
        go_wp2
        go_ret2
        exact ⟨rfl, HBX.out⟩
      · by_cases h4 : (4 : Int) < fs.getD k 0
        · have HFL := hid (rises_fall k hkx (fun q => by omega))
          have hle' : ¬ fs.getD k 0 ≤ lastOf fs k := hle
          generalize fs.getD k 0 = z at *
          generalize lastOf fs k = y at *
          go_wp2
          go_ret2
          exact ⟨rfl, HBX.out⟩
        · have HA2 := hid (show ∀ i, i < k + 1 → fs.getD i 0 ≤ 4 ∧ (0 < i → fs.getD (i - 1) 0 < fs.getD i 0) from fun i hi => by
            by_cases hik : i < k
            · exact HA.out i hik
            · obtain rfl : i = k := by omega
              exact ⟨by omega, fun h0 => by rw [lastOf_pos fs h0] at hle; omega⟩)
          have hw : IntKind.i64.wrap (fs.getD k 0) = fs.getD k 0 := IntWalk.i64_in _ (by omega)
          generalize fs.getD k 0 = z at c0 b0 b1 hle h4 HLS hw
          go_wp2
          go_round
          case rel => exact ⟨k + 1, by omega, by go_num, (by rw [HLS.out]), HA2.out⟩
          case measure => simp [RowKit.intOf]; omega
    · obtain rfl : k = n := by omega
      exact absurd (show risesL fs = true from decide_eq_true (by rw [← HN.out]; exact HA.out)) (by rw [hf]; decide)
set_option maxRecDepth 100000 in
set_option maxHeartbeats 2000000 in
theorem rnew_ok_some (T D : ByteArray) (x : Option Addr) (n c : Nat) (fs : List Int) (w : World) (ho : OwnB w (.slice x n c) fs) (hn : n = fs.length) (hl : n ≤ 1000) (hT : T.size ≤ 1000) (hD : D.size ≤ 1000) (hd : D.size ≠ 0) (h : nameOk T D = true) (hf : risesL fs = true) : Calls Try.prog 35 #[.agg #[.string T, .string D, .slice x n c]] w (RNewD T D (.slice x n c) fs w) := by
  have HNT := hid (fun W => rname_any T W (by unfold maxLen; omega))
  have HND := hid (fun W => rname_any D W (by unfold maxLen; omega))
  have h1 : nameB T = true := by
    unfold nameOk at h
    cases q : nameB T
    · rw [q] at h
      cases h
    · rfl
  rw [h1] at HNT
  have h2 : nameB D = true := by
    unfold nameOk at h
    rw [h1, show decide (D.size = 0) = false from decide_eq_false hd] at h
    simpa using h
  rw [h2] at HND
  clear h2
  have hd1 : 0 < D.size := by omega
  have hd2 : (0 : Int) < D.size := by omega
  have HBX := hid (bal (Below.refl w.heap.size w) (.cells #[.string T, .string D, .slice x n c] 76))
  have HRD := hid ho.rdg
  have HOW := hid (ho.step HBX.out)
  have HN := hid hn
  clear h h1 ho hn hd
  go_enter Try.func35, Try.ntmps35
  go_wp2_with fail
  with_reducible refine (HNT.out _).mono ?_
  rintro e w1 ⟨rfl, rfl⟩
  go_wp2_with fail
  with_reducible refine (HND.out _).mono ?_
  rintro e w1 ⟨rfl, rfl⟩
  go_wp2
  go_loop [4, 26] (fun la i => ∃ k : Nat, k ≤ n ∧ i = .int .i64 k ∧ la = .int .i64 (lastOf fs k) ∧ Hid (∀ i, i < k → fs.getD i 0 ≤ 4 ∧ (0 < i → fs.getD (i - 1) 0 < fs.getD i 0))) (fun _ i => n - (RowKit.intOf i).toNat)
  case atStart => exact ⟨0, Nat.zero_le _, rfl, rfl, hid (fun i h => absurd h (by omega))⟩
  case round =>
    obtain ⟨k, hk, rfl, rfl, HA⟩ := hrel
    by_cases hlt : k < n
    · have hkx : k < fs.length := by rw [← HN.out]; exact hlt
      have hki : (k : Int) < n := by omega
      obtain ⟨g2, o2, cap2, e2, _, _, h2⟩ := HRD.out.row (fun q => by rw [q] at hkx; cases hkx)
      cases e2
      have c0 := keepc HBX.out (h2 k hkx)
      obtain ⟨b0, b1⟩ := getD_byte HRD.out.1 k hkx
      have HLS := hid (lastOf_succ fs k)
      have hlk := lastOf_lt HRD.out.1 (show k ≤ fs.length by omega)
      clear h2
      by_cases hle : fs.getD k 0 ≤ lastOf fs k
      · have hk0 : 0 < k := by
          rcases Nat.eq_zero_or_pos k with h0 | h0
          · subst h0
            have : lastOf fs 0 = -1 := rfl
            omega
          · exact h0
        have HFL := hid (rises_fall k hkx (fun q => by have := q.2 hk0; rw [lastOf_pos fs hk0] at hle; omega))
        exact absurd HFL.out (by rw [hf]; decide)
      · by_cases h4 : (4 : Int) < fs.getD k 0
        · have HFL := hid (rises_fall k hkx (fun q => by omega))
          exact absurd HFL.out (by rw [hf]; decide)
        · have HA2 := hid (show ∀ i, i < k + 1 → fs.getD i 0 ≤ 4 ∧ (0 < i → fs.getD (i - 1) 0 < fs.getD i 0) from fun i hi => by
            by_cases hik : i < k
            · exact HA.out i hik
            · obtain rfl : i = k := by omega
              exact ⟨by omega, fun h0 => by rw [lastOf_pos fs h0] at hle; omega⟩)
          have hw : IntKind.i64.wrap (fs.getD k 0) = fs.getD k 0 := IntWalk.i64_in _ (by omega)
          generalize fs.getD k 0 = z at c0 b0 b1 hle h4 HLS hw
          go_wp2
          go_round
          case rel => exact ⟨k + 1, by omega, by go_num, (by rw [HLS.out]), HA2.out⟩
          case measure => simp [RowKit.intOf]; omega
    · obtain rfl : k = n := by omega
      have HX := hid (rnewEnd (T := T) (D := D) HOW.out HBX.out 90)
      rw [World.size_alloc] at HX
      go_wp2
      go_ret2
      exact HX.out
end Go.Proofs.Ytdpfjbpfafekfaa
