/-
  Extended attributes: which there are; the program's and the reference's.
-/
import Derived.Test.YtpnfdmfmdacjmaaFlb
namespace Go.Proofs.Ytpnfdmfmdacjmaa
open Go.RowKit Go.Lib

/-- The values of a type. -/
def rightL (t : Nat) : List Nat := if t = 0 then [0] else if t = 65 then [0, 240, 241, 242, 244, 248] else if t = 66 then [0, 241, 242, 243, 244, 245, 246, 247] else if t = 67 then [0, 241] else []
/-- Is it one? -/
def knownB (t v : Nat) : Bool := t == 192 || (rightL t).contains v
abbrev pairV (t v : Nat) : Value := .agg #[.int .u8 t, .int .u8 v]
theorem known_192 (v : Nat) : knownB 192 v = true := rfl
theorem known_none {t : Nat} (v : Nat) (h0 : t ≠ 0) (h1 : t ≠ 65) (h2 : t ≠ 66) (h3 : t ≠ 67) (h4 : t ≠ 192) : knownB t v = false := by
  unfold knownB rightL
  rw [if_neg h0, if_neg h1, if_neg h2, if_neg h3]
  simp [h4]
theorem known_0 (v : Nat) : knownB 0 v = [0].contains v := rfl
theorem known_65 (v : Nat) : knownB 65 v = [0, 240, 241, 242, 244, 248].contains v := rfl
theorem known_66 (v : Nat) : knownB 66 v = [0, 241, 242, 243, 244, 245, 246, 247].contains v := rfl
theorem known_67 (v : Nat) : knownB 67 v = [0, 241].contains v := rfl
set_option maxRecDepth 100000 in
set_option maxHeartbeats 1000000 in
theorem is_0 (v : Nat) (_hv : v < 256) (w : World) : Calls Try.prog 77 #[pairV 0 v] w fun e w' => e = .returned (.bool (knownB 0 v)) ∧ Below w.heap.size w w' := by
  rw [known_0]
  by_cases hm : v = 0
  · rcases hm with rfl
    all_goals
      go_enter Try.func77, Try.ntmps77
      go_wp2
      go_ret
      exact ⟨rfl, (Below.refl _ _).alloc (Nat.le_refl _) _⟩
  · have hb : [0].contains v = false := by simp; omega
    rw [hb]
    have e0 : ((v : Int) == 0) = false := by simp; omega
    clear hm hb
    go_enter Try.func77, Try.ntmps77
    go_wp2
    go_ret
    exact ⟨rfl, (Below.refl _ _).alloc (Nat.le_refl _) _⟩
set_option maxRecDepth 100000 in
set_option maxHeartbeats 1000000 in
theorem is_65 (v : Nat) (_hv : v < 256) (w : World) : Calls Try.prog 77 #[pairV 65 v] w fun e w' => e = .returned (.bool (knownB 65 v)) ∧ Below w.heap.size w w' := by
  rw [known_65]
  by_cases hm : v = 0 ∨ v = 240 ∨ v = 241 ∨ v = 242 ∨ v = 244 ∨ v = 248
  · rcases hm with rfl | rfl | rfl | rfl | rfl | rfl
    all_goals
      go_enter Try.func77, Try.ntmps77
      go_wp2
      go_ret
      exact ⟨rfl, (Below.refl _ _).alloc (Nat.le_refl _) _⟩
  · have hb : [0, 240, 241, 242, 244, 248].contains v = false := by simp; omega
    rw [hb]
    have e0 : ((v : Int) == 0) = false := by simp; omega
    have e240 : ((v : Int) == 240) = false := by simp; omega
    have e241 : ((v : Int) == 241) = false := by simp; omega
    have e242 : ((v : Int) == 242) = false := by simp; omega
    have e244 : ((v : Int) == 244) = false := by simp; omega
    have e248 : ((v : Int) == 248) = false := by simp; omega
    clear hm hb
    go_enter Try.func77, Try.ntmps77
    go_wp2
    go_ret
    exact ⟨rfl, (Below.refl _ _).alloc (Nat.le_refl _) _⟩
set_option maxRecDepth 100000 in
set_option maxHeartbeats 1000000 in
theorem is_66 (v : Nat) (_hv : v < 256) (w : World) : Calls Try.prog 77 #[pairV 66 v] w fun e w' => e = .returned (.bool (knownB 66 v)) ∧ Below w.heap.size w w' := by
  rw [known_66]
  by_cases hm : v = 0 ∨ v = 241 ∨ v = 242 ∨ v = 243 ∨ v = 244 ∨ v = 245 ∨ v = 246 ∨ v = 247
  · rcases hm with rfl | rfl | rfl | rfl | rfl | rfl | rfl | rfl
    all_goals
      go_enter Try.func77, Try.ntmps77
      go_wp2
      go_ret
      exact ⟨rfl, (Below.refl _ _).alloc (Nat.le_refl _) _⟩
  · have hb : [0, 241, 242, 243, 244, 245, 246, 247].contains v = false := by simp; omega
    rw [hb]
    have e0 : ((v : Int) == 0) = false := by simp; omega
    by_cases q1 : (241 : Int) ≤ v
    · have q2 : ¬ (v : Int) ≤ 247 := by omega
      clear hm hb
      go_enter Try.func77, Try.ntmps77
      go_wp2
      go_ret
      exact ⟨rfl, (Below.refl _ _).alloc (Nat.le_refl _) _⟩
    · clear hm hb
      go_enter Try.func77, Try.ntmps77
      go_wp2
      go_ret
      exact ⟨rfl, (Below.refl _ _).alloc (Nat.le_refl _) _⟩
set_option maxRecDepth 100000 in
set_option maxHeartbeats 1000000 in
theorem is_67 (v : Nat) (_hv : v < 256) (w : World) : Calls Try.prog 77 #[pairV 67 v] w fun e w' => e = .returned (.bool (knownB 67 v)) ∧ Below w.heap.size w w' := by
  rw [known_67]
  by_cases hm : v = 0 ∨ v = 241
  · rcases hm with rfl | rfl
    all_goals
      go_enter Try.func77, Try.ntmps77
      go_wp2
      go_ret
      exact ⟨rfl, (Below.refl _ _).alloc (Nat.le_refl _) _⟩
  · have hb : [0, 241].contains v = false := by simp; omega
    rw [hb]
    have e0 : ((v : Int) == 0) = false := by simp; omega
    have e241 : ((v : Int) == 241) = false := by simp; omega
    clear hm hb
    go_enter Try.func77, Try.ntmps77
    go_wp2
    go_ret
    exact ⟨rfl, (Below.refl _ _).alloc (Nat.le_refl _) _⟩
set_option maxRecDepth 100000 in
set_option maxHeartbeats 1000000 in
theorem is_192 (v : Nat) (w : World) : Calls Try.prog 77 #[pairV 192 v] w fun e w' => e = .returned (.bool true) ∧ Below w.heap.size w w' := by
  go_enter Try.func77, Try.ntmps77
  go_wp2
  go_ret
  exact ⟨rfl, (Below.refl _ _).alloc (Nat.le_refl _) _⟩
set_option maxRecDepth 100000 in
set_option maxHeartbeats 1000000 in
theorem is_none (t v : Nat) (h0 : t ≠ 0) (h1 : t ≠ 65) (h2 : t ≠ 66) (h3 : t ≠ 67) (h4 : t ≠ 192) (w : World) : Calls Try.prog 77 #[pairV t v] w fun e w' => e = .returned (.bool false) ∧ Below w.heap.size w w' := by
  have e0 : ((t : Int) == 0) = false := by simp; omega
  have e1 : ((t : Int) == 65) = false := by simp; omega
  have e2 : ((t : Int) == 66) = false := by simp; omega
  have e3 : ((t : Int) == 67) = false := by simp; omega
  have e4 : ((t : Int) == 192) = false := by simp; omega
  clear h0 h1 h2 h3 h4
  go_enter Try.func77, Try.ntmps77
  go_wp2
  go_ret
  exact ⟨rfl, (Below.refl _ _).alloc (Nat.le_refl _) _⟩
theorem is_any (t v : Nat) (hv : v < 256) (w : World) : Calls Try.prog 77 #[pairV t v] w fun e w' => e = .returned (.bool (knownB t v)) ∧ Below w.heap.size w w' := by
  by_cases h0 : t = 0
  · subst h0; exact is_0 v hv w
  by_cases h1 : t = 65
  · subst h1; exact is_65 v hv w
  by_cases h2 : t = 66
  · subst h2; exact is_66 v hv w
  by_cases h3 : t = 67
  · subst h3; exact is_67 v hv w
  by_cases h4 : t = 192
  · subst h4; exact is_192 v w
  rw [known_none v h0 h1 h2 h3 h4]
  exact is_none t v h0 h1 h2 h3 h4 w
set_option maxRecDepth 100000 in
set_option maxHeartbeats 1000000 in
theorem check_any (t v : Nat) (hv : v < 256) (w : World) : Calls Try.prog 57 #[pairV t v] w fun e w' => e = .returned (.int .i64 (if knownB t v then 0 else 10)) ∧ Below w.heap.size w w' := by
  have H := hid (is_any t v hv)
  cases hk : knownB t v
  all_goals
    rw [hk] at H
    clear hk
    go_enter Try.func57, Try.ntmps57
    go_wp2_with fail
    with_reducible refine (H.out _).mono ?_
    rintro e w1 ⟨rfl, hb1⟩
    have H1 := hid hb1
    clear hb1
    go_wp2
    go_ret
    exact ⟨rfl, ((Below.refl _ _).alloc (Nat.le_refl _) _).trans (H1.out.mono (by simp))⟩
set_option maxRecDepth 100000 in
set_option maxHeartbeats 1000000 in
theorem right_0 (v : Nat) (hv : v < 256) (w : World) : Calls Try.prog 58 #[pairV 0 v] w fun e w' => e = .returned (.bool (knownB 0 v)) ∧ Below w.heap.size w w' := by
  obtain ⟨Bv, hBv⟩ : ∃ Bv, Bv = knownB 0 v := ⟨_, rfl⟩
  rw [← hBv]
  have HBV := hid hBv
  clear hBv
  go_enter Try.func58, Try.ntmps58
  go_wp2
  have HCC : ∀ k, k < 1 → ((w.alloc (.cells #[.int .u8 0, .int .u8 v] 78)).alloc (.cells #[.int .u8 0] 5)).cell? ⟨w.heap.size + 1, k, none⟩ = some (.int .u8 (([0].getD k 0 : Nat) : Int)) := by
    intro k hk
    match k, hk with
    | 0, _ => simp [go_sem]
  have hv1 : ((w.alloc (.cells #[.int .u8 0, .int .u8 v] 78)).alloc (.cells #[.int .u8 0] 5)).cell? ⟨w.heap.size, 1, none⟩ = some (.int .u8 v) := by simp [go_sem]
  have HB := hid (((Below.refl w.heap.size w).alloc (Nat.le_refl _) (.cells #[.int .u8 0, .int .u8 v] 78)).alloc (by simp) (.cells #[.int .u8 0] 5))
  generalize (w.alloc (.cells #[.int .u8 0, .int .u8 v] 78)).alloc (.cells #[.int .u8 0] 5) = W at HCC hv1 HB ⊢
  obtain ⟨g, hg⟩ : ∃ g, g = w.heap.size + 1 := ⟨_, rfl⟩
  rw [← hg] at HCC ⊢
  clear hg
  have HC := hid HCC
  clear HCC
  go_loop [24] (fun i => ∃ k : Nat, k ≤ 1 ∧ i = .int .i64 k ∧ Hid (∀ j, j < k → [0].getD j 0 ≠ v)) (fun i => 1 - (intOf i).toNat)
  case atStart => exact ⟨0, Nat.zero_le _, rfl, fun j h => absurd h (Nat.not_lt_zero _)⟩
  case round =>
    obtain ⟨k, hk, rfl, HN⟩ := hrel
    by_cases hlt : k < 1
    · have hc := HC.out k hlt
      have hki : (k : Int) < 1 := by omega
      obtain ⟨x, hx⟩ : ∃ x, x = [0].getD k 0 := ⟨_, rfl⟩
      rw [← hx] at hc
      by_cases hv' : x = v
      · have HR : Hid ([0].contains v = true) := by show _ = true; rw [← hv', hx]; exact (show ∀ k, k < 1 → [0].contains ([0].getD k 0) = true by decide) k hlt
        subst hv'
        clear hx
        go_wp2
        go_ret
        exact ⟨by rw [HBV.out, known_0, HR.out]; rfl, HB.out⟩
      · have HX := hid hx
        have e1 : ((x : Int) == (v : Int)) = false := by simp; omega
        clear hx
        go_wp2
        go_round
        case rel =>
          refine ⟨k + 1, by omega, by go_num, fun j hj => ?_⟩
          by_cases hjk : j = k
          · rw [hjk, ← HX.out]; exact hv'
          · exact HN.out j (by omega)
        case measure => simp [intOf]; omega
    · have HR : Hid ([0].contains v = false) := by
        show _ = false
        have hn := HN.out
        obtain rfl : k = 1 := by omega
        have q := fun j hj => hn j hj
        have q0 := q 0 (by decide); simp at q0
        simp
        omega
      go_wp2
      go_ret
      exact ⟨by rw [HBV.out, known_0, HR.out]; rfl, HB.out⟩
set_option maxRecDepth 100000 in
set_option maxHeartbeats 1000000 in
theorem right_65 (v : Nat) (hv : v < 256) (w : World) : Calls Try.prog 58 #[pairV 65 v] w fun e w' => e = .returned (.bool (knownB 65 v)) ∧ Below w.heap.size w w' := by
  obtain ⟨Bv, hBv⟩ : ∃ Bv, Bv = knownB 65 v := ⟨_, rfl⟩
  rw [← hBv]
  have HBV := hid hBv
  clear hBv
  go_enter Try.func58, Try.ntmps58
  go_wp2
  have HCC : ∀ k, k < 6 → ((w.alloc (.cells #[.int .u8 65, .int .u8 v] 78)).alloc (.cells #[.int .u8 0, .int .u8 240, .int .u8 241, .int .u8 242, .int .u8 244, .int .u8 248] 5)).cell? ⟨w.heap.size + 1, k, none⟩ = some (.int .u8 (([0, 240, 241, 242, 244, 248].getD k 0 : Nat) : Int)) := by
    intro k hk
    match k, hk with
    | 0, _ => simp [go_sem]
    | 1, _ => simp [go_sem]
    | 2, _ => simp [go_sem]
    | 3, _ => simp [go_sem]
    | 4, _ => simp [go_sem]
    | 5, _ => simp [go_sem]
  have hv1 : ((w.alloc (.cells #[.int .u8 65, .int .u8 v] 78)).alloc (.cells #[.int .u8 0, .int .u8 240, .int .u8 241, .int .u8 242, .int .u8 244, .int .u8 248] 5)).cell? ⟨w.heap.size, 1, none⟩ = some (.int .u8 v) := by simp [go_sem]
  have HB := hid (((Below.refl w.heap.size w).alloc (Nat.le_refl _) (.cells #[.int .u8 65, .int .u8 v] 78)).alloc (by simp) (.cells #[.int .u8 0, .int .u8 240, .int .u8 241, .int .u8 242, .int .u8 244, .int .u8 248] 5))
  generalize (w.alloc (.cells #[.int .u8 65, .int .u8 v] 78)).alloc (.cells #[.int .u8 0, .int .u8 240, .int .u8 241, .int .u8 242, .int .u8 244, .int .u8 248] 5) = W at HCC hv1 HB ⊢
  obtain ⟨g, hg⟩ : ∃ g, g = w.heap.size + 1 := ⟨_, rfl⟩
  rw [← hg] at HCC ⊢
  clear hg
  have HC := hid HCC
  clear HCC
  go_loop [24] (fun i => ∃ k : Nat, k ≤ 6 ∧ i = .int .i64 k ∧ Hid (∀ j, j < k → [0, 240, 241, 242, 244, 248].getD j 0 ≠ v)) (fun i => 6 - (intOf i).toNat)
  case atStart => exact ⟨0, Nat.zero_le _, rfl, fun j h => absurd h (Nat.not_lt_zero _)⟩
  case round =>
    obtain ⟨k, hk, rfl, HN⟩ := hrel
    by_cases hlt : k < 6
    · have hc := HC.out k hlt
      have hki : (k : Int) < 6 := by omega
      obtain ⟨x, hx⟩ : ∃ x, x = [0, 240, 241, 242, 244, 248].getD k 0 := ⟨_, rfl⟩
      rw [← hx] at hc
      by_cases hv' : x = v
      · have HR : Hid ([0, 240, 241, 242, 244, 248].contains v = true) := by show _ = true; rw [← hv', hx]; exact (show ∀ k, k < 6 → [0, 240, 241, 242, 244, 248].contains ([0, 240, 241, 242, 244, 248].getD k 0) = true by decide) k hlt
        subst hv'
        clear hx
        go_wp2
        go_ret
        exact ⟨by rw [HBV.out, known_65, HR.out]; rfl, HB.out⟩
      · have HX := hid hx
        have e1 : ((x : Int) == (v : Int)) = false := by simp; omega
        clear hx
        go_wp2
        go_round
        case rel =>
          refine ⟨k + 1, by omega, by go_num, fun j hj => ?_⟩
          by_cases hjk : j = k
          · rw [hjk, ← HX.out]; exact hv'
          · exact HN.out j (by omega)
        case measure => simp [intOf]; omega
    · have HR : Hid ([0, 240, 241, 242, 244, 248].contains v = false) := by
        show _ = false
        have hn := HN.out
        obtain rfl : k = 6 := by omega
        have q := fun j hj => hn j hj
        have q0 := q 0 (by decide); have q1 := q 1 (by decide); have q2 := q 2 (by decide); have q3 := q 3 (by decide); have q4 := q 4 (by decide); have q5 := q 5 (by decide); simp at q0 q1 q2 q3 q4 q5
        simp
        omega
      go_wp2
      go_ret
      exact ⟨by rw [HBV.out, known_65, HR.out]; rfl, HB.out⟩
set_option maxRecDepth 100000 in
set_option maxHeartbeats 1000000 in
theorem right_66 (v : Nat) (hv : v < 256) (w : World) : Calls Try.prog 58 #[pairV 66 v] w fun e w' => e = .returned (.bool (knownB 66 v)) ∧ Below w.heap.size w w' := by
  obtain ⟨Bv, hBv⟩ : ∃ Bv, Bv = knownB 66 v := ⟨_, rfl⟩
  rw [← hBv]
  have HBV := hid hBv
  clear hBv
  go_enter Try.func58, Try.ntmps58
  go_wp2
  have HCC : ∀ k, k < 8 → ((w.alloc (.cells #[.int .u8 66, .int .u8 v] 78)).alloc (.cells #[.int .u8 0, .int .u8 241, .int .u8 242, .int .u8 243, .int .u8 244, .int .u8 245, .int .u8 246, .int .u8 247] 5)).cell? ⟨w.heap.size + 1, k, none⟩ = some (.int .u8 (([0, 241, 242, 243, 244, 245, 246, 247].getD k 0 : Nat) : Int)) := by
    intro k hk
    match k, hk with
    | 0, _ => simp [go_sem]
    | 1, _ => simp [go_sem]
    | 2, _ => simp [go_sem]
    | 3, _ => simp [go_sem]
    | 4, _ => simp [go_sem]
    | 5, _ => simp [go_sem]
    | 6, _ => simp [go_sem]
    | 7, _ => simp [go_sem]
  have hv1 : ((w.alloc (.cells #[.int .u8 66, .int .u8 v] 78)).alloc (.cells #[.int .u8 0, .int .u8 241, .int .u8 242, .int .u8 243, .int .u8 244, .int .u8 245, .int .u8 246, .int .u8 247] 5)).cell? ⟨w.heap.size, 1, none⟩ = some (.int .u8 v) := by simp [go_sem]
  have HB := hid (((Below.refl w.heap.size w).alloc (Nat.le_refl _) (.cells #[.int .u8 66, .int .u8 v] 78)).alloc (by simp) (.cells #[.int .u8 0, .int .u8 241, .int .u8 242, .int .u8 243, .int .u8 244, .int .u8 245, .int .u8 246, .int .u8 247] 5))
  generalize (w.alloc (.cells #[.int .u8 66, .int .u8 v] 78)).alloc (.cells #[.int .u8 0, .int .u8 241, .int .u8 242, .int .u8 243, .int .u8 244, .int .u8 245, .int .u8 246, .int .u8 247] 5) = W at HCC hv1 HB ⊢
  obtain ⟨g, hg⟩ : ∃ g, g = w.heap.size + 1 := ⟨_, rfl⟩
  rw [← hg] at HCC ⊢
  clear hg
  have HC := hid HCC
  clear HCC
  go_loop [24] (fun i => ∃ k : Nat, k ≤ 8 ∧ i = .int .i64 k ∧ Hid (∀ j, j < k → [0, 241, 242, 243, 244, 245, 246, 247].getD j 0 ≠ v)) (fun i => 8 - (intOf i).toNat)
  case atStart => exact ⟨0, Nat.zero_le _, rfl, fun j h => absurd h (Nat.not_lt_zero _)⟩
  case round =>
    obtain ⟨k, hk, rfl, HN⟩ := hrel
    by_cases hlt : k < 8
    · have hc := HC.out k hlt
      have hki : (k : Int) < 8 := by omega
      obtain ⟨x, hx⟩ : ∃ x, x = [0, 241, 242, 243, 244, 245, 246, 247].getD k 0 := ⟨_, rfl⟩
      rw [← hx] at hc
      by_cases hv' : x = v
      · have HR : Hid ([0, 241, 242, 243, 244, 245, 246, 247].contains v = true) := by show _ = true; rw [← hv', hx]; exact (show ∀ k, k < 8 → [0, 241, 242, 243, 244, 245, 246, 247].contains ([0, 241, 242, 243, 244, 245, 246, 247].getD k 0) = true by decide) k hlt
        subst hv'
        clear hx
        go_wp2
        go_ret
        exact ⟨by rw [HBV.out, known_66, HR.out]; rfl, HB.out⟩
      · have HX := hid hx
        have e1 : ((x : Int) == (v : Int)) = false := by simp; omega
        clear hx
        go_wp2
        go_round
        case rel =>
          refine ⟨k + 1, by omega, by go_num, fun j hj => ?_⟩
          by_cases hjk : j = k
          · rw [hjk, ← HX.out]; exact hv'
          · exact HN.out j (by omega)
        case measure => simp [intOf]; omega
    · have HR : Hid ([0, 241, 242, 243, 244, 245, 246, 247].contains v = false) := by
        show _ = false
        have hn := HN.out
        obtain rfl : k = 8 := by omega
        have q := fun j hj => hn j hj
        have q0 := q 0 (by decide); have q1 := q 1 (by decide); have q2 := q 2 (by decide); have q3 := q 3 (by decide); have q4 := q 4 (by decide); have q5 := q 5 (by decide); have q6 := q 6 (by decide); have q7 := q 7 (by decide); simp at q0 q1 q2 q3 q4 q5 q6 q7
        simp
        omega
      go_wp2
      go_ret
      exact ⟨by rw [HBV.out, known_66, HR.out]; rfl, HB.out⟩
set_option maxRecDepth 100000 in
set_option maxHeartbeats 1000000 in
theorem right_67 (v : Nat) (hv : v < 256) (w : World) : Calls Try.prog 58 #[pairV 67 v] w fun e w' => e = .returned (.bool (knownB 67 v)) ∧ Below w.heap.size w w' := by
  obtain ⟨Bv, hBv⟩ : ∃ Bv, Bv = knownB 67 v := ⟨_, rfl⟩
  rw [← hBv]
  have HBV := hid hBv
  clear hBv
  go_enter Try.func58, Try.ntmps58
  go_wp2
  have HCC : ∀ k, k < 2 → ((w.alloc (.cells #[.int .u8 67, .int .u8 v] 78)).alloc (.cells #[.int .u8 0, .int .u8 241] 5)).cell? ⟨w.heap.size + 1, k, none⟩ = some (.int .u8 (([0, 241].getD k 0 : Nat) : Int)) := by
    intro k hk
    match k, hk with
    | 0, _ => simp [go_sem]
    | 1, _ => simp [go_sem]
  have hv1 : ((w.alloc (.cells #[.int .u8 67, .int .u8 v] 78)).alloc (.cells #[.int .u8 0, .int .u8 241] 5)).cell? ⟨w.heap.size, 1, none⟩ = some (.int .u8 v) := by simp [go_sem]
  have HB := hid (((Below.refl w.heap.size w).alloc (Nat.le_refl _) (.cells #[.int .u8 67, .int .u8 v] 78)).alloc (by simp) (.cells #[.int .u8 0, .int .u8 241] 5))
  generalize (w.alloc (.cells #[.int .u8 67, .int .u8 v] 78)).alloc (.cells #[.int .u8 0, .int .u8 241] 5) = W at HCC hv1 HB ⊢
  obtain ⟨g, hg⟩ : ∃ g, g = w.heap.size + 1 := ⟨_, rfl⟩
  rw [← hg] at HCC ⊢
  clear hg
  have HC := hid HCC
  clear HCC
  go_loop [24] (fun i => ∃ k : Nat, k ≤ 2 ∧ i = .int .i64 k ∧ Hid (∀ j, j < k → [0, 241].getD j 0 ≠ v)) (fun i => 2 - (intOf i).toNat)
  case atStart => exact ⟨0, Nat.zero_le _, rfl, fun j h => absurd h (Nat.not_lt_zero _)⟩
  case round =>
    obtain ⟨k, hk, rfl, HN⟩ := hrel
    by_cases hlt : k < 2
    · have hc := HC.out k hlt
      have hki : (k : Int) < 2 := by omega
      obtain ⟨x, hx⟩ : ∃ x, x = [0, 241].getD k 0 := ⟨_, rfl⟩
      rw [← hx] at hc
      by_cases hv' : x = v
      · have HR : Hid ([0, 241].contains v = true) := by show _ = true; rw [← hv', hx]; exact (show ∀ k, k < 2 → [0, 241].contains ([0, 241].getD k 0) = true by decide) k hlt
        subst hv'
        clear hx
        go_wp2
        go_ret
        exact ⟨by rw [HBV.out, known_67, HR.out]; rfl, HB.out⟩
      · have HX := hid hx
        have e1 : ((x : Int) == (v : Int)) = false := by simp; omega
        clear hx
        go_wp2
        go_round
        case rel =>
          refine ⟨k + 1, by omega, by go_num, fun j hj => ?_⟩
          by_cases hjk : j = k
          · rw [hjk, ← HX.out]; exact hv'
          · exact HN.out j (by omega)
        case measure => simp [intOf]; omega
    · have HR : Hid ([0, 241].contains v = false) := by
        show _ = false
        have hn := HN.out
        obtain rfl : k = 2 := by omega
        have q := fun j hj => hn j hj
        have q0 := q 0 (by decide); have q1 := q 1 (by decide); simp at q0 q1
        simp
        omega
      go_wp2
      go_ret
      exact ⟨by rw [HBV.out, known_67, HR.out]; rfl, HB.out⟩
set_option maxRecDepth 100000 in
set_option maxHeartbeats 1000000 in
theorem right_192 (v : Nat) (w : World) : Calls Try.prog 58 #[pairV 192 v] w fun e w' => e = .returned (.bool true) ∧ Below w.heap.size w w' := by
  go_enter Try.func58, Try.ntmps58
  go_wp2
  go_ret
  exact ⟨rfl, (Below.refl _ _).alloc (Nat.le_refl _) _⟩
set_option maxRecDepth 100000 in
set_option maxHeartbeats 1000000 in
theorem right_none (t v : Nat) (h0 : t ≠ 0) (h1 : t ≠ 65) (h2 : t ≠ 66) (h3 : t ≠ 67) (h4 : t ≠ 192) (w : World) : Calls Try.prog 58 #[pairV t v] w fun e w' => e = .returned (.bool false) ∧ Below w.heap.size w w' := by
  have e0 : ((t : Int) == 0) = false := by simp; omega
  have e1 : ((t : Int) == 65) = false := by simp; omega
  have e2 : ((t : Int) == 66) = false := by simp; omega
  have e3 : ((t : Int) == 67) = false := by simp; omega
  have e4 : ((t : Int) == 192) = false := by simp; omega
  clear h0 h1 h2 h3 h4
  go_enter Try.func58, Try.ntmps58
  go_wp2
  go_loop [24] (fun i => i = .int .i64 0) (fun _ => 0)
  case atStart => rfl
  case round =>
    subst hrel
    go_wp2
    go_ret
    exact ⟨rfl, (Below.refl _ _).alloc (Nat.le_refl _) _⟩
theorem right_any (t v : Nat) (hv : v < 256) (w : World) : Calls Try.prog 58 #[pairV t v] w fun e w' => e = .returned (.bool (knownB t v)) ∧ Below w.heap.size w w' := by
  by_cases h0 : t = 0
  · subst h0; exact right_0 v hv w
  by_cases h1 : t = 65
  · subst h1; exact right_65 v hv w
  by_cases h2 : t = 66
  · subst h2; exact right_66 v hv w
  by_cases h3 : t = 67
  · subst h3; exact right_67 v hv w
  by_cases h4 : t = 192
  · subst h4; exact right_192 v w
  rw [known_none v h0 h1 h2 h3 h4]
  exact right_none t v h0 h1 h2 h3 h4 w
end Go.Proofs.Ytpnfdmfmdacjmaa
