/-
  Addresses read of bytes.
-/
import Derived.Test.YtjhmjjlmdmmilaaBd
import Derived.IntWalk
import Derived.Laws.BitsLemmas
import Derived.Deep.RegionHeld3
namespace Go.Proofs.Ytjhmjjlmdmmilaa
open Go.RowKit Go.Lib

theorem ret_int {k : IntKind} {a b : Int} (h : a = b) : Ending.returned (.int k a) = .returned (.int k b) := by rw [h]
set_option maxRecDepth 100000 in
theorem unsix_any (n : Int) (h1 : 0 ≤ n) (h2 : n ≤ 255) (w : World) : Calls Try.prog 28 #[.int .u8 n] w fun e w' => e = .returned (.int .i64 (n % 64)) ∧ w = w' := by
  go_enter Try.func28, Try.ntmps28
  go_wp2
  go_ret
  exact ⟨rfl, rfl⟩
theorem wraps_i64 (n : Int) (h₀ : 0 ≤ n) (h₁ : n < 2 ^ 62) : IntKind.i64.wrap n = n := by rw [IntKind.wrap_i64]; omega
theorem or256 (a b : Int) (ha : 0 ≤ a) (ha2 : a < 256) (hb : 0 ≤ b) (hb2 : b < 256) : bits .or .i64 (a * 256) b = 256 * a + b := by
  rw [bits_join .i64 62 (by decide) wraps_i64 8 (a * 256) b (by omega) (by omega) (by omega) hb (by omega) (by omega)]
  omega
theorem or64 (a b : Int) (ha : 0 ≤ a) (ha2 : a < 64) (hb : 0 ≤ b) (hb2 : b < 64) : bits .or .i64 (a * 64) b = 64 * a + b := by
  rw [bits_join .i64 62 (by decide) wraps_i64 6 (a * 64) b (by omega) (by omega) (by omega) hb (by omega) (by omega)]
  omega
theorem abits_no (k : Int) (h : k ≠ 12 ∧ k ≠ 14 ∧ k ≠ 16) (w : World) : Calls Try.prog 27 #[.int .i64 k] w fun e w' => e = .returned (.bool false) ∧ w = w' := by
  obtain ⟨h1, h2, h3⟩ := h
  have e1 : (k == 12) = false := by simpa using h1
  have e2 : (k == 14) = false := by simpa using h2
  have e3 : (k == 16) = false := by simpa using h3
  clear h1 h2 h3
  go_enter Try.func27, Try.ntmps27
  go_wp2
  go_ret
  exact ⟨rfl, rfl⟩
/-- What bytes say, and the error. -/
def decZ (k : Int) (xs : List Int) : Int × Int :=
  if k ≠ 12 ∧ k ≠ 14 ∧ k ≠ 16 then (0, 1) else match xs with
    | a :: b :: _ => if k = 16 ∨ a < 64 then (256 * a + b, 0) else if 128 ≤ a ∧ a < 192 then (0, 9) else (64 * (a % 64) + b % 64, 0)
    | _ => (0, 2)
theorem decZ_bad {k : Int} {xs : List Int} (h : k ≠ 12 ∧ k ≠ 14 ∧ k ≠ 16) : decZ k xs = (0, 1) := if_pos h
theorem decZ_short {k : Int} {xs : List Int} (h : k = 12 ∨ k = 14 ∨ k = 16) (hx : xs.length < 2) : decZ k xs = (0, 2) := by
  unfold decZ
  rw [if_neg (by omega)]
  match xs, hx with
  | [], _ => rfl
  | [_], _ => rfl
theorem decZ_whole {k a b : Int} {xs : List Int} (h : k = 12 ∨ k = 14 ∨ k = 16) (hh : k = 16 ∨ a < 64) : decZ k (a :: b :: xs) = (256 * a + b, 0) := by
  unfold decZ
  rw [if_neg (by omega)]
  exact if_pos hh
theorem decZ_none {k a b : Int} {xs : List Int} (h : k = 12 ∨ k = 14) (h1 : 128 ≤ a) (h2 : a < 192) : decZ k (a :: b :: xs) = (0, 9) := by
  unfold decZ
  rw [if_neg (by omega)]
  show (if _ then _ else _) = _
  rw [if_neg (by omega), if_pos ⟨h1, h2⟩]
theorem decZ_six {k a b : Int} {xs : List Int} (h : k = 12 ∨ k = 14) (h1 : 64 ≤ a) (h2 : a < 128 ∨ 192 ≤ a) : decZ k (a :: b :: xs) = (64 * (a % 64) + b % 64, 0) := by
  unfold decZ
  rw [if_neg (by omega)]
  show (if _ then _ else _) = _
  rw [if_neg (by omega), if_neg (by omega)]
/-- Read. -/
def DecDone (k : Int) (xs : List Int) (w : World) (e : Ending) (w' : World) : Prop := e = .returned (.tuple #[.int .i64 (decZ k xs).1, .int .i64 (decZ k xs).2]) ∧ Below w.heap.size w w'
theorem ret_dec {k : Int} {xs : List Int} {n m : Int} (h : decZ k xs = (n, m)) {x y : Int} (hx : x = n) (hy : y = m) : Ending.returned (.tuple #[.int .i64 x, .int .i64 y]) = .returned (.tuple #[.int .i64 (decZ k xs).1, .int .i64 (decZ k xs).2]) := by rw [h, hx, hy]
theorem two_drew {w : World} {p q : Addr} {x y : Value} (h : w.cell? p = some x ∧ w.cell? q = some y) : w.drew.cell? p = some x ∧ w.drew.cell? q = some y ∧ Below w.heap.size w w.drew := ⟨h.1, h.2, (Below.refl _ _).drew⟩
theorem wrap_nat (a : Nat) (h : a < 256) : IntKind.i64.wrap (a : Int) = a := IntWalk.i64_in _ (by omega)
set_option maxRecDepth 100000 in
set_option maxHeartbeats 2000000 in
theorem decode_16 (k : Int) (hk : k = 16) (g off len cap : Nat) (rest : List Int) (hl : 2 ≤ len) (_hc : len ≤ cap) (_hm : cap ≤ maxLen) (a b : Nat) (ha : a < 256) (hb : b < 256) (w : World) (h0 : w.cell? ⟨g, off, none⟩ = some (.int .u8 a)) (h1 : w.cell? ⟨g, off + 1, none⟩ = some (.int .u8 b)) : Calls Try.prog 21 #[.int .i64 k, .slice (some ⟨g, off, none⟩) len cap] w (DecDone k ((a : Int) :: (b : Int) :: rest) w) := by
  have HD := hid (decZ_whole (k := k) (a := (a : Int)) (b := (b : Int)) (xs := rest) (by omega) (by omega))
  unfold maxLen at _hm
  have l1 : 1 < len := by omega
  have l3 : (1 : Int) < len := by omega
  have l0 : 0 < len := by omega
  have l2 : ¬ len < 2 := by omega
  have HX := hid (And.intro h0 h1)
  clear h0 h1
  subst hk
  go_enter Try.func21, Try.ntmps21
  go_wp2
  go_region_held3 (fun w' => w'.cell? ⟨g, off, none⟩ = some (.int .u8 a) ∧ w'.cell? ⟨g, off + 1, none⟩ = some (.int .u8 b) ∧ Below w.heap.size w w') (first | exact two_drew HX.out | assumption) (first | fail)
  rename_i hH
  obtain ⟨h0, h1, hb1⟩ := hH
  go_wp2
  go_ret2
  exact ⟨ret_dec HD.out (by rw [wrap_nat a ha, wrap_nat b hb, IntWalk.i64_in _ (by omega)]; exact or256 _ _ (by omega) (by omega) (by omega) (by omega)) rfl, hb1⟩
set_option maxRecDepth 100000 in
set_option maxHeartbeats 2000000 in
theorem decode_lo (k : Int) (hk : k = 12 ∨ k = 14) (g off len cap : Nat) (rest : List Int) (hl : 2 ≤ len) (_hc : len ≤ cap) (_hm : cap ≤ maxLen) (a b : Nat) (ha : a < 256) (hb : b < 256) (ha1 : a < 64) (w : World) (h0 : w.cell? ⟨g, off, none⟩ = some (.int .u8 a)) (h1 : w.cell? ⟨g, off + 1, none⟩ = some (.int .u8 b)) : Calls Try.prog 21 #[.int .i64 k, .slice (some ⟨g, off, none⟩) len cap] w (DecDone k ((a : Int) :: (b : Int) :: rest) w) := by
  have HD := hid (decZ_whole (k := k) (a := (a : Int)) (b := (b : Int)) (xs := rest) (by omega) (by omega))
  unfold maxLen at _hm
  have l1 : 1 < len := by omega
  have l3 : (1 : Int) < len := by omega
  have l0 : 0 < len := by omega
  have l2 : ¬ len < 2 := by omega
  have HX := hid (And.intro h0 h1)
  clear h0 h1
  have q1 : (a : Int) / 64 = 0 := by omega
  have q2 : (a : Int) < 64 := by omega
  rcases hk with rfl | rfl
  all_goals
    go_enter Try.func21, Try.ntmps21
    go_wp2
    go_region_held3 (fun w' => w'.cell? ⟨g, off, none⟩ = some (.int .u8 a) ∧ w'.cell? ⟨g, off + 1, none⟩ = some (.int .u8 b) ∧ Below w.heap.size w w') (first | exact two_drew HX.out | assumption) (first | fail)
    rename_i hH
    obtain ⟨h0, h1, hb1⟩ := hH
    go_wp2
    go_ret2
    exact ⟨ret_dec HD.out (by rw [wrap_nat a ha, wrap_nat b hb, IntWalk.i64_in _ (by omega)]; exact or256 _ _ (by omega) (by omega) (by omega) (by omega)) rfl, hb1⟩
set_option maxRecDepth 100000 in
set_option maxHeartbeats 2000000 in
theorem decode_no (k : Int) (hk : k = 12 ∨ k = 14) (g off len cap : Nat) (rest : List Int) (hl : 2 ≤ len) (_hc : len ≤ cap) (_hm : cap ≤ maxLen) (a b : Nat) (ha : a < 256) (_hb : b < 256) (ha1 : 128 ≤ a) (ha2 : a < 192) (w : World) (h0 : w.cell? ⟨g, off, none⟩ = some (.int .u8 a)) (h1 : w.cell? ⟨g, off + 1, none⟩ = some (.int .u8 b)) : Calls Try.prog 21 #[.int .i64 k, .slice (some ⟨g, off, none⟩) len cap] w (DecDone k ((a : Int) :: (b : Int) :: rest) w) := by
  have HD := hid (decZ_none (k := k) (a := (a : Int)) (b := (b : Int)) (xs := rest) (by omega) (by omega) (by omega))
  unfold maxLen at _hm
  have l1 : 1 < len := by omega
  have l3 : (1 : Int) < len := by omega
  have l0 : 0 < len := by omega
  have l2 : ¬ len < 2 := by omega
  have HX := hid (And.intro h0 h1)
  clear h0 h1
  have q1 : (a : Int) / 64 = 2 := by omega
  have q2 : ¬ (a : Int) < 64 := by omega
  have q3 : (128 : Int) ≤ a := by omega
  have q4 : (a : Int) < 192 := by omega
  rcases hk with rfl | rfl
  all_goals
    go_enter Try.func21, Try.ntmps21
    go_wp2
    go_region_held3 (fun w' => w'.cell? ⟨g, off, none⟩ = some (.int .u8 a) ∧ w'.cell? ⟨g, off + 1, none⟩ = some (.int .u8 b) ∧ Below w.heap.size w w') (first | exact two_drew HX.out | assumption) (first | fail)
    rename_i hH
    obtain ⟨h0, h1, hb1⟩ := hH
    go_wp2
    go_ret2
    exact ⟨ret_dec HD.out rfl rfl, hb1⟩
set_option maxRecDepth 100000 in
set_option maxHeartbeats 2000000 in
theorem decode_mi (k : Int) (hk : k = 12 ∨ k = 14) (g off len cap : Nat) (rest : List Int) (hl : 2 ≤ len) (_hc : len ≤ cap) (_hm : cap ≤ maxLen) (a b : Nat) (ha : a < 256) (hb : b < 256) (ha1 : 64 ≤ a) (ha2 : a < 128) (w : World) (h0 : w.cell? ⟨g, off, none⟩ = some (.int .u8 a)) (h1 : w.cell? ⟨g, off + 1, none⟩ = some (.int .u8 b)) : Calls Try.prog 21 #[.int .i64 k, .slice (some ⟨g, off, none⟩) len cap] w (DecDone k ((a : Int) :: (b : Int) :: rest) w) := by
  have HD := hid (decZ_six (k := k) (a := (a : Int)) (b := (b : Int)) (xs := rest) (by omega) (by omega) (by omega))
  unfold maxLen at _hm
  have l1 : 1 < len := by omega
  have l3 : (1 : Int) < len := by omega
  have l0 : 0 < len := by omega
  have l2 : ¬ len < 2 := by omega
  have HX := hid (And.intro h0 h1)
  clear h0 h1
  have q1 : (a : Int) / 64 = 1 := by omega
  have q2 : ¬ (a : Int) < 64 := by omega
  have q3 : ¬ (128 : Int) ≤ a := by omega
  rcases hk with rfl | rfl
  all_goals
    go_enter Try.func21, Try.ntmps21
    go_wp2
    go_region_held3 (fun w' => w'.cell? ⟨g, off, none⟩ = some (.int .u8 a) ∧ w'.cell? ⟨g, off + 1, none⟩ = some (.int .u8 b) ∧ Below w.heap.size w w') (first | exact two_drew HX.out | assumption) (first | fail)
    rename_i hH
    obtain ⟨h0, h1, hb1⟩ := hH
    go_wp2
    go_region_held3 (fun w' => w'.cell? ⟨g, off, none⟩ = some (.int .u8 a) ∧ w'.cell? ⟨g, off + 1, none⟩ = some (.int .u8 b) ∧ Below w.heap.size w w') (first | exact ⟨h0, h1, hb1.drew⟩ | assumption) (first | (go_at_call 28; (with_reducible refine (unsix_any _ (by omega) (by omega) _).mono ?_); rintro e w2 ⟨rfl, rfl⟩))
    all_goals
      rename_i hH
      go_wp2
      go_ret2
      exact ⟨ret_dec HD.out (by rw [IntWalk.i64_in _ (by omega)]; exact or64 _ _ (by omega) (by omega) (by omega) (by omega)) rfl, hH.2.2⟩
set_option maxRecDepth 100000 in
set_option maxHeartbeats 2000000 in
theorem decode_hi (k : Int) (hk : k = 12 ∨ k = 14) (g off len cap : Nat) (rest : List Int) (hl : 2 ≤ len) (_hc : len ≤ cap) (_hm : cap ≤ maxLen) (a b : Nat) (ha : a < 256) (hb : b < 256) (ha1 : 192 ≤ a) (w : World) (h0 : w.cell? ⟨g, off, none⟩ = some (.int .u8 a)) (h1 : w.cell? ⟨g, off + 1, none⟩ = some (.int .u8 b)) : Calls Try.prog 21 #[.int .i64 k, .slice (some ⟨g, off, none⟩) len cap] w (DecDone k ((a : Int) :: (b : Int) :: rest) w) := by
  have HD := hid (decZ_six (k := k) (a := (a : Int)) (b := (b : Int)) (xs := rest) (by omega) (by omega) (by omega))
  unfold maxLen at _hm
  have l1 : 1 < len := by omega
  have l3 : (1 : Int) < len := by omega
  have l0 : 0 < len := by omega
  have l2 : ¬ len < 2 := by omega
  have HX := hid (And.intro h0 h1)
  clear h0 h1
  have q1 : (a : Int) / 64 = 3 := by omega
  have q2 : ¬ (a : Int) < 64 := by omega
  have q3 : (128 : Int) ≤ a := by omega
  have q4 : ¬ (a : Int) < 192 := by omega
  rcases hk with rfl | rfl
  all_goals
    go_enter Try.func21, Try.ntmps21
    go_wp2
    go_region_held3 (fun w' => w'.cell? ⟨g, off, none⟩ = some (.int .u8 a) ∧ w'.cell? ⟨g, off + 1, none⟩ = some (.int .u8 b) ∧ Below w.heap.size w w') (first | exact two_drew HX.out | assumption) (first | fail)
    rename_i hH
    obtain ⟨h0, h1, hb1⟩ := hH
    go_wp2
    go_region_held3 (fun w' => w'.cell? ⟨g, off, none⟩ = some (.int .u8 a) ∧ w'.cell? ⟨g, off + 1, none⟩ = some (.int .u8 b) ∧ Below w.heap.size w w') (first | exact ⟨h0, h1, hb1.drew⟩ | assumption) (first | (go_at_call 28; (with_reducible refine (unsix_any _ (by omega) (by omega) _).mono ?_); rintro e w2 ⟨rfl, rfl⟩))
    all_goals
      rename_i hH
      go_wp2
      go_ret2
      exact ⟨ret_dec HD.out (by rw [IntWalk.i64_in _ (by omega)]; exact or64 _ _ (by omega) (by omega) (by omega) (by omega)) rfl, hH.2.2⟩
set_option maxRecDepth 100000 in
set_option maxHeartbeats 2000000 in
theorem decode_any (k : Int) (v : Value) (xs : List Int) (w : World) (h : Reads w v xs) : Calls Try.prog 21 #[.int .i64 k, v] w (DecDone k xs w) := by
  by_cases hk : k = 12 ∨ k = 14 ∨ k = 16
  · by_cases hl : xs.length < 2
    · have HD := hid (decZ_short hk hl)
      rcases h.2 with ⟨rfl, rfl⟩ | ⟨x, cap, rfl, h1, h2, h3⟩
      · clear h hl
        rcases hk with rfl | rfl | rfl
        all_goals
          go_enter Try.func21, Try.ntmps21
          go_wp2
          go_ret2
          exact ⟨ret_dec HD.out rfl rfl, Below.refl _ _⟩
      · have l1 : (xs.length : Int) < 2 := by omega
        clear h h3
        rcases hk with rfl | rfl | rfl
        all_goals
          go_enter Try.func21, Try.ntmps21
          go_wp2
          go_ret2
          exact ⟨ret_dec HD.out rfl rfl, Below.refl _ _⟩
    · rcases h.2 with ⟨rfl, rfl⟩ | ⟨x, cap, rfl, h1, h2, h3⟩
      · exact absurd (by decide) hl
      · match xs, hl, h, h1, h3 with
        | a :: b :: rest, hl, h, h1, h3 =>
          obtain ⟨a1, a2⟩ := h.1 a (by simp)
          obtain ⟨b1, b2⟩ := h.1 b (by simp)
          obtain ⟨A, rfl⟩ := Int.eq_ofNat_of_zero_le a1
          obtain ⟨B, rfl⟩ := Int.eq_ofNat_of_zero_le b1
          have c0 := h3 0 (by simp)
          have c1 := h3 1 (by simp)
          obtain ⟨g, off, spot⟩ := x
          obtain rfl : spot = none := by simpa [Addr.add] using World.cell?_spot c0
          rw [addr_add] at c0 c1
          by_cases h16 : k = 16
          · exact decode_16 k h16 g off _ cap rest (by simp) h1 h2 A B (by omega) (by omega) w c0 c1
          · by_cases q1 : A < 64
            · exact decode_lo k (by omega) g off _ cap rest (by simp) h1 h2 A B (by omega) (by omega) q1 w c0 c1
            · by_cases q2 : A < 128
              · exact decode_mi k (by omega) g off _ cap rest (by simp) h1 h2 A B (by omega) (by omega) (by omega) q2 w c0 c1
              · by_cases q3 : A < 192
                · exact decode_no k (by omega) g off _ cap rest (by simp) h1 h2 A B (by omega) (by omega) (by omega) q3 w c0 c1
                · exact decode_hi k (by omega) g off _ cap rest (by simp) h1 h2 A B (by omega) (by omega) (by omega) w c0 c1
        | [], hl, _, _, _ => exact absurd (by decide) hl
        | [_], hl, _, _, _ => exact absurd (by simp) hl
  · have hk' : k ≠ 12 ∧ k ≠ 14 ∧ k ≠ 16 := ⟨fun h => hk (.inl h), fun h => hk (.inr (.inl h)), fun h => hk (.inr (.inr h))⟩
    have HD := hid (decZ_bad (xs := xs) hk')
    have HN := hid (abits_no k hk')
    clear hk hk' h
    go_enter Try.func21, Try.ntmps21
    go_wp2_with fail
    with_reducible refine (HN.out _).mono ?_
    rintro e w1 ⟨rfl, rfl⟩
    go_wp2
    go_ret2
    exact ⟨ret_dec HD.out rfl rfl, Below.refl _ _⟩
end Go.Proofs.Ytjhmjjlmdmmilaa
