/-
  Addresses read of bytes.
  Extended attributes: which there are; pairs in memory.
  Attributes read of bytes: Parse.
-/
import Derived.Test.YtlhaefgchmakfaaOa
import Derived.IntWalk
import Derived.Laws.BitsLemmas
import Derived.Deep.RegionHeld3
import Derived.OwnWalk
import Derived.Laws.AppendOwnNone
import Derived.StillTailTactics
namespace Go.Proofs.Ytlhaefgchmakfaa
open Go.RowKit Go.Lib

set_option maxRecDepth 100000 in
theorem unsix_any (n : Int) (h1 : 0 ≤ n) (h2 : n ≤ 255) (w : World) : Calls Try.prog 110 #[.int .u8 n] w fun e w' => e = .returned (.int .i64 (n % 64)) ∧ w = w' := by
  go_enter Try.func110, Try.ntmps110
  go_wp2
  go_ret
  exact ⟨rfl, rfl⟩
theorem wraps_i64 (n : Int) (h₀ : 0 ≤ n) (h₁ : n < 2 ^ 62) : IntKind.i64.wrap n = n := by rw [IntKind.wrap_i64]; omega
theorem or256 (a b : Int) (ha : 0 ≤ a) (ha2 : a < 256) (hb : 0 ≤ b) (hb2 : b < 256) : bits .or .i64 (a * 256) b = 256 * a + b := by
  rw [bits_join .i64 62 (by decide) wraps_i64 8 (a * 256) b (by omega) (by omega) (by omega) hb (by omega) (by omega)]
  omega
theorem or64 (a b : Int) (ha : 0 ≤ a) (ha2 : a < 64) (hb : 0 ≤ b) (hb2 : b < 64) : bits .or .i64 (a * 64) b = 64 * a + b := by
  rw [bits_join .i64 62 (by decide) wraps_i64 6 (a * 64) b (by omega) (by omega) (by omega) hb (by omega) (by omega)]
  omega
theorem abits_no (k : Int) (h : k ≠ 12 ∧ k ≠ 14 ∧ k ≠ 16) (w : World) : Calls Try.prog 85 #[.int .i64 k] w fun e w' => e = .returned (.bool false) ∧ w = w' := by
  obtain ⟨h1, h2, h3⟩ := h
  have e1 : (k == 12) = false := by simpa using h1
  have e2 : (k == 14) = false := by simpa using h2
  have e3 : (k == 16) = false := by simpa using h3
  clear h1 h2 h3
  go_enter Try.func85, Try.ntmps85
  go_wp2
  go_ret
  exact ⟨rfl, rfl⟩
/-- What bytes say, and the error. -/
def decZ (k : Int) (xs : List Int) : Int × Int :=
  if k ≠ 12 ∧ k ≠ 14 ∧ k ≠ 16 then (0, 1) else match xs with
    | a :: b :: _ => if k = 16 ∨ a < 64 then (256 * a + b, 0) else if 128 ≤ a ∧ a < 192 then (0, 9) else (64 * (a % 64) + b % 64, 0)
    | _ => (0, 2)
theorem decZ_bad {k : Int} {xs : List Int} (h : k ≠ 12 ∧ k ≠ 14 ∧ k ≠ 16) : decZ k xs = (0, 1) := if_pos h
theorem decZ_short {k : Int} {xs : List Int} (h : k = 12 ∨ k = 14 ∨ k = 16) (hx : xs.length < 2) : decZ k xs = (0, 2) := by
  unfold decZ
  rw [if_neg (by omega)]
  match xs, hx with
  | [], _ => rfl
  | [_], _ => rfl
theorem decZ_whole {k a b : Int} {xs : List Int} (h : k = 12 ∨ k = 14 ∨ k = 16) (hh : k = 16 ∨ a < 64) : decZ k (a :: b :: xs) = (256 * a + b, 0) := by
  unfold decZ
  rw [if_neg (by omega)]
  exact if_pos hh
theorem decZ_none {k a b : Int} {xs : List Int} (h : k = 12 ∨ k = 14) (h1 : 128 ≤ a) (h2 : a < 192) : decZ k (a :: b :: xs) = (0, 9) := by
  unfold decZ
  rw [if_neg (by omega)]
  show (if _ then _ else _) = _
  rw [if_neg (by omega), if_pos ⟨h1, h2⟩]
theorem decZ_six {k a b : Int} {xs : List Int} (h : k = 12 ∨ k = 14) (h1 : 64 ≤ a) (h2 : a < 128 ∨ 192 ≤ a) : decZ k (a :: b :: xs) = (64 * (a % 64) + b % 64, 0) := by
  unfold decZ
  rw [if_neg (by omega)]
  show (if _ then _ else _) = _
  rw [if_neg (by omega), if_neg (by omega)]
/-- Read. -/
def DecDone (k : Int) (xs : List Int) (w : World) (e : Ending) (w' : World) : Prop := e = .returned (.tuple #[.int .i64 (decZ k xs).1, .int .i64 (decZ k xs).2]) ∧ Below w.heap.size w w'
theorem ret_dec {k : Int} {xs : List Int} {n m : Int} (h : decZ k xs = (n, m)) {x y : Int} (hx : x = n) (hy : y = m) : Ending.returned (.tuple #[.int .i64 x, .int .i64 y]) = .returned (.tuple #[.int .i64 (decZ k xs).1, .int .i64 (decZ k xs).2]) := by rw [h, hx, hy]
theorem two_drew {w : World} {p q : Addr} {x y : Value} (h : w.cell? p = some x ∧ w.cell? q = some y) : w.drew.cell? p = some x ∧ w.drew.cell? q = some y ∧ Below w.heap.size w w.drew := ⟨h.1, h.2, (Below.refl _ _).drew⟩
theorem wrap_nat (a : Nat) (h : a < 256) : IntKind.i64.wrap (a : Int) = a := IntWalk.i64_in _ (by omega)
set_option maxRecDepth 100000 in
set_option maxHeartbeats 2000000 in
theorem decode_16 (k : Int) (hk : k = 16) (g off len cap : Nat) (rest : List Int) (hl : 2 ≤ len) (_hc : len ≤ cap) (_hm : cap ≤ maxLen) (a b : Nat) (ha : a < 256) (hb : b < 256) (w : World) (h0 : w.cell? ⟨g, off, none⟩ = some (.int .u8 a)) (h1 : w.cell? ⟨g, off + 1, none⟩ = some (.int .u8 b)) : Calls Try.prog 89 #[.int .i64 k, .slice (some ⟨g, off, none⟩) len cap] w (DecDone k ((a : Int) :: (b : Int) :: rest) w) := by
  have HD := hid (decZ_whole (k := k) (a := (a : Int)) (b := (b : Int)) (xs := rest) (by omega) (by omega))
  unfold maxLen at _hm
  have l1 : 1 < len := by omega
  have l3 : (1 : Int) < len := by omega
  have l0 : 0 < len := by omega
  have l2 : ¬ len < 2 := by omega
  have HX := hid (And.intro h0 h1)
  clear h0 h1
  subst hk
  go_enter Try.func89, Try.ntmps89
  go_wp2
  go_region_held3 (fun w' => w'.cell? ⟨g, off, none⟩ = some (.int .u8 a) ∧ w'.cell? ⟨g, off + 1, none⟩ = some (.int .u8 b) ∧ Below w.heap.size w w') (first | exact two_drew HX.out | assumption) (first | fail)
  rename_i hH
  obtain ⟨h0, h1, hb1⟩ := hH
  go_wp2
  go_ret2
  exact ⟨ret_dec HD.out (by rw [wrap_nat a ha, wrap_nat b hb, IntWalk.i64_in _ (by omega)]; exact or256 _ _ (by omega) (by omega) (by omega) (by omega)) rfl, hb1⟩
set_option maxRecDepth 100000 in
set_option maxHeartbeats 2000000 in
theorem decode_lo (k : Int) (hk : k = 12 ∨ k = 14) (g off len cap : Nat) (rest : List Int) (hl : 2 ≤ len) (_hc : len ≤ cap) (_hm : cap ≤ maxLen) (a b : Nat) (ha : a < 256) (hb : b < 256) (ha1 : a < 64) (w : World) (h0 : w.cell? ⟨g, off, none⟩ = some (.int .u8 a)) (h1 : w.cell? ⟨g, off + 1, none⟩ = some (.int .u8 b)) : Calls Try.prog 89 #[.int .i64 k, .slice (some ⟨g, off, none⟩) len cap] w (DecDone k ((a : Int) :: (b : Int) :: rest) w) := by
  have HD := hid (decZ_whole (k := k) (a := (a : Int)) (b := (b : Int)) (xs := rest) (by omega) (by omega))
  unfold maxLen at _hm
  have l1 : 1 < len := by omega
  have l3 : (1 : Int) < len := by omega
  have l0 : 0 < len := by omega
  have l2 : ¬ len < 2 := by omega
  have HX := hid (And.intro h0 h1)
  clear h0 h1
  have q1 : (a : Int) / 64 = 0 := by omega
  have q2 : (a : Int) < 64 := by omega
  rcases hk with rfl | rfl
  all_goals
    go_enter Try.func89, Try.ntmps89
    go_wp2
    go_region_held3 (fun w' => w'.cell? ⟨g, off, none⟩ = some (.int .u8 a) ∧ w'.cell? ⟨g, off + 1, none⟩ = some (.int .u8 b) ∧ Below w.heap.size w w') (first | exact two_drew HX.out | assumption) (first | fail)
    rename_i hH
    obtain ⟨h0, h1, hb1⟩ := hH
    go_wp2
    go_ret2
    exact ⟨ret_dec HD.out (by rw [wrap_nat a ha, wrap_nat b hb, IntWalk.i64_in _ (by omega)]; exact or256 _ _ (by omega) (by omega) (by omega) (by omega)) rfl, hb1⟩
set_option maxRecDepth 100000 in
set_option maxHeartbeats 2000000 in
theorem decode_no (k : Int) (hk : k = 12 ∨ k = 14) (g off len cap : Nat) (rest : List Int) (hl : 2 ≤ len) (_hc : len ≤ cap) (_hm : cap ≤ maxLen) (a b : Nat) (ha : a < 256) (_hb : b < 256) (ha1 : 128 ≤ a) (ha2 : a < 192) (w : World) (h0 : w.cell? ⟨g, off, none⟩ = some (.int .u8 a)) (h1 : w.cell? ⟨g, off + 1, none⟩ = some (.int .u8 b)) : Calls Try.prog 89 #[.int .i64 k, .slice (some ⟨g, off, none⟩) len cap] w (DecDone k ((a : Int) :: (b : Int) :: rest) w) := by
  have HD := hid (decZ_none (k := k) (a := (a : Int)) (b := (b : Int)) (xs := rest) (by omega) (by omega) (by omega))
  unfold maxLen at _hm
  have l1 : 1 < len := by omega
  have l3 : (1 : Int) < len := by omega
  have l0 : 0 < len := by omega
  have l2 : ¬ len < 2 := by omega
  have HX := hid (And.intro h0 h1)
  clear h0 h1
  have q1 : (a : Int) / 64 = 2 := by omega
  have q2 : ¬ (a : Int) < 64 := by omega
  have q3 : (128 : Int) ≤ a := by omega
  have q4 : (a : Int) < 192 := by omega
  rcases hk with rfl | rfl
  all_goals
    go_enter Try.func89, Try.ntmps89
    go_wp2
    go_region_held3 (fun w' => w'.cell? ⟨g, off, none⟩ = some (.int .u8 a) ∧ w'.cell? ⟨g, off + 1, none⟩ = some (.int .u8 b) ∧ Below w.heap.size w w') (first | exact two_drew HX.out | assumption) (first | fail)
    rename_i hH
    obtain ⟨h0, h1, hb1⟩ := hH
    go_wp2
    go_ret2
    exact ⟨ret_dec HD.out rfl rfl, hb1⟩
set_option maxRecDepth 100000 in
set_option maxHeartbeats 2000000 in
theorem decode_mi (k : Int) (hk : k = 12 ∨ k = 14) (g off len cap : Nat) (rest : List Int) (hl : 2 ≤ len) (_hc : len ≤ cap) (_hm : cap ≤ maxLen) (a b : Nat) (ha : a < 256) (hb : b < 256) (ha1 : 64 ≤ a) (ha2 : a < 128) (w : World) (h0 : w.cell? ⟨g, off, none⟩ = some (.int .u8 a)) (h1 : w.cell? ⟨g, off + 1, none⟩ = some (.int .u8 b)) : Calls Try.prog 89 #[.int .i64 k, .slice (some ⟨g, off, none⟩) len cap] w (DecDone k ((a : Int) :: (b : Int) :: rest) w) := by
  have HD := hid (decZ_six (k := k) (a := (a : Int)) (b := (b : Int)) (xs := rest) (by omega) (by omega) (by omega))
  unfold maxLen at _hm
  have l1 : 1 < len := by omega
  have l3 : (1 : Int) < len := by omega
  have l0 : 0 < len := by omega
  have l2 : ¬ len < 2 := by omega
  have HX := hid (And.intro h0 h1)
  clear h0 h1
  have q1 : (a : Int) / 64 = 1 := by omega
  have q2 : ¬ (a : Int) < 64 := by omega
  have q3 : ¬ (128 : Int) ≤ a := by omega
  rcases hk with rfl | rfl
  all_goals
    go_enter Try.func89, Try.ntmps89
    go_wp2
    go_region_held3 (fun w' => w'.cell? ⟨g, off, none⟩ = some (.int .u8 a) ∧ w'.cell? ⟨g, off + 1, none⟩ = some (.int .u8 b) ∧ Below w.heap.size w w') (first | exact two_drew HX.out | assumption) (first | fail)
    rename_i hH
    obtain ⟨h0, h1, hb1⟩ := hH
    go_wp2
    go_region_held3 (fun w' => w'.cell? ⟨g, off, none⟩ = some (.int .u8 a) ∧ w'.cell? ⟨g, off + 1, none⟩ = some (.int .u8 b) ∧ Below w.heap.size w w') (first | exact ⟨h0, h1, hb1.drew⟩ | assumption) (first | (go_at_call 110; (with_reducible refine (unsix_any _ (by omega) (by omega) _).mono ?_); rintro e w2 ⟨rfl, rfl⟩))
    all_goals
      rename_i hH
      go_wp2
      go_ret2
      exact ⟨ret_dec HD.out (by rw [IntWalk.i64_in _ (by omega)]; exact or64 _ _ (by omega) (by omega) (by omega) (by omega)) rfl, hH.2.2⟩
set_option maxRecDepth 100000 in
set_option maxHeartbeats 2000000 in
theorem decode_hi (k : Int) (hk : k = 12 ∨ k = 14) (g off len cap : Nat) (rest : List Int) (hl : 2 ≤ len) (_hc : len ≤ cap) (_hm : cap ≤ maxLen) (a b : Nat) (ha : a < 256) (hb : b < 256) (ha1 : 192 ≤ a) (w : World) (h0 : w.cell? ⟨g, off, none⟩ = some (.int .u8 a)) (h1 : w.cell? ⟨g, off + 1, none⟩ = some (.int .u8 b)) : Calls Try.prog 89 #[.int .i64 k, .slice (some ⟨g, off, none⟩) len cap] w (DecDone k ((a : Int) :: (b : Int) :: rest) w) := by
  have HD := hid (decZ_six (k := k) (a := (a : Int)) (b := (b : Int)) (xs := rest) (by omega) (by omega) (by omega))
  unfold maxLen at _hm
  have l1 : 1 < len := by omega
  have l3 : (1 : Int) < len := by omega
  have l0 : 0 < len := by omega
  have l2 : ¬ len < 2 := by omega
  have HX := hid (And.intro h0 h1)
  clear h0 h1
  have q1 : (a : Int) / 64 = 3 := by omega
  have q2 : ¬ (a : Int) < 64 := by omega
  have q3 : (128 : Int) ≤ a := by omega
  have q4 : ¬ (a : Int) < 192 := by omega
  rcases hk with rfl | rfl
  all_goals
    go_enter Try.func89, Try.ntmps89
    go_wp2
    go_region_held3 (fun w' => w'.cell? ⟨g, off, none⟩ = some (.int .u8 a) ∧ w'.cell? ⟨g, off + 1, none⟩ = some (.int .u8 b) ∧ Below w.heap.size w w') (first | exact two_drew HX.out | assumption) (first | fail)
    rename_i hH
    obtain ⟨h0, h1, hb1⟩ := hH
    go_wp2
    go_region_held3 (fun w' => w'.cell? ⟨g, off, none⟩ = some (.int .u8 a) ∧ w'.cell? ⟨g, off + 1, none⟩ = some (.int .u8 b) ∧ Below w.heap.size w w') (first | exact ⟨h0, h1, hb1.drew⟩ | assumption) (first | (go_at_call 110; (with_reducible refine (unsix_any _ (by omega) (by omega) _).mono ?_); rintro e w2 ⟨rfl, rfl⟩))
    all_goals
      rename_i hH
      go_wp2
      go_ret2
      exact ⟨ret_dec HD.out (by rw [IntWalk.i64_in _ (by omega)]; exact or64 _ _ (by omega) (by omega) (by omega) (by omega)) rfl, hH.2.2⟩
set_option maxRecDepth 100000 in
set_option maxHeartbeats 2000000 in
theorem decode_any (k : Int) (v : Value) (xs : List Int) (w : World) (h : Reads w v xs) : Calls Try.prog 89 #[.int .i64 k, v] w (DecDone k xs w) := by
  by_cases hk : k = 12 ∨ k = 14 ∨ k = 16
  · by_cases hl : xs.length < 2
    · have HD := hid (decZ_short hk hl)
      rcases h.2 with ⟨rfl, rfl⟩ | ⟨x, cap, rfl, h1, h2, h3⟩
      · clear h hl
        rcases hk with rfl | rfl | rfl
        all_goals
          go_enter Try.func89, Try.ntmps89
          go_wp2
          go_ret2
          exact ⟨ret_dec HD.out rfl rfl, Below.refl _ _⟩
      · have l1 : (xs.length : Int) < 2 := by omega
        clear h h3
        rcases hk with rfl | rfl | rfl
        all_goals
          go_enter Try.func89, Try.ntmps89
          go_wp2
          go_ret2
          exact ⟨ret_dec HD.out rfl rfl, Below.refl _ _⟩
    · rcases h.2 with ⟨rfl, rfl⟩ | ⟨x, cap, rfl, h1, h2, h3⟩
      · exact absurd (by decide) hl
      · match xs, hl, h, h1, h3 with
        | a :: b :: rest, hl, h, h1, h3 =>
          obtain ⟨a1, a2⟩ := h.1 a (by simp)
          obtain ⟨b1, b2⟩ := h.1 b (by simp)
          obtain ⟨A, rfl⟩ := Int.eq_ofNat_of_zero_le a1
          obtain ⟨B, rfl⟩ := Int.eq_ofNat_of_zero_le b1
          have c0 := h3 0 (by simp)
          have c1 := h3 1 (by simp)
          obtain ⟨g, off, spot⟩ := x
          obtain rfl : spot = none := by simpa [Addr.add] using World.cell?_spot c0
          rw [addr_add] at c0 c1
          by_cases h16 : k = 16
          · exact decode_16 k h16 g off _ cap rest (by simp) h1 h2 A B (by omega) (by omega) w c0 c1
          · by_cases q1 : A < 64
            · exact decode_lo k (by omega) g off _ cap rest (by simp) h1 h2 A B (by omega) (by omega) q1 w c0 c1
            · by_cases q2 : A < 128
              · exact decode_mi k (by omega) g off _ cap rest (by simp) h1 h2 A B (by omega) (by omega) (by omega) q2 w c0 c1
              · by_cases q3 : A < 192
                · exact decode_no k (by omega) g off _ cap rest (by simp) h1 h2 A B (by omega) (by omega) (by omega) q3 w c0 c1
                · exact decode_hi k (by omega) g off _ cap rest (by simp) h1 h2 A B (by omega) (by omega) (by omega) w c0 c1
        | [], hl, _, _, _ => exact absurd (by decide) hl
        | [_], hl, _, _, _ => exact absurd (by simp) hl
  · have hk' : k ≠ 12 ∧ k ≠ 14 ∧ k ≠ 16 := ⟨fun h => hk (.inl h), fun h => hk (.inr (.inl h)), fun h => hk (.inr (.inr h))⟩
    have HD := hid (decZ_bad (xs := xs) hk')
    have HN := hid (abits_no k hk')
    clear hk hk' h
    go_enter Try.func89, Try.ntmps89
    go_wp2_with fail
    with_reducible refine (HN.out _).mono ?_
    rintro e w1 ⟨rfl, rfl⟩
    go_wp2
    go_ret2
    exact ⟨ret_dec HD.out rfl rfl, Below.refl _ _⟩
end Go.Proofs.Ytlhaefgchmakfaa
namespace Go.Proofs.Ytlhaefgchmakfaa
open Go.RowKit Go.Lib

/-- The values of a type. -/
def rightL (t : Nat) : List Nat := if t = 0 then [0] else if t = 65 then [0, 240, 241, 242, 244, 248] else if t = 66 then [0, 241, 242, 243, 244, 245, 246, 247] else if t = 67 then [0, 241] else []
/-- Is it one? -/
def knownB (t v : Nat) : Bool := t == 192 || (rightL t).contains v
abbrev pairV (t v : Nat) : Value := .agg #[.int .u8 t, .int .u8 v]
theorem known_192 (v : Nat) : knownB 192 v = true := rfl
theorem known_none {t : Nat} (v : Nat) (h0 : t ≠ 0) (h1 : t ≠ 65) (h2 : t ≠ 66) (h3 : t ≠ 67) (h4 : t ≠ 192) : knownB t v = false := by
  unfold knownB rightL
  rw [if_neg h0, if_neg h1, if_neg h2, if_neg h3]
  simp [h4]
theorem known_0 (v : Nat) : knownB 0 v = [0].contains v := rfl
theorem known_65 (v : Nat) : knownB 65 v = [0, 240, 241, 242, 244, 248].contains v := rfl
theorem known_66 (v : Nat) : knownB 66 v = [0, 241, 242, 243, 244, 245, 246, 247].contains v := rfl
theorem known_67 (v : Nat) : knownB 67 v = [0, 241].contains v := rfl
set_option maxRecDepth 100000 in
set_option maxHeartbeats 1000000 in
theorem is_0 (v : Nat) (_hv : v < 256) (w : World) : Calls Try.prog 137 #[pairV 0 v] w fun e w' => e = .returned (.bool (knownB 0 v)) ∧ Below w.heap.size w w' := by
  rw [known_0]
  by_cases hm : v = 0
  · rcases hm with rfl
    all_goals
      go_enter Try.func137, Try.ntmps137
      go_wp2
      go_ret
      exact ⟨rfl, (Below.refl _ _).alloc (Nat.le_refl _) _⟩
  · have hb : [0].contains v = false := by simp; omega
    rw [hb]
    have e0 : ((v : Int) == 0) = false := by simp; omega
    clear hm hb
    go_enter Try.func137, Try.ntmps137
    go_wp2
    go_ret
    exact ⟨rfl, (Below.refl _ _).alloc (Nat.le_refl _) _⟩
set_option maxRecDepth 100000 in
set_option maxHeartbeats 1000000 in
theorem is_65 (v : Nat) (_hv : v < 256) (w : World) : Calls Try.prog 137 #[pairV 65 v] w fun e w' => e = .returned (.bool (knownB 65 v)) ∧ Below w.heap.size w w' := by
  rw [known_65]
  by_cases hm : v = 0 ∨ v = 240 ∨ v = 241 ∨ v = 242 ∨ v = 244 ∨ v = 248
  · rcases hm with rfl | rfl | rfl | rfl | rfl | rfl
    all_goals
      go_enter Try.func137, Try.ntmps137
      go_wp2
      go_ret
      exact ⟨rfl, (Below.refl _ _).alloc (Nat.le_refl _) _⟩
  · have hb : [0, 240, 241, 242, 244, 248].contains v = false := by simp; omega
    rw [hb]
    have e0 : ((v : Int) == 0) = false := by simp; omega
    have e240 : ((v : Int) == 240) = false := by simp; omega
    have e241 : ((v : Int) == 241) = false := by simp; omega
    have e242 : ((v : Int) == 242) = false := by simp; omega
    have e244 : ((v : Int) == 244) = false := by simp; omega
    have e248 : ((v : Int) == 248) = false := by simp; omega
    clear hm hb
    go_enter Try.func137, Try.ntmps137
    go_wp2
    go_ret
    exact ⟨rfl, (Below.refl _ _).alloc (Nat.le_refl _) _⟩
set_option maxRecDepth 100000 in
set_option maxHeartbeats 1000000 in
theorem is_66 (v : Nat) (_hv : v < 256) (w : World) : Calls Try.prog 137 #[pairV 66 v] w fun e w' => e = .returned (.bool (knownB 66 v)) ∧ Below w.heap.size w w' := by
  rw [known_66]
  by_cases hm : v = 0 ∨ v = 241 ∨ v = 242 ∨ v = 243 ∨ v = 244 ∨ v = 245 ∨ v = 246 ∨ v = 247
  · rcases hm with rfl | rfl | rfl | rfl | rfl | rfl | rfl | rfl
    all_goals
      go_enter Try.func137, Try.ntmps137
      go_wp2
      go_ret
      exact ⟨rfl, (Below.refl _ _).alloc (Nat.le_refl _) _⟩
  · have hb : [0, 241, 242, 243, 244, 245, 246, 247].contains v = false := by simp; omega
    rw [hb]
    have e0 : ((v : Int) == 0) = false := by simp; omega
    by_cases q1 : (241 : Int) ≤ v
    · have q2 : ¬ (v : Int) ≤ 247 := by omega
      clear hm hb
      go_enter Try.func137, Try.ntmps137
      go_wp2
      go_ret
      exact ⟨rfl, (Below.refl _ _).alloc (Nat.le_refl _) _⟩
    · clear hm hb
      go_enter Try.func137, Try.ntmps137
      go_wp2
      go_ret
      exact ⟨rfl, (Below.refl _ _).alloc (Nat.le_refl _) _⟩
set_option maxRecDepth 100000 in
set_option maxHeartbeats 1000000 in
theorem is_67 (v : Nat) (_hv : v < 256) (w : World) : Calls Try.prog 137 #[pairV 67 v] w fun e w' => e = .returned (.bool (knownB 67 v)) ∧ Below w.heap.size w w' := by
  rw [known_67]
  by_cases hm : v = 0 ∨ v = 241
  · rcases hm with rfl | rfl
    all_goals
      go_enter Try.func137, Try.ntmps137
      go_wp2
      go_ret
      exact ⟨rfl, (Below.refl _ _).alloc (Nat.le_refl _) _⟩
  · have hb : [0, 241].contains v = false := by simp; omega
    rw [hb]
    have e0 : ((v : Int) == 0) = false := by simp; omega
    have e241 : ((v : Int) == 241) = false := by simp; omega
    clear hm hb
    go_enter Try.func137, Try.ntmps137
    go_wp2
    go_ret
    exact ⟨rfl, (Below.refl _ _).alloc (Nat.le_refl _) _⟩
set_option maxRecDepth 100000 in
set_option maxHeartbeats 1000000 in
theorem is_192 (v : Nat) (w : World) : Calls Try.prog 137 #[pairV 192 v] w fun e w' => e = .returned (.bool true) ∧ Below w.heap.size w w' := by
  go_enter Try.func137, Try.ntmps137
  go_wp2
  go_ret
  exact ⟨rfl, (Below.refl _ _).alloc (Nat.le_refl _) _⟩
set_option maxRecDepth 100000 in
set_option maxHeartbeats 1000000 in
theorem is_none (t v : Nat) (h0 : t ≠ 0) (h1 : t ≠ 65) (h2 : t ≠ 66) (h3 : t ≠ 67) (h4 : t ≠ 192) (w : World) : Calls Try.prog 137 #[pairV t v] w fun e w' => e = .returned (.bool false) ∧ Below w.heap.size w w' := by
  have e0 : ((t : Int) == 0) = false := by simp; omega
  have e1 : ((t : Int) == 65) = false := by simp; omega
  have e2 : ((t : Int) == 66) = false := by simp; omega
  have e3 : ((t : Int) == 67) = false := by simp; omega
  have e4 : ((t : Int) == 192) = false := by simp; omega
  clear h0 h1 h2 h3 h4
  go_enter Try.func137, Try.ntmps137
  go_wp2
  go_ret
  exact ⟨rfl, (Below.refl _ _).alloc (Nat.le_refl _) _⟩
theorem is_any (t v : Nat) (hv : v < 256) (w : World) : Calls Try.prog 137 #[pairV t v] w fun e w' => e = .returned (.bool (knownB t v)) ∧ Below w.heap.size w w' := by
  by_cases h0 : t = 0
  · subst h0; exact is_0 v hv w
  by_cases h1 : t = 65
  · subst h1; exact is_65 v hv w
  by_cases h2 : t = 66
  · subst h2; exact is_66 v hv w
  by_cases h3 : t = 67
  · subst h3; exact is_67 v hv w
  by_cases h4 : t = 192
  · subst h4; exact is_192 v w
  rw [known_none v h0 h1 h2 h3 h4]
  exact is_none t v h0 h1 h2 h3 h4 w
set_option maxRecDepth 100000 in
set_option maxHeartbeats 1000000 in
theorem check_any (t v : Nat) (hv : v < 256) (w : World) : Calls Try.prog 131 #[pairV t v] w fun e w' => e = .returned (.int .i64 (if knownB t v then 0 else 10)) ∧ Below w.heap.size w w' := by
  have H := hid (is_any t v hv)
  cases hk : knownB t v
  all_goals
    rw [hk] at H
    clear hk
    go_enter Try.func131, Try.ntmps131
    go_wp2_with fail
    with_reducible refine (H.out _).mono ?_
    rintro e w1 ⟨rfl, hb1⟩
    have H1 := hid hb1
    clear hb1
    go_wp2
    go_ret
    exact ⟨rfl, ((Below.refl _ _).alloc (Nat.le_refl _) _).trans (H1.out.mono (by simp))⟩
theorem infoP : (Try.prog.info? 165).map (fun i => (i.zero, i.size, i.bytes)) = some (some (.agg #[.int .u8 0, .int .u8 0]), 2, 2) := by kernel_rfl
/-- Pairs' cells. -/
def cellsP (ps : List (Nat × Nat)) : List Value := ps.flatMap fun p => [.int .u8 p.1, .int .u8 p.2]
theorem cellsP_nil : cellsP [] = [] := rfl
theorem cellsP_append (a b : List (Nat × Nat)) : cellsP (a ++ b) = cellsP a ++ cellsP b := by simp [cellsP]
theorem cellsP_length (ps : List (Nat × Nat)) : (cellsP ps).length = ps.length * 2 := by
  induction ps with
  | nil => rfl
  | cons p ps ih => simp [cellsP] at ih ⊢; omega
theorem cellsP_snoc (ps : List (Nat × Nat)) (k : Nat) (h : k < ps.length) : cellsP (ps.take (k + 1)) = cellsP (ps.take k) ++ [.int .u8 (ps.getD k (0, 0)).1, .int .u8 (ps.getD k (0, 0)).2] := by
  rw [List.take_succ_eq_append_getElem h, cellsP_append, List.getD, List.getElem?_eq_getElem h]
  rfl
theorem cellsP_get (ps : List (Nat × Nat)) : ∀ i, i < ps.length → (cellsP ps)[i * 2]? = some (.int .u8 (ps.getD i (0, 0)).1) ∧ (cellsP ps)[i * 2 + 1]? = some (.int .u8 (ps.getD i (0, 0)).2) := by
  induction ps with
  | nil => intro i h; simp at h
  | cons p ps ih =>
    intro i h
    match i with
    | 0 => exact ⟨rfl, rfl⟩
    | i + 1 =>
      have e : (i + 1) * 2 = i * 2 + 1 + 1 := by omega
      have := ih i (by simpa using h)
      show (_ :: _ :: cellsP ps)[(i + 1) * 2]? = _ ∧ (_ :: _ :: cellsP ps)[(i + 1) * 2 + 1]? = _
      rw [e, List.getElem?_cons_succ, List.getElem?_cons_succ, List.getElem?_cons_succ, List.getElem?_cons_succ]
      exact this
/-- A slice that reads as pairs. -/
def PairsIn (w : World) (v : Value) (ps : List (Nat × Nat)) : Prop :=
  (v = .slice none 0 0 ∧ ps = []) ∨ ∃ g off cap, v = .slice (some ⟨g, off, none⟩) ps.length cap ∧ ∀ i, i < ps.length → w.cell? ⟨g, off + i * 2, none⟩ = some (.int .u8 (ps.getD i (0, 0)).1) ∧ w.cell? ⟨g, off + i * 2 + 1, none⟩ = some (.int .u8 (ps.getD i (0, 0)).2)
theorem pairs_below {w w' : World} {v : Value} {ps : List (Nat × Nat)} (h : PairsIn w v ps) (hb : Below w.heap.size w w') : PairsIn w' v ps := by
  rcases h with h | ⟨g, off, cap, rfl, h⟩
  · exact .inl h
  · exact .inr ⟨g, off, cap, rfl, fun i hi => ⟨keepc hb (h i hi).1, keepc hb (h i hi).2⟩⟩
theorem pairs_owned {w : World} {B : Nat} {t : TypeId} {v : Value} {ps : List (Nat × Nat)} (h : w.ownsRow B t 2 v ps.length (cellsP ps)) : PairsIn w v ps := by
  rcases h.2 with ⟨rfl, e⟩ | ⟨g, cap, cur, rfl, hg, hh, h1, h2, h3, h4⟩
  · exact .inl ⟨rfl, List.length_eq_zero_iff.1 e⟩
  · refine .inr ⟨g, 0, cap, rfl, fun i hi => ?_⟩
    have q := cellsP_get ps i hi
    rw [Nat.zero_add]
    exact ⟨(World.ownsRow.cellAt h (i * 2) (by omega)).trans q.1, (World.ownsRow.cellAt h (i * 2 + 1) (by omega)).trans q.2⟩
theorem own_ge {w : World} {B : Nat} {t : TypeId} {n m : Nat} {v : Value} {xs : List Value} (h : w.ownsRow B t m v n xs) : ∀ k, v.ownBlock = some k → B ≤ k := fun k hk => (h.lt k hk).1
theorem news_two (W : World) (x y : Value) (t : TypeId) : ∀ j u, [x, y][j]? = some u → (W.alloc (.cells #[x, y] t)).cell? ((⟨W.heap.size, 0, none⟩ : Addr).add j) = some u := by
  intro j u hu
  match j, hu with
  | 0, hu => simp only [List.getElem?_cons_zero, Option.some.injEq] at hu; subst hu; rw [show (⟨W.heap.size, 0, none⟩ : Addr).add 0 = ⟨W.heap.size, 0, none⟩ from rfl]; simp [go_sem]
  | 1, hu => simp only [List.getElem?_cons_succ, List.getElem?_cons_zero, Option.some.injEq] at hu; subst hu; rw [show (⟨W.heap.size, 0, none⟩ : Addr).add 1 = ⟨W.heap.size, 1, none⟩ from rfl]; simp [go_sem]
  | j + 2, hu => simp at hu
theorem one_two (x y : Int) : ∀ u ∈ [Value.int .u8 x, .int .u8 y], u.oneCell' = true := by
  intro u hu
  simp only [List.mem_cons, List.not_mem_nil, or_false] at hu
  rcases hu with rfl | rfl <;> rfl
end Go.Proofs.Ytlhaefgchmakfaa
namespace Go.Proofs.Ytlhaefgchmakfaa
open Go.RowKit Go.Lib


/-- The pair at a place. -/
def pairAt (xs : List Int) (i : Nat) : Nat × Nat := ((xs.getD (1 + 2 * i) 0).toNat, (xs.getD (1 + 2 * i + 1) 0).toNat)
/-- The first pairs. -/
def pairsL (xs : List Int) (n : Nat) : List (Nat × Nat) := (List.range n).map (pairAt xs)
theorem pairsL_length (xs : List Int) (n : Nat) : (pairsL xs n).length = n := by simp [pairsL]
theorem pairsL_succ (xs : List Int) (n : Nat) : pairsL xs (n + 1) = pairsL xs n ++ [pairAt xs n] := by simp [pairsL, List.range_succ]
theorem cellsP_succ (xs : List Int) (n : Nat) : cellsP (pairsL xs (n + 1)) = cellsP (pairsL xs n) ++ [.int .u8 (pairAt xs n).1, .int .u8 (pairAt xs n).2] := by
  rw [pairsL_succ, cellsP_append]; rfl
/-- Are the first all attributes? -/
def allK (xs : List Int) (n : Nat) : Bool := (pairsL xs n).all fun p => knownB p.1 p.2
theorem allK_zero (xs : List Int) : allK xs 0 = true := rfl
theorem allK_succ (xs : List Int) (n : Nat) : allK xs (n + 1) = (allK xs n && knownB (pairAt xs n).1 (pairAt xs n).2) := by simp [allK, pairsL_succ]
theorem allK_bad {xs : List Int} {k : Nat} (hk : knownB (pairAt xs k).1 (pairAt xs k).2 = false) : ∀ n, k < n → allK xs n = false := by
  intro n h
  induction n with
  | zero => omega
  | succ n ih =>
    rw [allK_succ]
    by_cases e : k = n
    · subst e; rw [hk]; simp
    · rw [ih (by omega)]; rfl
/-- Read. -/
def ParseDone (t : TypeId) (xs : List Int) (n : Nat) (w : World) (e : Ending) (w' : World) : Prop :=
  (allK xs n = true ∧ ∃ v, e = .returned (.tuple #[v, .int .i64 (1 + 2 * (n : Int)), .int .i64 0]) ∧ w'.ownsRow w.heap.size t 2 v n (cellsP (pairsL xs n)) ∧ Below w.heap.size w w') ∨
  (allK xs n = false ∧ e = .returned (.tuple #[.slice none 0 0, .int .i64 0, .int .i64 10]) ∧ Below w.heap.size w w')
theorem parse_good {t : TypeId} {xs : List Int} {n : Nat} {w w' : World} {v : Value} {u : Int} (h : allK xs n = true) (hu : u = 1 + 2 * (n : Int)) (ho : w'.ownsRow w.heap.size t 2 v n (cellsP (pairsL xs n))) (hb : Below w.heap.size w w') : ParseDone t xs n w (.returned (.tuple #[v, .int .i64 u, .int .i64 0])) w' := by
  subst hu
  exact .inl ⟨h, v, rfl, ho, hb⟩
theorem parse_bad {t : TypeId} {xs : List Int} {n : Nat} {w w' : World} (h : allK xs n = false) (hb : Below w.heap.size w w') : ParseDone t xs n w (.returned (.tuple #[.slice none 0 0, .int .i64 0, .int .i64 10])) w' := .inr ⟨h, rfl, hb⟩
theorem byte_at {xs : List Int} (hb : ∀ x ∈ xs, 0 ≤ x ∧ x < 256) (i : Nat) (h : i < xs.length) : ∃ n : Nat, n < 256 ∧ xs.getD i 0 = (n : Int) ∧ (xs.getD i 0).toNat = n := by
  have q : xs.getD i 0 ∈ xs := by rw [List.getD, List.getElem?_eq_getElem h]; exact List.getElem_mem h
  have := hb _ q
  exact ⟨(xs.getD i 0).toNat, by omega, by omega, rfl⟩
theorem own_below_o {w1 w2 : World} {B : Nat} {t : TypeId} {m n : Nat} {v : Value} {xs : List Value} (h : w1.ownsRow B t m v n xs) (hb : Below w1.heap.size w1 w2) : w2.ownsRow B t m v n xs := by
  refine ⟨h.1, ?_⟩
  have hl := h.lt
  rcases h.2 with h' | ⟨g, cap, cur, rfl, hg, hh, r⟩
  · exact .inl h'
  · exact .inr ⟨g, cap, cur, rfl, hg, (hb.block g (hl g rfl).2).trans hh, r⟩
theorem held_drew {w0 w : World} {p q : Addr} {x y : Value} (h : w.cell? p = some x ∧ w.cell? q = some y ∧ Below w0.heap.size w0 w) : w.drew.cell? p = some x ∧ w.drew.cell? q = some y ∧ Below w0.heap.size w0 w.drew := ⟨h.1, h.2.1, h.2.2.drew⟩
theorem held_alloc {w0 w : World} {p q : Addr} {x y : Value} {o : Obj} (h : w.cell? p = some x ∧ w.cell? q = some y ∧ Below w0.heap.size w0 w) : (w.alloc o).cell? p = some x ∧ (w.alloc o).cell? q = some y ∧ Below w0.heap.size w0 (w.alloc o) := by
  have hb : Below w.heap.size w (w.alloc o) := (Below.refl _ _).alloc (Nat.le_refl _) _
  exact ⟨keepc hb h.1, keepc hb h.2.1, below_t h.2.2 hb⟩
set_option maxRecDepth 100000 in
set_option maxHeartbeats 2000000 in
theorem parse_row (g off cap : Nat) (xs : List Int) (n : Nat) (hn : n < 256) (hx : xs.getD 0 0 = (n : Int)) (hl : 1 + 2 * n ≤ xs.length) (hlm : xs.length ≤ 100000) (hb : ∀ x ∈ xs, 0 ≤ x ∧ x < 256) (w : World) (hc : ∀ i, i < xs.length → w.cell? ⟨g, off + i, none⟩ = some (.int .u8 (xs.getD i 0))) : Calls Try.prog 135 #[.slice (some ⟨g, off, none⟩) xs.length cap] w (ParseDone 165 xs n w) := by
  obtain ⟨i0, hi, hz0, hz1, hz2⟩ := info_parts infoP
  have c00 := hc 0 (by omega)
  rw [hx, Nat.add_zero] at c00
  have HC := hid hc
  have HBY := hid (fun i h => byte_at hb i h)
  clear hc hb hx
  obtain ⟨L, hL⟩ : ∃ L, L = xs.length := ⟨_, rfl⟩
  rw [← hL] at hl hlm HC HBY ⊢
  clear hL
  have l0 : 0 < L := by omega
  have l1 : ¬ (L : Int) = 0 := by omega
  have l2 : ((L : Int) == 0) = false := by simpa using l1
  have l3 : ¬ (L : Int) < 1 + 2 * n := by omega
  have HM2 : Hid (i0.bytes * n ≤ 281474976710656) := by show _ ≤ _; rw [hz2]; omega
  have HM3 : Hid (n ≤ maxLen) := by show _ ≤ _; unfold maxLen; omega
  go_enter Try.func135, Try.ntmps135
  go_wp2_with (first
    | (at_make; refine wpList_make_own _ rfl _ _ 142 rfl w.heap.size 165 i0 (.agg #[.int .u8 0, .int .u8 0]) 2 Try.underlying142 hi hz0 hz1 .i64 .u8 _ n rfl rfl rfl HM2.out HM3.out (Nat.le_refl _) ?_; intro w1 hown1 hgrow1; have HO1 := hid hown1; have HB1 := hid (((Below.refl w.heap.size w).grown hgrow1 (Nat.le_refl _) (fun k hk => by cases hk))); clear hown1 hgrow1))
  clear c00 l0 l1 l2 l3
  go_loopw [6, 7] (fun v i w' => ∃ k m : Nat, k ≤ n ∧ i = .int .i64 m ∧ Hid (m = 1 + 2 * k) ∧ Hid (w'.ownsRow w.heap.size 165 2 v k (cellsP (pairsL xs k))) ∧ Hid (Below w.heap.size w w') ∧ Hid (allK xs k = true)) (fun _ i _ => 1 + 2 * n - (intOf i).toNat)
  case atStart => exact ⟨0, 1, Nat.zero_le _, rfl, rfl, HO1.out, HB1.out, allK_zero xs⟩
  case round =>
    obtain ⟨k, m, hk, rfl, Hm, HO, HB, HK⟩ := hrel
    by_cases hlt : k < n
    · have hm := Hm.out
      have m1 : (m : Int) < 1 + 2 * n := by omega
      have m2 : (m : Int) < L := by omega
      have m3 : (m : Int) + 1 < L := by omega
      have m4 : (0 : Int) ≤ (m : Int) + 1 := by omega
      have c0 := keepc HB.out (HC.out m (by omega))
      have c1 := keepc HB.out (HC.out (m + 1) (by omega))
      obtain ⟨x, hx1, hx2, hx3⟩ := HBY.out m (by omega)
      obtain ⟨y, hy1, hy2, hy3⟩ := HBY.out (m + 1) (by omega)
      rw [hx2] at c0
      rw [hy2] at c1
      have HP : Hid (pairAt xs k = (x, y)) := by show _ = _; unfold pairAt; rw [← hm, hx3, hy3]
      have HS := hid (cellsP_succ xs k)
      have HKS := hid (allK_succ xs k)
      rw [HP.out] at HS HKS
      have HCH := hid (check_any x y hy1)
      clear hx2 hx3 hy2 hy3 hx1 hy1 hm
      have m5 : IntKind.i64.wrap ((m : Int) + 1) = (m : Int) + 1 := IntWalk.i64_in _ (by omega)
      have m6 : ((m : Int) + 1).toNat = m + 1 := by omega
      have HX := hid (And.intro c0 (And.intro c1 HB.out))
      clear c0 c1
      go_wp2
      go_region_held3 (fun w' => w'.cell? ⟨g, off + m, none⟩ = some (.int .u8 x) ∧ w'.cell? ⟨g, off + (m + 1), none⟩ = some (.int .u8 y) ∧ Below w.heap.size w w') (first | exact held_drew HX.out | exact held_alloc (held_drew HX.out)) (first | fail)
      rename_i hH
      clear hH m5 m6 m2 m3 m4
      have KB : Below wr.heap.size wr (wr.drew.alloc (.cells #[.int .u8 x, .int .u8 y] 165)) := ((Below.refl _ _).drew).alloc (Nat.le_refl _) _
      have HOA := hid (HO.out.drew.alloc (.cells #[.int .u8 x, .int .u8 y] 165))
      have HBA := hid (below_t HB.out KB)
      clear KB
      go_wp2_with fail
      cases hkn : knownB x y
      · rw [hkn] at HCH HKS
        simp only [Bool.false_eq_true, if_false] at HCH
        have HBAD := hid (allK_bad (xs := xs) (k := k) (by rw [HP.out]; exact hkn) n hlt)
        clear hkn
        with_reducible refine (HCH.out _).mono ?_
        rintro e w2 ⟨rfl, hb2⟩
        have HB2 := hid (below_t HBA.out hb2)
        clear hb2
        go_wp2
        go_ret3
        exact parse_bad HBAD.out HB2.out
      · rw [hkn] at HCH HKS
        simp only [if_true] at HCH
        clear hkn
        with_reducible refine (HCH.out _).mono ?_
        rintro e w2 ⟨rfl, hb2⟩
        have q0 := keepc (a := ⟨wr.heap.size, 0, none⟩) (v := .int .u8 x) hb2 (by simp [go_sem])
        have q1 := keepc (a := ⟨wr.heap.size, 1, none⟩) (v := .int .u8 y) hb2 (by simp [go_sem])
        have HB2 := hid (below_t HBA.out hb2)
        have HO2 := hid ((own_below_o HOA.out hb2).alloc (.cells #[.int .u8 x, .int .u8 y] 165))
        have HSZ := hid (show w.heap.size ≤ (w2.alloc (.cells #[.int .u8 x, .int .u8 y] 165)).heap.size by have := HB2.out.size; simp; omega)
        have HNW := hid (news_two w2 (.int .u8 x) (.int .u8 y) 165)
        have HB3 := hid (HB2.out.alloc HB2.out.size (.cells #[.int .u8 x, .int .u8 y] 165))
        have HM : Hid (k + 1 ≤ maxLen) := by show _ ≤ _; unfold maxLen; omega
        have HL : Hid ((k + 1) * 2 ≤ 140737488355328) := by show _ ≤ _; omega
        clear hb2
        go_wp2_with (first
          | (at_builtin; refine wpList_append_own _ rfl _ _ 142 rfl w.heap.size 165 i0 (.agg #[.int .u8 0, .int .u8 0]) 2 2 Try.underlying142 hi hz0 hz1 hz2 rfl (by decide) _ k (cellsP (pairsL xs k)) rfl HO2.out ⟨w2.heap.size, 0, none⟩ 1 1 [.int .u8 x, .int .u8 y] rfl rfl HNW.out (one_two x y) HM.out HL.out HSZ.out ?_; intro v3 w3 hown3 hgrow3 hnil3; have HO4 := hid hown3; have HG4 := hid hgrow3; clear hown3 hgrow3 hnil3))
        go_roundw
        case rel =>
          refine ⟨k + 1, m + 2, by omega, by go_num, ?_, ?_, ?_, ?_⟩
          · show _ = _
            have := Hm.out
            omega
          · show World.ownsRow _ _ _ _ _ _ _
            rw [HS.out]
            exact HO4.out
          · exact HB3.out.grown HG4.out HSZ.out (own_ge HO.out)
          · show _ = _
            rw [HKS.out, HK.out]
            rfl
        case measure => have := Hm.out; simp [intOf]; omega
    · obtain rfl : k = n := by omega
      have hm := Hm.out
      have m1 : ¬ (m : Int) < 1 + 2 * k := by omega
      have HU : Hid ((1 : Int) + 2 * (k : Int) = 1 + 2 * (k : Int)) := rfl
      clear hm
      go_wp2
      go_ret3
      exact parse_good HK.out rfl HO.out HB.out
set_option maxRecDepth 100000 in
set_option maxHeartbeats 2000000 in
theorem parse_short (v : Value) (xs : List Int) (hlm : xs.length ≤ 100000) (hs : xs.length < 1 + 2 * (xs.getD 0 0).toNat) (w : World) (h : Reads w v xs) : Calls Try.prog 135 #[v] w fun e w' => e = .returned (.tuple #[.slice none 0 0, .int .i64 0, .int .i64 2]) ∧ Below w.heap.size w w' := by
  obtain ⟨hb, ⟨rfl, rfl⟩ | ⟨a, cap, rfl, hlc, hcm, hcell⟩⟩ := h
  · clear hs hb hlm
    go_enter Try.func135, Try.ntmps135
    go_wp2
    go_ret3
    exact ⟨rfl, Below.refl _ _⟩
  · by_cases h0 : xs.length = 0
    · rw [h0]
      clear hs hb hlm hlc hcm hcell h0
      go_enter Try.func135, Try.ntmps135
      go_wp2
      go_ret3
      exact ⟨rfl, Below.refl _ _⟩
    · have c0 := hcell 0 (by omega)
      obtain ⟨g, off, spot⟩ := a
      obtain rfl : spot = none := by simpa [Addr.add] using World.cell?_spot c0
      rw [addr_add, Nat.add_zero] at c0
      obtain ⟨c, hc1, hc2, hc3⟩ := byte_at hb 0 (by omega)
      rw [hc3] at hs
      rw [hc2] at c0
      generalize xs.length = L at hs h0 hlm ⊢
      have l1 : ¬ (L : Int) = 0 := by omega
      have l2 : ((L : Int) == 0) = false := by simpa using l1
      have l0 : 0 < L := by omega
      have l3 : (L : Int) < 1 + 2 * c := by omega
      clear hb hlc hcm hcell h0 hc2 hc3 hs
      go_enter Try.func135, Try.ntmps135
      go_wp2
      go_ret3
      exact ⟨rfl, Below.refl _ _⟩
theorem parse_long (v : Value) (xs : List Int) (n : Nat) (hx : (xs.getD 0 0).toNat = n) (hlm : xs.length ≤ 100000) (hs : ¬ xs.length < 1 + 2 * n) (w : World) (h : Reads w v xs) : Calls Try.prog 135 #[v] w (ParseDone 165 xs n w) := by
  obtain ⟨hb, ⟨rfl, rfl⟩ | ⟨a, cap, rfl, hlc, hcm, hcell⟩⟩ := h
  · exact absurd (by simp; omega) hs
  · have c0 := hcell 0 (by omega)
    obtain ⟨g, off, spot⟩ := a
    obtain rfl : spot = none := by simpa [Addr.add] using World.cell?_spot c0
    obtain ⟨c, hc1, hc2, hc3⟩ := byte_at hb 0 (by omega)
    obtain rfl : c = n := by omega
    exact parse_row g off cap xs c hc1 hc2 (by omega) hlm hb w (fun i hi => by have := hcell i hi; rwa [addr_add] at this)
end Go.Proofs.Ytlhaefgchmakfaa
