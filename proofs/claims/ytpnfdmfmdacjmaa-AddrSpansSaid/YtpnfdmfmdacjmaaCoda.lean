/-
  Addresses as bytes: told and read, the program's and the reference's.
-/
import Derived.Test.YtpnfdmfmdacjmaaSix
import Derived.Laws.BytesArg
namespace Go.Proofs.Ytpnfdmfmdacjmaa
open Go.RowKit Go.Lib

/-- A slice of bytes that reads as a list: none, or a row. -/
def Reads (w : World) (v : Value) (xs : List Int) : Prop :=
  (∀ x ∈ xs, 0 ≤ x ∧ x < 256) ∧ ((v = .slice none 0 0 ∧ xs = []) ∨ ∃ a cap, v = .slice (some a) xs.length cap ∧ xs.length ≤ cap ∧ cap ≤ maxLen ∧ ∀ i, i < xs.length → w.cell? (a.add i) = some (.int .u8 (xs.getD i 0)))
theorem reads_nil (w : World) : Reads w (.slice none 0 0) [] := ⟨fun _ h => (by cases h), .inl ⟨rfl, rfl⟩⟩
theorem addr_add (g off j : Nat) : (⟨g, off, none⟩ : Addr).add j = ⟨g, off + j, none⟩ := by unfold Addr.add; split <;> simp_all
theorem reads_conv {w : World} {v : Value} {xs : List Int} (h : Reads w v xs) : (convert 52 9 v).run Try.prog w = .ok (.string (strOfNums xs)) w := by
  rcases h.2 with ⟨rfl, rfl⟩ | ⟨a, cap, rfl, h1, h2, h3⟩
  · exact run_convert_bytes_nil w 52 5 Try.underlying52 Try.underlying5 0 0 9 Try.underlying9
  · have hl : (loadCells a xs.length).run Try.prog w = .ok (xs.map (Value.int .u8)).toArray w := by
      have := run_loadCells_list (P := Try.prog) w a (xs.map (Value.int .u8)) (fun j v hj => by
        rw [List.getElem?_map] at hj
        by_cases hjl : j < xs.length
        · rw [List.getElem?_eq_getElem hjl] at hj
          simp only [Option.map_some, Option.some.injEq] at hj
          rw [h3 j hjl, List.getD, List.getElem?_eq_getElem hjl, ← hj]
          rfl
        · rw [List.getElem?_eq_none (by omega)] at hj
          simp at hj)
      simpa using this
    rw [run_convert_bytes_string w 52 9 5 _ _ cap Try.underlying52 Try.underlying5 Try.underlying9, run_bytesToString w _ _ cap xs hl, foldl_push_bytes]
    simp [strOfNums, ByteArray.empty, ByteArray.emptyWithCapacity]
    rfl
theorem reads_below {w w' : World} {v : Value} {xs : List Int} (h : Reads w v xs) (hb : Below w.heap.size w w') : Reads w' v xs := by
  refine ⟨h.1, ?_⟩
  rcases h.2 with h1 | ⟨a, cap, rfl, h1, h2, h3⟩
  · exact .inl h1
  · refine .inr ⟨a, cap, rfl, h1, h2, fun i hi => ?_⟩
    have hc := h3 i hi
    exact (hb.cell (World.block_lt_of_cell? w _ hc)).trans hc
/-- Two of new. -/
theorem reads_two (w : World) (a b : Int) (ha : 0 ≤ a ∧ a < 256) (hb : 0 ≤ b ∧ b < 256) : Reads (w.alloc (.cells #[.int .u8 a, .int .u8 b] 5)) (.slice (some ⟨w.heap.size, 0, none⟩) 2 2) [a, b] := by
  refine ⟨fun x hx => ?_, .inr ⟨⟨w.heap.size, 0, none⟩, 2, rfl, Nat.le_refl _, by unfold maxLen; decide, fun i hi => ?_⟩⟩
  · simp only [List.mem_cons, List.not_mem_nil, or_false] at hx
    rcases hx with rfl | rfl
    · exact ha
    · exact hb
  · match i, hi with
    | 0, _ => simp [go_sem, addr_add]
    | 1, _ => simp [go_sem, addr_add]
set_option maxRecDepth 100000 in
theorem same_true (v u : Value) (xs : List Int) (w : World) (hv : Reads w v xs) (hu : Reads w u xs) : Calls Try.prog 38 #[v, u] w fun e w' => e = .returned (.bool true) ∧ w = w' := by
  have e1 := reads_conv hv
  have e2 := reads_conv hu
  generalize strOfNums xs = S at e1 e2
  clear hv hu
  go_enter Try.func38, Try.ntmps38
  go_wp2
  go_ret
  exact ⟨rfl, rfl⟩

theorem wraps_i64 (n : Int) (h₀ : 0 ≤ n) (h₁ : n < 2 ^ 62) : IntKind.i64.wrap n = n := by rw [IntKind.wrap_i64]; omega
theorem or256 (a b : Int) (ha : 0 ≤ a) (ha2 : a < 256) (hb : 0 ≤ b) (hb2 : b < 256) : bits .or .i64 (a * 256) b = 256 * a + b := by
  rw [bits_join .i64 62 (by decide) wraps_i64 8 (a * 256) b (by omega) (by omega) (by omega) hb (by omega) (by omega)]
  omega
theorem or64 (a b : Int) (ha : 0 ≤ a) (ha2 : a < 64) (hb : 0 ≤ b) (hb2 : b < 64) : bits .or .i64 (a * 64) b = 64 * a + b := by
  rw [bits_join .i64 62 (by decide) wraps_i64 6 (a * 64) b (by omega) (by omega) (by omega) hb (by omega) (by omega)]
  omega

/-- An address's bytes. -/
def encL (k n : Int) : List Int := if k = 12 then [sixZ (n / 64 % 64).toNat, sixZ (n % 64).toNat] else [n / 256, n % 256]
/-- How great it may be. -/
def mostZ (k : Int) : Int := if k = 12 then 4095 else if k = 14 then 16383 else 65535
/-- What is told. -/
def EncDone (k n : Int) (w : World) (e : Ending) (w' : World) : Prop :=
  ∃ v er, e = .returned (.tuple #[v, .int .i64 er]) ∧ Below w.heap.size w w' ∧
    ((k ≠ 12 ∧ k ≠ 14 ∧ k ≠ 16) ∧ er = 1 ∧ v = .slice none 0 0 ∨ (k = 12 ∨ k = 14 ∨ k = 16) ∧ (n < 0 ∨ mostZ k < n) ∧ er = 9 ∧ v = .slice none 0 0 ∨ (k = 12 ∨ k = 14 ∨ k = 16) ∧ 0 ≤ n ∧ n ≤ mostZ k ∧ er = 0 ∧ Reads w' v (encL k n))
theorem enc_bad {k n : Int} {w : World} (h : k ≠ 12 ∧ k ≠ 14 ∧ k ≠ 16) : EncDone k n w (.returned (.tuple #[.slice none 0 0, .int .i64 1])) w :=
  ⟨_, _, rfl, Below.refl _ _, .inl ⟨h, rfl, rfl⟩⟩
theorem enc_out {k n : Int} {w : World} (h : k = 12 ∨ k = 14 ∨ k = 16) (hn : n < 0 ∨ mostZ k < n) : EncDone k n w (.returned (.tuple #[.slice none 0 0, .int .i64 9])) w :=
  ⟨_, _, rfl, Below.refl _ _, .inr (.inl ⟨h, hn, rfl, rfl⟩)⟩
theorem enc_12 {n : Int} {w : World} (h0 : 0 ≤ n) (h1 : n < 4096) : EncDone 12 n w (.returned (.tuple #[.slice (some ⟨w.heap.size, 0, none⟩) 2 2, .int .i64 0])) (w.alloc (.cells #[.int .u8 (sixZ (n / 64 % 64).toNat), .int .u8 (sixZ (n % 64).toNat)] 5)) := by
  have a := sixZ_bd (n / 64 % 64).toNat (by omega)
  have b := sixZ_bd (n % 64).toNat (by omega)
  exact ⟨_, _, rfl, (Below.refl _ _).alloc (Nat.le_refl _) _, .inr (.inr ⟨.inl rfl, h0, by unfold mostZ; omega, rfl, reads_two w _ _ (by omega) (by omega)⟩)⟩
theorem enc_14 {k n : Int} {w : World} (hk : k = 14 ∨ k = 16) (h0 : 0 ≤ n) (h1 : n ≤ mostZ k) : EncDone k n w (.returned (.tuple #[.slice (some ⟨w.heap.size, 0, none⟩) 2 2, .int .i64 0])) (w.alloc (.cells #[.int .u8 (n / 256), .int .u8 (n % 256)] 5)) := by
  refine ⟨_, _, rfl, (Below.refl _ _).alloc (Nat.le_refl _) _, .inr (.inr ⟨by omega, h0, h1, rfl, ?_⟩)⟩
  rcases hk with rfl | rfl
  · rw [show encL 14 n = [n / 256, n % 256] from rfl]
    have : n ≤ 16383 := h1
    exact reads_two w _ _ (by omega) (by omega)
  · rw [show encL 16 n = [n / 256, n % 256] from rfl]
    have : n ≤ 65535 := h1
    exact reads_two w _ _ (by omega) (by omega)
theorem abits_no (k : Int) (h : k ≠ 12 ∧ k ≠ 14 ∧ k ≠ 16) (w : World) : Calls Try.prog 75 #[.int .i64 k] w fun e w' => e = .returned (.bool false) ∧ w = w' := by
  obtain ⟨h1, h2, h3⟩ := h
  have e1 : (k == 12) = false := by simpa using h1
  have e2 : (k == 14) = false := by simpa using h2
  have e3 : (k == 16) = false := by simpa using h3
  clear h1 h2 h3
  go_enter Try.func75, Try.ntmps75
  go_wp2
  go_ret
  exact ⟨rfl, rfl⟩
set_option maxRecDepth 100000 in
set_option maxHeartbeats 1000000 in
theorem encode_any (k n : Int) (w : World) : Calls Try.prog 36 #[.int .i64 k, .int .i64 n] w (EncDone k n w) := by
  by_cases hk : k = 12 ∨ k = 14 ∨ k = 16
  · by_cases hn : n < 0 ∨ mostZ k < n
    · have HF := hid (enc_out (w := w) hk hn)
      rcases hk with rfl | rfl | rfl
      all_goals
        by_cases h0 : n < 0
        · clear hn
          go_enter Try.func36, Try.ntmps36
          go_wp2
          go_ret2
          exact HF.out
        · have h1 := hn.resolve_left h0
          unfold mostZ at h1
          simp only [if_pos, Int.reduceEq, if_false] at h1
          clear hn
          go_enter Try.func36, Try.ntmps36
          go_wp2
          go_ret2
          exact HF.out
    · have h0 : 0 ≤ n := by omega
      have h1 : n ≤ mostZ k := by omega
      rcases hk with rfl | rfl | rfl
      · have h2 : n < 4096 := by have : n ≤ 4095 := h1; omega
        have HF := hid (enc_12 (w := w) h0 h2)
        clear hn h1
        go_enter Try.func36, Try.ntmps36
        go_wp2_with fail
        with_reducible refine (show Calls Try.prog 75 #[.int .i64 12] _ (fun e w' => e = .returned (.bool true) ∧ w = w') from ?_).mono ?_
        · go_enter Try.func75, Try.ntmps75
          go_wp2
          go_ret
          exact ⟨rfl, rfl⟩
        rintro e w1 ⟨rfl, rfl⟩
        go_wp2_with (first | (go_at_call 42; (with_reducible refine (six_any _ _).mono ?_); rintro e w1 ⟨rfl, rfl⟩))
        go_ret2
        exact HF.out
      · have h2 : n < 16384 := by have : n ≤ 16383 := h1; omega
        have HF := hid (enc_14 (w := w) (.inl rfl) h0 h1)
        clear hn h1
        go_enter Try.func36, Try.ntmps36
        go_wp2
        go_ret2
        exact HF.out
      · have h2 : n < 65536 := by have : n ≤ 65535 := h1; omega
        have HF := hid (enc_14 (w := w) (.inr rfl) h0 h1)
        clear hn h1
        go_enter Try.func36, Try.ntmps36
        go_wp2
        go_ret2
        exact HF.out
  · have hk' : k ≠ 12 ∧ k ≠ 14 ∧ k ≠ 16 := ⟨fun h => hk (.inl h), fun h => hk (.inr (.inl h)), fun h => hk (.inr (.inr h))⟩
    have HF := hid (enc_bad (n := n) (w := w) hk')
    have HN := hid (abits_no k hk')
    clear hk hk'
    go_enter Try.func36, Try.ntmps36
    go_wp2_with fail
    with_reducible refine (HN.out _).mono ?_
    rintro e w1 ⟨rfl, rfl⟩
    go_wp2
    go_ret2
    exact HF.out
set_option maxRecDepth 100000 in
set_option maxHeartbeats 1000000 in
theorem rencode_any (k n : Int) (w : World) : Calls Try.prog 37 #[.int .i64 k, .int .i64 n] w (EncDone k n w) := by
  by_cases hk : k = 12 ∨ k = 14 ∨ k = 16
  · by_cases hn : n < 0 ∨ mostZ k < n
    · have HF := hid (enc_out (w := w) hk hn)
      rcases hk with rfl | rfl | rfl
      all_goals
        by_cases h0 : n < 0
        · clear hn
          go_enter Try.func37, Try.ntmps37
          go_wp2
          go_ret2
          exact HF.out
        · have h1 := hn.resolve_left h0
          unfold mostZ at h1
          simp only [if_pos, Int.reduceEq, if_false] at h1
          clear hn
          go_enter Try.func37, Try.ntmps37
          go_wp2
          go_ret2
          exact HF.out
    · have h0 : 0 ≤ n := by omega
      have h1 : n ≤ mostZ k := by omega
      rcases hk with rfl | rfl | rfl
      · have h2 : n < 4096 := by have : n ≤ 4095 := h1; omega
        have HF := hid (enc_12 (w := w) h0 h2)
        have HA := hid (rsix_any (n / 64) (i64_small (by omega) (by omega)))
        have HB := hid (rsix_any (n % 64) (i64_small (by omega) (by omega)))
        rw [show (n % 64 % 64).toNat = (n % 64).toNat by omega] at HB
        clear hn h1
        go_enter Try.func37, Try.ntmps37
        go_wp2_with fail
        with_reducible refine (HA.out _).mono ?_
        rintro e w1 ⟨rfl, rfl⟩
        go_wp2_with fail
        with_reducible refine (HB.out _).mono ?_
        rintro e w1 ⟨rfl, rfl⟩
        go_wp2
        go_ret2
        exact HF.out
      · have h2 : n < 16384 := by have : n ≤ 16383 := h1; omega
        have HF := hid (enc_14 (w := w) (.inl rfl) h0 h1)
        clear hn h1
        go_enter Try.func37, Try.ntmps37
        go_wp2
        go_ret2
        exact HF.out
      · have h2 : n < 65536 := by have : n ≤ 65535 := h1; omega
        have HF := hid (enc_14 (w := w) (.inr rfl) h0 h1)
        clear hn h1
        go_enter Try.func37, Try.ntmps37
        go_wp2
        go_ret2
        exact HF.out
  · have hk' : k ≠ 12 ∧ k ≠ 14 ∧ k ≠ 16 := ⟨fun h => hk (.inl h), fun h => hk (.inr (.inl h)), fun h => hk (.inr (.inr h))⟩
    have HF := hid (enc_bad (n := n) (w := w) hk')
    obtain ⟨h1, h2, h3⟩ := hk'
    have e1 : (k == 12) = false := by simpa using h1
    have e2 : (k == 14) = false := by simpa using h2
    have e3 : (k == 16) = false := by simpa using h3
    clear hk h1 h2 h3
    go_enter Try.func37, Try.ntmps37
    go_wp2
    go_ret2
    exact HF.out
end Go.Proofs.Ytpnfdmfmdacjmaa
