/-
  Addresses of 12 bits told; where in a text an order begins; a text's bytes.
-/
import Derived.Test.YtlhaefgchmakfaaPa
namespace Go.Proofs.Ytlhaefgchmakfaa
open Go.RowKit Go.Lib

theorem i64_and63 (n : Int) : bits .and .i64 n 63 = n % 64 := by
  have h63 : (BitVec.ofInt 64 63).toNat = 2 ^ 6 - 1 := by decide
  have key : (BitVec.ofInt 64 n &&& BitVec.ofInt 64 63).toNat = (n % ((2 ^ 64 : Nat) : Int)).toNat % 2 ^ 6 := by
    rw [BitVec.toNat_and, BitVec.toNat_ofInt, h63, Nat.and_two_pow_sub_one_eq_mod]
  show IntKind.i64.wrap ((BitVec.ofInt 64 n &&& BitVec.ofInt 64 63).toNat : Nat) = n % 64
  rw [key, IntKind.wrap_i64]
  omega
theorem six_get (k : Nat) (h : k < (⟨sixL.toArray⟩ : ByteArray).size) : ((⟨sixL.toArray⟩ : ByteArray)[k].toNat : Int) = sixZ k := by
  unfold sixZ
  rw [List.getD, List.getElem?_eq_getElem (by exact h)]
  rfl
set_option maxRecDepth 100000 in
theorem six_any (n : Int) (w : World) : Calls Try.prog 86 #[.int .i64 n] w fun e w' => e = .returned (.int .u8 (sixZ (n % 64).toNat)) ∧ w = w' := by
  have hb := i64_and63 n
  obtain ⟨k, hk⟩ : ∃ k : Nat, n % 64 = (k : Int) := ⟨(n % 64).toNat, by omega⟩
  have hl : k < 64 := by omega
  rw [hk] at hb ⊢
  clear hk
  have hl' : (k : Int) < 64 := by omega
  have HG := hid (fun h => six_get k h)
  go_enter Try.func86, Try.ntmps86
  go_wp2
  go_ret
  exact ⟨ret_int (HG.out hl), rfl⟩
/-- An address told: its bytes, or the error. -/
def EncD (n : Int) (w : World) (e : Ending) (w' : World) : Prop := ∃ v, e = .returned (.tuple #[v, .int .i64 (if okA n then 0 else 9)]) ∧ OwnB w' v (if okA n then encZ n else []) ∧ (∀ k ∈ blkV v, w.heap.size ≤ k) ∧ Below w.heap.size w w'
theorem enc_no {n : Int} (h : okA n = false) (w : World) : EncD n w (.returned (.tuple #[.slice none 0 0, .int .i64 9])) w :=
  ⟨_, by rw [h]; rfl, by rw [h]; exact OwnB.nil _, fun _ q => (by cases q), Below.refl _ _⟩
theorem enc_yes {n : Int} (h : okA n = true) (w : World) : EncD n w (.returned (.tuple #[.slice (some ⟨w.heap.size, 0, none⟩) 2 2, .int .i64 0])) (w.alloc (.cells #[.int .u8 (sixZ (n / 64 % 64).toNat), .int .u8 (sixZ (n % 64).toNat)] 5)) :=
  ⟨_, by rw [h]; rfl, by rw [h]; exact own_lit w _ 2 (encZ n) (encZ_u8 n) rfl rfl (by decide) _ rfl, blk_lit w _ 2 2 (Nat.le_refl _), (Below.refl _ _).alloc (Nat.le_refl _) _⟩
set_option maxRecDepth 100000 in
set_option maxHeartbeats 1000000 in
theorem enc_any (n : Int) (w : World) : Calls Try.prog 57 #[.int .i64 12, .int .i64 n] w (EncD n w) := by
  cases hk : okA n
  · have HF := hid (enc_no hk w)
    have h1 : n < 0 ∨ 4095 < n := by
      by_cases q : 0 ≤ n ∧ n ≤ 4095
      · rw [okA_iff.2 q] at hk; cases hk
      · omega
    clear hk
    by_cases h0 : n < 0
    · clear h1
      go_enter Try.func57, Try.ntmps57
      go_wp2
      go_ret2
      exact HF.out
    · have h2 : 4095 < n := h1.resolve_left h0
      have h3 : 4096 ≤ n := by omega
      clear h1
      go_enter Try.func57, Try.ntmps57
      go_wp2
      go_ret2
      exact HF.out
  · have HF := hid (enc_yes hk w)
    obtain ⟨h0, h1⟩ := okA_iff.1 hk
    have h2 : n < 4096 := by omega
    clear hk h1
    go_enter Try.func57, Try.ntmps57
    go_wp2_with fail
    with_reducible refine (show Calls Try.prog 85 #[.int .i64 12] _ (fun e w' => e = .returned (.bool true) ∧ w = w') from ?_).mono ?_
    · go_enter Try.func85, Try.ntmps85
      go_wp2
      go_ret
      exact ⟨rfl, rfl⟩
    rintro e w1 ⟨rfl, rfl⟩
    go_wp2_with (first | (go_at_call 86; (with_reducible refine (six_any _ _).mono ?_); rintro e w1 ⟨rfl, rfl⟩))
    go_ret2
    exact HF.out

/-- Where the first order begins, or that none does. -/
def IdxE (xs : List Int) (w : World) (e : Ending) (w' : World) : Prop := ∃ r : Int, e = .returned (.int .i64 r) ∧ ((0 ≤ r ∧ xs.any isO = true) ∨ (r = -1 ∧ xs.any isO = false)) ∧ w = w'
theorem any_at {xs : List Int} {k : Nat} (h : k < xs.length) (hi : isO (xs.getD k 0) = true) : xs.any isO = true := by
  rw [List.any_eq_true]
  refine ⟨xs[k], List.getElem_mem h, ?_⟩
  rwa [List.getD, List.getElem?_eq_getElem h] at hi
theorem any_not {xs : List Int} (h : ∀ j, j < xs.length → isO (xs.getD j 0) = false) : xs.any isO = false := by
  rw [List.any_eq_false]
  intro x hx
  obtain ⟨i, hi, rfl⟩ := List.getElem_of_mem hx
  have := h i hi
  rw [List.getD, List.getElem?_eq_getElem hi] at this
  simpa using this
set_option maxRecDepth 100000 in
set_option maxHeartbeats 1000000 in
theorem idxe_empty (x : Option Addr) (c : Nat) (w : World) : Calls Try.prog 130 #[.slice x 0 c, .func (.func 103) #[] #[]] w (IdxE [] w) := by
  go_enter Try.func130, Try.ntmps130
  go_wp2
  go_loopw [8] (fun i W => i = .int .i64 0 ∧ W = w) (fun _ _ => 0)
  case atStart => exact ⟨rfl, rfl⟩
  case round =>
    obtain ⟨rfl, rfl⟩ := hrel
    go_wp2
    go_ret
    exact ⟨-1, rfl, .inr ⟨rfl, rfl⟩, rfl⟩
set_option maxRecDepth 100000 in
set_option maxHeartbeats 1000000 in
theorem idxe_row (g off n c : Nat) (xs : List Int) (hx : ∀ x ∈ xs, 0 ≤ x ∧ x < 256) (hn : n = xs.length) (nb : n ≤ 1000000) (w : World) (hc : ∀ i, i < xs.length → w.cell? ⟨g, off + i, none⟩ = some (.int .u8 (xs.getD i 0))) : Calls Try.prog 130 #[.slice (some ⟨g, off, none⟩) n c, .func (.func 103) #[] #[]] w (IdxE xs w) := by
  have HC := hid (fun i (h : i < n) => hc i (hn ▸ h))
  have HBY := hid (fun i (h : i < n) => byte_at hx i (hn ▸ h))
  have HAT := hid (fun k (h : k < n) (hi : isO (xs.getD k 0) = true) => any_at (hn ▸ h) hi)
  have HNO := hid (fun (h : ∀ j, j < n → isO (xs.getD j 0) = false) => any_not (xs := xs) (hn ▸ h))
  clear hc hn hx
  go_enter Try.func130, Try.ntmps130
  go_wp2
  go_loopw [8] (fun i W => ∃ k : Nat, k ≤ n ∧ i = .int .i64 k ∧ Hid (∀ j, j < k → isO (xs.getD j 0) = false) ∧ W = w) (fun i _ => n - (intOf i).toNat)
  case atStart => exact ⟨0, Nat.zero_le _, rfl, fun j hj => absurd hj (Nat.not_lt_zero _), rfl⟩
  case round =>
    obtain ⟨k, hk, rfl, HK, rfl⟩ := hrel
    by_cases hlt : k < n
    · have c0 := HC.out k hlt
      obtain ⟨b, hb1, hb2, hb3⟩ := HBY.out k hlt
      have HA := hid (HAT.out k hlt)
      have HS := hid (is_one b (by omega))
      have HK2 := hid (fun (hf : isO (xs.getD k 0) = false) => show ∀ j, j < k + 1 → isO (xs.getD j 0) = false from fun j hj => by
        by_cases e : j = k
        · rw [e]; exact hf
        · exact HK.out j (by omega))
      rw [hb2] at c0 HA HK2
      have hki : (k : Int) < n := by omega
      clear hb2 hb3
      cases hi : isO (b : Int)
      · rw [hi] at HS
        have HG1 := hid (HK2.out hi)
        clear hi HA HK2
        go_wp2_with fail
        with_reducible refine (HS.out _).mono ?_
        rintro e w1 ⟨rfl, rfl⟩
        go_wp2
        go_roundw
        case rel => exact ⟨k + 1, by omega, by go_num, HG1.out, trivial⟩
        case measure => simp [intOf]; omega
      · rw [hi] at HS
        have HQ1 := hid (HA.out hi)
        clear hi HA HK2
        go_wp2_with fail
        with_reducible refine (HS.out _).mono ?_
        rintro e w1 ⟨rfl, rfl⟩
        go_wp2
        go_ret
        exact ⟨k, rfl, .inl ⟨by omega, HQ1.out⟩, rfl⟩
    · obtain rfl : k = n := by omega
      have HF := hid (HNO.out HK.out)
      go_wp2
      go_ret
      exact ⟨-1, rfl, .inr ⟨rfl, HF.out⟩, rfl⟩
theorem idxe_any (v : Value) (xs : List Int) (w : World) (h : Reads w v xs) (hl : xs.length ≤ 1000000) : Calls Try.prog 130 #[v, .func (.func 103) #[] #[]] w (IdxE xs w) := by
  rcases reads_cases h with ⟨x, c, rfl, rfl⟩ | ⟨g, o, n, c, rfl, hn, _, hc⟩
  · exact idxe_empty x c w
  · exact idxe_row g o n c xs h.1 hn (by omega) w hc
set_option maxRecDepth 100000 in
set_option maxHeartbeats 1000000 in
theorem holds_any (v : Value) (xs : List Int) (w : World) (h : Reads w v xs) (hl : xs.length ≤ 1000000) : Calls Try.prog 120 #[v, .func (.func 103) #[] #[]] w fun e w' => e = .returned (.bool (xs.any isO)) ∧ w = w' := by
  have HI := hid (idxe_any v xs w h hl)
  obtain ⟨x, n, c, hv⟩ : ∃ x n c, v = .slice x n c := by
    rcases reads_cases h with ⟨x, c, rfl, rfl⟩ | ⟨g, o, n, c, rfl, hn, _, hc⟩
    · exact ⟨_, _, _, rfl⟩
    · exact ⟨_, _, _, rfl⟩
  subst hv
  clear h hl
  generalize hb : xs.any isO = b at HI ⊢
  have HB := hid hb
  clear hb
  go_enter Try.func120, Try.ntmps120
  go_wp2_with fail
  with_reducible refine HI.out.mono ?_
  rintro e w1 ⟨r, rfl, hr, rfl⟩
  rcases hr with ⟨hr, h2⟩ | ⟨rfl, h2⟩
  · have HR := hid (HB.out.symm.trans h2)
    clear h2
    go_wp2
    go_ret
    exact ⟨by rw [HR.out]; rfl, rfl⟩
  · have HR := hid (HB.out.symm.trans h2)
    clear h2
    go_wp2
    go_ret
    exact ⟨by rw [HR.out]; rfl, rfl⟩
/-- Bytes told: they are one's own and new; or the error. -/
def BytD (r : Int × List Int) (w : World) (e : Ending) (w' : World) : Prop := ∃ v, e = .returned (.tuple #[v, .int .i64 r.1]) ∧ OwnB w' v r.2 ∧ (∀ k ∈ blkV v, w.heap.size ≤ k) ∧ Below w.heap.size w w'
theorem byt_no (er : Int) {w w' : World} (hb : Below w.heap.size w w') : BytD (er, []) w (.returned (.tuple #[.slice none 0 0, .int .i64 er])) w' := ⟨_, rfl, OwnB.nil _, fun _ q => (by cases q), hb⟩
set_option maxRecDepth 100000 in
set_option maxHeartbeats 1000000 in
theorem text_told (v : Value) (xs : List Int) (w : World) (h : Reads w v xs) (hl : xs.length ≤ 1000000) : Calls Try.prog 108 #[v] w (BytD (opB (opT xs)) w) := by
  have HH := hid (holds_any v xs w h hl)
  have HCL := hid (clone_any v xs w h (by omega))
  rcases reads_cases h with ⟨x, c, rfl, rfl⟩ | ⟨g, o, n, c, rfl, hn, _, hc⟩
  · rw [opB_Tn (.inl rfl)]
    have HF := hid (byt_no 10 (Below.refl w.heap.size w))
    clear h hl HH HCL
    go_enter Try.func108, Try.ntmps108
    go_wp2
    go_ret2
    exact HF.out
  · by_cases h0 : n = 0
    · subst h0
      have hx : xs = [] := List.length_eq_zero_iff.1 hn.symm
      subst hx
      rw [opB_Tn (.inl rfl)]
      have HF := hid (byt_no 10 (Below.refl w.heap.size w))
      clear h hl HH HCL hc hn
      go_enter Try.func108, Try.ntmps108
      go_wp2
      go_ret2
      exact HF.out
    · have hx : xs ≠ [] := fun e => by rw [e] at hn; exact h0 hn
      have hn0 : 0 < n := by omega
      have e0 : ((n : Int) == 0) = false := by simpa using h0
      have e1 : (n == 0) = false := by simpa using h0
      cases hb : xs.any isO
      · rw [opB_T hx hb]
        rw [hb] at HH
        clear h hl hc hn hx hb h0
        go_enter Try.func108, Try.ntmps108
        go_wp2_with fail
        with_reducible refine HH.out.mono ?_
        rintro e w1 ⟨rfl, rfl⟩
        go_wp2_with fail
        with_reducible refine HCL.out.mono ?_
        rintro e w1 ⟨q, rfl, ho, hb1, hk⟩
        have HF := hid (show BytD (0, xs) w (.returned (.tuple #[q, .int .i64 0])) w1 from ⟨_, rfl, ho, hk, hb1⟩)
        obtain ⟨xq, nq, cq, rfl⟩ := own_slice ho
        clear ho hb1 hk
        go_wp2
        go_ret2
        exact HF.out
      · rw [opB_Tn (.inr hb)]
        rw [hb] at HH
        have HF := hid (byt_no 10 (Below.refl w.heap.size w))
        clear h hl hc hn hx hb h0 HCL
        go_enter Try.func108, Try.ntmps108
        go_wp2_with fail
        with_reducible refine HH.out.mono ?_
        rintro e w1 ⟨rfl, rfl⟩
        go_wp2
        go_ret2
        exact HF.out
end Go.Proofs.Ytlhaefgchmakfaa
