/-
  Bytes at a place; lists of functions: are they such, each once.
-/
import Derived.Test.YtdpfjbpfafekfaaNa
import Derived.Test.YtdpfjbpfafekfaaBf
import Derived.Test.YtdpfjbpfafekfaaBe
namespace Go.Proofs.Ytdpfjbpfafekfaa
open Go.RowKit Go.Lib

/-- Bytes that lie at a place of a block, or none. -/
def RdG (w : World) (v : Value) (xs : List Int) : Prop :=
  (∀ x ∈ xs, 0 ≤ x ∧ x < 256) ∧ ((v = .slice none 0 0 ∧ xs = []) ∨ ∃ g off cap, v = .slice (some ⟨g, off, none⟩) xs.length cap ∧ xs.length ≤ cap ∧ cap ≤ maxLen ∧ ∀ i, i < xs.length → w.cell? ⟨g, off + i, none⟩ = some (.int .u8 (xs.getD i 0)))
theorem RdG.reads {w : World} {v : Value} {xs : List Int} (h : RdG w v xs) : Reads w v xs := by
  refine ⟨h.1, ?_⟩
  rcases h.2 with h1 | ⟨g, off, cap, rfl, h1, h2, h3⟩
  · exact .inl h1
  · exact .inr ⟨⟨g, off, none⟩, cap, rfl, h1, h2, fun i hi => by rw [addr_add]; exact h3 i hi⟩
theorem OwnB.rdg {w : World} {v : Value} {xs : List Int} (h : OwnB w v xs) : RdG w v xs := by
  refine ⟨h.1, ?_⟩
  rcases h.2.2 with ⟨rfl, e⟩ | ⟨g, cap, cur, rfl, hg, hh, h1, h2, h3, h4⟩
  · exact .inl ⟨rfl, List.length_eq_zero_iff.1 e⟩
  · exact .inr ⟨g, 0, cap, rfl, h1, h2, fun i hi => by rw [Nat.zero_add]; exact OwnB.at h i hi⟩
theorem RdG.moved {w w' : World} {v : Value} {xs : List Int} {S S' : List Nat} (h : RdG w v xs) (m : Moved w w' S S') (hk : ∀ k ∈ blkV v, k ∉ S) : RdG w' v xs := by
  refine ⟨h.1, ?_⟩
  rcases h.2 with h1 | ⟨g, off, cap, rfl, h1, h2, h3⟩
  · exact .inl h1
  · exact .inr ⟨g, off, cap, rfl, h1, h2, fun i hi => cell_moved m (h3 i hi) (hk g (by simp [blkV, Value.ownBlock]))⟩
theorem RdG.step {w w' : World} {v : Value} {xs : List Int} (h : RdG w v xs) (hb : Below w.heap.size w w') : RdG w' v xs := h.moved (Moved.below hb []) (fun _ _ q => by cases q)
theorem RdG.slice {w : World} {v : Value} {xs : List Int} (h : RdG w v xs) : ∃ x c, v = .slice x xs.length c := by
  rcases h.2 with ⟨rfl, rfl⟩ | ⟨g, off, cap, rfl, h1, h2, h3⟩
  · exact ⟨_, _, rfl⟩
  · exact ⟨_, _, rfl⟩
/-- Bytes in a row that is not empty. -/
theorem RdG.row {w : World} {v : Value} {xs : List Int} (h : RdG w v xs) (hx : xs ≠ []) : ∃ g off cap, v = .slice (some ⟨g, off, none⟩) xs.length cap ∧ xs.length ≤ cap ∧ cap ≤ maxLen ∧ ∀ i, i < xs.length → w.cell? ⟨g, off + i, none⟩ = some (.int .u8 (xs.getD i 0)) := by
  rcases h.2 with ⟨_, e⟩ | h
  · exact absurd e hx
  · exact h
/-- Strictly rising, none above four. -/
def risesL (xs : List Int) : Bool := decide (∀ i, i < xs.length → xs.getD i 0 ≤ 4 ∧ (0 < i → xs.getD (i - 1) 0 < xs.getD i 0))
theorem rises_fall {xs : List Int} (i : Nat) (hi : i < xs.length) (h : ¬ (xs.getD i 0 ≤ 4 ∧ (0 < i → xs.getD (i - 1) 0 < xs.getD i 0))) : risesL xs = false := decide_eq_false fun q => h (q i hi)
theorem getD_byte {xs : List Int} (h : ∀ x ∈ xs, 0 ≤ x ∧ x < 256) (i : Nat) (hi : i < xs.length) : 0 ≤ xs.getD i 0 ∧ xs.getD i 0 < 256 := by
  rw [List.getD, List.getElem?_eq_getElem hi]
  exact h _ (List.getElem_mem hi)
set_option maxRecDepth 100000 in
set_option maxHeartbeats 2000000 in
theorem areFunctions_any (v : Value) (xs : List Int) (w : World) (h : RdG w v xs) (hl : xs.length ≤ 1000) : Calls Try.prog 61 #[v] w fun e w' => e = .returned (.bool (risesL xs)) ∧ w = w' := by
  by_cases hx : xs = []
  · subst hx
    obtain ⟨x, c, rfl⟩ := h.slice
    clear h
    go_enter Try.func61, Try.ntmps61
    go_wp2
    go_loop [7] (fun i => i = .int .i64 0) (fun _ => 0)
    case atStart => rfl
    case round =>
      obtain rfl := hrel
      go_wp2
      go_ret
      exact ⟨rfl, rfl⟩
  obtain ⟨g, off, cap, rfl, h1, h2, h3⟩ := h.row hx
  have HC := hid h3
  have HBY := hid (getD_byte h.1)
  obtain ⟨n, hn⟩ : ∃ n, n = xs.length := ⟨_, rfl⟩
  have HN := hid hn
  rw [← hn] at hl ⊢
  clear h h3 hx h1 h2 hn
  go_enter Try.func61, Try.ntmps61
  go_wp2
  go_loop [7] (fun i => ∃ k : Nat, k ≤ n ∧ i = .int .i64 k ∧ Hid (∀ i, i < k → xs.getD i 0 ≤ 4 ∧ (0 < i → xs.getD (i - 1) 0 < xs.getD i 0))) (fun i => n - (intOf i).toNat)
  case atStart => exact ⟨0, Nat.zero_le _, rfl, fun i h => absurd h (by omega)⟩
  case round =>
    obtain ⟨k, hk, rfl, HA⟩ := hrel
    by_cases hlt : k < n
    · have c0 := HC.out k (by rw [← HN.out]; exact hlt)
      obtain ⟨b0, b1⟩ := HBY.out k (by rw [← HN.out]; exact hlt)
      have hki : (k : Int) < n := by omega
      by_cases h4 : (4 : Int) < xs.getD k 0
      · have H := hid (rises_fall k (by rw [← HN.out]; exact hlt) (fun q => by omega))
        generalize xs.getD k 0 = z at *
        go_wp2
        go_ret
        exact ⟨(by rw [H.out]; rfl), rfl⟩
      · by_cases hk0 : k = 0
        · subst hk0
          have H := hid (show ∀ i, i < 0 + 1 → xs.getD i 0 ≤ 4 ∧ (0 < i → xs.getD (i - 1) 0 < xs.getD i 0) from fun i hi => by
            obtain rfl : i = 0 := by omega
            exact ⟨by omega, fun h => absurd h (by omega)⟩)
          have hkk : ¬ (0 : Int) < ((0 : Nat) : Int) := by omega
          rw [Nat.add_zero] at c0
          generalize xs.getD 0 0 = z at c0 b0 b1 h4
          go_wp2
          go_round
          case rel => exact ⟨0 + 1, by omega, by go_num, H.out⟩
          case measure => simp [intOf]; omega
        · have c1 := HC.out (k - 1) (by rw [← HN.out]; omega)
          have hk1 : (0 : Int) < k := by omega
          have hkw : IntKind.i64.wrap ((k : Int) - 1) = (k : Int) - 1 := IntWalk.i64_in _ (by omega)
          have hkn : ((k : Int) - 1).toNat = k - 1 := by omega
          have hkp : (0 : Int) ≤ (k : Int) - 1 := by omega
          have hkq : (k : Int) - 1 < n := by omega
          by_cases hle : xs.getD k 0 ≤ xs.getD (k - 1) 0
          · have H := hid (rises_fall k (by rw [← HN.out]; exact hlt) (fun q => by have := q.2 (by omega); omega))
            generalize xs.getD k 0 = z at *
            generalize xs.getD (k - 1) 0 = y at *
            go_wp2
            go_ret
            exact ⟨(by rw [H.out]; rfl), rfl⟩
          · have H := hid (show ∀ i, i < k + 1 → xs.getD i 0 ≤ 4 ∧ (0 < i → xs.getD (i - 1) 0 < xs.getD i 0) from fun i hi => by
              by_cases hik : i < k
              · exact HA.out i hik
              · obtain rfl : i = k := by omega
                exact ⟨by omega, fun _ => by omega⟩)
            generalize xs.getD k 0 = z at c0 b0 b1 h4 hle
            generalize xs.getD (k - 1) 0 = y at c1 hle
            go_wp2
            go_round
            case rel => exact ⟨k + 1, by omega, by go_num, H.out⟩
            case measure => simp [intOf]; omega
    · obtain rfl : k = n := by omega
      have H := hid (show risesL xs = true from decide_eq_true (by rw [← HN.out]; exact HA.out))
      go_wp2
      go_ret
      exact ⟨(by rw [H.out]; rfl), rfl⟩
/-- The reference's look through a list. -/
theorem any_take_none {xs : List Int} {o : Int} (h : ∀ i, i < xs.length → xs.getD i 0 ≠ o) : xs.any (fun x => x == o) = false := any_none h
set_option maxRecDepth 100000 in
set_option maxHeartbeats 2000000 in
theorem rin_any (v : Value) (xs : List Int) (o : Int) (w : World) (h : RdG w v xs) (hl : xs.length ≤ 1000000) : Calls Try.prog 78 #[v, .int .u8 o] w fun e w' => e = .returned (.bool (xs.any fun x => x == o)) ∧ w = w' := by
  by_cases hx : xs = []
  · subst hx
    obtain ⟨x, c, rfl⟩ := h.slice
    clear h
    go_enter Try.func78, Try.ntmps78
    go_wp2
    go_loop [9] (fun i => i = .int .i64 0) (fun _ => 0)
    case atStart => rfl
    case round =>
      obtain rfl := hrel
      go_wp2
      go_ret
      exact ⟨rfl, rfl⟩
  obtain ⟨g, off, cap, rfl, h1, h2, h3⟩ := h.row hx
  have HC := hid h3
  obtain ⟨n, hn⟩ : ∃ n, n = xs.length := ⟨_, rfl⟩
  have HN := hid hn
  rw [← hn] at hl ⊢
  clear h h3 hx h1 h2 hn
  go_enter Try.func78, Try.ntmps78
  go_wp2
  go_loop [9] (fun i => ∃ k : Nat, k ≤ n ∧ i = .int .i64 k ∧ Hid (∀ i, i < k → xs.getD i 0 ≠ o)) (fun i => n - (intOf i).toNat)
  case atStart => exact ⟨0, Nat.zero_le _, rfl, fun i h => absurd h (by omega)⟩
  case round =>
    obtain ⟨k, hk, rfl, HA⟩ := hrel
    by_cases hlt : k < n
    · have c0 := HC.out k (by rw [← HN.out]; exact hlt)
      have hki : (k : Int) < n := by omega
      by_cases heq : xs.getD k 0 = o
      · have H := hid (any_some (xs := xs) (o := o) k (by rw [← HN.out]; exact hlt) heq)
        have hb : (xs.getD k 0 == o) = true := by simpa using heq
        clear heq
        generalize xs.getD k 0 = z at *
        go_wp2
        go_ret
        exact ⟨(by rw [H.out]; rfl), rfl⟩
      · have H := hid (show ∀ i, i < k + 1 → xs.getD i 0 ≠ o from fun i hi => by
          by_cases hik : i < k
          · exact HA.out i hik
          · obtain rfl : i = k := by omega
            exact heq)
        have hb : (xs.getD k 0 == o) = false := by simpa using heq
        clear heq
        generalize xs.getD k 0 = z at c0 hb
        go_wp2
        go_round
        case rel => exact ⟨k + 1, by omega, by go_num, H.out⟩
        case measure => simp [intOf]; omega
    · obtain rfl : k = n := by omega
      have H := hid (any_none (xs := xs) (o := o) (by rw [← HN.out]; exact HA.out))
      go_wp2
      go_ret
      exact ⟨(by rw [H.out]; rfl), rfl⟩
end Go.Proofs.Ytdpfjbpfafekfaa
