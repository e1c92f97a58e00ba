/-
  slices.Index and slices.Contains of bytes.
-/
import Derived.Test.YtdpfjbpfafekfaaBd
namespace Go.Proofs.Ytdpfjbpfafekfaa
open Go.RowKit Go.Lib

theorem reads_cases {w : World} {v : Value} {xs : List Int} (h : Reads w v xs) : (∃ x c, v = .slice x 0 c ∧ xs = []) ∨ ∃ g o n c, v = .slice (some ⟨g, o, none⟩) n c ∧ n = xs.length ∧ g < w.heap.size ∧ ∀ i, i < xs.length → w.cell? ⟨g, o + i, none⟩ = some (.int .u8 (xs.getD i 0)) := by
  obtain ⟨hb, ⟨rfl, rfl⟩ | ⟨a, cap, rfl, h1, h2, h3⟩⟩ := h
  · exact .inl ⟨_, _, rfl, rfl⟩
  · by_cases hx : xs = []
    · subst hx
      exact .inl ⟨_, _, rfl, rfl⟩
    · have hp : 0 < xs.length := List.length_pos_iff.2 hx
      have c0 := h3 0 hp
      obtain ⟨g, off, spot⟩ := a
      obtain rfl : spot = none := by simpa [Addr.add] using World.cell?_spot c0
      refine .inr ⟨g, off, _, cap, rfl, rfl, ?_, fun i hi => ?_⟩
      · have := World.block_lt_of_cell? w _ c0
        rw [addr_add] at this
        exact this
      · have := h3 i hi
        rw [addr_add] at this
        exact this
/-- Where a byte is, if it is there. -/
def IndexD (b : Bool) (w : World) (e : Ending) (w' : World) : Prop := ∃ r : Int, e = .returned (.int .i64 r) ∧ ((0 ≤ r ∧ b = true) ∨ (r = -1 ∧ b = false)) ∧ w = w'
theorem any_none {xs : List Int} {o : Int} (h : ∀ i, i < xs.length → xs.getD i 0 ≠ o) : xs.any (fun x => x == o) = false := by
  rw [List.any_eq_false]
  intro x hx
  obtain ⟨i, hi, rfl⟩ := List.mem_iff_getElem.1 hx
  have := h i hi
  rw [List.getD, List.getElem?_eq_getElem hi] at this
  simpa using this
theorem any_some {xs : List Int} {o : Int} (i : Nat) (hi : i < xs.length) (h : xs.getD i 0 = o) : xs.any (fun x => x == o) = true := by
  rw [List.any_eq_true]
  refine ⟨xs[i], List.getElem_mem hi, ?_⟩
  rw [List.getD, List.getElem?_eq_getElem hi] at h
  simpa using h
set_option maxRecDepth 100000 in
set_option maxHeartbeats 1000000 in
theorem index_empty (x : Option Addr) (c o : Nat) (w : World) : Calls Try.prog 59 #[.slice x 0 c, .int .u8 o] w (IndexD false w) := by
  go_enter Try.func59, Try.ntmps59
  go_wp2
  go_loopw [8] (fun i W => i = .int .i64 0 ∧ W = w) (fun _ _ => 0)
  case atStart => exact ⟨rfl, rfl⟩
  case round =>
    obtain ⟨rfl, rfl⟩ := hrel
    go_wp2
    go_ret
    exact ⟨-1, rfl, .inr ⟨rfl, rfl⟩, rfl⟩
set_option maxRecDepth 100000 in
set_option maxHeartbeats 1000000 in
theorem index_row (g off n c : Nat) (xs : List Int) (hn : n = xs.length) (nb : n ≤ 1000000) (o : Nat) (w : World) (hc : ∀ i, i < xs.length → w.cell? ⟨g, off + i, none⟩ = some (.int .u8 (xs.getD i 0))) : Calls Try.prog 59 #[.slice (some ⟨g, off, none⟩) n c, .int .u8 o] w (IndexD (xs.any fun x => x == (o : Int)) w) := by
  have HC := hid (fun i (h : i < n) => hc i (hn ▸ h))
  have HN := hid hn
  clear hc hn
  go_enter Try.func59, Try.ntmps59
  go_wp2
  go_loopw [8] (fun i W => ∃ k : Nat, k ≤ n ∧ i = .int .i64 k ∧ Hid (∀ j, j < k → xs.getD j 0 ≠ (o : Int)) ∧ W = w) (fun i _ => n - (intOf i).toNat)
  case atStart => exact ⟨0, Nat.zero_le _, rfl, fun j hj => by omega, rfl⟩
  case round =>
    obtain ⟨k, hk, rfl, HK, rfl⟩ := hrel
    by_cases hlt : k < n
    · have c0 := HC.out k hlt
      have hki : (k : Int) < n := by omega
      by_cases e : xs.getD k 0 = (o : Int)
      · rw [e] at c0
        have HR : Hid (IndexD (xs.any fun x => x == (o : Int)) wr (.returned (.int .i64 k)) wr) := ⟨k, rfl, .inl ⟨by omega, any_some k (by rw [← HN.out]; exact hlt) e⟩, rfl⟩
        clear e
        go_wp2
        go_ret
        exact HR.out
      · have HR : Hid (∀ j, j < k + 1 → xs.getD j 0 ≠ (o : Int)) := fun j hj => by
          by_cases ej : j = k
          · rw [ej]; exact e
          · exact HK.out j (by omega)
        have e' : ((o : Int) == xs.getD k 0) = false := by simpa using fun h => e h.symm
        generalize xs.getD k 0 = y at c0 e'
        clear e HK
        go_wp2
        go_roundw
        case rel => exact ⟨k + 1, by omega, by go_num, HR.out, trivial⟩
        case measure => simp [intOf]; omega
    · obtain rfl : k = n := by omega
      go_wp2
      go_ret
      exact ⟨-1, rfl, .inr ⟨rfl, any_none (by rw [← HN.out]; exact HK.out)⟩, rfl⟩
theorem index_any (v : Value) (xs : List Int) (o : Nat) (w : World) (h : Reads w v xs) (hl : xs.length ≤ 1000000) : Calls Try.prog 59 #[v, .int .u8 o] w (IndexD (xs.any fun x => x == (o : Int)) w) := by
  rcases reads_cases h with ⟨x, c, rfl, rfl⟩ | ⟨g, off, n, c, rfl, hn, hg, hc⟩
  · exact index_empty x c o w
  · exact index_row g off n c xs hn (by omega) o w hc
set_option maxRecDepth 100000 in
set_option maxHeartbeats 1000000 in
theorem contains_any (v : Value) (xs : List Int) (o : Nat) (w : World) (h : Reads w v xs) (hl : xs.length ≤ 1000000) : Calls Try.prog 31 #[v, .int .u8 o] w fun e w' => e = .returned (.bool (xs.any fun x => x == (o : Int))) ∧ w = w' := by
  have H := hid (index_any v xs o w h hl)
  have hs : ∃ x n c, v = .slice x n c := by
    rcases h.2 with ⟨rfl, _⟩ | ⟨a, cap, rfl, _⟩
    · exact ⟨_, _, _, rfl⟩
    · exact ⟨_, _, _, rfl⟩
  obtain ⟨x, n, c, rfl⟩ := hs
  clear h
  generalize (xs.any fun x => x == (o : Int)) = b at H ⊢
  go_enter Try.func31, Try.ntmps31
  go_wp2_with fail
  with_reducible refine H.out.mono ?_
  rintro e w1 ⟨r, rfl, hr, rfl⟩
  rcases hr with ⟨h0, rfl⟩ | ⟨rfl, rfl⟩
  · clear H
    go_wp2
    go_ret
    exact ⟨by first | rfl | simp [h0], rfl⟩
  · clear H
    go_wp2
    go_ret
    exact ⟨rfl, rfl⟩
end Go.Proofs.Ytdpfjbpfafekfaa
