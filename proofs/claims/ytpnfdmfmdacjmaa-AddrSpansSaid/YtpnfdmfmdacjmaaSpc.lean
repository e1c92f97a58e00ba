/-
  slices.Equal on ints that are the same.
-/
import Derived.Test.YtpnfdmfmdacjmaaSpb
namespace Go.Proofs.Ytpnfdmfmdacjmaa
open Go.RowKit Go.Lib

/-- The slice reads these ints. -/
def IsInts (w : World) (v : Value) (xs : List Int) : Prop := (v = .slice none 0 0 ∧ xs = []) ∨ ∃ g off cap, v = .slice (some ⟨g, off, none⟩) xs.length cap ∧ ∀ i, i < xs.length → w.cell? ⟨g, off + i, none⟩ = some (.int .i64 (xs.getD i 0))
theorem isInts_below {w w' : World} {v : Value} {xs : List Int} (h : IsInts w v xs) (hb : Below w.heap.size w w') : IsInts w' v xs := by
  rcases h with h | ⟨g, off, cap, rfl, h⟩
  · exact .inl h
  · exact .inr ⟨g, off, cap, rfl, fun i hi => keepc hb (h i hi)⟩
theorem isInts_own {w : World} {B : Nat} {v : Value} {xs : List Int} (h : w.ownsRow B 3 1 v xs.length (xs.map (Value.int .i64))) : IsInts w v xs := by
  rcases h.2 with ⟨rfl, hn⟩ | ⟨g, cap, cur, rfl, hg, hh, hc, hm, hs, ht⟩
  · exact .inl ⟨rfl, List.length_eq_zero_iff.1 hn⟩
  · refine .inr ⟨g, 0, cap, rfl, fun i hi => ?_⟩
    have hl : i < cur.size := by omega
    have e1 : (cur.toList.take (xs.length * 1))[i]? = some (.int .i64 (xs.getD i 0)) := by
      rw [ht]
      simp [hi]
    rw [List.getElem?_take_of_lt (by omega)] at e1
    simp only [Array.getElem?_toList] at e1
    simp [World.cell?, hh, e1, Nat.zero_add]

theorem sheld_drew {w w1 : World} {a b : Addr} {x y : Value} (h : w1.cell? a = some x ∧ w1.cell? b = some y ∧ Below w.heap.size w w1) : w1.drew.cell? a = some x ∧ w1.drew.cell? b = some y ∧ Below w.heap.size w w1.drew := ⟨h.1, h.2.1, h.2.2.drew⟩
set_option maxRecDepth 100000 in
theorem equal_nil (a b : Option Addr) (c d : Nat) (w : World) : Calls Try.prog 31 #[.slice a 0 c, .slice b 0 d] w fun e w' => e = .returned (.bool true) ∧ Below w.heap.size w w' := by
  go_enter Try.func31, Try.ntmps31
  go_wp2_with fail
  go_loopw [13] (fun i w' => i = .int .i64 0 ∧ w' = w) (fun _ _ => 0)
  case atStart => exact ⟨rfl, rfl⟩
  case round =>
    obtain ⟨rfl, rfl⟩ := hrel
    go_wp2
    go_ret
    exact ⟨rfl, Below.refl _ _⟩
set_option maxRecDepth 100000 in
set_option maxHeartbeats 2000000 in
theorem equal_ints {u v : Value} {xs : List Int} {w : World} (hl : xs.length ≤ 100000) (hu : IsInts w u xs) (hv : IsInts w v xs) : Calls Try.prog 31 #[u, v] w fun e w' => e = .returned (.bool true) ∧ Below w.heap.size w w' := by
  rcases hu with ⟨rfl, rfl⟩ | ⟨g, off, cap, rfl, hu⟩
  · have hv2 : ∃ a c, v = .slice a 0 c := by
      rcases hv with ⟨rfl, _⟩ | ⟨g', off', cap', rfl, _⟩
      · exact ⟨_, _, rfl⟩
      · exact ⟨_, _, rfl⟩
    obtain ⟨a', c', rfl⟩ := hv2
    clear hv
    exact equal_nil _ _ _ _ w
  · rcases hv with ⟨rfl, rfl⟩ | ⟨g', off', cap', rfl, hv⟩
    · exact equal_nil _ _ _ _ w
    · have HU := hid hu
      have HV := hid hv
      clear hu hv
      obtain ⟨n, hn⟩ : ∃ n, n = xs.length := ⟨_, rfl⟩
      rw [← hn] at hl HU HV ⊢
      clear hn
      have HB0 := hid (Below.refl w.heap.size w)
      go_enter Try.func31, Try.ntmps31
      go_wp2_with fail
      go_loopw [13] (fun i w' => ∃ k : Nat, k ≤ n ∧ i = .int .i64 k ∧ Hid (Below w.heap.size w w')) (fun i _ => n - (intOf i).toNat)
      case atStart => exact ⟨0, Nat.zero_le _, rfl, HB0.out⟩
      case round =>
        obtain ⟨k, hk, rfl, HB⟩ := hrel
        by_cases hlt : k < n
        · have c0 := keepc HB.out (HU.out k hlt)
          have c1 := keepc HB.out (HV.out k hlt)
          have hki : (k : Int) < n := by omega
          have s1 : IntKind.i64.wrap ((k : Int) + 1) = (k : Int) + 1 := IntWalk.i64_in _ (by omega)
          generalize xs.getD k 0 = X at c0 c1
          have HX := hid (And.intro c0 (And.intro c1 HB.out))
          clear c0 c1
          go_wp2_with fail
          go_region_held3 (fun w' => w'.cell? ⟨g, off + k, none⟩ = some (.int .i64 X) ∧ w'.cell? ⟨g', off' + k, none⟩ = some (.int .i64 X) ∧ Below w.heap.size w w') (first | exact sheld_drew HX.out | exact HX.out | assumption) (first | fail)
          all_goals
            rename_i hH
            have HY := hid hH.2.2
            clear hH
            go_wp2_with fail
            go_roundw
            case rel => exact ⟨k + 1, by omega, by go_num, HY.out⟩
            case measure => simp [intOf]; omega
        · obtain rfl : k = n := by omega
          go_wp2
          go_ret
          exact ⟨rfl, HB.out⟩

end Go.Proofs.Ytpnfdmfmdacjmaa
