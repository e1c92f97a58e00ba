/-
  Bytes that are the same; Quiet.
-/
import Derived.Test.YtdpfjbpfafekfaaOm
import Derived.Deep.RegionHeld3
import Derived.Deep.MidRow
namespace Go.Proofs.Ytdpfjbpfafekfaa
open Go.RowKit Go.Lib

set_option maxRecDepth 100000 in
set_option maxHeartbeats 1000000 in
theorem equalB_nil (x y : Option Addr) (c d : Nat) (w : World) : Calls Try.prog 55 #[.slice x 0 c, .slice y 0 d] w fun e w' => e = .returned (.bool true) ∧ Below w.heap.size w w' := by
  go_enter Try.func55, Try.ntmps55
  go_wp2
  go_loopw [13] (fun i W => i = .int .i64 0 ∧ W = w) (fun _ _ => 0)
  case atStart => exact ⟨rfl, rfl⟩
  case round =>
    obtain ⟨rfl, rfl⟩ := hrel
    go_wp2
    go_ret
    exact ⟨rfl, Below.refl _ _⟩
theorem eq_drew {w w1 : World} {a b : Addr} {x y : Value} (h : w1.cell? a = some x ∧ w1.cell? b = some y ∧ Below w.heap.size w w1) : w1.drew.cell? a = some x ∧ w1.drew.cell? b = some y ∧ Below w.heap.size w w1.drew := ⟨h.1, h.2.1, h.2.2.drew⟩
set_option maxRecDepth 100000 in
set_option maxHeartbeats 2000000 in
theorem equalB_row (g o g' o' n c c' : Nat) (xs : List Int) (hn : n = xs.length) (nb : n ≤ 1000000) (w : World) (h1 : ∀ i, i < xs.length → w.cell? ⟨g, o + i, none⟩ = some (.int .u8 (xs.getD i 0))) (h2 : ∀ i, i < xs.length → w.cell? ⟨g', o' + i, none⟩ = some (.int .u8 (xs.getD i 0))) : Calls Try.prog 55 #[.slice (some ⟨g, o, none⟩) n c, .slice (some ⟨g', o', none⟩) n c'] w fun e w' => e = .returned (.bool true) ∧ Below w.heap.size w w' := by
  have H1 := hid (fun i (h : i < n) => h1 i (hn ▸ h))
  have H2 := hid (fun i (h : i < n) => h2 i (hn ▸ h))
  clear h1 h2 hn
  go_enter Try.func55, Try.ntmps55
  go_wp2
  go_loopw [13] (fun i W => ∃ k : Nat, k ≤ n ∧ i = .int .i64 k ∧ Hid (Below w.heap.size w W)) (fun i _ => n - (intOf i).toNat)
  case atStart => exact ⟨0, by omega, rfl, Below.refl _ _⟩
  case round =>
    obtain ⟨k, hk, rfl, HB⟩ := hrel
    by_cases hlt : k < n
    · have hki : (k : Int) < n := by omega
      have c1 := keepc HB.out (H1.out k hlt)
      have c2 := keepc HB.out (H2.out k hlt)
      have HX := hid (And.intro c1 (And.intro c2 HB.out))
      generalize xs.getD k 0 = X at HX c1 c2
      clear c1 c2
      go_wp2
      go_region_held3 (fun w' => w'.cell? ⟨g, o + k, none⟩ = some (.int .u8 X) ∧ w'.cell? ⟨g', o' + k, none⟩ = some (.int .u8 X) ∧ Below w.heap.size w w') (first | exact eq_drew HX.out | assumption | fail) (first | fail)
      rename_i hH
      have HB2 := hid hH.2.2
      clear hH
      go_wp2
      go_roundw
      case rel => exact ⟨k + 1, by omega, by go_num, HB2.out⟩
      case measure => simp [intOf]; omega
    · obtain rfl : k = n := by omega
      go_wp2
      go_ret
      exact ⟨rfl, HB.out⟩
theorem equalB_any (u v : Value) (xs : List Int) (w : World) (hu : Reads w u xs) (hv : Reads w v xs) (hl : xs.length ≤ 1000000) : Calls Try.prog 55 #[u, v] w fun e w' => e = .returned (.bool true) ∧ Below w.heap.size w w' := by
  rcases reads_cases hu with ⟨x, c, rfl, hx⟩ | ⟨g, o, n, c, rfl, hn, hg, hc⟩
  · subst hx
    rcases reads_cases hv with ⟨y, d, rfl, _⟩ | ⟨g', o', n', c', rfl, hn', _⟩
    · exact equalB_nil x y c d w
    · obtain rfl : n' = 0 := by simpa using hn'
      exact equalB_nil x _ c c' w
  · rcases reads_cases hv with ⟨y, d, rfl, hy⟩ | ⟨g', o', n', c', rfl, hn', hg', hc'⟩
    · subst hy
      obtain rfl : n = 0 := by simpa using hn
      exact equalB_nil _ y c d w
    · obtain rfl : n' = n := by omega
      exact equalB_row g o g' o' n' c c' xs hn (by omega) w hc hc'
/-- All that is settled, of the first so many. -/
def setL (st : Nat → Int) (k : Nat) : Bool := (List.range k).all fun i => st i == 0 || st i == 1
theorem setL_succ (st : Nat → Int) (k : Nat) : setL st (k + 1) = (setL st k && (st k == 0 || st k == 1)) := by simp [setL, List.range_succ]
theorem setL_bad {st : Nat → Int} {i k : Nat} (hi : i < k) (h : (st i == 0 || st i == 1) = false) : setL st k = false := by
  unfold setL
  rw [List.all_eq_false]
  exact ⟨i, List.mem_range.2 hi, by rw [h]; simp⟩
/-- Half of a machine's states, as cells. -/
def halfC (st : Nat → Int) (s : Nat) : List Value := (List.range 256).map fun i => .int .u8 (st (s * 256 + i))
def bothC (st : Nat → Int) : List Value := (List.range 512).map fun i => .int .u8 (st i)
theorem both_at (st : Nat → Int) (j : Nat) (hj : j < 512) : (bothC st)[j]? = some (.int .u8 (st j)) := by
  unfold bothC
  rw [List.getElem?_map, List.getElem?_range hj]
  rfl
theorem half_at (st : Nat → Int) (s j : Nat) (hj : j < 256) : (halfC st s)[j]? = some (.int .u8 (st (s * 256 + j))) := by
  unfold halfC
  rw [List.getElem?_map, List.getElem?_range hj]
  rfl
theorem both_len (st : Nat → Int) : (bothC st).length = 512 := by unfold bothC; rw [List.length_map, List.length_range]
theorem half_len (st : Nat → Int) (s : Nat) : (halfC st s).length = 256 := by unfold halfC; rw [List.length_map, List.length_range]
theorem both_range {w : World} {g : Nat} {ag : Nat → Bool} {st : Nat → Int} (h : Mach w g ag st) : w.rangeAt g 512 (bothC st) := fun j v hv => by
  have hj : j < 512 := by have := (List.getElem?_eq_some_iff.1 hv).1; rw [both_len] at this; exact this
  rw [both_at st j hj] at hv
  rw [← Option.some.inj hv]
  exact h.cs j hj
theorem half_one (st : Nat → Int) (s : Nat) : (halfC st s).toArray.all (·.oneCell') = true := by
  rw [List.all_toArray, List.all_eq_true]
  intro v hv
  unfold halfC at hv
  obtain ⟨i, _, rfl⟩ := List.mem_map.1 hv
  rfl
theorem extract_half (st : Nat → Int) (s : Nat) (hs : s < 2) : ((bothC st).drop (s * 256)).take 256 = halfC st s := by
  apply List.ext_getElem?
  intro i
  by_cases hi : i < 256
  · rw [List.getElem?_take_of_lt hi, List.getElem?_drop, both_at st _ (by omega), half_at st s i hi]
  · rw [List.getElem?_eq_none (by rw [List.length_take]; omega), List.getElem?_eq_none (by rw [half_len]; omega)]
theorem info_half : (Try.prog.info? 106).map (·.size) = some 256 := by kernel_rfl
theorem info_both : (Try.prog.info? 107).map (·.size) = some 512 := by kernel_rfl
theorem info_state : (Try.prog.info? 105).map (·.size) = some 1 := by kernel_rfl
theorem index_side (st : Nat → Int) (s : Nat) (hs : s < 2) (w : World) : (Instr.index 107 (.agg (bothC st).toArray) (.int .i64 s)).run Try.prog w = .ok (.agg (halfC st s).toArray) w := by
  obtain ⟨i, hi, hz⟩ := Option.map_eq_some_iff.1 info_half
  have e := extract_half st s hs
  have hl := both_len st
  simp [Instr.index, asIntOf, run_underlying Try.underlying107, sizeOf, typeInfo, hi, hz, part, isAgg, run_underlying Try.underlying106, hs, e, hl]
theorem index_state (st : Nat → Int) (s k : Nat) (hk : k < 256) (w : World) : (Instr.index 106 (.agg (halfC st s).toArray) (.int .i64 k)).run Try.prog w = .ok (.int .u8 (st (s * 256 + k))) w := by
  obtain ⟨i, hi, hz⟩ := Option.map_eq_some_iff.1 info_state
  have e := half_at st s k hk
  have hl := half_len st s
  simp [Instr.index, asIntOf, run_underlying Try.underlying106, sizeOf, typeInfo, hi, hz, part, isAgg, run_underlying Try.underlying105, hk, hl]
  exact (List.getElem?_eq_some_iff.1 e).2
def zeroH : Array Value := (List.replicate 256 (Value.int .u8 0)).toArray
theorem zeroH_size : zeroH.size = 256 := by unfold zeroH; rw [List.size_toArray, List.length_replicate]
theorem zero_half : ∀ w, (zeroValue 106).run Try.prog w = .ok (.agg zeroH) w := (zero_of_info (n := 256) (by kernel_rfl)).1
set_option maxRecDepth 100000 in
set_option maxHeartbeats 2000000 in
theorem quiet_any (g : Nat) (ag : Nat → Bool) (st : Nat → Int) (w : World) (hM : Mach w g ag st) : Calls Try.prog 25 #[.pointer (some ⟨g, 0, none⟩)] w fun e w' => e = .returned (.bool (setL st 512)) ∧ Below w.heap.size w w' := by
  have HR := hid (both_range hM)
  have HOK := hid hM.ok
  have hz := zero_half
  have HI := hid (show (Try.prog.info? 107).map (·.size) = some (bothC st).length by rw [both_len]; exact info_both)
  have HXS := hid (index_side st)
  have HXK := hid (index_state st)
  have HIH := hid (fun s => show (Try.prog.info? 106).map (·.size) = some (halfC st s).toArray.size by rw [List.size_toArray, half_len]; exact info_half)
  have HSZ := hid (fun s => show zeroH.size = (halfC st s).toArray.size by rw [zeroH_size, List.size_toArray, half_len])
  have HO := hid (half_one st)
  clear hM
  go_enter Try.func25, Try.ntmps25
  go_wp2_with (first
    | (with_reducible refine wpList_load_mid rfl _ _ rfl g 512 rfl (bothC st) _ HR.out Try.underlying107 rfl HI.out ?_)
    | fail)
  generalize (bothC st).toArray = BC at HXS ⊢
  go_loopw [13] (fun i W => ∃ s : Nat, s ≤ 2 ∧ i = .int .i64 s ∧ Hid (setL st (s * 256) = true) ∧ Hid (Below w.heap.size w W)) (fun i _ => 2 - (intOf i).toNat)
  case atStart => exact ⟨0, by omega, rfl, rfl, Below.refl _ _⟩
  case round =>
    obtain ⟨s, hs, rfl, HS, HB⟩ := hrel
    by_cases hlt : s < 2
    · have hsi : (s : Int) < 2 := by omega
      have hx := HXS.out s hlt
      have HX2 := hid (fun k hk => HXK.out s k hk)
      have HIs := hid (HIH.out s)
      have HSs := hid (HSZ.out s)
      have HOs := hid (HO.out s)
      generalize (halfC st s).toArray = HC at *
      go_wp2_with (first
        | (with_reducible refine wpList_store_row rfl _ _ _ rfl wr.heap.size HC rfl rfl 106 zeroH (heap_alloc_last _ _) HIs.out HSs.out HOs.out ?_; rw [World.setRow_alloc_new]; simp only [Act.put])
        | (with_reducible refine wpList_load_row rfl _ _ rfl wr.heap.size rfl 106 HC (0, 0) _ (heap_alloc_last _ _) Try.underlying106 rfl HIs.out ?_)
        | fail)
      have HB1 := hid (bal HB.out (.cells HC 106))
      go_loopw [17] (fun i W => ∃ k : Nat, k ≤ 256 ∧ i = .int .i64 k ∧ Hid (setL st (s * 256 + k) = true) ∧ Hid (Below w.heap.size w W)) (fun i _ => 256 - (intOf i).toNat)
      case atStart => exact ⟨0, by omega, rfl, HS.out, HB1.out⟩
      case round =>
        obtain ⟨k, hk, rfl, HK, HBK⟩ := hrel
        by_cases hlk : k < 256
        · have hki : (k : Int) < 256 := by omega
          have hxk := HX2.out k hlk
          obtain ⟨s0, s5⟩ := HOK.out (s * 256 + k)
          have HN := hid (setL_succ st (s * 256 + k))
          rw [HK.out, Bool.true_and] at HN
          have HBD := hid (fun h => setL_bad (st := st) (i := s * 256 + k) (k := 512) (by omega) h)
          generalize st (s * 256 + k) = X at hxk s0 s5 HN HBD
          rcases six s0 s5 with rfl | rfl | rfl | rfl | rfl | rfl
          case inl | inr.inl =>
            go_wp2
            go_roundw
            case rel => exact ⟨k + 1, by omega, by go_num, hid HN.out, HBK.out⟩
            case measure => simp [intOf]; omega
          all_goals
            go_wp2
            go_ret
            exact ⟨by rw [HBD.out rfl]; rfl, HBK.out⟩
        · obtain rfl : k = 256 := by omega
          go_wp2
          go_roundw
          case rel => exact ⟨s + 1, by omega, by go_num, hid (by rw [show (s + 1) * 256 = s * 256 + 256 by omega]; exact HK.out), HBK.out⟩
          case measure => simp [intOf]; omega
    · obtain rfl : s = 2 := by omega
      go_wp2
      go_ret
      exact ⟨by rw [show setL st 512 = true from HS.out]; rfl, HB.out⟩
end Go.Proofs.Ytdpfjbpfafekfaa
