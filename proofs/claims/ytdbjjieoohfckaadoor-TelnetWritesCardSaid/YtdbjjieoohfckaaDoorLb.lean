/-
  The reference's Escape, SubBytes, Bytes.
-/
import Derived.Test.YtdbjjieoohfckaaDoorLa
namespace Go.Proofs.YtdbjjieoohfckaaDoor
open Go.RowKit Go.Lib Go.Deep Go.Shelf

theorem esc_snoc {l : List Int} {k : Nat} (h : k < l.length) {z : Int} (hz : l.getD k 0 = z) : escI (l.take (k + 1)) = escI (l.take k) ++ (if z = 255 then [255, 255] else [z]) := by
  subst hz
  rw [List.take_succ_eq_append_getElem h, escI_append, List.getD, List.getElem?_eq_getElem h]
  simp only [Option.getD_some]
  congr 1
set_option maxRecDepth 100000 in
set_option maxHeartbeats 2000000 in
theorem refEscape_any (g n c : Nat) (xs : List Int) (w : World) (hr : Reads w (.slice (some ⟨g, 0, none⟩) n c) xs) (hn : n ≤ 1000000) : Calls Tryd.prog 20 #[.slice (some ⟨g, 0, none⟩) n c] w (SaidB (escI xs) w) := by
  have hnx := (reads_src hr).1
  have HX := hid hr
  have HXB := hid hr.1
  have HNX := hid hnx
  clear hr hnx
  go_enter Tryd.func20, Tryd.ntmps20
  go_wp2
  go_loopw [3, 8] (fun s i W => ∃ k N : Nat, k ≤ n ∧ i = .int .i64 k ∧ N ≤ 2 * k ∧ (∃ y cap, s = .slice y N cap) ∧ Hid (W.ownsRow w.heap.size 5 1 s N ((escI (xs.take k)).map (Value.int .u8))) ∧ Hid (Below w.heap.size w W)) (fun _ i _ => n - (RowKit.intOf i).toNat)
  case atStart => exact ⟨0, 0, Nat.zero_le _, rfl, Nat.le_refl _, ⟨_, _, rfl⟩, World.ownsRow_nil _ _ _ _, Below.refl _ _⟩
  case round =>
    obtain ⟨k, N, hk, rfl, hN, ⟨y, cap, rfl⟩, HO, HB⟩ := hrel
    by_cases hlt : k < n
    · have cc := keepc HB.out (reads_elem HX.out hlt)
      rw [addr_add, Nat.zero_add] at cc
      obtain ⟨z, hce⟩ : ∃ z : Int, xs.getD k 0 = z := ⟨_, rfl⟩
      have hzb : 0 ≤ z ∧ z < 256 := by
        have := HXB.out (xs.getD k 0) (by rw [List.getD, List.getElem?_eq_getElem (by rw [← HNX.out]; exact hlt)]; exact List.getElem_mem _)
        rw [hce] at this
        exact this
      obtain ⟨hz0, hz1⟩ := hzb
      have hes := esc_snoc (by rw [← HNX.out]; exact hlt) hce
      rw [hce] at cc
      have hki : (k : Int) < n := by omega
      clear hce
      by_cases h255 : z = 255
      · subst h255
        rw [if_pos rfl] at hes
        have HES := hid hes
        clear hes
        go_wp2_with (first
          | (at_builtin; refine wpList_append_bytes rfl (.tmp 12) (.tmp 14) rfl w.heap.size N _ _ (escI (xs.take k)) [255] rfl rfl (own_below HO.out ((Below.refl _ _).alloc (Nat.le_refl _) _) (Nat.le_refl _)) (reads_lit wr (0, 0) [255] 1 rfl (by decide) (by decide)) (by show N + 1 ≤ _; omega) (by have := HB.out.size; simp; omega) (N + 1) rfl _ rfl ?_; intro y3 c3 w3 h3 g3; have HO3 := hid h3; have HB3 := hid ((HB.out.alloc HB.out.size (.cells #[.int .u8 255] 5)).grown g3 (by have := HB.out.size; simp; omega) (fun k e => (HO.out.lt k e).1)); clear h3 g3)
          | (at_builtin; refine wpList_append_bytes rfl (.tmp 18) (.tmp 20) rfl w.heap.size (N + 1) _ _ (escI (xs.take k) ++ [255]) [255] rfl rfl (own_below HO3.out ((Below.refl _ _).alloc (Nat.le_refl _) _) (Nat.le_refl _)) (reads_lit w3 (0, 0) [255] 1 rfl (by decide) (by decide)) (by show N + 1 + 1 ≤ _; omega) (by have := HB3.out.size; simp; omega) (N + 1 + 1) rfl _ rfl ?_; intro y5 c5 w5 h5 g5; have HO5 := hid h5; have HB5 := hid ((HB3.out.alloc HB3.out.size (.cells #[.int .u8 255] 5)).grown g5 (by have := HB3.out.size; simp; omega) (fun k e => (HO3.out.lt k e).1)); clear h5 g5)
          | fail)
        go_roundw
        case rel => exact ⟨k + 1, N + 1 + 1, by omega, by go_num, by omega, ⟨_, _, rfl⟩, by have q := HO5.out; rw [List.append_assoc] at q; rw [HES.out]; exact q, HB5.out⟩
        case measure => simp [RowKit.intOf]; omega
      · rw [if_neg h255] at hes
        have HES := hid hes
        clear hes
        go_wp2_with (first
          | (at_builtin; refine wpList_append_bytes rfl (.tmp 12) (.tmp 14) rfl w.heap.size N _ _ (escI (xs.take k)) [z] rfl rfl (own_below HO.out ((Below.refl _ _).alloc (Nat.le_refl _) _) (Nat.le_refl _)) (reads_lit wr (0, 0) [z] 1 rfl (by decide) (by intro x hx; rw [List.mem_singleton.1 hx]; exact ⟨hz0, hz1⟩)) (by show N + 1 ≤ _; omega) (by have := HB.out.size; simp; omega) (N + 1) rfl _ rfl ?_; intro y3 c3 w3 h3 g3; have HO3 := hid h3; have HB3 := hid ((HB.out.alloc HB.out.size (.cells #[.int .u8 z] 5)).grown g3 (by have := HB.out.size; simp; omega) (fun k e => (HO.out.lt k e).1)); clear h3 g3)
          | fail)
        go_roundw
        case rel => exact ⟨k + 1, N + 1, by omega, by go_num, by omega, ⟨_, _, rfl⟩, by rw [HES.out]; exact HO3.out, HB3.out⟩
        case measure => simp [RowKit.intOf]; omega
    · have hkn : k = xs.length := by rw [← HNX.out]; omega
      have hrow := HO.out
      rw [hkn, List.take_length] at hrow
      have HR := hid (row_done2 hrow (escI_bytes HXB.out) (Below.refl _ _))
      clear hrow hkn
      go_wp2
      go_ret
      exact ⟨_, rfl, HR.out, HB.out⟩
set_option maxRecDepth 100000 in
set_option maxHeartbeats 2000000 in
theorem refSub_any (o : Int) (ho : 0 ≤ o ∧ o < 256) (g n c : Nat) (xs : List Int) (w : World) (hr : Reads w (.slice (some ⟨g, 0, none⟩) n c) xs) (hn : n ≤ 1000000) : Calls Tryd.prog 21 #[.int .u8 o, .slice (some ⟨g, 0, none⟩) n c] w (SaidB (subL o xs) w) := by
  have hb : Below w.heap.size w (w.alloc (.cells #[.int .u8 255, .int .u8 250, .int .u8 o] 5)) := (Below.refl _ w).alloc (Nat.le_refl _) _
  have hes := refEscape_any g n c xs _ (reads_below hr hb) hn
  have hnx := (reads_src hr).1
  have hle : (escI xs).length ≤ 2000000 := by
    rw [escI_length]
    have : xs.count 255 ≤ xs.length := List.count_le_length
    omega
  have hrow : (w.alloc (.cells #[.int .u8 255, .int .u8 250, .int .u8 o] 5)).ownsRow w.heap.size 5 1 (.slice (some ⟨w.heap.size, 0, none⟩) 3 3) 3 (([255, 250, o] : List Int).map (Value.int .u8)) := World.ownsRow_lit w #[.int .u8 255, .int .u8 250, .int .u8 o] 3 (Nat.le_refl _) (by decide) rfl
  have HES := hid hes
  have HROW := hid hrow
  have HB := hid hb
  have HXB := hid hr.1
  have HLE := hid hle
  clear hes hrow hb hnx hr hle
  go_enter Tryd.func21, Tryd.ntmps21
  go_wp2_with fail
  refine HES.out.mono ?_
  rintro e w2 ⟨v2, rfl, hv2, hb2⟩
  have HV2 := hid hv2
  have HO2 := hid (own_below HROW.out hb2 (Nat.le_refl _))
  have HB2 := hid (HB.out.trans (hb2.mono HB.out.size))
  obtain ⟨x2, n2, c2, rfl⟩ := reads_any_slice hv2
  clear hv2 hb2
  go_wp2_with (first
    | (at_builtin; refine wpList_append_bytes rfl (.tmp 6) (.tmp 8) rfl w.heap.size 3 _ _ [255, 250, o] (escI xs) rfl rfl HO2.out HV2.out (by have := HLE.out; omega) HB2.out.size _ rfl _ rfl ?_; intro y3 c3 w3 h3 g3; have HO3 := hid h3; have HB3 := hid (HB2.out.grown g3 HB2.out.size (fun k e => (HO2.out.lt k e).1)); clear h3 g3)
    | (at_builtin; refine wpList_append_bytes rfl (.tmp 9) (.tmp 10) rfl w.heap.size _ _ _ _ [255, 240] rfl rfl (own_below HO3.out ((Below.refl _ _).alloc (Nat.le_refl _) _) (Nat.le_refl _)) (reads_lit w3 (0, 0) [255, 240] 2 rfl (by decide) (by decide)) (by have := HLE.out; show _ ≤ 10000000; simp; omega) (by have := HB3.out.size; simp; omega) _ rfl _ rfl ?_; intro y5 c5 w5 h5 g5; have HO5 := hid h5; have HB5 := hid ((HB3.out.alloc HB3.out.size (.cells #[.int .u8 255, .int .u8 240] 5)).grown g5 (by have := HB3.out.size; simp; omega) (fun k e => (HO3.out.lt k e).1)); clear h5 g5)
    | fail)
  go_ret
  exact ⟨_, rfl, row_done2 HO5.out (subL_bytes ho HXB.out) (Below.refl _ _), HB5.out⟩
end Go.Proofs.YtdbjjieoohfckaaDoor
