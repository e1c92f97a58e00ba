/-
  Messages as the document has them; lists of messages and of bytes that are the same; Quiet.
-/
import Derived.Test.YtahminbgedmgcaaOs
import Derived.Test.YtahminbgedmgcaaOm
import Derived.Deep.RegionHeld3
import Derived.Deep.MidRow
namespace Go.Proofs.Ytahminbgedmgcaa
open Go.RowKit Go.Lib

theorem info_msg : (Try.prog.info? 44).map (fun i => (i.zero, i.size, i.bytes)) = some (some (.agg #[.int .u8 0, .int .u8 0]), 2, 2) := by kernel_rfl
/-- One message, somewhere. -/
def OneM (w : World) (v : Value) (x o : Int) : Prop := ∃ g cap, v = .slice (some ⟨g, 0, none⟩) 1 cap ∧ w.cell? ⟨g, 0, none⟩ = some (.int .u8 x) ∧ w.cell? ⟨g, 1, none⟩ = some (.int .u8 o)
theorem OneM.step {w w' : World} {v : Value} {x o : Int} (h : OneM w v x o) (hb : Below w.heap.size w w') : OneM w' v x o := by
  obtain ⟨g, cap, rfl, h0, h1⟩ := h
  exact ⟨g, cap, rfl, keepc hb h0, keepc hb h1⟩
set_option maxRecDepth 100000 in
set_option maxHeartbeats 1000000 in
theorem equalM_nil (x y : Option Addr) (c d : Nat) (w : World) : Calls Try.prog 17 #[.slice x 0 c, .slice y 0 d] w fun e w' => e = .returned (.bool true) ∧ Below w.heap.size w w' := by
  go_enter Try.func17, Try.ntmps17
  go_wp2
  go_loopw [13] (fun i W => i = .int .i64 0 ∧ W = w) (fun _ _ => 0)
  case atStart => exact ⟨rfl, rfl⟩
  case round =>
    obtain ⟨rfl, rfl⟩ := hrel
    go_wp2
    go_ret
    exact ⟨rfl, Below.refl _ _⟩
/-- Four cells and what is below. -/
def Four4 (w0 w : World) (a b : Nat) (x o : Int) : Prop := w.cell? ⟨a, 0, none⟩ = some (.int .u8 x) ∧ w.cell? ⟨a, 1, none⟩ = some (.int .u8 o) ∧ w.cell? ⟨b, 0, none⟩ = some (.int .u8 x) ∧ w.cell? ⟨b, 1, none⟩ = some (.int .u8 o) ∧ Below w0.heap.size w0 w
theorem Four4.drew {w0 w : World} {a b : Nat} {x o : Int} (h : Four4 w0 w a b x o) : Four4 w0 w.drew a b x o := ⟨h.1, h.2.1, h.2.2.1, h.2.2.2.1, h.2.2.2.2.drew⟩
set_option maxRecDepth 100000 in
set_option maxHeartbeats 2000000 in
theorem equalM_one (u v : Value) (x o : Int) (w : World) (hu : OneM w u x o) (hv : OneM w v x o) : Calls Try.prog 17 #[u, v] w fun e w' => e = .returned (.bool true) ∧ Below w.heap.size w w' := by
  obtain ⟨a, ca, rfl, a0, a1⟩ := hu
  obtain ⟨b, cb, rfl, b0, b1⟩ := hv
  have HF := hid (show Four4 w w a b x o from ⟨a0, a1, b0, b1, Below.refl _ _⟩)
  clear a0 a1 b0 b1
  go_enter Try.func17, Try.ntmps17
  go_wp2
  go_loopw [13] (fun i W => ∃ k : Nat, k ≤ 1 ∧ i = .int .i64 k ∧ Hid (Four4 w W a b x o)) (fun i _ => 1 - (intOf i).toNat)
  case atStart => exact ⟨0, by omega, rfl, HF.out⟩
  case round =>
    obtain ⟨k, hk, rfl, HF1⟩ := hrel
    by_cases h0 : k = 0
    · subst h0
      go_wp2
      go_region_held3 (fun w' => w'.cell? ⟨a, 0, none⟩ = some (.int .u8 x) ∧ w'.cell? ⟨a, 1, none⟩ = some (.int .u8 o) ∧ w'.cell? ⟨b, 0, none⟩ = some (.int .u8 x) ∧ w'.cell? ⟨b, 1, none⟩ = some (.int .u8 o) ∧ Below w.heap.size w w') (first | exact Four4.drew HF1.out | assumption | fail) (first | fail)
      rename_i hH
      have HF2 := hid (show Four4 w _ a b x o from hH)
      clear hH
      go_wp2
      go_roundw
      case rel => exact ⟨1, by omega, rfl, HF2.out⟩
      case measure => simp [intOf]
    · obtain rfl : k = 1 := by omega
      go_wp2
      go_ret
      exact ⟨rfl, HF1.out.2.2.2.2⟩
set_option maxRecDepth 100000 in
set_option maxHeartbeats 1000000 in
theorem back_nil (w : World) : Calls Try.prog 18 #[.slice none 0 0] w fun e w' => e = .returned (.slice none 0 0) ∧ Below w.heap.size w w' := by
  go_enter Try.func18, Try.ntmps18
  go_wp2
  go_loopw [3, 8] (fun v i W => v = .slice none 0 0 ∧ i = .int .i64 0 ∧ W = w) (fun _ _ _ => 0)
  case atStart => exact ⟨rfl, rfl, rfl⟩
  case round =>
    obtain ⟨rfl, rfl, rfl⟩ := hrel
    go_wp2
    go_ret
    exact ⟨rfl, Below.refl _ _⟩
theorem two_src (w : World) (x o : Int) (t : TypeId) (b : Nat) (hb : b = w.heap.size) : ∀ j u, ([.int .u8 x, .int .u8 o] : List Value)[j]? = some u → (w.alloc (.cells #[.int .u8 x, .int .u8 o] t)).cell? ((⟨b, 0, none⟩ : Addr).add j) = some u := fun j u hu => by
  subst hb
  rw [addr_add]
  rcases j with _ | _ | j
  · simp at hu; subst hu; simp [go_sem]
  · simp at hu; subst hu; simp [go_sem]
  · simp at hu
theorem one_of_row {w : World} {t : TypeId} {v : Value} {x o : Int} (h : w.ownsRow 0 t 2 v 1 [.int .u8 x, .int .u8 o]) : OneM w v x o := by
  rcases h.2 with ⟨_, e⟩ | ⟨g, cap, cur, rfl, _⟩
  · omega
  · exact ⟨g, cap, rfl, World.ownsRow.cellAt h 0 (by omega), World.ownsRow.cellAt h 1 (by omega)⟩
set_option maxRecDepth 100000 in
set_option maxHeartbeats 2000000 in
theorem back_one (v : Value) (x o : Int) (w : World) (h : OneM w v x o) : Calls Try.prog 18 #[v] w fun e w' => ∃ u, e = .returned u ∧ OneM w' u x o ∧ Below w.heap.size w w' := by
  obtain ⟨i0, hi, hz0, hz1, hz2⟩ := info_parts info_msg
  obtain ⟨g, cap, rfl, a0, a1⟩ := h
  have HA := hid (And.intro a0 a1)
  have H1 : Hid (∀ u ∈ ([.int .u8 x, .int .u8 o] : List Value), u.oneCell' = true) := fun u hu => by simp at hu; rcases hu with rfl | rfl <;> rfl
  clear a0 a1
  go_enter Try.func18, Try.ntmps18
  go_wp2
  go_loopw [3, 8] (fun u i W => (u = .slice none 0 0 ∧ i = .int .i64 0 ∧ W = w) ∨ (i = .int .i64 1 ∧ Hid (OneM W u x o) ∧ Hid (Below w.heap.size w W))) (fun _ i _ => 1 - (intOf i).toNat)
  case atStart => exact .inl ⟨rfl, rfl, rfl⟩
  case round =>
    rcases hrel with ⟨rfl, rfl, rfl⟩ | ⟨rfl, HO, HB⟩
    · obtain ⟨a0, a1⟩ := HA.out
      go_wp2_with (first
        | (at_builtin; refine wpList_append_blk _ rfl _ _ 34 rfl 44 i0 (.agg #[.int .u8 0, .int .u8 0]) 2 2 Try.underlying34 hi hz0 hz1 hz2 rfl (by decide) (.slice none 0 0) 0 [] rfl (World.ownsRow_nil _ _ _ _) ⟨wr.heap.size + 1, 0, none⟩ 1 1 [.int .u8 x, .int .u8 o] rfl rfl (two_src _ _ _ _ _ (by simp)) H1.out (by unfold maxLen; omega) (by omega) ?_; intro v1 w2 hown1 hgrow1 hnil1 hblk1; have HO1 := hid (one_of_row hown1); have HG := hid (Below.grown (bal (bal (Below.refl wr.heap.size wr) (.cells #[.int .u8 x, .int .u8 o] 66)) (.cells #[.int .u8 x, .int .u8 o] 44)) hgrow1 (by simp; omega) (fun k hk => by cases hk)); obtain ⟨g9, c9, rfl, _, _⟩ := one_of_row hown1; clear hown1 hgrow1 hnil1 hblk1))
      go_roundw
      case rel => exact .inr ⟨rfl, HO1, HG⟩
      case measure => simp [intOf]
    · obtain ⟨g9, c9, rfl, h0, h1⟩ := HO.out
      go_wp2
      go_ret
      exact ⟨_, rfl, ⟨g9, c9, rfl, h0, h1⟩, HB.out⟩
end Go.Proofs.Ytahminbgedmgcaa
