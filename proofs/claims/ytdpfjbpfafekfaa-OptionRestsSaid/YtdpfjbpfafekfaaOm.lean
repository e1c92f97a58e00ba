/-
  Agreed: the options that are on, in order, as an iterator.
-/
import Derived.Test.YtdpfjbpfafekfaaOl
namespace Go.Proofs.Ytdpfjbpfafekfaa
open Go.RowKit Go.Lib

/-- Of the first so many options those that are on. -/
def onL (f : Nat → Bool) (k : Nat) : List Int := ((List.range k).filter f).map fun (o : Nat) => (o : Int)
theorem onL_zero (f : Nat → Bool) : onL f 0 = [] := rfl
theorem onL_yes {f : Nat → Bool} {k : Nat} (h : f k = true) : onL f (k + 1) = onL f k ++ [(k : Int)] := by
  simp [onL, List.range_succ, List.filter_append, h]
theorem onL_no {f : Nat → Bool} {k : Nat} (h : f k = false) : onL f (k + 1) = onL f k := by
  simp [onL, List.range_succ, List.filter_append, h]
theorem onL_len (f : Nat → Bool) (k : Nat) : (onL f k).length ≤ k := by
  have := List.length_filter_le f (List.range k)
  simp [onL] at this ⊢
  exact this
theorem onL_fit (f : Nat → Bool) (k : Nat) (hk : k ≤ 256) : ∀ x ∈ onL f k, 0 ≤ x ∧ x < 256 := by
  intro x hx
  simp [onL] at hx
  obtain ⟨a, ⟨h1, _⟩, rfl⟩ := hx
  omega
/-- The box, and the row that it holds. -/
def AgB (b : Nat) (L : List Int) (w : World) : Prop := ∃ v, w.cell? ⟨b, 0, none⟩ = some v ∧ w.frozen? ⟨b, 0, none⟩ = false ∧ OwnB w v L ∧ ∀ k ∈ blkV v, b < k
theorem AgB.x {b : Nat} {L : List Int} {w : World} (h : AgB b L w) : AgX b L w := by
  obtain ⟨v, h1, _, h3, _⟩ := h
  by_cases hL : L = []
  · subst hL
    rcases h3.2.2 with ⟨rfl, _⟩ | ⟨g, cap, cur, rfl, _⟩
    · exact .inl ⟨h1, rfl⟩
    · exact .inr ⟨g, cap, h1, fun i hi => by simp at hi⟩
  · obtain ⟨g, cap, rfl, _, _, _⟩ := h3.slice hL
    exact .inr ⟨g, cap, h1, fun i hi => h3.at i hi⟩
theorem AgB.step {b : Nat} {L : List Int} {w w' : World} (h : AgB b L w) (hb : Below w.heap.size w w') : AgB b L w' := by
  obtain ⟨v, h1, h2, h3, h4⟩ := h
  exact ⟨v, keepc hb h1, (hb.frozen (World.block_lt_of_cell? w _ h1)).trans h2, h3.step hb, h4⟩
/-- One more in the row. -/
theorem AgB.more {b : Nat} {L : List Int} {w w2 : World} {v v1 : Value} {x : Int} (hx : 0 ≤ x ∧ x < 256) (h1 : w.cell? ⟨b, 0, none⟩ = some v) (h2 : w.frozen? ⟨b, 0, none⟩ = false) (h3 : OwnB w v L) (h4 : ∀ k ∈ blkV v, b < k)
    (hO : w2.ownsRow 0 5 1 v1 (L.length + 1) (L.map (Value.int .u8) ++ [.int .u8 x])) (hG : (w.alloc (.cells #[.int .u8 x] 5)).grownBy w2 v.ownBlock) (hK : ∀ k ∈ blkV v1, k ∈ blkV v ∨ (w.alloc (.cells #[.int .u8 x] 5)).heap.size ≤ k) :
    w2.cell? ⟨b, 0, none⟩ = some v ∧ w2.frozen? ⟨b, 0, none⟩ = false ∧ AgB b (L ++ [x]) (w2.setCell ⟨b, 0, none⟩ v1) ∧ (∀ B, B ≤ b → Below B w (w2.setCell ⟨b, 0, none⟩ v1)) := by
  have hlt : b < w.heap.size := World.block_lt_of_cell? w _ h1
  have m : Moved w w2 (blkV v) (blkV v1) := (Moved.alloc w _ _).trans (Moved.grown hG (fun k hk => mem_blkV.2 hk) hK)
  have hb : b ∉ blkV v := fun h => by have := h4 b h; omega
  have c1 := cell_moved m h1 hb
  have f1 : w2.frozen? ⟨b, 0, none⟩ = false := by
    rw [← h2]
    unfold World.frozen?
    rw [m.block b hlt hb]
  have k1 : ∀ k ∈ blkV v1, b < k := fun k hk => by
    rcases m.from' k hk with h | h
    · exact h4 k h
    · omega
  refine ⟨c1, f1, ⟨v1, World.cell?_setCell_same _ _ _ c1, by simp [f1], ?_, k1⟩, fun B hB => ?_⟩
  · refine OwnB.moved (S := [b]) (S' := [b]) ⟨fun y hy => ?_, by simpa using hO⟩ (Moved.set (by simp) _ _) (fun k hk hm => by have := k1 k hk; have h' : k = b := List.mem_singleton.1 hm; omega)
    rcases List.mem_append.1 hy with h | h
    · exact h3.1 y h
    · rw [List.mem_singleton.1 h]; exact hx
  · exact (m.toBelow (by omega) (fun k hk => by have := h4 k hk; omega)).setCell hB _
theorem row_some {w : World} {B : Nat} {t : TypeId} {sz n : Nat} {v : Value} {cs : List Value} (h : w.ownsRow B t sz v (n + 1) cs) : ∃ x c, v = .slice (some x) (n + 1) c := by
  rcases h.2 with ⟨_, h0⟩ | ⟨g, cap, cur, rfl, _⟩
  · omega
  · exact ⟨_, _, rfl⟩
set_option maxRecDepth 100000 in
set_option maxHeartbeats 2000000 in
theorem agreed_made (p : Option Addr) (side : Int) (f : Nat → Bool) (w : World) (hon : ∀ W, Below w.heap.size w W → ∀ o : Nat, o < 256 → Calls Try.prog 26 #[.pointer p, .int .i64 side, .int .u8 o] W fun e w' => e = .returned (.bool (f o)) ∧ W = w') :
    Calls Try.prog 30 #[.pointer p, .int .i64 side] w fun e w' => e = .returned (.func (.func 58) #[] #[.pointer (some ⟨w.heap.size, 0, none⟩)]) ∧ AgX w.heap.size (onL f 256) w' ∧ Below w.heap.size w w' := by
  obtain ⟨i0, hi, hz0, hz1, hz2⟩ := info_parts info5
  have HON := hid hon
  have HB0 := hid (bal (Below.refl w.heap.size w) (.cells #[.slice none 0 0] 22))
  have HA0 := hid (show AgB w.heap.size (onL f 0) (w.alloc (.cells #[.slice none 0 0] 22)) from ⟨.slice none 0 0, by simp [go_sem], by simp [go_sem], OwnB.nil _, fun k hk => by cases hk⟩)
  clear hon
  go_enter Try.func30, Try.ntmps30
  go_wp2
  go_loopw [7] (fun i W => ∃ k : Nat, k ≤ 256 ∧ i = .int .i64 k ∧ Hid (AgB w.heap.size (onL f k) W) ∧ Hid (Below w.heap.size w W)) (fun i _ => 256 - (intOf i).toNat)
  case atStart => exact ⟨0, by omega, rfl, HA0.out, HB0.out⟩
  case round =>
    obtain ⟨k, hk, rfl, HA, HB⟩ := hrel
    by_cases hlt : k < 256
    · have hki : (k : Int) < 256 := by omega
      have HC := hid (HON.out wr HB.out k hlt)
      have hmod : IntKind.u8.wrap (k : Int) = k := by simp [IntKind.wrap, IntKind.signed, IntKind.bits]; omega
      have hmod2 : (k : Int) % 256 = k := by omega
      cases hf : f k
      · rw [hf] at HC
        have HL := hid (onL_no hf)
        clear hf
        go_wp2_with fail
        with_reducible refine HC.out.mono ?_
        rintro e w1 ⟨rfl, rfl⟩
        go_wp2
        go_roundw
        case rel => exact ⟨k + 1, by omega, by go_num, hid (by rw [HL.out]; exact HA.out), HB.out⟩
        case measure => simp [intOf]; omega
      · rw [hf] at HC
        have HL := hid (onL_yes hf)
        obtain ⟨v, h1, h2, h3, h4⟩ := HA.out
        obtain ⟨x9, n9, c9, rfl⟩ := own_slice h3
        have HM := hid (fun w2 v1 => AgB.more (w2 := w2) (v1 := v1) (x := (k : Int)) ⟨by omega, by omega⟩ h1 h2 h3 h4)
        have HO3 := hid h3
        have hln : (onL f k).length ≤ 256 := Nat.le_trans (onL_len f k) (by omega)
        clear hf h3 h4
        go_wp2_with fail
        with_reducible refine HC.out.mono ?_
        rintro e w1 ⟨rfl, rfl⟩
        go_wp2_with (first
          | (at_builtin; refine wpList_append_blk _ rfl _ _ 22 rfl 5 i0 (.int .u8 0) 1 1 Try.underlying22 hi hz0 hz1 hz2 rfl (by decide) (.slice x9 n9 c9) (onL f k).length ((onL f k).map (Value.int .u8)) rfl (OwnB.moved HO3.out (Moved.alloc _ _ []) (fun _ _ h => by cases h)).2 ⟨wr.heap.size, 0, none⟩ 1 1 [.int .u8 k] rfl rfl (one_src _ _ _ rfl) (ints_oneCell .u8 [(k : Int)]) (by unfold maxLen; omega) (by omega) ?_; intro v1 w2 hown1 hgrow1 hnil1 hblk1; obtain ⟨q1, q2, q3, q4⟩ := HM.out w2 v1 hown1 hgrow1 hblk1; have HQ3 := hid q3; have HQ4 := hid q4; obtain ⟨x8, c8, rfl⟩ := row_some hown1; clear hown1 hgrow1 hnil1 hblk1 q3 q4))
        go_roundw
        case rel => exact ⟨k + 1, by omega, by go_num, hid (by rw [HL.out]; exact HQ3.out), HB.out.trans (HQ4.out _ (Nat.le_refl _))⟩
        case measure => simp [intOf]; omega
    · obtain rfl : k = 256 := by omega
      go_wp2
      go_ret
      exact ⟨rfl, HA.out.x, HB.out⟩
end Go.Proofs.Ytdpfjbpfafekfaa
