/-
  A machine and the document's, held against one another.
-/
import Derived.Test.YtahminbgedmgcaaOw
import Derived.Test.YtahminbgedmgcaaOs
namespace Go.Proofs.Ytahminbgedmgcaa
open Go.RowKit Go.Lib

theorem idx_nat (s o : Nat) : idx (s : Int) o = s * 256 + o := by unfold idx; omega
theorem setL_two {st : Nat → Int} {k : Nat} {q : Bool} (h : setL st k = q) {X : Int} (hX : st k = X) (h0 : 0 ≤ X) : setL st (k + 1) = (q && decide (X < 2)) := by
  rw [setL_succ, h, hX]
  congr 1
  rw [Bool.eq_iff_iff]
  simp
  omega
/-- The row that the law gathers. -/
def Gath (w0 w : World) (v : Value) (L : List Int) : Prop := OwnB w v L ∧ ∀ k ∈ blkV v, w0.heap.size ≤ k
theorem Gath.more {w0 w w2 : World} {v v1 : Value} {L : List Int} {x : Int} (hx : 0 ≤ x ∧ x < 256) (h : Gath w0 w v L) (hs : w0.heap.size ≤ w.heap.size) (hb : Below w0.heap.size w0 w)
    (hO : w2.ownsRow 0 5 1 v1 (L.length + 1) (L.map (Value.int .u8) ++ [.int .u8 x])) (hG : (w.alloc (.cells #[.int .u8 x] 5)).grownBy w2 v.ownBlock) (hK : ∀ k ∈ blkV v1, k ∈ blkV v ∨ (w.alloc (.cells #[.int .u8 x] 5)).heap.size ≤ k) : Gath w0 w2 v1 (L ++ [x]) ∧ Below w0.heap.size w0 w2 := by
  have m : Moved w w2 (blkV v) (blkV v1) := (Moved.alloc w _ _).trans (Moved.grown hG (fun k hk => mem_blkV.2 hk) hK)
  refine ⟨⟨⟨fun y hy => ?_, by simpa using hO⟩, fun k hk => ?_⟩, hb.trans (m.toBelow hs h.2)⟩
  · rcases List.mem_append.1 hy with h' | h'
    · exact h.1.1 y h'
    · rw [List.mem_singleton.1 h']; exact hx
  · rcases m.from' k hk with h' | h'
    · exact h.2 k h'
    · omega
set_option maxRecDepth 100000 in
set_option maxHeartbeats 8000000 in
theorem same_mach (g h : Nat) (ag : Nat → Bool) (st : Nat → Int) (w : World) (hM : Mach w g ag st) (hR : RMach w h ag st) : Calls Try.prog 20 #[.pointer (some ⟨g, 0, none⟩), .pointer (some ⟨h, 0, none⟩)] w fun e w' => e = .returned (.bool true) ∧ Below w.heap.size w w' := by
  obtain ⟨i0, hi, hz0, hz1, hz2⟩ := info_parts info5
  have HM := hid hM
  have HR := hid hR
  have HQ := hid (fun W (h : Below w.heap.size w W) => quiet_any g ag st W (hM.step h))
  have HST := hid (fun W (hb : Below w.heap.size w W) (s o : Nat) (hs : s < 2) (ho : o < 256) => show Calls Try.prog 19 #[.pointer (some ⟨g, 0, none⟩), .int .i64 s, .int .u8 o] W (fun e w' => e = .returned (.int .i64 (st (s * 256 + o))) ∧ W = w') from idx_nat s o ▸ state_any g ag st s (by omega) o ho W (hM.step hb))
  have HON := hid (fun W (hb : Below w.heap.size w W) (s o : Nat) (hs : s < 2) (ho : o < 256) => show Calls Try.prog 23 #[.pointer (some ⟨g, 0, none⟩), .int .i64 s, .int .u8 o] W (fun e w' => e = .returned (.bool (st (s * 256 + o) == 1)) ∧ W = w') from idx_nat s o ▸ on_any g ag st s (by omega) o ho W (hM.step hb))
  have HSN := hid (fun W => show Calls Try.prog 19 #[.pointer (some ⟨g, 0, none⟩), .int .i64 2, .int .u8 0] W (fun e w' => e = .returned (.int .i64 0) ∧ W = w') from state_no g 2 (by decide) 0 W)
  have HNN := hid (fun W => show Calls Try.prog 23 #[.pointer (some ⟨g, 0, none⟩), .int .i64 (-1), .int .u8 0] W (fun e w' => e = .returned (.bool false) ∧ W = w') from on_no g (-1) (by decide) 0 W)
  have hh := hR.lt
  clear hM hR
  go_enter Try.func20, Try.ntmps20
  go_wp2
  go_loopw [5, 10] (fun q i W => ∃ s : Nat, s ≤ 2 ∧ i = .int .i64 s ∧ (∃ Q, q = .bool Q ∧ Hid (setL st (s * 256) = Q)) ∧ Hid (Below w.heap.size w W)) (fun _ i _ => 2 - (intOf i).toNat)
  case atStart => exact ⟨0, by omega, rfl, ⟨true, rfl, rfl⟩, Below.refl _ _⟩
  case round =>
    obtain ⟨s, hs, rfl, ⟨Q, rfl, HQ0⟩, HB⟩ := hrel
    by_cases hlt : s < 2
    · have hsi : (s : Int) < 2 := by omega
      go_wp2
      go_loopw [5, 7, 13] (fun q v i W => ∃ k : Nat, k ≤ 256 ∧ i = .int .i64 k ∧ (∃ Q, q = .bool Q ∧ Hid (setL st (s * 256 + k) = Q)) ∧ (∃ x n c, v = .slice x n c) ∧ Hid (Gath w W v (onL (fun o => st (s * 256 + o) == 1) k)) ∧ Hid (Below w.heap.size w W)) (fun _ _ i _ => 256 - (intOf i).toNat)
      case atStart => exact ⟨0, by omega, rfl, ⟨Q, rfl, HQ0.out⟩, ⟨_, _, _, rfl⟩, ⟨OwnB.nil _, fun k hk => by cases hk⟩, HB.out⟩
      case round =>
        clear HB HQ0
        obtain ⟨k, hk, rfl, ⟨Q, rfl, HQ0⟩, ⟨xv, nv, cv, rfl⟩, HG, HB⟩ := hrel
        by_cases hlk : k < 256
        · have hki : (k : Int) < 256 := by omega
          have hk0 : (0 : Int) ≤ k := by omega
          have c0 := (HR.out.step HB.out).cs (s * 256 + k) (by omega)
          obtain ⟨s0, s5⟩ := HM.out.ok (s * 256 + k)
          have HS1 := hid (fun W hb => HST.out W hb s k hlt hlk)
          have HO1 := hid (fun W hb => HON.out W hb s k hlt hlk)
          have hmod : IntKind.u8.wrap (k : Int) = k := by simp [IntKind.wrap, IntKind.signed, IntKind.bits]; omega
          have hmod2 : (k : Int) % 256 = k := by omega
          obtain ⟨X, hX⟩ : ∃ X, st (s * 256 + k) = X := ⟨_, rfl⟩
          have HS2 := hid (setL_two HQ0.out hX (by omega))
          have HL1 := hid (show X = 1 → onL (fun o => st (s * 256 + o) == 1) (k + 1) = onL (fun o => st (s * 256 + o) == 1) k ++ [(k : Int)] from fun e => onL_yes (by simp [hX, e]))
          have HL0 := hid (show X ≠ 1 → onL (fun o => st (s * 256 + o) == 1) (k + 1) = onL (fun o => st (s * 256 + o) == 1) k from fun e => onL_no (by simp [hX, e]))
          have HGM := hid (fun w2 v1 => Gath.more (w2 := w2) (v1 := v1) (x := (k : Int)) ⟨by omega, by omega⟩ HG.out HB.out.size HB.out)
          have hln : (onL (fun o => st (s * 256 + o) == 1) k).length ≤ 256 := Nat.le_trans (onL_len _ k) (by omega)
          have HOW := hid HG.out.1
          rw [hX] at c0 s0 s5 HS1 HO1
          clear hX HQ0
          generalize onL (fun o => st (s * 256 + o) == 1) k = L0 at *
          rcases six s0 s5 with rfl | rfl | rfl | rfl | rfl | rfl
          case inr.inl =>
            have HL := hid (HL1.out rfl)
            clear HL1 HL0
            cases Q
            all_goals
              go_wp2_with (first
                | (at_builtin; refine wpList_append_blk _ rfl _ _ 22 rfl 5 i0 (.int .u8 0) 1 1 Try.underlying22 hi hz0 hz1 hz2 rfl (by decide) (.slice xv nv cv) L0.length (L0.map (Value.int .u8)) rfl (OwnB.moved HOW.out (Moved.alloc _ _ []) (fun _ _ h => by cases h)).2 ⟨wr.heap.size, 0, none⟩ 1 1 [.int .u8 k] rfl rfl (one_src _ _ _ rfl) (ints_oneCell .u8 [(k : Int)]) (by unfold maxLen; omega) (by omega) ?_; intro v1 w2 hown1 hgrow1 hnil1 hblk1; obtain ⟨q1, q2⟩ := HGM.out w2 v1 hown1 hgrow1 hblk1; have HG2 := hid q1; have HB2 := hid q2; obtain ⟨x8, c8, rfl⟩ := row_some hown1; clear hown1 hgrow1 hnil1 hblk1 q1 q2)
                | fail)
              with_reducible refine (HS1.out _ HB2.out).mono ?_
              rintro e w3 ⟨rfl, rfl⟩
              go_wp2_with fail
              with_reducible refine (HO1.out _ HB2.out).mono ?_
              rintro e w3 ⟨rfl, rfl⟩
              go_wp2
              go_roundw
              case rel => exact ⟨k + 1, by omega, by go_num, ⟨_, rfl, HS2.out⟩, ⟨_, _, _, rfl⟩, hid (by rw [HL.out]; exact HG2.out), HB2.out⟩
              case measure => simp [intOf]; omega
          all_goals
            have HL := hid (HL0.out (by decide))
            clear HL1 HL0
            cases Q
            all_goals
              go_wp2_with fail
              with_reducible refine (HS1.out _ HB.out).mono ?_
              rintro e w3 ⟨rfl, rfl⟩
              go_wp2_with fail
              with_reducible refine (HO1.out _ HB.out).mono ?_
              rintro e w3 ⟨rfl, rfl⟩
              go_wp2
              go_roundw
              case rel => exact ⟨k + 1, by omega, by go_num, ⟨_, rfl, HS2.out⟩, ⟨_, _, _, rfl⟩, hid (by rw [HL.out]; exact HG.out), HB.out⟩
              case measure => simp [intOf]; omega
        · obtain rfl : k = 256 := by omega
          have HA := hid (fun W (hb : Below w.heap.size w W) => agreed_made (some ⟨g, 0, none⟩) s (fun o => st (s * 256 + o) == 1) W (fun W' hb' o ho => HON.out W' (below_t hb hb') s o hlt ho))
          have HC := hid (fun W b (hx : AgX b (onL (fun o => st (s * 256 + o) == 1) 256) W) => collect_any b _ (Nat.le_trans (onL_len _ 256) (by omega)) W hx)
          have hln := onL_len (fun o => st (s * 256 + o) == 1) 256
          have HFT := hid (onL_fit (fun o => st (s * 256 + o) == 1) 256 (by omega))
          generalize onL (fun o => st (s * 256 + o) == 1) 256 = L at *
          go_wp2_with fail
          with_reducible refine (HA.out _ HB.out).mono ?_
          rintro e w2 ⟨rfl, hx, hb2⟩
          have HX := hid hx
          have HB2 := hid (below_t HB.out hb2)
          have HG2 := hid (HG.out.1.step hb2)
          clear hx hb2
          go_wp2_with fail
          with_reducible refine (HC.out _ _ HX.out).mono ?_
          rintro e w3 ⟨v3, b3, rfl, _, ho, hb3⟩
          have HO3 := hid (show OwnB w3 v3 L from ⟨HFT.out, ho.mono (Nat.zero_le _)⟩)
          obtain ⟨x3, n3, c3, rfl⟩ := own_slice HO3.out
          have HG3 := hid (HG2.out.step hb3)
          have HB3 := hid (below_t HB2.out hb3)
          clear ho hb3
          go_wp2_with fail
          with_reducible refine (equalB_any _ _ L _ HO3.out.reads HG3.out.reads (by omega)).mono ?_
          rintro e w4 ⟨rfl, hb4⟩
          have HB4 := hid (below_t HB3.out hb4)
          clear hb4
          go_wp2
          go_roundw
          case rel => exact ⟨s + 1, by omega, by go_num, ⟨_, rfl, by rw [show (s + 1) * 256 = s * 256 + 256 by omega]; exact HQ0.out⟩, HB4.out⟩
          case measure => simp [intOf]; omega
    · obtain rfl : s = 2 := by omega
      have HQ1 := hid (HQ.out wr HB.out)
      rw [show setL st 512 = Q from HQ0.out] at HQ1
      cases Q
      all_goals
        go_wp2_with fail
        with_reducible refine HQ1.out.mono ?_
        rintro e w2 ⟨rfl, hb2⟩
        have HB2 := hid (below_t HB.out hb2)
        clear hb2
        go_wp2_with fail
        with_reducible refine (HSN.out _).mono ?_
        rintro e w3 ⟨rfl, rfl⟩
        go_wp2_with fail
        with_reducible refine (HNN.out _).mono ?_
        rintro e w3 ⟨rfl, rfl⟩
        go_wp2
        go_ret
        exact ⟨rfl, HB2.out⟩
end Go.Proofs.Ytahminbgedmgcaa
