/-
  The program's Span: the iterator that it gives, valid size.
-/
import Derived.Test.YtpnfdmfmdacjmaaSpc
import Derived.RangeFuncNested
import Derived.RangeFuncBound
import Derived.RangeFuncCalls
import Derived.RangeFuncLeaves
import Derived.Shelf.Abstract
import Derived.Shelf.RegionOpen
import Derived.OwnWalkIn
import Derived.TacticsInMore
import Derived.LoopNIn
import Derived.LoopIn
namespace Go.Proofs.Ytpnfdmfmdacjmaa
open Go.RowKit Go.Lib Go.Shelf
attribute [local go_sem] Oper.semAt_some

theorem grown_of_below {a b : World} (h : Below a.heap.size a b) : a.grownBy b none := ⟨h.os, h.tape, h.output, h.size, fun k hk _ => h.block k hk⟩
/-- The boxes that the iterator holds. -/
structure Boxes (b : Nat) (r c p q : Int) (w : World) : Prop where
  r : w.cell? ⟨b, 0, none⟩ = some (.int .i64 r)
  c : w.cell? ⟨b, 1, none⟩ = some (.int .i64 c)
  p : w.cell? ⟨b + 1, 0, none⟩ = some (.int .i64 p)
  q : w.cell? ⟨b + 2, 0, none⟩ = some (.int .i64 q)
theorem Boxes.below {b B : Nat} {r c p q : Int} {w w' : World} (h : Boxes b r c p q w) (hB : b + 2 < B) (hb : Below B w w') : Boxes b r c p q w' :=
  ⟨(hb.cell (p := ⟨b, 0, none⟩) (by show b < B; omega)).trans h.r, (hb.cell (p := ⟨b, 1, none⟩) (by show b < B; omega)).trans h.c, (hb.cell (p := ⟨b + 1, 0, none⟩) (by show b + 1 < B; omega)).trans h.p, (hb.cell (p := ⟨b + 2, 0, none⟩) (by show b + 2 < B; omega)).trans h.q⟩
theorem Boxes.lt {b : Nat} {r c p q : Int} {w : World} (h : Boxes b r c p q w) : b + 2 < w.heap.size := World.block_lt_of_cell? w _ h.q

set_option maxRecDepth 100000 in
set_option maxHeartbeats 2000000 in
theorem span_stops (n : Nat) (hn : 1 ≤ n) (b : Nat) (r c p q : Int) (h : Ok r c) (hp : I64 p) (hq : I64 q) (w : World) (hX : Boxes b r c p q w) (Kp : World → World → Prop) (hKp : ∀ W W', Kp W W' → Boxes b r c p q W → Boxes b r c p q W') :
    SeqStopsK Fence.wide n Try.prog 74 #[.pointer (some ⟨b, 0, none⟩), .pointer (some ⟨b + 1, 0, none⟩), .pointer (some ⟨b + 2, 0, none⟩)] (fun x : Int => #[.int .i64 x]) Kp (fun xs => xs = spanL (r * c) (p % (r * c)) (lenZ r c p q).toNat) (fun pre => ∃ k, pre = spanL (r * c) (p % (r * c)) k ∧ 1 ≤ k ∧ k ≤ (lenZ r c p q).toNat) (lenZ r c p q).toNat w := fun l J Jx W hW hJ _ hY h0 => by
  have hX' : Boxes b r c p q W := hX.below hX.lt hW
  have HJA := hid hJ
  have HY := hid hY
  have H0 := hid h0
  have hN := ok_pos h
  have HW0 := hid (wrap_ok r c p h hp)
  have HWA := hid (fun x (hx : I64 x) => wrap_ok r c x h hx)
  have HLE := hid (length_ok r c p q h hp hq)
  obtain ⟨a0, a1⟩ := mod_bd p hN.1
  have hL := lenS_bd (a := p % (r * c)) (b := q % (r * c)) hN.1
  rw [← lenS_eq] at hL
  obtain ⟨L, hLe⟩ : ∃ L : Nat, lenZ r c p q = L := ⟨(lenZ r c p q).toNat, by omega⟩
  rw [hLe] at HY HLE hL ⊢
  rw [Int.toNat_natCast] at HY ⊢
  generalize p % (r * c) = A at HW0 a0 a1 ⊢
  obtain ⟨N, hNe⟩ : ∃ N, N = r * c := ⟨_, rfl⟩
  rw [← hNe] at HWA hN a1 hL ⊢
  clear hX hY h0 hJ hLe hNe h hp hq hW
  obtain ⟨hN1, hN2⟩ := hN
  have HX0 := hid hX'
  obtain ⟨c0, c1, c2, c3⟩ := hX'
  refine callsIn_of_wp Try.func74 rfl trivial ?_ rfl
  simp only [Try.ntmps74, List.size_toArray, List.length_cons, List.length_nil, Nat.reduceAdd, Nat.reduceSub, Array.replicate_succ, Array.replicate_zero, List.push_toArray, List.append_toArray, List.nil_append, List.cons_append]
  gi_wp2_with (first
    | (refine ⟨trivial, ?_⟩; gi_at_call 19; refine (callsIn_wide.2 (HW0.out _)).mono ?_; rintro e w1 ⟨rfl, hb1⟩; have HB1 := hid hb1; have HX1 := hid (HX0.out.below HX0.out.lt hb1); clear hb1; obtain ⟨c0, c1, c2, c3⟩ := HX1.out))
  refine ⟨trivial, ?_⟩
  refine (callsIn_wide.2 (HLE.out _)).mono ?_
  rintro e w2 ⟨rfl, hb2⟩
  have HX2 := hid (HX1.out.below HX1.out.lt hb2)
  have HJ2 := hid (HJA.out [] w1 w2 none (HJA.out [] W w1 none H0.out (grown_of_below HB1.out) (fun _ h => by cases h)) (grown_of_below hb2) (fun _ h => by cases h))
  clear hb2 c0 c1 c2 c3
  gi_wp2
  gi_loopw [14] (fun i wr => ∃ k : Nat, k ≤ L ∧ i = .int .i64 k ∧ Hid (J (spanL N A k) wr) ∧ Hid (Boxes b r c p q wr)) (fun i _ => L - (intOf i).toNat)
  case atStart => exact ⟨0, by omega, rfl, HJ2.out, HX2.out⟩
  case round =>
    obtain ⟨k, hk, rfl, HJ, HX⟩ := hrel
    by_cases hlt : k < L
    · have hki : (k : Int) < L := by omega
      have HWK := hid (HWA.out (A + k) (i64_small (by omega) (by omega)))
      have HS := hid (spanL_succ N A k)
      have s1 : IntKind.i64.wrap (A + k) = A + k := IntWalk.i64_in _ (by omega)
      have s2 : IntKind.i64.wrap ((k : Int) + 1) = (k : Int) + 1 := IntWalk.i64_in _ (by omega)
      obtain ⟨c0, c1, c2, c3⟩ := HX.out
      generalize (A + (k : Int)) % N = X at HWK HS
      gi_wp2
      refine ⟨trivial, ?_⟩
      refine (callsIn_wide.2 (HWK.out _)).mono ?_
      rintro e w5 ⟨rfl, hb5⟩
      have HX5 := hid (HX.out.below HX.out.lt hb5)
      obtain ⟨f1, t1, a1, b1, hy, hR⟩ := HY.out (spanL N A k) X w5 (HJA.out _ wr w5 none HJ.out (grown_of_below hb5) (fun _ h => by cases h)) (by rw [spanL_len]; exact hlt)
      rw [← HS.out] at hR
      have HR := hid hR
      clear hR hb5 c0 c1 c2 c3
      gi_wp2
      refine HR.out.mono ?_
      rintro e W1 (⟨rfl, hJ1, hB1⟩ | ⟨rfl, hx1⟩)
      · have HJ1 := hid hJ1
        have HX9 := hid (hKp _ _ hB1 HX5.out)
        clear hJ1 hB1
        gi_wp2
        go_roundw
        case rel => exact ⟨k + 1, by omega, by go_num, HJ1, HX9⟩
        case measure => simp [intOf]; omega
      · have HX1 := hid hx1
        clear hx1
        gi_wp2
        refine bodyPost_ret (results_none rfl _ _ _) rfl ?_
        exact ⟨⟨_, rfl⟩, .inr ⟨_, ⟨k + 1, rfl, by omega, by omega⟩, HX1.out⟩⟩
    · obtain rfl : k = L := by omega
      gi_wp2
      go_end0
      exact ⟨⟨_, rfl⟩, .inl ⟨_, rfl, HJ.out⟩⟩

end Go.Proofs.Ytpnfdmfmdacjmaa
