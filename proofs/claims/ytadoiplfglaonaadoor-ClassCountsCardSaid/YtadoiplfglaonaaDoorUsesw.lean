/-
  The whole road of ClassUses: it answers true, and what lay in memory lies as it lay.
-/
import Derived.Test.YtadoiplfglaonaaDoorClasse
namespace Go.Proofs.YtadoiplfglaonaaDoor
open Go.RowKit Go.Lib Go.Shelf

/-- What holds at each round's head. -/
def ArgAt (w : World) (B0 : Nat) (p : Option Addr) (num : Int) (wr : World) : Prop := PArg B0 p num wr ∧ w.heap.size ≤ B0 ∧ Below w.heap.size w wr
theorem ArgAt.arg {w : World} {B0 : Nat} {p : Option Addr} {num : Int} {wr : World} (h : ArgAt w B0 p num wr) : PArg B0 p num wr := h.1
theorem ArgAt.next {w : World} {B0 : Nat} {p : Option Addr} {num : Int} {wr w' : World} (h : ArgAt w B0 p num wr) (hA : PArg B0 p num w') (hB : Below B0 wr w') : ArgAt w B0 p num w' := ⟨hA, h.2.1, h.2.2.trans (hB.mono h.2.1)⟩

set_option maxRecDepth 100000 in
set_option maxHeartbeats 2000000 in
theorem classUses_true (n : Nat) (hn : n < 256) (w : World) (hN : Numbers w) : Calls Tryd.prog 12 #[.int .u8 n] w fun e w' => e = .returned (.bool true) ∧ Below w.heap.size w w' := by
  have HN := hid hN
  clear hN
  have HM := hid (picked2_mem n)
  go_enter Tryd.func12, Tryd.ntmps12
  go_wp2_with fail
  refine (awake2_true _ HN.out).mono ?_
  rintro e w1 ⟨rfl, hB1⟩
  have HN1 := hid (HN.out.below HN.out.1 hB1)
  have HB1 := hid hB1
  clear hB1
  go_wp2_with fail
  refine (pick2_any n hn _ HN1.out).mono ?_
  rintro e w2 ⟨p, rfl, hA, hB2⟩
  have HC : Hid (ArgAt w w1.heap.size p (picked2 n) w2) := ⟨hA, HB1.out.size, HB1.out.trans (hB2.mono HB1.out.size)⟩
  clear hA hB2
  obtain ⟨num, hnum⟩ : ∃ num, num = picked2 n := ⟨_, rfl⟩
  rw [← hnum] at HC HM ⊢
  obtain ⟨B0, hB0⟩ : ∃ B0, B0 = w1.heap.size := ⟨_, rfl⟩
  rw [← hB0] at HC
  clear hnum hB0 HB1 HN1 HN
  go_wp2_with fail
  go_loopw [14] (fun i wr => ∃ k : Nat, k ≤ 256 ∧ i = .int .i64 k ∧ Hid (ArgAt w B0 p num wr)) (fun i _ => 256 - (intOf i).toNat)
  case atStart => exact ⟨0, by omega, rfl, HC⟩
  case round =>
    obtain ⟨k, hk, rfl, H1⟩ := hrel
    clear HC
    by_cases hlt : k < 256
    · have D1 := hid (fun w' => data_any k w')
      have D2 := hid (fun w' => data_ref k w')
      have N1 := hid (fun w' (h : PArg B0 p num w') => numeric_any B0 p num k hlt w' h)
      have N2 := hid (fun w' => numeric_ref num HM.out k hlt w')
      have S1 := hid (fun w' (h : PArg B0 p num w') => shown_any B0 p num k hlt w' h)
      have S2 := hid (fun w' => shown_ref num HM.out k hlt w')
      have E1 := hid (fun w' (h : PArg B0 p num w') => des_any B0 p num k hlt w' h)
      have E2 := hid (fun w' => des_ref num HM.out k hlt w')
      obtain ⟨db, hdb⟩ : ∃ db, db = dataB k := ⟨_, rfl⟩
      obtain ⟨nb, hnb⟩ : ∃ nb, nb = numericB num k := ⟨_, rfl⟩
      obtain ⟨sv, hsv⟩ : ∃ sv, sv = shownI num k := ⟨_, rfl⟩
      obtain ⟨dv, hdv⟩ : ∃ dv, dv = desI num k := ⟨_, rfl⟩
      rw [← hdb] at D1 D2
      rw [← hnb] at N1 N2
      rw [← hsv] at S1 S2
      rw [← hdv] at E1 E2
      clear hdb hnb hsv hdv
      go_wp2_with fail
      with_reducible refine (D1.out _).mono ?_
      rintro e w' ⟨rfl, rfl⟩
      go_wp2_with fail
      with_reducible refine (D2.out _).mono ?_
      rintro e w' ⟨rfl, rfl⟩
      go_wp2_with fail
      with_reducible refine (N1.out _ H1.out.arg).mono ?_
      rintro e w4 ⟨rfl, hA, hB⟩
      have H2 := hid (H1.out.next hA hB)
      clear hA hB
      go_wp2_with fail
      with_reducible refine (N2.out _).mono ?_
      rintro e w' ⟨rfl, rfl⟩
      go_wp2_with fail
      with_reducible refine (S1.out _ H2.out.arg).mono ?_
      rintro e w5 ⟨rfl, hA, hB⟩
      have H3 := hid (H2.out.next hA hB)
      clear hA hB
      go_wp2_with fail
      with_reducible refine (S2.out _).mono ?_
      rintro e w' ⟨rfl, rfl⟩
      go_wp2_with fail
      with_reducible refine (E1.out _ H3.out.arg).mono ?_
      rintro e w6 ⟨rfl, hA, hB⟩
      have H4 := hid (H3.out.next hA hB)
      clear hA hB
      go_wp2_with fail
      with_reducible refine (E2.out _).mono ?_
      rintro e w' ⟨rfl, rfl⟩
      go_wp2
      go_roundw
      case rel => exact ⟨k + 1, by omega, by go_num, H4⟩
      case measure => simp [intOf]; omega
    · obtain rfl : k = 256 := by omega
      go_wp2
      go_ret
      exact ⟨rfl, H1.out.2.2⟩
end Go.Proofs.YtadoiplfglaonaaDoor
