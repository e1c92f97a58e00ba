/-
  The names of the classes, by the program's table and by the reference; and the whole road of ClassOf.
-/
import Derived.Test.YtadoiplfglaonaaDoorOfw
namespace Go.Proofs.YtadoiplfglaonaaDoor
open Go.RowKit Go.Lib Go.Shelf

def namesL : List (List UInt8) := [[110, 117, 108, 108], [102, 111, 114, 109, 97, 116], [111, 110, 101, 115], [99, 111, 110, 116, 114, 111, 108], [98, 108, 97, 110, 107], [100, 105, 103, 105, 116], [108, 101, 116, 116, 101, 114], [109, 97, 114, 107]]
def nameB (j : Nat) : ByteArray := ⟨(namesL.getD j []).toArray⟩
/-- The variable 'names' as the program lays it. -/
def Names (w : World) : Prop := 2 < w.heap.size ∧ ∀ j, j < 8 → w.cell? ⟨2, j, none⟩ = some (.string (nameB j))
theorem Names.below {w w' : World} {B : Nat} (h : Names w) (hB : 2 < B) (hb : Below B w w') : Names w' := ⟨Nat.lt_of_lt_of_le h.1 hb.size, fun j hj => (hb.cell (p := ⟨2, j, none⟩) hB).trans (h.2 j hj)⟩
theorem ArgAt.grow {w : World} {B0 : Nat} {p : Option Addr} {num : Int} {wr w' : World} (h : ArgAt w B0 p num wr) (hB : Below wr.heap.size wr w') : ArgAt w B0 p num w' := by
  obtain ⟨⟨hN, h1, hz, hp⟩, hw, hb⟩ := h
  refine ⟨⟨hN.below hN.1 hB, h1, Nat.le_trans hz hB.size, ?_⟩, hw, hb.trans (hB.mono hb.size)⟩
  rcases hp with h | ⟨b, e, hb', hP⟩
  · exact .inl h
  · exact .inr ⟨b, e, hb', hP.below hB⟩
/-- A class's name. -/
def nameOf (c : Int) : ByteArray := if 0 ≤ c ∧ c ≤ 7 then nameB c.toNat else ByteArray.empty

set_option maxRecDepth 100000 in
theorem name_any (c : Int) (w : World) (hN : Names w) : Calls Tryd.prog 44 #[.int .i64 c] w fun e w' => e = .returned (.string (nameOf c)) ∧ w = w' := by
  by_cases h1 : c < 0
  · have e : nameOf c = ByteArray.empty := if_neg (by omega)
    rw [e]; clear e hN
    go_enter Tryd.func44, Tryd.ntmps44
    go_wp2
    go_ret
    exact ⟨rfl, rfl⟩
  · by_cases h2 : 7 < c
    · have e : nameOf c = ByteArray.empty := if_neg (by omega)
      have f : decide (7 < c) = true := by simpa using h2
      rw [e]; clear e hN
      go_enter Tryd.func44, Tryd.ntmps44
      go_wp2
      go_ret
      exact ⟨rfl, rfl⟩
    · have e : nameOf c = nameB c.toNat := if_pos (by omega)
      obtain ⟨k, rfl⟩ : ∃ k : Nat, c = (k : Int) := ⟨c.toNat, by omega⟩
      have hk : k < 8 := by omega
      have hcell := hN.2 k hk
      have f : decide (7 < (k : Int)) = false := by simp; omega
      rw [e]
      simp only [Int.toNat_natCast]
      obtain ⟨s, hs⟩ : ∃ s, s = nameB k := ⟨_, rfl⟩
      rw [← hs] at hcell ⊢
      clear e hN hs h1 h2
      go_enter Tryd.func44, Tryd.ntmps44
      go_wp2
      go_ret
      exact ⟨rfl, rfl⟩

theorem names_cell (w : World) (k : Nat) (hk : k < 8) : (w.alloc (.cells #[.string ⟨#[110, 117, 108, 108]⟩, .string ⟨#[102, 111, 114, 109, 97, 116]⟩, .string ⟨#[111, 110, 101, 115]⟩, .string ⟨#[99, 111, 110, 116, 114, 111, 108]⟩, .string ⟨#[98, 108, 97, 110, 107]⟩, .string ⟨#[100, 105, 103, 105, 116]⟩, .string ⟨#[108, 101, 116, 116, 101, 114]⟩, .string ⟨#[109, 97, 114, 107]⟩] 9)).cell? ⟨w.heap.size, k, none⟩ = some (.string (nameB k)) := by
  have h8 : k = 0 ∨ k = 1 ∨ k = 2 ∨ k = 3 ∨ k = 4 ∨ k = 5 ∨ k = 6 ∨ k = 7 := by omega
  rcases h8 with rfl | rfl | rfl | rfl | rfl | rfl | rfl | rfl <;> simp [go_sem, nameB, namesL]

set_option maxRecDepth 100000 in
set_option maxHeartbeats 1000000 in
theorem name_ref (c : Int) (w : World) : Calls Tryd.prog 45 #[.int .i64 c] w fun e w' => e = .returned (.string (nameOf c)) ∧ Below w.heap.size w w' := by
  have HB : Hid (Below w.heap.size w (w.alloc (.cells #[.string ⟨#[110, 117, 108, 108]⟩, .string ⟨#[102, 111, 114, 109, 97, 116]⟩, .string ⟨#[111, 110, 101, 115]⟩, .string ⟨#[99, 111, 110, 116, 114, 111, 108]⟩, .string ⟨#[98, 108, 97, 110, 107]⟩, .string ⟨#[100, 105, 103, 105, 116]⟩, .string ⟨#[108, 101, 116, 116, 101, 114]⟩, .string ⟨#[109, 97, 114, 107]⟩] 9))) := (Below.refl _ _).alloc (Nat.le_refl _) _
  by_cases h1 : c < 0
  · have e : nameOf c = ByteArray.empty := if_neg (by omega)
    rw [e]; clear e
    go_enter Tryd.func45, Tryd.ntmps45
    go_wp2
    go_ret
    exact ⟨rfl, HB.out⟩
  · by_cases h2 : 7 < c
    · have e : nameOf c = ByteArray.empty := if_neg (by omega)
      have f : decide (7 < c) = true := by simpa using h2
      rw [e]; clear e
      go_enter Tryd.func45, Tryd.ntmps45
      go_wp2
      go_ret
      exact ⟨rfl, HB.out⟩
    · have e : nameOf c = nameB c.toNat := if_pos (by omega)
      obtain ⟨k, rfl⟩ : ∃ k : Nat, c = (k : Int) := ⟨c.toNat, by omega⟩
      have hk : k < 8 := by omega
      have hcell := names_cell w k hk
      have f : decide (7 < (k : Int)) = false := by simp; omega
      rw [e]
      simp only [Int.toNat_natCast]
      obtain ⟨s, hs⟩ : ∃ s, s = nameB k := ⟨_, rfl⟩
      rw [← hs] at hcell ⊢
      clear e hs h1 h2
      go_enter Tryd.func45, Tryd.ntmps45
      go_wp2
      go_ret
      exact ⟨rfl, HB.out⟩

set_option maxRecDepth 100000 in
set_option maxHeartbeats 2000000 in
theorem classOf_true (n : Nat) (c : Int) (hn : n < 256) (w : World) (hN : Numbers w) (hM : Names w) : Calls Tryd.prog 11 #[.int .u8 n, .int .i64 c] w fun e w' => e = .returned (.bool true) ∧ Below w.heap.size w w' := by
  have HN := hid hN
  have HNM := hid hM
  clear hN hM
  have HM := hid (picked2_mem n)
  go_enter Tryd.func11, Tryd.ntmps11
  go_wp2_with fail
  refine (awake2_true _ HN.out).mono ?_
  rintro e w1 ⟨rfl, hB1⟩
  have HN1 := hid (HN.out.below HN.out.1 hB1)
  have HB1 := hid hB1
  clear hB1
  go_wp2_with fail
  refine (pick2_any n hn _ HN1.out).mono ?_
  rintro e w2 ⟨p, rfl, hA, hB2⟩
  have HC : Hid (ArgAt w w1.heap.size p (picked2 n) w2) := ⟨hA, HB1.out.size, HB1.out.trans (hB2.mono HB1.out.size)⟩
  clear hA hB2
  obtain ⟨num, hnum⟩ : ∃ num, num = picked2 n := ⟨_, rfl⟩
  rw [← hnum] at HC HM ⊢
  obtain ⟨B0, hB0⟩ : ∃ B0, B0 = w1.heap.size := ⟨_, rfl⟩
  rw [← hB0] at HC
  clear hnum hB0 HB1 HN1 HN
  go_wp2_with fail
  go_loopw [15] (fun i wr => ∃ k : Nat, k ≤ 256 ∧ i = .int .i64 k ∧ Hid (ArgAt w B0 p num wr)) (fun i _ => 256 - (intOf i).toNat)
  case atStart => exact ⟨0, by omega, rfl, HC⟩
  case round =>
    obtain ⟨k, hk, rfl, H1⟩ := hrel
    clear HC
    by_cases hlt : k < 256
    · have N1 := hid (fun w' (h : PArg B0 p num w') => of_any B0 p num k hlt w' h)
      have N2 := hid (fun w' => of_ref num HM.out k hlt w')
      obtain ⟨o, ho⟩ : ∃ o, o = ofI num k := ⟨_, rfl⟩
      rw [← ho] at N1 N2
      clear ho
      go_wp2_with fail
      with_reducible refine (N1.out _ H1.out.arg).mono ?_
      rintro e w4 ⟨rfl, hA, hB⟩
      have H2 := hid (H1.out.next hA hB)
      clear hA hB
      go_wp2_with fail
      with_reducible refine (N2.out _).mono ?_
      rintro e w5 ⟨rfl, hB⟩
      have H3 := hid (H2.out.grow hB)
      clear hB
      go_wp2
      go_roundw
      case rel => exact ⟨k + 1, by omega, by go_num, H3⟩
      case measure => simp [intOf]; omega
    · obtain rfl : k = 256 := by omega
      have M1 := hid (name_any c wr (HNM.out.below HNM.out.1 H1.out.2.2))
      have M2 := hid (name_ref c wr)
      obtain ⟨s, hs⟩ : ∃ s, s = nameOf c := ⟨_, rfl⟩
      rw [← hs] at M1 M2
      clear hs
      go_wp2_with fail
      with_reducible refine M1.out.mono ?_
      rintro e w' ⟨rfl, rfl⟩
      go_wp2_with fail
      with_reducible refine M2.out.mono ?_
      rintro e w5 ⟨rfl, hB⟩
      have HB5 := hid (H1.out.2.2.trans (hB.mono H1.out.2.2.size))
      clear hB
      go_wp2
      go_ret
      exact ⟨by first | rfl | simp, HB5.out⟩
end Go.Proofs.YtadoiplfglaonaaDoor
