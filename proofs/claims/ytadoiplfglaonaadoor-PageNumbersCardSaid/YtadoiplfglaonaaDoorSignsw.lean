/-
  The whole roads of PageSigns and PageCodes: they answer true, and what lay in memory lies as it lay.
-/
import Derived.Test.YtadoiplfglaonaaDoorRefc
namespace Go.Proofs.YtadoiplfglaonaaDoor
open Go.RowKit Go.Lib Go.Shelf

theorem Page.number {w : World} {b : Nat} {num : Int} (h : Page w b num) : w.cell? ⟨b, 0, none⟩ = some (.int .i64 num) := by
  rcases h with ⟨_, ⟨_, _, _, h⟩ | ⟨m, h⟩⟩
  · exact h.number
  · obtain ⟨se, h⟩ := h.page; exact h.number
theorem number_any (b : Nat) (num : Int) (w : World) (hP : Page w b num) : Calls Tryd.prog 20 #[.pointer (some ⟨b, 0, none⟩)] w fun e w' => e = .returned (.int .i64 num) ∧ w = w' := by
  have h := hP.number
  clear hP
  go_enter Tryd.func20, Tryd.ntmps20
  go_wp2
  go_ret
  exact ⟨rfl, rfl⟩

/-- What holds at each round's head: the page is there, and nothing that lay has turned. -/
def OneAt (w : World) (b : Nat) (num : Int) (wr : World) : Prop := Page wr b num ∧ w.heap.size ≤ b ∧ Below w.heap.size w wr
theorem OneAt.next {w : World} {b : Nat} {num : Int} {wr w' : World} (h : OneAt w b num wr) (hR : ∃ m, Ready w' b num m) (hB : But b wr w') : OneAt w b num w' :=
  ⟨⟨h.1.1, .inr hR⟩, h.2.1, h.2.2.trans (hB.to h.2.1 h.2.2.size)⟩

set_option maxRecDepth 100000 in
set_option maxHeartbeats 2000000 in
theorem pageSigns_true (n : Nat) (hn : n < 256) (w : World) (hN : Numbers w) : Calls Tryd.prog 3 #[.int .u8 n] w fun e w' => e = .returned (.bool true) ∧ Below w.heap.size w w' := by
  have HN := hid hN
  have HK1 := hid (picked_mem n)
  clear hN
  go_enter Tryd.func3, Tryd.ntmps3
  go_wp2_with fail
  refine (awake_true _ HN.out).mono ?_
  rintro e w1 ⟨rfl, hB1⟩
  have HN1 := hid (HN.out.below HN.out.1 hB1)
  have HB1 := hid hB1
  clear hB1
  go_wp2_with fail
  refine (pick_any n hn _ HN1.out).mono ?_
  rintro e w2 ⟨b, rfl, hb1, hP1, hB2⟩
  have HC : Hid (OneAt w b (picked n) w2) := ⟨hP1, by have := HB1.out.size; omega, HB1.out.trans (hB2.mono HB1.out.size)⟩
  clear hB2 hP1 HB1 HN HN1 hb1
  obtain ⟨num, hn1⟩ : ∃ num, num = picked n := ⟨_, rfl⟩
  rw [← hn1] at HC HK1 ⊢
  clear hn1
  go_wp2_with fail
  go_loopw [16] (fun i wr => ∃ k : Nat, k ≤ 256 ∧ i = .int .i64 k ∧ Hid (OneAt w b num wr)) (fun i _ => 256 - (intOf i).toNat)
  case atStart => exact ⟨0, by omega, rfl, HC⟩
  case round =>
    obtain ⟨k, hk, rfl, H1⟩ := hrel
    clear HC
    by_cases hlt : k < 256
    · have HS := hid (sign_any b num k hlt wr H1.out.1)
      have HF := hid (fun w' (h : OneAt w b num w') => code_found b num ((signsL num).getD k 0) k hlt w' h.1 rfl)
      have HR := hid (fun w' => sign_ref num HK1.out k hlt w')
      obtain ⟨x, hx⟩ : ∃ x, x = (signsL num).getD k 0 := ⟨_, rfl⟩
      rw [← hx] at HS HF HR
      clear hx
      go_wp2_with fail
      with_reducible refine HS.out.mono ?_
      rintro e w4 ⟨rfl, hR, hB⟩
      have H2 := hid (H1.out.next hR hB)
      clear hR hB
      go_wp2_with fail
      with_reducible refine (HF.out _ H2.out).mono ?_
      rintro e w5 ⟨rfl, hR, hB⟩
      have H3 := hid (H2.out.next hR hB)
      clear hR hB
      go_wp2_with fail
      with_reducible refine (HR.out _).mono ?_
      rintro e w' ⟨rfl, rfl⟩
      go_wp2
      go_roundw
      case rel => exact ⟨k + 1, by omega, by go_num, H3⟩
      case measure => simp [intOf]; omega
    · obtain rfl : k = 256 := by omega
      have HNU := hid (number_any b num wr H1.out.1)
      go_wp2_with fail
      with_reducible refine HNU.out.mono ?_
      rintro e w' ⟨rfl, rfl⟩
      go_wp2
      go_ret
      exact ⟨by simp, H1.out.2.2⟩

set_option maxRecDepth 100000 in
set_option maxHeartbeats 2000000 in
theorem pageCodes_true (n : Nat) (s : Int) (hn : n < 256) (hs : (Lit.int .i32 s).wf = true) (w : World) (hN : Numbers w) : Calls Tryd.prog 4 #[.int .u8 n, .int .i32 s] w fun e w' => e = .returned (.bool true) ∧ Below w.heap.size w w' := by
  have HN := hid hN
  have HK1 := hid (picked_mem n)
  have HW := hid hs
  clear hN hs
  go_enter Tryd.func4, Tryd.ntmps4
  go_wp2_with fail
  refine (awake_true _ HN.out).mono ?_
  rintro e w1 ⟨rfl, hB1⟩
  have HN1 := hid (HN.out.below HN.out.1 hB1)
  have HB1 := hid hB1
  clear hB1
  go_wp2_with fail
  refine (pick_any n hn _ HN1.out).mono ?_
  rintro e w2 ⟨b, rfl, hb1, hP1, hB2⟩
  have HC : Hid (OneAt w b (picked n) w2) := ⟨hP1, by have := HB1.out.size; omega, HB1.out.trans (hB2.mono HB1.out.size)⟩
  clear hB2 hP1 HB1 HN HN1 hb1
  obtain ⟨num, hn1⟩ : ∃ num, num = picked n := ⟨_, rfl⟩
  rw [← hn1] at HC HK1 ⊢
  clear hn1
  have C1 := code_any b num s w2 HC.out.1 HW.out
  have C2 : ∀ w', Calls Tryd.prog 21 #[.int .i64 num, .int .i32 s] w' fun e w'' => e = .returned (.int .i64 (refCode num s)) ∧ w' = w'' := fun w' => code_ref num HK1.out s w'
  have hlt : (codeOf num s).1 < 256 := by
    unfold codeOf
    split
    · rename_i i h
      have hl : (signsL num).length = 256 := signsAt_length _ _
      have := (List.findIdx?_eq_some_iff_getElem.1 h).1
      omega
    · decide
  have hz : (codeOf num s).2 = false → (codeOf num s).1 = 0 := by
    unfold codeOf
    split
    · intro h; cases h
    · intro _; rfl
  unfold refCode at C2
  obtain ⟨⟨c, ok⟩, hco⟩ : ∃ q, q = codeOf num s := ⟨_, rfl⟩
  rw [← hco] at C1 C2 hlt hz
  simp only at C1 C2 hlt hz
  clear hco
  cases ok with
  | true =>
    have HC1 := hid C1
    have HC2 := hid C2
    clear C1 C2 hz
    go_wp2_with fail
    with_reducible refine HC1.out.mono ?_
    rintro e w4 ⟨rfl, hR, hB⟩
    have H2 := hid (HC.out.next hR hB)
    clear hR hB
    go_wp2_with fail
    refine (HC2.out _).mono ?_
    rintro e w' ⟨rfl, rfl⟩
    go_wp2
    go_ret
    exact ⟨rfl, H2.out.2.2⟩
  | false =>
    obtain rfl : c = 0 := hz rfl
    have HC1 := hid C1
    have HC2 := hid C2
    clear C1 C2 hz
    go_wp2_with fail
    with_reducible refine HC1.out.mono ?_
    rintro e w4 ⟨rfl, hR, hB⟩
    have H2 := hid (HC.out.next hR hB)
    clear hR hB
    go_wp2_with fail
    refine (HC2.out _).mono ?_
    rintro e w' ⟨rfl, rfl⟩
    go_wp2
    go_ret
    exact ⟨rfl, H2.out.2.2⟩
end Go.Proofs.YtadoiplfglaonaaDoor
