/-
  A read's beginning.
-/
import Derived.Test.YtlhaefgchmakfaaQd
namespace Go.Proofs.Ytlhaefgchmakfaa
open Go.RowKit Go.Lib Go.Deep

theorem Spc.OK.okA {s : Spc} (h : s.OK) (n : Int) : okA (s.wr n : Int) = true := by
  rw [okA_iff]
  have := h.wr_lt n
  have := h.pos
  omega
theorem Spc.OK.okC {s : Spc} (h : s.OK) : Go.Proofs.Ytlhaefgchmakfaa.okA s.cu = true := by
  rw [okA_iff]
  have := h.cu1
  have := h.cu2
  have := h.pos
  omega
/-- A read's beginning in new memory. -/
def BegD (aid cu md : Int) (w : World) (e : Ending) (w' : World) : Prop := ∃ q v, e = .returned (.tuple #[.pointer (some ⟨q, 0, none⟩), .int .i64 0]) ∧ w.heap.size ≤ q ∧ DtM w' q v (aid :: encZ cu) md cel0 ∧ (∀ k ∈ blkV v, w.heap.size ≤ k) ∧ Below w.heap.size w w'
theorem dtm_new (w : World) (a md : Int) (ha : 0 ≤ a ∧ a < 256) : DtM ((w.alloc (.cells #[.int .u8 a] 5)).alloc (.cells #[.slice (some ⟨w.heap.size, 0, none⟩) 1 1, .int .i64 md, .int .u8 0, .bool false, .int .u8 0, .int .u8 0, .int .u8 0, .int .u8 0] 98)) (w.heap.size + 1) (.slice (some ⟨w.heap.size, 0, none⟩) 1 1) [a] md cel0 where
  c0 := by simp [go_sem]
  c1 := by simp [go_sem]
  cl := fun i hi => by
    match i, hi with
    | 0, _ => simp [go_sem]; rfl
    | 1, _ => simp [go_sem]; rfl
    | 2, _ => simp [go_sem]; rfl
    | 3, _ => simp [go_sem]; rfl
    | 4, _ => simp [go_sem]; rfl
    | 5, _ => simp [go_sem]; rfl
  fr := fun i _ => by simp [go_sem]
  ow := (own_byte0 w a ha).moved (Moved.alloc _ _ []) (fun _ _ q => by cases q)
  ap := fun k hk e => by
    rw [mem_blkV] at hk
    simp [Value.ownBlock] at hk
    omega
set_option maxRecDepth 100000 in
set_option maxHeartbeats 2000000 in
theorem begin_any {b g : Nat} {s : Spc} (aid md : Int) (ha : U8 aid) (h0 : 0 ≤ md) (h2 : md ≤ 2) (w : World) (h : SpM w b g s) : Calls Try.prog 47 #[.pointer (some ⟨b, 0, none⟩), .int .u8 aid, .int .i64 md] w (BegD aid s.cu md w) := by
  have HC := hid (check_ok md h0 h2 b)
  have HCU := hid (fun W (hW : SpM W b g s) => cursor_any W hW)
  have HAD := hid (fun q v W (hd : DtM W q v [aid] md cel0) => addr_add_any s.cu h.ok.okC W hd (by simp))
  have hD := dtm_new w aid md ha
  obtain ⟨W2, hW2⟩ : ∃ W2, (w.alloc (.cells #[.int .u8 aid] 5)).alloc (.cells #[.slice (some ⟨w.heap.size, 0, none⟩) 1 1, .int .i64 md, .int .u8 0, .bool false, .int .u8 0, .int .u8 0, .int .u8 0, .int .u8 0] 98) = W2 := ⟨_, rfl⟩
  have hB : Below w.heap.size w W2 := by rw [← hW2]; exact bal (bal (Below.refl _ _) _) _
  rw [hW2] at hD
  have HD := hid hD
  have HB := hid hB
  have HS := hid (h.below hB)
  have HW := hid hW2
  clear hD hB hW2 h
  go_enter Try.func47, Try.ntmps47
  go_wp2_with fail
  with_reducible refine (HC.out _).mono ?_
  rintro e w1 ⟨rfl, rfl⟩
  go_wp2_with fail
  rw [HW.out]
  with_reducible refine (HCU.out _ HS.out).mono ?_
  rintro e w3 ⟨rfl, hb⟩
  have HD3 := hid (HD.out.step hb)
  have HB3 := hid (HB.out.trans (hb.mono HB.out.size))
  clear hb
  go_wp2_with fail
  with_reducible refine (HAD.out _ _ _ HD3.out).mono ?_
  rintro e w4 ⟨⟨u, rfl⟩, v4, hd4, hm4⟩
  have HF := hid (show BegD aid s.cu md w (.returned (.tuple #[.pointer (some ⟨w.heap.size + 1, 0, none⟩), .int .i64 0])) w4 from ⟨_, v4, rfl, by omega, hd4, fun k hk => by
    have hz := HB3.out.size
    rcases hm4.from' k (List.mem_cons_of_mem _ hk) with e | e
    · rcases List.mem_cons.1 e with e | e
      · omega
      · rw [mem_blkV] at e
        simp [Value.ownBlock] at e
        omega
    · omega, HB3.out.trans (hm4.toBelow HB3.out.size (fun k hk => by
      rcases List.mem_cons.1 hk with e | e
      · omega
      · rw [mem_blkV] at e
        simp [Value.ownBlock] at e
        omega))⟩)
  clear hd4 hm4
  go_wp2_with fail
  go_ret2
  exact HF.out
end Go.Proofs.Ytlhaefgchmakfaa
