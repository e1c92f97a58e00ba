/-
  Inserting a character: what it leaves, and the program's Insert.
-/
import Derived.Test.YtpehhinpohmpiaaEf
namespace Go.Proofs.Ytpehhinpohmpiaa
open Go.RowKit Go.Lib Go.Deep

/-- The characters move on, one by one: the space, and the character that is in the hand. -/
def insR (s : Spc) (l : List Nat) (c : Int) : Nat → Spc × Int
  | 0 => (s, c)
  | k + 1 => ((insR s l c k).1.putC (l.getD k 0 : Nat) (insR s l c k).2, ((insR s l c k).1.cel (l.getD k 0)).ch)
theorem insR_alike (s : Spc) (l : List Nat) (c : Int) : ∀ k, Alike s (insR s l c k).1
  | 0 => Alike.refl s
  | k + 1 => (insR_alike s l c k).put _ _
theorem insR_ok {s : Spc} (h : s.OK) (l : List Nat) {c : Int} (hc : U8 c) : ∀ k, (insR s l c k).1.OK ∧ U8 (insR s l c k).2
  | 0 => ⟨h, hc⟩
  | k + 1 => ⟨(insR_ok h l hc k).1.putC _ (insR_ok h l hc k).2, ((insR_ok h l hc k).1.cel _).ch⟩
/-- The room there is. -/
def roomL (s : Spc) (n : Int) : List Nat := upL s (restL s n n)
def insB (s : Spc) (n : Int) : Bool := openB s n && decide (0 < (roomL s n).length)
def insS (s : Spc) (n c : Int) : Spc := modS (insR s (roomL s n) c (roomL s n).length).1 n
theorem upL_mem {s : Spc} {l : List Nat} {x : Nat} (h : x ∈ upL s l) : x ∈ l := by
  unfold upL at h
  split at h
  · exact List.mem_of_mem_take h
  · cases h
section
variable {b g : Nat} {s : Spc}
set_option maxRecDepth 100000 in
set_option maxHeartbeats 8000000 in
theorem insert_any (n : Int) (hn : I64 n) (c : Int) (hc : U8 c) (w : World) (h : SpM w b g s) : Calls Try.prog 27 #[.pointer (some ⟨b, 0, none⟩), .int .i64 n, .int .u8 c] w fun e w' => e = .returned (.bool (insB s n)) ∧ SpM w' b g (if insB s n then insS s n c else s) ∧ Moved w w' [b, g] [b, g] := by
  have hok := h.ok
  have hN := hok.pos
  have hbw := h.lt.1
  have hgw := h.lt.2
  have HOP := hid (fun W h => open_any (b := b) (g := g) (s := s) n hn W h)
  have HSP := hid h
  have HUP := hid (fun W h => callsIn_wide.1 (up_in (b := b) (g := g) (s := s) 10 (by omega) n hn W h))
  have HMO := hid (fun W (t : Spc) (ht : SpM W b g t) => modify_any (b := b) (g := g) (s := t) n hn W ht)
  have HPU := hid (fun (q x : Int) (hq : I64 q) (hx : U8 x) W (t : Spc) (ht : SpM W b g t) => put_any (b := b) (g := g) (s := t) q hq x hx W ht)
  have HMB := hid (fun x (hx : x ∈ upL s (restL s n n)) => restL_mem hok (upL_mem hx))
  have hLn : (upL s (restL s n n)).length ≤ 3564 := Nat.le_trans (upL_len _ _) (restL_len hok n n)
  have HAL := hid (fun k => insR_alike s (roomL s n) c k)
  have HOK := hid (fun k => insR_ok hok (roomL s n) hc k)
  unfold insB insS
  change Hid (∀ W, SpM W b g s → Calls _ _ _ W (ListD 3 1 (intsV ((roomL s n).map Int.ofNat)) (roomL s n).length W)) at HUP
  change Hid (∀ x, x ∈ roomL s n → x < s.L.length) at HMB
  change (roomL s n).length ≤ 3564 at hLn
  generalize roomL s n = pl at HUP HMB HAL HOK hLn ⊢
  obtain ⟨M, hM⟩ : ∃ M, pl.length = M := ⟨_, rfl⟩
  have HM := hid (show pl.length = M ∧ (pl.map Int.ofNat).length = M from ⟨hM, by rw [List.length_map]; exact hM⟩)
  rw [hM] at HUP hLn ⊢
  clear h hn hc hM hok
  cases ho : openB s n
  · rw [ho] at HOP
    rw [Bool.false_and, if_neg (by simp)]
    clear ho
    go_enter Try.func27, Try.ntmps27
    go_wp2_with fail
    with_reducible refine (HOP.out _ HSP.out).mono ?_
    rintro e w1 ⟨rfl, hb1⟩
    have HB1 := hid hb1
    clear hb1
    go_wp2
    go_ret
    exact ⟨rfl, HSP.out.below HB1.out, Moved.below HB1.out _⟩
  · rw [ho] at HOP
    rw [Bool.true_and]
    clear ho
    by_cases h0 : M = 0
    · subst h0
      rw [decide_eq_false (by omega), if_neg (by simp)]
      go_enter Try.func27, Try.ntmps27
      go_wp2_with fail
      with_reducible refine (HOP.out _ HSP.out).mono ?_
      rintro e w1 ⟨rfl, hb1⟩
      have HB1 := hid hb1
      clear hb1
      go_wp2_with fail
      with_reducible refine (HUP.out _ (HSP.out.below HB1.out)).mono ?_
      rintro e w2 ⟨v2, rfl, ho2, -, hb2⟩
      obtain ⟨y2, c2, rfl⟩ := row_any ho2
      have HB2 := hid (below_t HB1.out hb2)
      clear hb2 ho2
      go_wp2
      go_ret
      exact ⟨rfl, HSP.out.below HB2.out, Moved.below HB2.out _⟩
    · rw [decide_eq_true (by omega), if_pos rfl]
      have hMi : ¬ (M : Int) = 0 := by omega
      go_enter Try.func27, Try.ntmps27
      go_wp2_with fail
      with_reducible refine (HOP.out _ HSP.out).mono ?_
      rintro e w1 ⟨rfl, hb1⟩
      have HB1 := hid hb1
      clear hb1
      go_wp2_with fail
      with_reducible refine (HUP.out _ (HSP.out.below HB1.out)).mono ?_
      rintro e w2 ⟨v2, rfl, ho2, hk2, hb2⟩
      have hoc := ints_cells (xs := pl.map Int.ofNat) (by rw [HM.out.2]; exact ho2)
      rw [HM.out.2] at hoc
      obtain ⟨y2, c2, rfl⟩ := row_any ho2
      have hz1 := HB1.out.size
      have HOC := hid (show ∀ W, Moved w2 W [b, g] [b, g] → ∀ k, k < M → ∃ gg, y2 = some ⟨gg, 0, none⟩ ∧ W.cell? ⟨gg, k, none⟩ = some (.int .i64 (pl.getD k 0 : Nat)) from fun W hW k hk => by
        rcases hoc with ⟨x, c, e, hx⟩ | ⟨gg, c, e, hc⟩
        · have : M = 0 := by rw [← HM.out.2, hx]; rfl
          omega
        · injection e with e1
          refine ⟨gg, e1, ?_⟩
          have q := hc k hk
          rw [Nat.zero_add] at q
          have hgg : w1.heap.size ≤ gg := hk2 gg (by rw [e1]; simp [blkV, Value.ownBlock])
          refine (cell_moved hW q (by simp; omega)).trans ?_
          rw [List.getD_eq_getElem?_getD, List.getElem?_map, List.getD_eq_getElem?_getD, List.getElem?_eq_getElem (by rw [HM.out.1]; exact hk)]
          rfl)
      have HB2 := hid (below_t HB1.out hb2)
      clear hb2 ho2 hk2 hoc HB1
      go_wp2_with fail
      go_loopw [23, 2] (fun i cc W => ∃ k : Nat, k ≤ M ∧ i = .int .i64 k ∧ (∃ cz : Int, cc = .int .u8 cz ∧ Hid (cz = (insR s pl c k).2)) ∧ Hid (SpM W b g (insR s pl c k).1) ∧ Hid (Moved w2 W [b, g] [b, g])) (fun i _ _ => M - (intOf i).toNat)
      case atStart => exact ⟨0, by omega, rfl, ⟨c, rfl, rfl⟩, HSP.out.below HB2.out, Moved.refl _ _⟩
      case round =>
        obtain ⟨k, hk, rfl, ⟨cz, rfl, HCZ⟩, HS, HMV⟩ := hrel
        by_cases hkM : k < M
        · have hki : (k : Int) < M := by omega
          obtain ⟨gg, rfl, hcx⟩ := HOC.out _ HMV.out k hkM
          have hlg := World.block_lt_of_cell? wr _ hcx
          have hmx := HMB.out (pl.getD k 0) (by rw [List.getD_eq_getElem?_getD, List.getElem?_eq_getElem (by rw [HM.out.1]; exact hkM)]; exact List.getElem_mem _)
          have HST := hid (show insR s pl c (k + 1) = ((insR s pl c k).1.putC (pl.getD k 0 : Nat) (insR s pl c k).2, ((insR s pl c k).1.cel (pl.getD k 0)).ch) from rfl)
          rw [← HCZ.out] at HST
          have hcz8 : U8 cz := by rw [HCZ.out]; exact (HOK.out k).2
          have hlen := (HAL.out k).len
          generalize (insR s pl c k).1 = t at HS HST hlen
          generalize pl.getD k 0 = x at hcx hmx HST
          have hix : I64 (x : Int) := i64_small (by omega) (by omega)
          have HAT := hid (fun W (hW : SpM W b g t) => (show Calls Try.prog 20 #[.pointer (some ⟨b, 0, none⟩), .int .i64 x] W fun e w' => e = .returned (t.cel x).v ∧ Below W.heap.size W w' from by
            have q1 := at_any (b := b) (g := g) (s := t) (x : Int) hix W hW
            unfold Spc.atC at q1
            rwa [wr_nat (by rw [hlen]; exact hmx)] at q1))
          have HPK := hid (fun W (hW : SpM W b g t) => HPU.out (x : Int) cz hix hcz8 W t hW)
          generalize t.cel x = cc at HAT HST
          obtain ⟨x0, x1, x2, x3, x4, x5⟩ := cc
          dsimp only at HST
          have hf0 := celf0
          clear hlen hix hcz8 HCZ
          go_wp2_with fail
          with_reducible refine (HAT.out _ HS.out).mono ?_
          rintro e w3 ⟨rfl, hb3⟩
          have HB3 := hid hb3
          clear hb3
          go_wp2_with fail
          with_reducible refine (HPK.out _ (HS.out.below HB3.out)).mono ?_
          rintro e w4 ⟨⟨v4, rfl⟩, hs4, hm4⟩
          have HS4 := hid hs4
          have HM4 := hid ((HMV.out.trans (Moved.below HB3.out _)).trans hm4)
          clear hs4 hm4
          go_wp2
          go_roundw
          case rel =>
            rw [show ((M : Int) == 0) = false from beq_eq_false_iff_ne.2 hMi]
            refine ⟨_, _, _, _, _, _, _, _, _, _, _, _, _, _, _, _, _, ?_, rfl⟩
            exact ⟨k + 1, by omega, by go_num, ⟨x0, rfl, by rw [HST.out]; exact rfl⟩, by rw [HST.out]; exact HS4.out, HM4.out⟩
          case measure => simp [intOf]; omega
        · obtain rfl : k = M := by omega
          have HMK := hid (HMO.out wr _ HS.out)
          go_wp2_with fail
          with_reducible refine HMK.out.mono ?_
          rintro e w5 ⟨rfl, hs5, hm5⟩
          have HS5 := hid hs5
          have HM5 := hid (((Moved.below HB2.out _).trans HMV.out).trans hm5)
          clear hs5 hm5
          go_wp2
          go_ret
          exact ⟨rfl, HS5.out, HM5.out⟩
end
end Go.Proofs.Ytpehhinpohmpiaa
