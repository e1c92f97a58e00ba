/-
  One cell's bytes by the reference.
-/
import Derived.Test.YtlhaefgchmakfaaQk
import Derived.Test.YtlhaefgchmakfaaFi
namespace Go.Proofs.Ytlhaefgchmakfaa
open Go.RowKit Go.Lib Go.Deep

theorem box_new (w : World) (x0 : Int) (x1 : Bool) (x2 x3 x4 x5 : Int) (t : TypeId) : CellsM (w.alloc (.cells #[.int .u8 x0, .bool x1, .int .u8 x2, .int .u8 x3, .int .u8 x4, .int .u8 x5] t)) w.heap.size [⟨x0, x1, x2, x3, x4, x5⟩] :=
  ⟨fun i hi j hj => by
    obtain rfl : i = 0 := by simp at hi; omega
    match j, hj with
    | 0, _ => simp [go_sem]; rfl
    | 1, _ => simp [go_sem]; rfl
    | 2, _ => simp [go_sem]; rfl
    | 3, _ => simp [go_sem]; rfl
    | 4, _ => simp [go_sem]; rfl
    | 5, _ => simp [go_sem]; rfl, fun o => by simp [go_sem], by simp⟩
theorem box_six {w : World} {g : Nat} {c : Cel} (h : CellsM w g [c]) : Six w g c := by
  obtain ⟨a0, a1, a2, a3, a4, a5⟩ := h.six 0 (by simp) c rfl
  exact ⟨by simpa using a0, by simpa using a1, by simpa using a2, by simpa using a3, by simpa using a4, by simpa using a5⟩
theorem box_moved {A B : World} {g : Nat} {c : Cel} {S S' : List Nat} (h : CellsM A g [c]) (m : Moved A B S S') (hg : g ∉ S) : CellsM B g [c] := h.block (m.block _ h.lt hg)
theorem six_moved {A B : World} {g : Nat} {c : Cel} {S S' : List Nat} (h : Six A g c) (m : Moved A B S S') (hg : g ∉ S) : Six B g c := ⟨cell_moved m h.c0 hg, cell_moved m h.c1 hg, cell_moved m h.c2 hg, cell_moved m h.c3 hg, cell_moved m h.c4 hg, cell_moved m h.c5 hg⟩
set_option maxRecDepth 100000 in
set_option maxHeartbeats 4000000 in
theorem rchars_one (c : Cel) (hc : c.OK) (l : Nat) (w : World) (h : Six w l c) : Calls Try.prog 17 #[.slice (some ⟨l, 0, none⟩) 1 1, cel0.v, .int .i64 0] w fun e w' => ∃ v, ∃ u : Cel, e = .returned (.tuple #[v, u.v]) ∧ OwnB w' v (chrB c) ∧ (∀ k ∈ blkV v, w.heap.size ≤ k) ∧ Below w.heap.size w w' := by
  have HCH := hid (fun l W => rchar_any c l hc W)
  obtain ⟨ch, at_, fa, hi, co, se⟩ := c
  have HLEN := hid (chrB_len ⟨ch, at_, fa, hi, co, se⟩)
  generalize chrB ⟨ch, at_, fa, hi, co, se⟩ = cs at HCH HLEN ⊢
  have HSX := hid h
  have hlw := World.block_lt_of_cell? w _ h.c0
  clear h hc
  show Calls Try.prog 17 #[.slice (some ⟨l, 0, none⟩) 1 1, .agg #[.int .u8 0, .bool false, .int .u8 0, .int .u8 0, .int .u8 0, .int .u8 0], .int .i64 0] w _
  obtain ⟨W0, hW0⟩ : ∃ W0, (w.alloc (.cells #[.int .u8 0, .bool false, .int .u8 0, .int .u8 0, .int .u8 0, .int .u8 0] 48)).alloc (.cells #[.int .u8 0, .bool false, .int .u8 0, .int .u8 0, .int .u8 0, .int .u8 0] 48) = W0 := ⟨_, rfl⟩
  have hb0 : Below w.heap.size w W0 := by rw [← hW0]; exact bal (bal (Below.refl _ _) _) _
  have hk0 : CellsM W0 w.heap.size [cel0] := by rw [← hW0]; exact box_moved (box_new w 0 false 0 0 0 0 _) (Moved.alloc _ _ []) (by simp)
  have hk1 : CellsM W0 (w.heap.size + 1) [cel0] := by rw [← hW0]; have q := box_new (w.alloc (.cells #[.int .u8 0, .bool false, .int .u8 0, .int .u8 0, .int .u8 0, .int .u8 0] 48)) 0 false 0 0 0 0 48; rwa [World.size_alloc] at q
  have HB0 := hid hb0
  have HK0 := hid hk0
  have HK1 := hid hk1
  have HW := hid hW0
  clear hb0 hk0 hk1 hW0
  go_enter Try.func17, Try.ntmps17
  go_wp2_with fail
  simp only [HW.out]
  go_loopw [8, 13] (fun p i W => ∃ k : Nat, k ≤ 1 ∧ i = .int .i64 k ∧ Hid (OwnB W p (if k = 0 then [] else cs)) ∧ Hid (∀ q ∈ blkV p, w.heap.size + 2 ≤ q) ∧ Hid (Below w.heap.size w W) ∧ Hid (∃ d, CellsM W w.heap.size [d]) ∧ Hid (∃ d, CellsM W (w.heap.size + 1) [d])) (fun _ i _ => 1 - (intOf i).toNat)
  case atStart => exact ⟨0, by omega, rfl, OwnB.nil _, (fun q hq => by cases hq), HB0.out, ⟨_, HK0.out⟩, ⟨_, HK1.out⟩⟩
  case round =>
    clear HB0 HK0 HK1 HW
    obtain ⟨k, hk, rfl, HP, HN, HB, HKA, HKB⟩ := hrel
    by_cases hlt : k < 1
    · obtain rfl : k = 0 := by omega
      obtain ⟨xp, cp, rfl⟩ := own_empty HP.out
      have hsx := six_moved HSX.out (Moved.below HB.out []) (by simp)
      obtain ⟨a0, a1, a2, a3, a4, a5⟩ := hsx
      obtain ⟨⟨d0, d1, d2, d3, d4, d5⟩, hd⟩ := HKA.out
      have hbx := bal (Below.refl wr.heap.size wr) (.cells #[.int .u8 ch, .bool at_, .int .u8 fa, .int .u8 hi, .int .u8 co, .int .u8 se] 48)
      have HKA1 := hid (box_moved hd (Moved.below hbx []) (by simp))
      have HKB1 := hid (show ∃ d, CellsM _ (w.heap.size + 1) [d] from HKB.out.imp fun d h => box_moved h (Moved.below hbx []) (by simp))
      have HT1 := hid (box_new wr ch at_ fa hi co se 48)
      have HP1 := hid (HP.out.moved (Moved.below hbx []) (fun _ _ q => by cases q))
      have HB1 := hid (below_t HB.out hbx)
      obtain ⟨b0, b1, b2, b3, b4, b5⟩ := box_six HKA1.out
      have hzl := hd.lt
      have hzl2 : w.heap.size + 1 < wr.heap.size := by obtain ⟨d, h⟩ := HKB.out; exact h.lt
      clear hd hbx HKA HKB
      dsimp only at a0 a1 a2 a3 a4 a5 b0 b1 b2 b3 b4 b5
      have HCX := hid (show Calls Try.prog 46 #[.agg #[.int .u8 ch, .bool at_, .int .u8 fa, .int .u8 hi, .int .u8 co, .int .u8 se], .agg #[.int .u8 d0, .bool d1, .int .u8 d2, .int .u8 d3, .int .u8 d4, .int .u8 d5], .int .i64 0] _ _ from HCH.out ⟨d0, d1, d2, d3, d4, d5⟩ (wr.alloc (.cells #[.int .u8 ch, .bool at_, .int .u8 fa, .int .u8 hi, .int .u8 co, .int .u8 se] 48)))
      have hpl := HP.out.lt
      have hpz : ∀ q, q ∈ blkV (.slice xp 0 cp) → w.heap.size + 2 ≤ q ∧ q < wr.heap.size := fun q hq => ⟨HN.out q hq, hpl q hq⟩
      have HPZ := hid hpz
      clear hpl hpz
      go_wp2_with fail
      with_reducible refine HCX.out.mono ?_
      rintro e w2 ⟨v, rfl, ho, hkv, hb2⟩
      obtain ⟨xv, nv, cv, rfl⟩ := own_slice ho
      have HKA2 := hid (box_moved HKA1.out (Moved.below hb2 []) (by simp))
      have HKB2 := hid (show ∃ d, CellsM w2 (w.heap.size + 1) [d] from HKB1.out.imp fun d h => box_moved h (Moved.below hb2 []) (by simp))
      have HT2 := hid (box_moved HT1.out (Moved.below hb2 []) (by simp))
      have HP2 := hid (HP1.out.moved (Moved.below hb2 []) (fun _ _ q => by cases q))
      have HU2 := hid ho.reads
      have HB2 := hid (below_t HB1.out hb2)
      have HSZ := hid (show ([] : List Int).length + cs.length ≤ 100000000000 by have := HLEN.out; simp; omega)
      obtain ⟨n, hn⟩ : ∃ n, cs.length = n := ⟨_, rfl⟩
      have HNN := hid hn
      have hz2 := hb2.size
      rw [World.size_alloc] at hz2
      have HZ2 := hid hz2
      clear ho hkv hb2 hn a0 a1 a2 a3 a4 a5 b0 b1 b2 b3 b4 b5 hz2
      go_wp2_with (at_builtin; refine wpList_append_big rfl (.tmp 17) (.tmp 21) rfl (.slice xp 0 cp) (.slice xv nv cv) [] cs cs n rfl rfl HP2.out HU2.out HSZ.out rfl HNN.out ?_; intro y3 c3 w3 h3 g3 k3; have HO3 := hid h3; have HB3 := hid (below_grown HB2.out g3 (fun k hk => by have := (HPZ.out k hk).1; omega)); have HN3 := hid (show ∀ q ∈ blkV (.slice y3 n c3), w.heap.size + 2 ≤ q from fun q hq => by
        rcases k3 q hq with e | e
        · exact (HPZ.out q e).1
        · have := HZ2.out; omega); have hm3 := Moved.grown g3 (S := blkV (.slice xp 0 cp)) (S' := blkV (.slice y3 n c3)) (fun k hk => mem_blkV.2 hk) k3; have HKA3 := hid (box_moved HKA2.out hm3 (fun e => by have := (HPZ.out _ e).1; omega)); have HKB3 := hid (show ∃ d, CellsM w3 (w.heap.size + 1) [d] from HKB2.out.imp fun d h => box_moved h hm3 (fun e => by have := (HPZ.out _ e).1; omega)); obtain ⟨a0, a1, a2, a3, a4, a5⟩ := box_six (box_moved HT2.out hm3 (fun e => by have := (HPZ.out _ e).2; omega)); dsimp only at a0 a1 a2 a3 a4 a5; obtain ⟨b0, b1, b2, b3, b4, b5⟩ := box_six HKA3.out; dsimp only at b0 b1 b2 b3 b4 b5; have hfr := HKA3.out.fr; have hz3 : w.heap.size < w3.heap.size := HKA3.out.lt; clear h3 g3 k3 hm3)
      go_roundw
      case rel =>
        have hst := st6_moved w3 w.heap.size 0 ⟨ch, at_, fa, hi, co, se⟩
        refine ⟨1, by omega, rfl, HO3.out.moved hst (fun q hq e => by have := HN3.out q hq; simp at e; omega), HN3.out, HB3.out.trans (hst.toBelow (Nat.le_of_lt hz3) (fun q e => by simp at e; omega)), ⟨_, HKA3.out.stored 0 (by simp) ⟨ch, at_, fa, hi, co, se⟩⟩, HKB3.out.imp fun d h => box_moved h hst (by simp)⟩
      case measure => simp [intOf]
    · obtain rfl : k = 1 := by omega
      obtain ⟨xp, np, cp, rfl⟩ := own_slice HP.out
      obtain ⟨⟨d0, d1, d2, d3, d4, d5⟩, hd⟩ := HKA.out
      obtain ⟨b0, b1, b2, b3, b4, b5⟩ := box_six hd
      dsimp only at b0 b1 b2 b3 b4 b5
      obtain ⟨⟨x0, x1, x2, x3, x4, x5⟩, hx⟩ := HKB.out
      obtain ⟨y0, y1, y2, y3, y4, y5⟩ := box_six hx
      dsimp only at y0 y1 y2 y3 y4 y5
      have hfr := hx.fr
      have hz1 := hx.lt
      have HX := hid hx
      clear hd hx
      go_wp2_with fail
      go_region
      generalize hZ : World.drew (_ : World) = Z
      have hZ' : (st6 wr (w.heap.size + 1) 0 ⟨d0, d1, d2, d3, d4, d5⟩).drew = Z := hZ
      have hst := st6_moved wr (w.heap.size + 1) 0 ⟨d0, d1, d2, d3, d4, d5⟩
      have hdw : Below (st6 wr (w.heap.size + 1) 0 ⟨d0, d1, d2, d3, d4, d5⟩).heap.size (st6 wr (w.heap.size + 1) 0 ⟨d0, d1, d2, d3, d4, d5⟩) Z := by rw [← hZ']; exact (Below.refl _ _).drew
      have hst2 := hst.trans (Moved.below hdw _)
      have hxz : CellsM Z (w.heap.size + 1) [⟨d0, d1, d2, d3, d4, d5⟩] := box_moved (HX.out.stored 0 (by simp) ⟨d0, d1, d2, d3, d4, d5⟩) (Moved.below hdw []) (by simp)
      obtain ⟨c0, c1, c2, c3, c4, c5⟩ := box_six hxz
      dsimp only at c0 c1 c2 c3 c4 c5
      have HF := hid (show OwnB Z (.slice xp np cp) cs ∧ (∀ k ∈ blkV (.slice xp np cp), w.heap.size ≤ k) ∧ Below w.heap.size w Z from ⟨HP.out.moved hst2 (fun q hq e => by have := HN.out q hq; simp at e; omega), fun q hq => by have := HN.out q hq; omega, HB.out.trans (hst2.toBelow HB.out.size (fun q e => by simp at e; omega))⟩)
      clear hZ hZ' hst hdw hst2 hxz HX HP HN HB HKA HKB
      go_wp2_with fail
      exact bodyPost_ret (v := .tuple #[.slice xp np cp, .agg #[.int .u8 d0, .bool d1, .int .u8 d2, .int .u8 d3, .int .u8 d4, .int .u8 d5]]) (by simp [results, Try.results17, go_sem, c0, c1, c2, c3, c4, c5]) rfl ⟨_, ⟨d0, d1, d2, d3, d4, d5⟩, rfl, HF.out.1, HF.out.2.1, HF.out.2.2⟩
end Go.Proofs.Ytlhaefgchmakfaa
