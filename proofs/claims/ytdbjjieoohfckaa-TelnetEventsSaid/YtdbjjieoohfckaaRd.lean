/-
  The reference's Sub.
-/
import Derived.Test.YtdbjjieoohfckaaRc
namespace Go.Proofs.Ytdbjjieoohfckaa
open Go.RowKit Go.Lib

def putR (w : World) (L : Nat) (k vb o : Int) (d : Value) (lg br : Bool) : World := (((((w.setCell ⟨L, 0, none⟩ (.int .i64 k)).setCell ⟨L, 1, none⟩ (.int .u8 vb)).setCell ⟨L, 2, none⟩ (.int .u8 o)).setCell ⟨L, 3, none⟩ d).setCell ⟨L, 4, none⟩ (.bool lg)).setCell ⟨L, 5, none⟩ (.bool br)
theorem putR_blk {w : World} {L : Nat} {a0 a1 a2 a3 a4 a5 : Value} {k vb o : Int} {d : Value} {lg br : Bool} (h : w.heap[L]? = some (.cells #[a0, a1, a2, a3, a4, a5] 36 (0, 0))) : (putR w L k vb o d lg br).heap[L]? = some (.cells #[.int .i64 k, .int .u8 vb, .int .u8 o, d, .bool lg, .bool br] 36 (0, 0)) := by
  have h0 := Go.heap_setCell_same w L 0 _ 36 (.int .i64 k) h
  have h1 := Go.heap_setCell_same _ L 1 _ 36 (.int .u8 vb) h0
  have h2 := Go.heap_setCell_same _ L 2 _ 36 (.int .u8 o) h1
  have h3 := Go.heap_setCell_same _ L 3 _ 36 d h2
  have h4 := Go.heap_setCell_same _ L 4 _ 36 (.bool lg) h3
  have h5 := Go.heap_setCell_same _ L 5 _ 36 (.bool br) h4
  exact h5
theorem putR_below {B : Nat} {a w : World} {L : Nat} {k vb o : Int} {d : Value} {lg br : Bool} (h : Below B a w) (hL : B ≤ L) : Below B a (putR w L k vb o d lg br) :=
  (((((h.setCell (p := ⟨L, 0, none⟩) hL _).setCell (p := ⟨L, 1, none⟩) hL _).setCell (p := ⟨L, 2, none⟩) hL _).setCell (p := ⟨L, 3, none⟩) hL _).setCell (p := ⟨L, 4, none⟩) hL _).setCell (p := ⟨L, 5, none⟩) hL _
theorem putR_own {w : World} {L : Nat} {k vb o : Int} {d v : Value} {lg br : Bool} {xs : List Int} (h : OwnB w v xs) (hL : L ∉ blkV v) : OwnB (putR w L k vb o d lg br) v xs :=
  set_ownB (set_ownB (set_ownB (set_ownB (set_ownB (set_ownB h hL 0 _) hL 1 _) hL 2 _) hL 3 _) hL 4 _) hL 5 _
/-- What Sub leaves. -/
def SubPost (ps : List Int) (i : Nat) (w : World) (e : Ending) (w' : World) : Prop :=
  Below w.heap.size w w' ∧ ((e = .returned (.tuple #[.agg #[.int .i64 0, .int .u8 0, .int .u8 0, .slice none 0 0, .bool false, .bool false], .int .i64 (-1)]) ∧ emit .sb (ps.drop i) = [] ∧ (runS .sb (ps.drop i)).waits = true) ∨
    ∃ (n : Nat) (o : Int) (lg br : Bool) (d : Value) (ds : List Int), e = .returned (.tuple #[.agg #[.int .i64 3, .int .u8 0, .int .u8 o, d, .bool lg, .bool br], .int .i64 n]) ∧ i < n ∧ n ≤ ps.length ∧
      emit .sb (ps.drop i) = ⟨3, 0, o, ds, lg, br⟩ :: emit .between (ps.drop n) ∧ runS .sb (ps.drop i) = runS .between (ps.drop n) ∧ OwnB w' d ds ∧ ds.length ≤ 256 ∧ ∀ k ∈ blkV d, w.heap.size ≤ k)
set_option maxRecDepth 100000 in
set_option maxHeartbeats 8000000 in
theorem sub_any (p : Value) (ps : List Int) (i : Nat) (w : World) (hp : Reads w p ps) (hl : ps.length ≤ 3000) (hi : i ≤ 4000) : Calls Try.prog 27 #[p, .int .i64 i] w (SubPost ps i w) := by
  obtain ⟨i5, hi5, hx0, hx1, hx2⟩ := info_parts info5
  have HPB := hid hp.1
  obtain ⟨x, cap, rfl, hc⟩ := reads_uni hp
  have HC := hid hc
  have HDA := hid (drop_at ps)
  clear hp hc
  obtain ⟨n, hn⟩ : ∃ n, n = ps.length := ⟨_, rfl⟩
  rw [← hn] at HC hl HDA ⊢
  have HLN := hid hn
  clear hn
  by_cases hin : i < n
  · obtain ⟨g, off, rfl, ci⟩ := HC.out i hin
    have HST := hid (sub_start (ps.getD i 0) (ps.drop (i + 1)))
    rw [← HDA.out i hin] at HST
    have HBY : Hid (∀ j, j < n → 0 ≤ ps.getD j 0 ∧ ps.getD j 0 < 256) := fun j hj => HPB.out _ (by rw [List.getD, List.getElem?_eq_getElem (by rw [← HLN.out]; exact hj)]; exact List.getElem_mem _)
    generalize ps.getD i 0 = o at ci HST
    have hii : (i : Int) < n := by omega
    have hgl := World.block_lt_of_cell? w _ ci
    go_enter Try.func27, Try.ntmps27
    go_wp2
    go_loopw [1, 7] (fun jv av w' => ∃ (j : Nat) (all : List Int), i < j ∧ j ≤ n ∧ jv = .int .i64 j ∧ Hid (OwnB w' av all) ∧ Hid (emit .sb (ps.drop i) = emit (subSt o all) (ps.drop j) ∧ runS .sb (ps.drop i) = runS (subSt o all) (ps.drop j)) ∧ Hid (w'.heap[w.heap.size]? = some (.cells #[.int .i64 0, .int .u8 0, .int .u8 0, .slice none 0 0, .bool false, .bool false] 36 (0, 0))) ∧ Hid (w'.heap[w.heap.size + 1]? = some (.cells #[.int .i64 3, .int .u8 0, .int .u8 o, .slice none 0 0, .bool false, .bool false] 36 (0, 0))) ∧ Hid (∀ kk ∈ blkV av, w.heap.size + 2 ≤ kk) ∧ Hid (Below w.heap.size w w') ∧ Hid (w.heap.size + 2 ≤ w'.heap.size) ∧ Hid (all.length ≤ j)) (fun jv _ _ => n - (intOf jv).toNat)
    case atStart =>
      refine ⟨i + 1, [], by omega, by omega, by go_num, OwnB.nil _, HST.out, ?_, ?_, (fun _ q => by cases q), ((Below.refl _ _).alloc (Nat.le_refl _) _).alloc (by simp) _, by show _ ≤ _; simp, Nat.zero_le _⟩
      · exact (Below.heap_alloc _ _ _ (by simp)).trans (heap_alloc_new w _)
      · have q := heap_alloc_new (w.alloc (.cells #[.int .i64 0, .int .u8 0, .int .u8 0, .slice none 0 0, .bool false, .bool false] 36)) (.cells #[.int .i64 3, .int .u8 0, .int .u8 o, .slice none 0 0, .bool false, .bool false] 36)
        rw [show (w.alloc (.cells #[.int .i64 0, .int .u8 0, .int .u8 0, .slice none 0 0, .bool false, .bool false] 36)).heap.size = w.heap.size + 1 by simp] at q
        exact q
    case round =>
      obtain ⟨j, all, hj, hjn, rfl, HO, HV, HRS, HEB, HAB, HBB, HS2, HAL⟩ := hrel
      clear ci
      by_cases hjl : j < n
      · obtain ⟨g', off', hxe, cj0⟩ := HC.out j hjl
        cases hxe
        have cj := keepc HBB.out cj0
        have HY1 := hid (HBY.out j hjl)
        have HD1 := hid (HDA.out j hjl)
        have hji : (j : Int) < n := by omega
        clear cj0
        generalize ps.getD j 0 = b at cj HY1 HD1
        by_cases hb : b = 255
        · subst hb
          by_cases hj2 : j + 1 < n
          · obtain ⟨g', off', hxe, cj0⟩ := HC.out (j + 1) hj2
            cases hxe
            have ck := keepc HBB.out cj0
            have HCK00 := hid cj0
            have HY2 := hid (HBY.out (j + 1) hj2)
            have HD2 := hid (HDA.out (j + 1) hj2)
            have hj2i : (j : Int) + 1 < n := by omega
            clear cj0
            have hj2n : ¬ (n : Int) ≤ (j : Int) + 1 := by omega
            generalize ps.getD (j + 1) 0 = c at ck HY2 HD2 HCK00
            by_cases hc : c = 255
            · subst hc
              have HNX : Hid (emit .sb (ps.drop i) = emit (subSt o (all ++ [255])) (ps.drop (j + 2)) ∧ runS .sb (ps.drop i) = runS (subSt o (all ++ [255])) (ps.drop (j + 2))) := by
                have q := sub_two o all (ps.drop (j + 2))
                have v := HV.out
                rw [HD1.out, HD2.out] at v
                exact ⟨v.1.trans q.1, v.2.trans q.2⟩
              have HRW := hid (HO.out.2.alloc (.cells #[.int .u8 255] 5))
              have HSN : Hid (∀ j u, [Value.int .u8 255][j]? = some u → (wr.alloc (.cells #[.int .u8 255] 5)).cell? ((⟨wr.heap.size, 0, none⟩ : Addr).add j) = some u) := fun j u hu => by
                rw [addr_add, Nat.zero_add, cell_of_row _ wr.heap.size j #[.int .u8 255] 5 (0, 0) (heap_alloc_new wr _)]
                simpa using hu
              have H1 : Hid (∀ u ∈ [Value.int .u8 255], u.oneCell' = true) := fun u hu => by rw [List.mem_singleton.1 hu]; rfl
              go_wp2_with (first
                | (at_builtin; refine wpList_append_blk _ rfl _ _ 22 rfl 5 i5 _ 1 1 Try.underlying22 hi5 hx0 hx1 hx2 rfl (by decide) _ _ _ rfl HRW.out ⟨wr.heap.size, 0, none⟩ 1 1 [.int .u8 255] rfl rfl HSN.out H1.out (by have := HAL.out; unfold maxLen; omega) (by have := HAL.out; omega) ?_; intro v' w3 ho hg hn' hk'; have HO3 := hid ho; have HG3 := hid hg; have HK3 := hid hk'; clear ho hg hn' hk'))
              have HNB := hid (show ∀ kk, kk < w.heap.size + 2 → some kk ≠ (u7 : Value).ownBlock from fun kk hkk e => by have := HAB.out kk (mem_blkV.2 e.symm); omega)
              have HSZ := hid (show w.heap.size + 2 ≤ wr.heap.size from HS2.out)
              go_roundw
              case rel =>
                refine ⟨j + 2, all ++ [255], by omega, by omega, by go_num, ?_, ?_, ?_, ?_, ?_, ?_, ?_, ?_⟩
                · refine ⟨fun y hy => ?_, ?_⟩
                  · rcases List.mem_append.1 hy with q | q
                    · exact HO.out.1 y q
                    · rw [List.mem_singleton.1 q]; omega
                  · rw [List.length_append, List.map_append]; exact HO3.out
                · exact HNX.out
                · exact (HG3.out.block _ (by have := HSZ.out; simp; omega) (HNB.out _ (by omega))).trans ((Below.heap_alloc wr _ _ (by have := HSZ.out; omega)).trans HRS.out)
                · exact (HG3.out.block _ (by have := HSZ.out; simp; omega) (HNB.out _ (by omega))).trans ((Below.heap_alloc wr _ _ (by have := HSZ.out; omega)).trans HEB.out)
                · intro kk hkk
                  rcases HK3.out kk hkk with q | q
                  · exact HAB.out kk q
                  · have := HSZ.out; simp at q; omega
                · exact (HBB.out.alloc HBB.out.size _).grown HG3.out (by have := HBB.out.size; simp; omega) (fun kk hkk => by have := HAB.out kk (mem_blkV.2 hkk); omega)
                · show _ ≤ _
                  have := HSZ.out; have := HG3.out.size; simp at this; omega
                · show _ ≤ _
                  rw [List.length_append]; have := HAL.out; show all.length + 1 ≤ j + 2; omega
              case measure => simp [intOf]; omega
            · have HC5 := hid hc
              have l5 : (c == 255) = false := by simpa using hc
              clear hc
              obtain ⟨xa, ca, hae⟩ := row_slice HO.out.2
              subst hae
              by_cases hlg : 256 < all.length
              · have hlgi : (256 : Int) < all.length := by omega
                have Htrue : Hid (decide (256 < all.length) = true) := by show _ = _; simp; omega
                have HCT := hid (cut_any (.slice xa all.length ca) 256 (by decide) all (wr.setCell ⟨w.heap.size + 1, 4, none⟩ (.bool true)) (set_ownB HO.out (fun q => by have := HAB.out _ q; omega) 4 _).reads)
                have e0 := cell_of_row wr (w.heap.size + 1) 0 _ 36 _ HEB.out
                have e4 := cell_of_row wr (w.heap.size + 1) 4 _ 36 _ HEB.out
                simp only [List.getElem?_toArray, List.getElem?_cons_zero, List.getElem?_cons_succ] at e0 e4
                have ef := frozen_of_row wr (w.heap.size + 1) 4 _ 36 HEB.out
                have HE1 : Hid ((wr.setCell ⟨w.heap.size + 1, 4, none⟩ (.bool true)).heap[w.heap.size + 1]? = some (.cells #[.int .i64 3, .int .u8 0, .int .u8 o, .slice none 0 0, .bool true, .bool false] 36 (0, 0))) := Go.heap_setCell_same wr (w.heap.size + 1) 4 _ 36 (.bool true) HEB.out
                have HR1 : Hid ((wr.setCell ⟨w.heap.size + 1, 4, none⟩ (.bool true)).heap[w.heap.size]? = some (.cells #[.int .i64 0, .int .u8 0, .int .u8 0, .slice none 0 0, .bool false, .bool false] 36 (0, 0))) := (Go.heap_setCell_other wr _ w.heap.size _ (show w.heap.size ≠ w.heap.size + 1 by omega)).trans HRS.out
                have HB1' : Hid (Below w.heap.size w (wr.setCell ⟨w.heap.size + 1, 4, none⟩ (.bool true))) := HBB.out.setCell (p := ⟨w.heap.size + 1, 4, none⟩) (show w.heap.size ≤ w.heap.size + 1 by omega) _
                have hsz : (wr.setCell ⟨w.heap.size + 1, 4, none⟩ (.bool true)).heap.size = wr.heap.size := by simp [World.setCell]
                have HSZ := hid hsz
                have HCK0 := hid ck
                clear hsz
                go_wp2_with fail
                refine HCT.out.mono ?_
                rintro e w2 ⟨d', rfl, hr2, hb2, ho2, -⟩
                obtain ⟨xd', nd', cd', rfl⟩ := reads_any_slice hr2
                have HOD : Hid (OwnB w2 (.slice xd' nd' cd') (all.take 256)) := ⟨hr2.1, ho2.mono (Nat.zero_le _)⟩
                have hge : ∀ kk ∈ blkV (.slice xd' nd' cd'), w.heap.size + 2 ≤ kk := fun kk hkk => by have := (ho2.lt kk (mem_blkV.1 hkk)).1; have := HSZ.out; have := HS2.out; omega
                have HDN : Hid (∀ kk ∈ blkV (.slice xd' nd' cd'), w.heap.size ≤ kk) := fun kk hkk => by have := hge kk hkk; omega
                have HEN : Hid (w.heap.size + 1 ∉ blkV (.slice xd' nd' cd')) := fun q => by have := hge _ q; omega
                have HRN : Hid (w.heap.size ∉ blkV (.slice xd' nd' cd')) := fun q => by have := hge _ q; omega
                have HE2 := hid ((hb2.block (w.heap.size + 1) (by have := HSZ.out; have := HS2.out; omega)).trans HE1.out)
                have HR2 := hid ((hb2.block w.heap.size (by have := HSZ.out; have := HS2.out; omega)).trans HR1.out)
                have HB2 := hid (HB1'.out.trans (hb2.mono HB1'.out.size))
                have ck2 := keepc HB2.out HCK00.out
                clear hr2 hb2 ho2 hge e0 e4 ef ck cj
                have e0 := cell_of_row w2 (w.heap.size + 1) 0 _ 36 _ HE2.out
                have e1 := cell_of_row w2 (w.heap.size + 1) 1 _ 36 _ HE2.out
                have e2 := cell_of_row w2 (w.heap.size + 1) 2 _ 36 _ HE2.out
                have e3 := cell_of_row w2 (w.heap.size + 1) 3 _ 36 _ HE2.out
                have e4 := cell_of_row w2 (w.heap.size + 1) 4 _ 36 _ HE2.out
                have e5 := cell_of_row w2 (w.heap.size + 1) 5 _ 36 _ HE2.out
                simp only [List.getElem?_toArray, List.getElem?_cons_zero, List.getElem?_cons_succ] at e0 e1 e2 e3 e4 e5
                have ef3 := frozen_of_row w2 (w.heap.size + 1) 3 _ 36 HE2.out
                have ef5 := frozen_of_row w2 (w.heap.size + 1) 5 _ 36 HE2.out
                have r0 := cell_of_row w2 w.heap.size 0 _ 36 _ HR2.out
                have r1 := cell_of_row w2 w.heap.size 1 _ 36 _ HR2.out
                have r2 := cell_of_row w2 w.heap.size 2 _ 36 _ HR2.out
                have r3 := cell_of_row w2 w.heap.size 3 _ 36 _ HR2.out
                have r4 := cell_of_row w2 w.heap.size 4 _ 36 _ HR2.out
                have r5 := cell_of_row w2 w.heap.size 5 _ 36 _ HR2.out
                simp only [List.getElem?_toArray, List.getElem?_cons_zero, List.getElem?_cons_succ] at r0 r1 r2 r3 r4 r5
                have g0 := frozen_of_row w2 w.heap.size 0 _ 36 HR2.out
                have g1 := frozen_of_row w2 w.heap.size 1 _ 36 HR2.out
                have g2 := frozen_of_row w2 w.heap.size 2 _ 36 HR2.out
                have g3 := frozen_of_row w2 w.heap.size 3 _ 36 HR2.out
                have g4 := frozen_of_row w2 w.heap.size 4 _ 36 HR2.out
                have g5 := frozen_of_row w2 w.heap.size 5 _ 36 HR2.out
                by_cases hc4 : c = 240
                · subst hc4
                  have HRX : Hid ((w2.setCell ⟨w.heap.size + 1, 3, none⟩ (.slice xd' nd' cd')).heap[w.heap.size]? = some (.cells #[.int .i64 0, .int .u8 0, .int .u8 0, .slice none 0 0, .bool false, .bool false] 36 (0, 0))) := (Go.heap_setCell_other w2 _ w.heap.size _ (show w.heap.size ≠ w.heap.size + 1 by omega)).trans HR2.out
                  have HBX : Hid (Below w.heap.size w (w2.setCell ⟨w.heap.size + 1, 3, none⟩ (.slice xd' nd' cd'))) := HB2.out.setCell (p := ⟨w.heap.size + 1, 3, none⟩) (show w.heap.size ≤ w.heap.size + 1 by omega) _
                  have HOX := hid (set_ownB HOD.out HEN.out 3 (.slice xd' nd' cd'))
                  have HEV : Hid (emit .sb (ps.drop i) = ⟨3, 0, o, all.take 256, true, false⟩ :: emit .between (ps.drop (j + 2)) ∧ runS .sb (ps.drop i) = runS .between (ps.drop (j + 2))) := by
                    have q := sub_end o all (ps.drop (j + 2))
                    have v := HV.out
                    rw [HD1.out, HD2.out] at v
                    rw [Htrue.out] at q
                    exact ⟨v.1.trans q.1, v.2.trans q.2⟩
                  go_wp2
                  have q := putR_blk (k := 3) (vb := 0) (o := o) (d := (.slice xd' nd' cd')) (lg := true) (br := false) HRX.out
                  have hbq := putR_below (k := 3) (vb := 0) (o := o) (d := (.slice xd' nd' cd')) (lg := true) (br := false) HBX.out (Nat.le_refl w.heap.size)
                  have q2 := putR_own (k := 3) (vb := 0) (o := o) (d := (.slice xd' nd' cd')) (lg := true) (br := false) HOX.out HRN.out
                  unfold putR at q hbq q2
                  refine bodyPost_ret (v := .tuple #[.agg #[.int .i64 3, .int .u8 0, .int .u8 o, (.slice xd' nd' cd'), .bool true, .bool false], .int .i64 ((j : Int) + 2)]) ?_ rfl (⟨hbq, .inr ⟨j + 2, o, true, false, _, all.take 256, by simp, by omega, (by rw [← HLN.out]; omega), HEV.out.1, HEV.out.2, q2, by rw [List.length_take]; omega, HDN.out⟩⟩)
                  have s0 := cell_of_row _ w.heap.size 0 _ 36 _ q
                  have s1 := cell_of_row _ w.heap.size 1 _ 36 _ q
                  have s2 := cell_of_row _ w.heap.size 2 _ 36 _ q
                  have s3 := cell_of_row _ w.heap.size 3 _ 36 _ q
                  have s4 := cell_of_row _ w.heap.size 4 _ 36 _ q
                  have s5 := cell_of_row _ w.heap.size 5 _ 36 _ q
                  simp only [List.getElem?_toArray, List.getElem?_cons_zero, List.getElem?_cons_succ] at s0 s1 s2 s3 s4 s5
                  clear q hbq q2
                  generalize World.setCell _ ⟨w.heap.size, 5, none⟩ _ = W' at s0 s1 s2 s3 s4 s5 ⊢
                  simp [results, Try.results27, go_sem, s0, s1, s2, s3, s4, s5]
                · have l4 : (c == 240) = false := by simpa using hc4
                  have HC4 := hid hc4
                  clear hc4
                  have HRX : Hid (((w2.setCell ⟨w.heap.size + 1, 3, none⟩ (.slice xd' nd' cd')).setCell ⟨w.heap.size + 1, 5, none⟩ (.bool true)).heap[w.heap.size]? = some (.cells #[.int .i64 0, .int .u8 0, .int .u8 0, .slice none 0 0, .bool false, .bool false] 36 (0, 0))) := (Go.heap_setCell_other _ _ w.heap.size _ (show w.heap.size ≠ w.heap.size + 1 by omega)).trans ((Go.heap_setCell_other w2 _ w.heap.size _ (show w.heap.size ≠ w.heap.size + 1 by omega)).trans HR2.out)
                  have HBX : Hid (Below w.heap.size w ((w2.setCell ⟨w.heap.size + 1, 3, none⟩ (.slice xd' nd' cd')).setCell ⟨w.heap.size + 1, 5, none⟩ (.bool true))) := (HB2.out.setCell (p := ⟨w.heap.size + 1, 3, none⟩) (show w.heap.size ≤ w.heap.size + 1 by omega) _).setCell (p := ⟨w.heap.size + 1, 5, none⟩) (show w.heap.size ≤ w.heap.size + 1 by omega) _
                  have HOX := hid (set_ownB (set_ownB HOD.out HEN.out 3 (.slice xd' nd' cd')) HEN.out 5 (.bool true))
                  have HEV : Hid (emit .sb (ps.drop i) = ⟨3, 0, o, all.take 256, true, true⟩ :: emit .between (ps.drop j) ∧ runS .sb (ps.drop i) = runS .between (ps.drop j)) := by
                    have q := sub_broken o all c (ps.drop (j + 2)) HC5.out HC4.out
                    have v := HV.out
                    rw [HD1.out, HD2.out] at v
                    rw [Htrue.out] at q
                    rw [HD1.out, HD2.out]
                    exact ⟨v.1.trans q.1, v.2.trans q.2⟩
                  go_wp2
                  have q := putR_blk (k := 3) (vb := 0) (o := o) (d := (.slice xd' nd' cd')) (lg := true) (br := true) HRX.out
                  have hbq := putR_below (k := 3) (vb := 0) (o := o) (d := (.slice xd' nd' cd')) (lg := true) (br := true) HBX.out (Nat.le_refl w.heap.size)
                  have q2 := putR_own (k := 3) (vb := 0) (o := o) (d := (.slice xd' nd' cd')) (lg := true) (br := true) HOX.out HRN.out
                  unfold putR at q hbq q2
                  refine bodyPost_ret (v := .tuple #[.agg #[.int .i64 3, .int .u8 0, .int .u8 o, (.slice xd' nd' cd'), .bool true, .bool true], .int .i64 (j : Int)]) ?_ rfl (⟨hbq, .inr ⟨j, o, true, true, _, all.take 256, by simp, by omega, (by rw [← HLN.out]; omega), HEV.out.1, HEV.out.2, q2, by rw [List.length_take]; omega, HDN.out⟩⟩)
                  have s0 := cell_of_row _ w.heap.size 0 _ 36 _ q
                  have s1 := cell_of_row _ w.heap.size 1 _ 36 _ q
                  have s2 := cell_of_row _ w.heap.size 2 _ 36 _ q
                  have s3 := cell_of_row _ w.heap.size 3 _ 36 _ q
                  have s4 := cell_of_row _ w.heap.size 4 _ 36 _ q
                  have s5 := cell_of_row _ w.heap.size 5 _ 36 _ q
                  simp only [List.getElem?_toArray, List.getElem?_cons_zero, List.getElem?_cons_succ] at s0 s1 s2 s3 s4 s5
                  clear q hbq q2
                  generalize World.setCell _ ⟨w.heap.size, 5, none⟩ _ = W' at s0 s1 s2 s3 s4 s5 ⊢
                  simp [results, Try.results27, go_sem, s0, s1, s2, s3, s4, s5]
              · have hlgi : ¬ (256 : Int) < all.length := by omega
                have Hfalse : Hid (decide (256 < all.length) = false) := by show _ = _; simp; omega
                have HCT := hid (cut_any (.slice xa all.length ca) 256 (by decide) all (wr.setCell ⟨w.heap.size + 1, 4, none⟩ (.bool false)) (set_ownB HO.out (fun q => by have := HAB.out _ q; omega) 4 _).reads)
                have e0 := cell_of_row wr (w.heap.size + 1) 0 _ 36 _ HEB.out
                have e4 := cell_of_row wr (w.heap.size + 1) 4 _ 36 _ HEB.out
                simp only [List.getElem?_toArray, List.getElem?_cons_zero, List.getElem?_cons_succ] at e0 e4
                have ef := frozen_of_row wr (w.heap.size + 1) 4 _ 36 HEB.out
                have HE1 : Hid ((wr.setCell ⟨w.heap.size + 1, 4, none⟩ (.bool false)).heap[w.heap.size + 1]? = some (.cells #[.int .i64 3, .int .u8 0, .int .u8 o, .slice none 0 0, .bool false, .bool false] 36 (0, 0))) := Go.heap_setCell_same wr (w.heap.size + 1) 4 _ 36 (.bool false) HEB.out
                have HR1 : Hid ((wr.setCell ⟨w.heap.size + 1, 4, none⟩ (.bool false)).heap[w.heap.size]? = some (.cells #[.int .i64 0, .int .u8 0, .int .u8 0, .slice none 0 0, .bool false, .bool false] 36 (0, 0))) := (Go.heap_setCell_other wr _ w.heap.size _ (show w.heap.size ≠ w.heap.size + 1 by omega)).trans HRS.out
                have HB1' : Hid (Below w.heap.size w (wr.setCell ⟨w.heap.size + 1, 4, none⟩ (.bool false))) := HBB.out.setCell (p := ⟨w.heap.size + 1, 4, none⟩) (show w.heap.size ≤ w.heap.size + 1 by omega) _
                have hsz : (wr.setCell ⟨w.heap.size + 1, 4, none⟩ (.bool false)).heap.size = wr.heap.size := by simp [World.setCell]
                have HSZ := hid hsz
                have HCK0 := hid ck
                clear hsz
                go_wp2_with fail
                refine HCT.out.mono ?_
                rintro e w2 ⟨d', rfl, hr2, hb2, ho2, -⟩
                obtain ⟨xd', nd', cd', rfl⟩ := reads_any_slice hr2
                have HOD : Hid (OwnB w2 (.slice xd' nd' cd') (all.take 256)) := ⟨hr2.1, ho2.mono (Nat.zero_le _)⟩
                have hge : ∀ kk ∈ blkV (.slice xd' nd' cd'), w.heap.size + 2 ≤ kk := fun kk hkk => by have := (ho2.lt kk (mem_blkV.1 hkk)).1; have := HSZ.out; have := HS2.out; omega
                have HDN : Hid (∀ kk ∈ blkV (.slice xd' nd' cd'), w.heap.size ≤ kk) := fun kk hkk => by have := hge kk hkk; omega
                have HEN : Hid (w.heap.size + 1 ∉ blkV (.slice xd' nd' cd')) := fun q => by have := hge _ q; omega
                have HRN : Hid (w.heap.size ∉ blkV (.slice xd' nd' cd')) := fun q => by have := hge _ q; omega
                have HE2 := hid ((hb2.block (w.heap.size + 1) (by have := HSZ.out; have := HS2.out; omega)).trans HE1.out)
                have HR2 := hid ((hb2.block w.heap.size (by have := HSZ.out; have := HS2.out; omega)).trans HR1.out)
                have HB2 := hid (HB1'.out.trans (hb2.mono HB1'.out.size))
                have ck2 := keepc HB2.out HCK00.out
                clear hr2 hb2 ho2 hge e0 e4 ef ck cj
                have e0 := cell_of_row w2 (w.heap.size + 1) 0 _ 36 _ HE2.out
                have e1 := cell_of_row w2 (w.heap.size + 1) 1 _ 36 _ HE2.out
                have e2 := cell_of_row w2 (w.heap.size + 1) 2 _ 36 _ HE2.out
                have e3 := cell_of_row w2 (w.heap.size + 1) 3 _ 36 _ HE2.out
                have e4 := cell_of_row w2 (w.heap.size + 1) 4 _ 36 _ HE2.out
                have e5 := cell_of_row w2 (w.heap.size + 1) 5 _ 36 _ HE2.out
                simp only [List.getElem?_toArray, List.getElem?_cons_zero, List.getElem?_cons_succ] at e0 e1 e2 e3 e4 e5
                have ef3 := frozen_of_row w2 (w.heap.size + 1) 3 _ 36 HE2.out
                have ef5 := frozen_of_row w2 (w.heap.size + 1) 5 _ 36 HE2.out
                have r0 := cell_of_row w2 w.heap.size 0 _ 36 _ HR2.out
                have r1 := cell_of_row w2 w.heap.size 1 _ 36 _ HR2.out
                have r2 := cell_of_row w2 w.heap.size 2 _ 36 _ HR2.out
                have r3 := cell_of_row w2 w.heap.size 3 _ 36 _ HR2.out
                have r4 := cell_of_row w2 w.heap.size 4 _ 36 _ HR2.out
                have r5 := cell_of_row w2 w.heap.size 5 _ 36 _ HR2.out
                simp only [List.getElem?_toArray, List.getElem?_cons_zero, List.getElem?_cons_succ] at r0 r1 r2 r3 r4 r5
                have g0 := frozen_of_row w2 w.heap.size 0 _ 36 HR2.out
                have g1 := frozen_of_row w2 w.heap.size 1 _ 36 HR2.out
                have g2 := frozen_of_row w2 w.heap.size 2 _ 36 HR2.out
                have g3 := frozen_of_row w2 w.heap.size 3 _ 36 HR2.out
                have g4 := frozen_of_row w2 w.heap.size 4 _ 36 HR2.out
                have g5 := frozen_of_row w2 w.heap.size 5 _ 36 HR2.out
                by_cases hc4 : c = 240
                · subst hc4
                  have HRX : Hid ((w2.setCell ⟨w.heap.size + 1, 3, none⟩ (.slice xd' nd' cd')).heap[w.heap.size]? = some (.cells #[.int .i64 0, .int .u8 0, .int .u8 0, .slice none 0 0, .bool false, .bool false] 36 (0, 0))) := (Go.heap_setCell_other w2 _ w.heap.size _ (show w.heap.size ≠ w.heap.size + 1 by omega)).trans HR2.out
                  have HBX : Hid (Below w.heap.size w (w2.setCell ⟨w.heap.size + 1, 3, none⟩ (.slice xd' nd' cd'))) := HB2.out.setCell (p := ⟨w.heap.size + 1, 3, none⟩) (show w.heap.size ≤ w.heap.size + 1 by omega) _
                  have HOX := hid (set_ownB HOD.out HEN.out 3 (.slice xd' nd' cd'))
                  have HEV : Hid (emit .sb (ps.drop i) = ⟨3, 0, o, all.take 256, false, false⟩ :: emit .between (ps.drop (j + 2)) ∧ runS .sb (ps.drop i) = runS .between (ps.drop (j + 2))) := by
                    have q := sub_end o all (ps.drop (j + 2))
                    have v := HV.out
                    rw [HD1.out, HD2.out] at v
                    rw [Hfalse.out] at q
                    exact ⟨v.1.trans q.1, v.2.trans q.2⟩
                  go_wp2
                  have q := putR_blk (k := 3) (vb := 0) (o := o) (d := (.slice xd' nd' cd')) (lg := false) (br := false) HRX.out
                  have hbq := putR_below (k := 3) (vb := 0) (o := o) (d := (.slice xd' nd' cd')) (lg := false) (br := false) HBX.out (Nat.le_refl w.heap.size)
                  have q2 := putR_own (k := 3) (vb := 0) (o := o) (d := (.slice xd' nd' cd')) (lg := false) (br := false) HOX.out HRN.out
                  unfold putR at q hbq q2
                  refine bodyPost_ret (v := .tuple #[.agg #[.int .i64 3, .int .u8 0, .int .u8 o, (.slice xd' nd' cd'), .bool false, .bool false], .int .i64 ((j : Int) + 2)]) ?_ rfl (⟨hbq, .inr ⟨j + 2, o, false, false, _, all.take 256, by simp, by omega, (by rw [← HLN.out]; omega), HEV.out.1, HEV.out.2, q2, by rw [List.length_take]; omega, HDN.out⟩⟩)
                  have s0 := cell_of_row _ w.heap.size 0 _ 36 _ q
                  have s1 := cell_of_row _ w.heap.size 1 _ 36 _ q
                  have s2 := cell_of_row _ w.heap.size 2 _ 36 _ q
                  have s3 := cell_of_row _ w.heap.size 3 _ 36 _ q
                  have s4 := cell_of_row _ w.heap.size 4 _ 36 _ q
                  have s5 := cell_of_row _ w.heap.size 5 _ 36 _ q
                  simp only [List.getElem?_toArray, List.getElem?_cons_zero, List.getElem?_cons_succ] at s0 s1 s2 s3 s4 s5
                  clear q hbq q2
                  generalize World.setCell _ ⟨w.heap.size, 5, none⟩ _ = W' at s0 s1 s2 s3 s4 s5 ⊢
                  simp [results, Try.results27, go_sem, s0, s1, s2, s3, s4, s5]
                · have l4 : (c == 240) = false := by simpa using hc4
                  have HC4 := hid hc4
                  clear hc4
                  have HRX : Hid (((w2.setCell ⟨w.heap.size + 1, 3, none⟩ (.slice xd' nd' cd')).setCell ⟨w.heap.size + 1, 5, none⟩ (.bool true)).heap[w.heap.size]? = some (.cells #[.int .i64 0, .int .u8 0, .int .u8 0, .slice none 0 0, .bool false, .bool false] 36 (0, 0))) := (Go.heap_setCell_other _ _ w.heap.size _ (show w.heap.size ≠ w.heap.size + 1 by omega)).trans ((Go.heap_setCell_other w2 _ w.heap.size _ (show w.heap.size ≠ w.heap.size + 1 by omega)).trans HR2.out)
                  have HBX : Hid (Below w.heap.size w ((w2.setCell ⟨w.heap.size + 1, 3, none⟩ (.slice xd' nd' cd')).setCell ⟨w.heap.size + 1, 5, none⟩ (.bool true))) := (HB2.out.setCell (p := ⟨w.heap.size + 1, 3, none⟩) (show w.heap.size ≤ w.heap.size + 1 by omega) _).setCell (p := ⟨w.heap.size + 1, 5, none⟩) (show w.heap.size ≤ w.heap.size + 1 by omega) _
                  have HOX := hid (set_ownB (set_ownB HOD.out HEN.out 3 (.slice xd' nd' cd')) HEN.out 5 (.bool true))
                  have HEV : Hid (emit .sb (ps.drop i) = ⟨3, 0, o, all.take 256, false, true⟩ :: emit .between (ps.drop j) ∧ runS .sb (ps.drop i) = runS .between (ps.drop j)) := by
                    have q := sub_broken o all c (ps.drop (j + 2)) HC5.out HC4.out
                    have v := HV.out
                    rw [HD1.out, HD2.out] at v
                    rw [Hfalse.out] at q
                    rw [HD1.out, HD2.out]
                    exact ⟨v.1.trans q.1, v.2.trans q.2⟩
                  go_wp2
                  have q := putR_blk (k := 3) (vb := 0) (o := o) (d := (.slice xd' nd' cd')) (lg := false) (br := true) HRX.out
                  have hbq := putR_below (k := 3) (vb := 0) (o := o) (d := (.slice xd' nd' cd')) (lg := false) (br := true) HBX.out (Nat.le_refl w.heap.size)
                  have q2 := putR_own (k := 3) (vb := 0) (o := o) (d := (.slice xd' nd' cd')) (lg := false) (br := true) HOX.out HRN.out
                  unfold putR at q hbq q2
                  refine bodyPost_ret (v := .tuple #[.agg #[.int .i64 3, .int .u8 0, .int .u8 o, (.slice xd' nd' cd'), .bool false, .bool true], .int .i64 (j : Int)]) ?_ rfl (⟨hbq, .inr ⟨j, o, false, true, _, all.take 256, by simp, by omega, (by rw [← HLN.out]; omega), HEV.out.1, HEV.out.2, q2, by rw [List.length_take]; omega, HDN.out⟩⟩)
                  have s0 := cell_of_row _ w.heap.size 0 _ 36 _ q
                  have s1 := cell_of_row _ w.heap.size 1 _ 36 _ q
                  have s2 := cell_of_row _ w.heap.size 2 _ 36 _ q
                  have s3 := cell_of_row _ w.heap.size 3 _ 36 _ q
                  have s4 := cell_of_row _ w.heap.size 4 _ 36 _ q
                  have s5 := cell_of_row _ w.heap.size 5 _ 36 _ q
                  simp only [List.getElem?_toArray, List.getElem?_cons_zero, List.getElem?_cons_succ] at s0 s1 s2 s3 s4 s5
                  clear q hbq q2
                  generalize World.setCell _ ⟨w.heap.size, 5, none⟩ _ = W' at s0 s1 s2 s3 s4 s5 ⊢
                  simp [results, Try.results27, go_sem, s0, s1, s2, s3, s4, s5]
          · have HNE : Hid (emit .sb (ps.drop i) = [] ∧ (runS .sb (ps.drop i)).waits = true) := by
              have q := sub_one o all
              have v := HV.out
              have hdn : ps.drop (j + 1) = [] := List.drop_eq_nil_of_le (by rw [← HLN.out]; omega)
              rw [HD1.out, hdn] at v
              exact ⟨v.1.trans q.1, by rw [v.2]; exact q.2⟩
            have hj2i : (n : Int) ≤ (j : Int) + 1 := by omega
            have r0 := cell_of_row wr w.heap.size 0 _ 36 _ HRS.out
            have r1 := cell_of_row wr w.heap.size 1 _ 36 _ HRS.out
            have r2 := cell_of_row wr w.heap.size 2 _ 36 _ HRS.out
            have r3 := cell_of_row wr w.heap.size 3 _ 36 _ HRS.out
            have r4 := cell_of_row wr w.heap.size 4 _ 36 _ HRS.out
            have r5 := cell_of_row wr w.heap.size 5 _ 36 _ HRS.out
            simp only [List.getElem?_toArray, List.getElem?_cons_zero, List.getElem?_cons_succ] at r0 r1 r2 r3 r4 r5
            have g0 := frozen_of_row wr w.heap.size 0 _ 36 HRS.out
            have g1 := frozen_of_row wr w.heap.size 1 _ 36 HRS.out
            have g2 := frozen_of_row wr w.heap.size 2 _ 36 HRS.out
            have g3 := frozen_of_row wr w.heap.size 3 _ 36 HRS.out
            have g4 := frozen_of_row wr w.heap.size 4 _ 36 HRS.out
            have g5 := frozen_of_row wr w.heap.size 5 _ 36 HRS.out
            go_wp2
            have q := putR_blk (k := 0) (vb := 0) (o := 0) (d := (.slice none 0 0)) (lg := false) (br := false) HRS.out
            have hbq := putR_below (k := 0) (vb := 0) (o := 0) (d := (.slice none 0 0)) (lg := false) (br := false) HBB.out (Nat.le_refl w.heap.size)

            unfold putR at q hbq 
            refine bodyPost_ret (v := .tuple #[.agg #[.int .i64 0, .int .u8 0, .int .u8 0, (.slice none 0 0), .bool false, .bool false], .int .i64 (-1)]) ?_ rfl (⟨hbq, .inl ⟨rfl, HNE.out.1, HNE.out.2⟩⟩)
            have s0 := cell_of_row _ w.heap.size 0 _ 36 _ q
            have s1 := cell_of_row _ w.heap.size 1 _ 36 _ q
            have s2 := cell_of_row _ w.heap.size 2 _ 36 _ q
            have s3 := cell_of_row _ w.heap.size 3 _ 36 _ q
            have s4 := cell_of_row _ w.heap.size 4 _ 36 _ q
            have s5 := cell_of_row _ w.heap.size 5 _ 36 _ q
            simp only [List.getElem?_toArray, List.getElem?_cons_zero, List.getElem?_cons_succ] at s0 s1 s2 s3 s4 s5
            clear q hbq 
            generalize World.setCell _ ⟨w.heap.size, 5, none⟩ _ = W' at s0 s1 s2 s3 s4 s5 ⊢
            simp [results, Try.results27, go_sem, s0, s1, s2, s3, s4, s5]
        · have HNX : Hid (emit .sb (ps.drop i) = emit (subSt o (all ++ [b])) (ps.drop (j + 1)) ∧ runS .sb (ps.drop i) = runS (subSt o (all ++ [b])) (ps.drop (j + 1))) := by
            have q := sub_byte o all b (ps.drop (j + 1)) hb
            have v := HV.out
            rw [HD1.out] at v
            exact ⟨v.1.trans q.1, v.2.trans q.2⟩
          have l1 : (b != 255) = true := by simpa using hb
          clear hb
          have HRW := hid (HO.out.2.alloc (.cells #[.int .u8 b] 5))
          have HSN : Hid (∀ j u, [Value.int .u8 b][j]? = some u → (wr.alloc (.cells #[.int .u8 b] 5)).cell? ((⟨wr.heap.size, 0, none⟩ : Addr).add j) = some u) := fun j u hu => by
            rw [addr_add, Nat.zero_add, cell_of_row _ wr.heap.size j #[.int .u8 b] 5 (0, 0) (heap_alloc_new wr _)]
            simpa using hu
          have H1 : Hid (∀ u ∈ [Value.int .u8 b], u.oneCell' = true) := fun u hu => by rw [List.mem_singleton.1 hu]; rfl
          go_wp2_with (first
            | (at_builtin; refine wpList_append_blk _ rfl _ _ 22 rfl 5 i5 _ 1 1 Try.underlying22 hi5 hx0 hx1 hx2 rfl (by decide) _ _ _ rfl HRW.out ⟨wr.heap.size, 0, none⟩ 1 1 [.int .u8 b] rfl rfl HSN.out H1.out (by have := HAL.out; unfold maxLen; omega) (by have := HAL.out; omega) ?_; intro v' w3 ho hg hn' hk'; have HO3 := hid ho; have HG3 := hid hg; have HK3 := hid hk'; clear ho hg hn' hk'))
          have HNB := hid (show ∀ kk, kk < w.heap.size + 2 → some kk ≠ (u7 : Value).ownBlock from fun kk hkk e => by have := HAB.out kk (mem_blkV.2 e.symm); omega)
          have HSZ := hid (show w.heap.size + 2 ≤ wr.heap.size from HS2.out)
          go_roundw
          case rel =>
            refine ⟨j + 1, all ++ [b], by omega, by omega, by go_num, ?_, ?_, ?_, ?_, ?_, ?_, ?_, ?_⟩
            · refine ⟨fun y hy => ?_, ?_⟩
              · rcases List.mem_append.1 hy with q | q
                · exact HO.out.1 y q
                · rw [List.mem_singleton.1 q]; exact HY1.out
              · rw [List.length_append, List.map_append]; exact HO3.out
            · exact HNX.out
            · exact (HG3.out.block _ (by have := HSZ.out; simp; omega) (HNB.out _ (by omega))).trans ((Below.heap_alloc wr _ _ (by have := HSZ.out; omega)).trans HRS.out)
            · exact (HG3.out.block _ (by have := HSZ.out; simp; omega) (HNB.out _ (by omega))).trans ((Below.heap_alloc wr _ _ (by have := HSZ.out; omega)).trans HEB.out)
            · intro kk hkk
              rcases HK3.out kk hkk with q | q
              · exact HAB.out kk q
              · have := HSZ.out; simp at q; omega
            · exact (HBB.out.alloc HBB.out.size _).grown HG3.out (by have := HBB.out.size; simp; omega) (fun kk hkk => by have := HAB.out kk (mem_blkV.2 hkk); omega)
            · show _ ≤ _
              have := HSZ.out; have := HG3.out.size; simp at this; omega
            · show _ ≤ _
              rw [List.length_append]; have := HAL.out; show all.length + 1 ≤ j + 1; omega
          case measure => simp [intOf]; omega
      · have HNE : Hid (emit .sb (ps.drop i) = [] ∧ (runS .sb (ps.drop i)).waits = true) := by
          have v := HV.out
          have hdn : ps.drop j = [] := List.drop_eq_nil_of_le (by rw [← HLN.out]; omega)
          rw [hdn] at v
          exact ⟨v.1, by rw [v.2]; rfl⟩
        have r0 := cell_of_row wr w.heap.size 0 _ 36 _ HRS.out
        have r1 := cell_of_row wr w.heap.size 1 _ 36 _ HRS.out
        have r2 := cell_of_row wr w.heap.size 2 _ 36 _ HRS.out
        have r3 := cell_of_row wr w.heap.size 3 _ 36 _ HRS.out
        have r4 := cell_of_row wr w.heap.size 4 _ 36 _ HRS.out
        have r5 := cell_of_row wr w.heap.size 5 _ 36 _ HRS.out
        simp only [List.getElem?_toArray, List.getElem?_cons_zero, List.getElem?_cons_succ] at r0 r1 r2 r3 r4 r5
        have g0 := frozen_of_row wr w.heap.size 0 _ 36 HRS.out
        have g1 := frozen_of_row wr w.heap.size 1 _ 36 HRS.out
        have g2 := frozen_of_row wr w.heap.size 2 _ 36 HRS.out
        have g3 := frozen_of_row wr w.heap.size 3 _ 36 HRS.out
        have g4 := frozen_of_row wr w.heap.size 4 _ 36 HRS.out
        have g5 := frozen_of_row wr w.heap.size 5 _ 36 HRS.out
        go_wp2
        have q := putR_blk (k := 0) (vb := 0) (o := 0) (d := (.slice none 0 0)) (lg := false) (br := false) HRS.out
        have hbq := putR_below (k := 0) (vb := 0) (o := 0) (d := (.slice none 0 0)) (lg := false) (br := false) HBB.out (Nat.le_refl w.heap.size)

        unfold putR at q hbq 
        refine bodyPost_ret (v := .tuple #[.agg #[.int .i64 0, .int .u8 0, .int .u8 0, (.slice none 0 0), .bool false, .bool false], .int .i64 (-1)]) ?_ rfl (⟨hbq, .inl ⟨rfl, HNE.out.1, HNE.out.2⟩⟩)
        have s0 := cell_of_row _ w.heap.size 0 _ 36 _ q
        have s1 := cell_of_row _ w.heap.size 1 _ 36 _ q
        have s2 := cell_of_row _ w.heap.size 2 _ 36 _ q
        have s3 := cell_of_row _ w.heap.size 3 _ 36 _ q
        have s4 := cell_of_row _ w.heap.size 4 _ 36 _ q
        have s5 := cell_of_row _ w.heap.size 5 _ 36 _ q
        simp only [List.getElem?_toArray, List.getElem?_cons_zero, List.getElem?_cons_succ] at s0 s1 s2 s3 s4 s5
        clear q hbq 
        generalize World.setCell _ ⟨w.heap.size, 5, none⟩ _ = W' at s0 s1 s2 s3 s4 s5 ⊢
        simp [results, Try.results27, go_sem, s0, s1, s2, s3, s4, s5]
  · have HNE : Hid (emit .sb (ps.drop i) = [] ∧ (runS .sb (ps.drop i)).waits = true) := by
      have hdn : ps.drop i = [] := List.drop_eq_nil_of_le (by rw [← HLN.out]; omega)
      rw [hdn]
      exact ⟨rfl, rfl⟩
    have hini : ¬ (i : Int) < n := by omega
    have hini2 : (n : Int) ≤ i := by omega
    go_enter Try.func27, Try.ntmps27
    go_wp2
    exact bodyPost_ret (v := .tuple #[.agg #[.int .i64 0, .int .u8 0, .int .u8 0, .slice none 0 0, .bool false, .bool false], .int .i64 (-1)]) (by simp [results, Try.results27, go_sem]) rfl ⟨(Below.refl _ _).alloc (Nat.le_refl _) _, .inl ⟨rfl, HNE.out.1, HNE.out.2⟩⟩
end Go.Proofs.Ytdbjjieoohfckaa
