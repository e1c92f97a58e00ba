/-
  Orders told back to the reference's form.
-/
import Derived.Test.YtjhmjjlmdmmilaaIi
namespace Go.Proofs.Ytjhmjjlmdmmilaa
open Go.RowKit Go.Lib

theorem infoRP : (Try.prog.info? 49).map (fun i => (i.zero, i.size, i.bytes)) = some (some (.agg #[.int .u8 0, .int .u8 0]), 2, 2) := by kernel_rfl
/-- Told back: the pairs anew, the text as it lies. -/
def BackD (d : OpD) (tv : Value) (w : World) (e : Ending) (w' : World) : Prop := ∃ rv, e = .returned (.agg #[.int .i64 d.kind, .int .i64 d.addr, .int .u8 d.code, .bool d.graph, .int .u8 d.fa, rv, tv]) ∧ w'.ownsRow w.heap.size 49 2 rv d.pairs.length (cellsP d.pairs) ∧ Below w.heap.size w w'
theorem Box7.set5 {w : World} {b : Nat} {v0 v1 v2 v3 v4 v5 v6 : Value} (h : Box7 w b v0 v1 v2 v3 v4 v5 v6) (u : Value) : Box7 (w.setCell ⟨b, 5, none⟩ u) b v0 v1 v2 v3 v4 u v6 :=
  ⟨set_o (by omega) h.c0, set_o (by omega) h.c1, set_o (by omega) h.c2, set_o (by omega) h.c3, set_o (by omega) h.c4, set_s h.c5, set_o (by omega) h.c6, fun i hi => by simp [h.fr i hi]⟩
theorem own_strong {w : World} {B B' : Nat} {t : TypeId} {m n : Nat} {v : Value} {xs : List Value} (h : w.ownsRow B t m v n xs) (hB : ∀ k ∈ blkV v, B' ≤ k) : w.ownsRow B' t m v n xs := by
  refine ⟨h.1, ?_⟩
  rcases h.2 with h' | ⟨g, cap, cur, rfl, hg, r⟩
  · exact .inl h'
  · exact .inr ⟨g, cap, cur, rfl, hB g (by simp [blkV, Value.ownBlock]), r⟩
set_option maxRecDepth 100000 in
set_option maxHeartbeats 4000000 in
theorem back_any (kd ad cd : Int) (gr : Bool) (fa : Int) (ps : List (Nat × Nat)) (tx : List Int) (hps : ps.length ≤ 100000) (xp : Option Addr) (np cp : Nat) (xt : Option Addr) (nt ct : Nat) (w : World) (h : PairsIn w (.slice xp np cp) ps) :
    Calls Try.prog 12 #[.agg #[.int .i64 kd, .int .i64 ad, .int .u8 cd, .bool gr, .int .u8 fa, .slice xp np cp, .slice xt nt ct]] w (BackD ⟨kd, ad, cd, gr, fa, ps, tx⟩ (.slice xt nt ct) w) := by
  obtain ⟨i0, hi, hz0, hz1, hz2⟩ := info_parts infoRP
  have hnp : np = ps.length := by
    rcases h with ⟨e, rfl⟩ | ⟨g, off, cap, e, _⟩
    · injection e
    · injection e
  subst hnp
  have HPI := hid h
  have HSN := hid (cellsP_snoc ps)
  have HEND := hid (show cellsP (ps.take ps.length) = cellsP ps by rw [List.take_length])
  obtain ⟨n, hn⟩ : ∃ n, ps.length = n := ⟨_, rfl⟩
  rw [hn] at hps HSN HEND HPI ⊢
  have HLN := hid hn
  clear hn h
  have HB3 := hid (show Below w.heap.size w (((w.alloc (.cells #[.int .i64 kd, .int .i64 ad, .int .u8 cd, .bool gr, .int .u8 fa, .slice xp n cp, .slice xt nt ct] 35)).alloc (.cells #[.int .i64 0, .int .i64 0, .int .u8 0, .bool false, .int .u8 0, .slice none 0 0, .slice none 0 0] 38)).alloc (.cells #[.int .i64 kd, .int .i64 ad, .int .u8 cd, .bool gr, .int .u8 fa, .slice none 0 0, .slice xt nt ct] 38)) from bal (bal (bal (Below.refl _ _) _) _) _)
  have HX1 := hid (show Box7 (((w.alloc (.cells #[.int .i64 kd, .int .i64 ad, .int .u8 cd, .bool gr, .int .u8 fa, .slice xp n cp, .slice xt nt ct] 35)).alloc (.cells #[.int .i64 0, .int .i64 0, .int .u8 0, .bool false, .int .u8 0, .slice none 0 0, .slice none 0 0] 38)).alloc (.cells #[.int .i64 kd, .int .i64 ad, .int .u8 cd, .bool gr, .int .u8 fa, .slice none 0 0, .slice xt nt ct] 38)) (w.heap.size + 1) (.int .i64 0) (.int .i64 0) (.int .u8 0) (.bool false) (.int .u8 0) (.slice none 0 0) (.slice none 0 0) from by
    have q := (Box7.new (v0 := .int .i64 0) (v1 := .int .i64 0) (v2 := .int .u8 0) (v3 := .bool false) (v4 := .int .u8 0) (v5 := .slice none 0 0) (v6 := .slice none 0 0) (w.alloc (.cells #[.int .i64 kd, .int .i64 ad, .int .u8 cd, .bool gr, .int .u8 fa, .slice xp n cp, .slice xt nt ct] 35)) 38).step (bal (Below.refl _ _) (.cells #[.int .i64 kd, .int .i64 ad, .int .u8 cd, .bool gr, .int .u8 fa, .slice none 0 0, .slice xt nt ct] 38))
    rwa [World.size_alloc] at q)
  have HX2 := hid (show Box7 (((w.alloc (.cells #[.int .i64 kd, .int .i64 ad, .int .u8 cd, .bool gr, .int .u8 fa, .slice xp n cp, .slice xt nt ct] 35)).alloc (.cells #[.int .i64 0, .int .i64 0, .int .u8 0, .bool false, .int .u8 0, .slice none 0 0, .slice none 0 0] 38)).alloc (.cells #[.int .i64 kd, .int .i64 ad, .int .u8 cd, .bool gr, .int .u8 fa, .slice none 0 0, .slice xt nt ct] 38)) (w.heap.size + 2) (.int .i64 kd) (.int .i64 ad) (.int .u8 cd) (.bool gr) (.int .u8 fa) (.slice none 0 0) (.slice xt nt ct) from by
    have q := Box7.new (v0 := .int .i64 kd) (v1 := .int .i64 ad) (v2 := .int .u8 cd) (v3 := .bool gr) (v4 := .int .u8 fa) (v5 := .slice none 0 0) (v6 := .slice xt nt ct) ((w.alloc (.cells #[.int .i64 kd, .int .i64 ad, .int .u8 cd, .bool gr, .int .u8 fa, .slice xp n cp, .slice xt nt ct] 35)).alloc (.cells #[.int .i64 0, .int .i64 0, .int .u8 0, .bool false, .int .u8 0, .slice none 0 0, .slice none 0 0] 38)) 38
    rwa [World.size_alloc, World.size_alloc] at q)
  go_enter Try.func12, Try.ntmps12
  go_wp2
  generalize ((w.alloc (.cells #[.int .i64 kd, .int .i64 ad, .int .u8 cd, .bool gr, .int .u8 fa, .slice xp n cp, .slice xt nt ct] 35)).alloc (.cells #[.int .i64 0, .int .i64 0, .int .u8 0, .bool false, .int .u8 0, .slice none 0 0, .slice none 0 0] 38)).alloc (.cells #[.int .i64 kd, .int .i64 ad, .int .u8 cd, .bool gr, .int .u8 fa, .slice none 0 0, .slice xt nt ct] 38) = W0 at HB3 HX1 HX2 ⊢
  have hz3 := HX2.out.lt
  go_loopw [22] (fun i W => ∃ (k : Nat) (cur : Value), k ≤ n ∧ i = .int .i64 k ∧ Hid (W.ownsRow 0 49 2 cur k (cellsP (ps.take k))) ∧ Hid (Below w.heap.size w W) ∧ Hid (Box7 W (w.heap.size + 1) (.int .i64 0) (.int .i64 0) (.int .u8 0) (.bool false) (.int .u8 0) (.slice none 0 0) (.slice none 0 0)) ∧ Hid (Box7 W (w.heap.size + 2) (.int .i64 kd) (.int .i64 ad) (.int .u8 cd) (.bool gr) (.int .u8 fa) (cur) (.slice xt nt ct)) ∧ Hid (∀ b ∈ blkV cur, w.heap.size + 3 ≤ b)) (fun i _ => n - (intOf i).toNat)
  case atStart => exact ⟨0, .slice none 0 0, Nat.zero_le _, rfl, World.ownsRow_nil _ _ _ _, HB3.out, HX1.out, HX2.out, fun _ q => (by cases q)⟩
  case round =>
    obtain ⟨k, cur, hk, rfl, HO, HB, HY1, HY2, HLC⟩ := hrel
    obtain ⟨xc, cc, rfl⟩ := row_slice HO.out
    by_cases hlt : k < n
    · obtain ⟨g, off, cap, hxe, hcell⟩ : ∃ g off cap, Value.slice xp n cp = .slice (some ⟨g, off, none⟩) n cap ∧ ∀ i, i < n → w.cell? ⟨g, off + i * 2, none⟩ = some (.int .u8 (ps.getD i (0, 0)).1) ∧ w.cell? ⟨g, off + i * 2 + 1, none⟩ = some (.int .u8 (ps.getD i (0, 0)).2) := by
        rcases HPI.out with ⟨e, _⟩ | ⟨g, off, cap, e, hc⟩
        · injection e with _ e2 _; omega
        · rw [HLN.out] at e hc; exact ⟨g, off, cap, e, hc⟩
      injection hxe with hx1 _ hx3
      subst hx1 hx3
      have c0 := keepc HB.out (hcell k hlt).1
      have c1 := keepc HB.out (hcell k hlt).2
      have HS := hid (HSN.out k hlt)
      generalize (ps.getD k (0, 0)).1 = x at c0 HS
      generalize (ps.getD k (0, 0)).2 = y at c1 HS
      have hki : (k : Int) < n := by omega
      have ha2 : Below wr.heap.size wr ((wr.alloc (.cells #[.int .u8 x, .int .u8 y] 48)).alloc (.cells #[.int .u8 x, .int .u8 y] 49)) := bal (bal (Below.refl _ _) _) _
      have HO2 := hid (own_below HO.out ha2)
      have HB2 := hid (below_t HB.out ha2)
      have HZ1 := hid (HY1.out.step ha2)
      have HZ2 := hid (HY2.out.step ha2)
      have HNW := hid (news_two (wr.alloc (.cells #[.int .u8 x, .int .u8 y] 48)) (.int .u8 x) (.int .u8 y) 49)
      rw [show (wr.alloc (.cells #[.int .u8 x, .int .u8 y] 48)).heap.size = wr.heap.size + 1 by simp] at HNW
      have y5 := HY2.out.c5
      have hyl := HY2.out.lt
      clear hcell ha2
      go_wp2_with (first
        | (at_builtin; refine wpList_append_blk _ rfl _ _ 36 rfl 49 i0 _ 2 2 Try.underlying36 hi hz0 hz1 hz2 rfl (by decide) _ _ _ rfl HO2.out ⟨wr.heap.size + 1, 0, none⟩ 1 1 [.int .u8 x, .int .u8 y] rfl rfl HNW.out (one_two x y) (by unfold maxLen; omega) (by omega) ?_; intro v1 w3 hown hgrow _ hbl; obtain ⟨xv, cv, rfl⟩ := row_slice hown; have hm3 := Moved.grown hgrow (fun k hk => mem_blkV.2 hk) hbl; have X3 := HZ2.out.moved hm3 (fun q => by have := HLC.out _ q; omega); have X1 := HZ1.out.moved hm3 (fun q => by have := HLC.out _ q; omega); have q5 := X3.c5; have r5 := X3.fr 5 (by omega); have HX3 := hid X3; have HX13 := hid X1; have HO3 := hid hown; have HG3 := hid hgrow; have HBL3 := hid hbl; clear hown hgrow hbl hm3 X3 X1))
      have HLV := hid (show ∀ b ∈ blkV (.slice xv (k + 1) cv), w.heap.size + 3 ≤ b from fun b hb => by
        rcases HBL3.out b hb with q | q
        · exact HLC.out b q
        · simp at q; omega)
      go_roundw
      case rel =>
        refine ⟨k + 1, .slice xv (k + 1) cv, by omega, by go_num, ?_, ?_, ?_, ?_, HLV.out⟩
        · show World.ownsRow _ _ _ _ _ _ _
          rw [HS.out]
          exact own_moved HO3.out (Moved.set (S := [w.heap.size + 2]) (by simp) 5 _) (fun j hj q => by have := HLV.out j hj; simp at q; omega)
        · exact (HB2.out.grown HG3.out HB2.out.size (fun j hj => by have := HLC.out j (mem_blkV.2 hj); omega)).setCell (by show w.heap.size ≤ w.heap.size + 2; omega) _
        · exact HX13.out.moved (Moved.set (S := [w.heap.size + 2]) (by simp) 5 _) (by simp)
        · exact HX3.out.set5 _
      case measure => simp [intOf]; omega
    · obtain rfl : k = n := by omega
      have X0 := HY1.out
      have X2 := HY2.out
      have hl0 := X2.lt
      have hps2 := HO.out
      rw [HEND.out] at hps2
      have HP := hid (X0.put (.int .i64 kd) (.int .i64 ad) (.int .u8 cd) (.bool gr) (.int .u8 fa) (.slice xc k cc) (.slice xt nt ct))
      have m1 := put7_moved wr (w.heap.size + 1) (.int .i64 kd) (.int .i64 ad) (.int .u8 cd) (.bool gr) (.int .u8 fa) (.slice xc k cc) (.slice xt nt ct)
      have HF := hid (show BackD ⟨kd, ad, cd, gr, fa, ps, tx⟩ (.slice xt nt ct) w (.returned (.agg #[.int .i64 kd, .int .i64 ad, .int .u8 cd, .bool gr, .int .u8 fa, .slice xc k cc, .slice xt nt ct])) (put7 wr (w.heap.size + 1) (.int .i64 kd) (.int .i64 ad) (.int .u8 cd) (.bool gr) (.int .u8 fa) (.slice xc k cc) (.slice xt nt ct)) from ⟨_, rfl, by
        show World.ownsRow _ _ _ _ _ ps.length _
        rw [HLN.out]
        have q := own_moved hps2 m1 (fun j hj q => by have := HLC.out j hj; simp at q; omega)
        exact own_strong q (fun j hj => by have := HLC.out j hj; omega), HB.out.trans (m1.toBelow HB.out.size (fun j hj => by simp at hj; omega))⟩)
      obtain ⟨c0, c1, c2, c3, c4, c5, c6, fc⟩ := X0
      obtain ⟨d0, d1, d2, d3, d4, d5, d6, -⟩ := X2
      have f0 := fc 0 (by omega)
      have f1 := fc 1 (by omega)
      have f2 := fc 2 (by omega)
      have f3 := fc 3 (by omega)
      have f4 := fc 4 (by omega)
      have f5 := fc 5 (by omega)
      have f6 := fc 6 (by omega)
      clear fc hps2 m1
      go_wp2
      revert HP HF
      generalize hW : put7 wr (w.heap.size + 1) (.int .i64 kd) (.int .i64 ad) (.int .u8 cd) (.bool gr) (.int .u8 fa) (.slice xc k cc) (.slice xt nt ct) = Wf
      intro HP HF
      obtain ⟨k0, k1, k2, k3, k4, k5, k6, -⟩ := HP.out
      unfold put7 at hW
      rw [hW]
      clear hW
      exact bodyPost_ret (v := .agg #[.int .i64 kd, .int .i64 ad, .int .u8 cd, .bool gr, .int .u8 fa, .slice xc k cc, .slice xt nt ct]) (by simp [results, Try.results12, go_sem, k0, k1, k2, k3, k4, k5, k6]) rfl HF.out
end Go.Proofs.Ytjhmjjlmdmmilaa
