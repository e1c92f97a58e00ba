/-
  A report told back to the reference's form; the reference's Same, of reports that are alike.
-/
import Derived.Test.YtlhaefgchmakfaaPk
namespace Go.Proofs.Ytlhaefgchmakfaa
open Go.RowKit Go.Lib Go.Deep

theorem infoQE : (Try.prog.info? 64).map (fun i => (i.zero, i.size, i.bytes)) = some (some (.agg #[.int .i64 0, .slice none 0 0]), 2, 32) := by kernel_rfl
theorem cellsE_snoc {es : List EnV} {k : Nat} (h : k < es.length) : cellsE (es.take (k + 1)) = cellsE (es.take k) ++ [.int .i64 es[k].d.addr, es[k].tv] := by
  rw [take_snoc_at h, cellsE_append]; rfl
/-- Told back: the row anew, the texts as they lie. -/
def BakD (ai : Int) (sh : Bool) (cu : Int) (es : List EnV) (w : World) (e : Ending) (w' : World) : Prop := ∃ v, e = .returned (.agg #[.int .u8 ai, .bool sh, .int .i64 cu, v]) ∧ w'.ownsRow w.heap.size 64 2 v es.length (cellsE es) ∧ Below w.heap.size w w'
set_option maxRecDepth 100000 in
set_option maxHeartbeats 4000000 in
theorem rback_any (ai : Int) (sh : Bool) (cu : Int) (v : Value) (es : List EnV) (B : Nat) (w : World) (h : EntM 107 B w v es) (hl : es.length ≤ 300000) :
    Calls Try.prog 32 #[.agg #[.int .u8 ai, .bool sh, .int .i64 cu, v]] w (BakD ai sh cu es w) := by
  obtain ⟨i0, hi, hz0, hz1, hz2⟩ := info_parts infoQE
  have HE := hid h
  obtain ⟨xe, ce, rfl⟩ := row_slice h.row
  have HSN := hid (fun k (q : k < es.length) => cellsE_snoc q)
  have HEND := hid (show cellsE (es.take es.length) = cellsE es by rw [List.take_length])
  obtain ⟨n, hn⟩ : ∃ n, es.length = n := ⟨_, rfl⟩
  have HLN := hid hn
  rw [hn] at hl HEND ⊢
  have HB3 := hid (show Below w.heap.size w (((w.alloc (.cells #[.int .u8 ai, .bool sh, .int .i64 cu, .slice xe n ce] 69)).alloc (.cells #[.int .u8 0, .bool false, .int .i64 0, .slice none 0 0] 62)).alloc (.cells #[.int .u8 ai, .bool sh, .int .i64 cu, .slice none 0 0] 62)) from bal (bal (bal (Below.refl _ _) _) _) _)
  have HX1 := hid (show Bx4 (((w.alloc (.cells #[.int .u8 ai, .bool sh, .int .i64 cu, .slice xe n ce] 69)).alloc (.cells #[.int .u8 0, .bool false, .int .i64 0, .slice none 0 0] 62)).alloc (.cells #[.int .u8 ai, .bool sh, .int .i64 cu, .slice none 0 0] 62)) (w.heap.size + 1) (.int .u8 0) (.bool false) (.int .i64 0) (.slice none 0 0) from by
    have q := (Bx4.new (v0 := .int .u8 0) (v1 := .bool false) (v2 := .int .i64 0) (v3 := .slice none 0 0) (w.alloc (.cells #[.int .u8 ai, .bool sh, .int .i64 cu, .slice xe n ce] 69)) 62).step (bal (Below.refl _ _) (.cells #[.int .u8 ai, .bool sh, .int .i64 cu, .slice none 0 0] 62))
    rwa [World.size_alloc] at q)
  have HX2 := hid (show Bx4 (((w.alloc (.cells #[.int .u8 ai, .bool sh, .int .i64 cu, .slice xe n ce] 69)).alloc (.cells #[.int .u8 0, .bool false, .int .i64 0, .slice none 0 0] 62)).alloc (.cells #[.int .u8 ai, .bool sh, .int .i64 cu, .slice none 0 0] 62)) (w.heap.size + 2) (.int .u8 ai) (.bool sh) (.int .i64 cu) (.slice none 0 0) from by
    have q := Bx4.new (v0 := .int .u8 ai) (v1 := .bool sh) (v2 := .int .i64 cu) (v3 := .slice none 0 0) ((w.alloc (.cells #[.int .u8 ai, .bool sh, .int .i64 cu, .slice xe n ce] 69)).alloc (.cells #[.int .u8 0, .bool false, .int .i64 0, .slice none 0 0] 62)) 62
    rwa [World.size_alloc, World.size_alloc] at q)
  clear hn h
  go_enter Try.func32, Try.ntmps32
  go_wp2
  generalize ((w.alloc (.cells #[.int .u8 ai, .bool sh, .int .i64 cu, .slice xe n ce] 69)).alloc (.cells #[.int .u8 0, .bool false, .int .i64 0, .slice none 0 0] 62)).alloc (.cells #[.int .u8 ai, .bool sh, .int .i64 cu, .slice none 0 0] 62) = W0 at HB3 HX1 HX2 ⊢
  have hz3 := HX2.out.lt
  go_loopw [16] (fun i W => ∃ (k : Nat) (cur : Value), k ≤ n ∧ i = .int .i64 k ∧ Hid (W.ownsRow 0 64 2 cur k (cellsE (es.take k))) ∧ Hid (Below w.heap.size w W) ∧ Hid (Bx4 W (w.heap.size + 1) (.int .u8 0) (.bool false) (.int .i64 0) (.slice none 0 0)) ∧ Hid (Bx4 W (w.heap.size + 2) (.int .u8 ai) (.bool sh) (.int .i64 cu) cur) ∧ Hid (∀ b ∈ blkV cur, w.heap.size + 3 ≤ b)) (fun i _ => n - (intOf i).toNat)
  case atStart => exact ⟨0, .slice none 0 0, Nat.zero_le _, rfl, World.ownsRow_nil _ _ _ _, HB3.out, HX1.out, HX2.out, fun _ q => (by cases q)⟩
  case round =>
    obtain ⟨k, cur, hk, rfl, HO, HB, HY1, HY2, HLC⟩ := hrel
    obtain ⟨xc, cc, rfl⟩ := row_slice HO.out
    by_cases hlt : k < n
    · have hke : k < es.length := by rw [HLN.out]; exact hlt
      obtain ⟨x0', cap0', hle, _, _, hat⟩ := (HE.out.step HB.out).at
      rw [HLN.out] at hle
      injection hle with hle1 _ hle3
      subst hle1 hle3
      obtain ⟨g, rfl, hgl, hc0, hc1⟩ := hat k hke
      have ht := HE.out.txt _ (List.getElem_mem hke)
      have HS := hid (HSN.out k hke)
      generalize es[k] = x at hc0 hc1 HS ht
      obtain ⟨⟨ad, tx⟩, tv⟩ := x
      dsimp only at hc0 hc1 HS ht
      obtain ⟨xt, tl, ct, rfl⟩ := own_slice ht
      have hki : (k : Int) < n := by omega
      have ha2 : Below wr.heap.size wr ((wr.alloc (.cells #[.int .i64 ad, .slice xt tl ct] 107)).alloc (.cells #[.int .i64 ad, .slice xt tl ct] 64)) := bal (bal (Below.refl _ _) _) _
      have HO2 := hid (own_moved HO.out (Moved.below ha2 []) (fun _ _ q => by cases q))
      have HB2 := hid (below_t HB.out ha2)
      have HZ1 := hid (HY1.out.step ha2)
      have HZ2 := hid (HY2.out.step ha2)
      have HNW := hid (news_two (wr.alloc (.cells #[.int .i64 ad, .slice xt tl ct] 107)) (.int .i64 ad) (.slice xt tl ct) 64)
      rw [show (wr.alloc (.cells #[.int .i64 ad, .slice xt tl ct] 107)).heap.size = wr.heap.size + 1 by simp] at HNW
      have y3 := HY2.out.c3
      have hyl := HY2.out.lt
      clear hat ha2 ht
      go_wp2_with (first
        | (at_builtin; refine wpList_append_blk _ rfl _ _ 60 rfl 64 i0 _ 2 32 Try.underlying60 hi hz0 hz1 hz2 rfl (by decide) _ _ _ rfl HO2.out ⟨wr.heap.size + 1, 0, none⟩ 1 1 [.int .i64 ad, .slice xt tl ct] rfl rfl HNW.out (one_enC _ _ rfl) (by unfold maxLen; omega) (by omega) ?_; intro v1 w3 hown hgrow _ hbl; obtain ⟨xv, cv, rfl⟩ := row_slice hown; have hm3 := Moved.grown hgrow (fun k hk => mem_blkV.2 hk) hbl; have X3 := HZ2.out.moved hm3 (fun q => by have := HLC.out _ q; omega); have X1 := HZ1.out.moved hm3 (fun q => by have := HLC.out _ q; omega); have q3 := X3.c3; have r3 := X3.fr 3 (by omega); have HX3 := hid X3; have HX13 := hid X1; have HO3 := hid hown; have HG3 := hid hgrow; have HBL3 := hid hbl; clear hown hgrow hbl hm3 X3 X1))
      have HLV := hid (show ∀ b ∈ blkV (.slice xv (k + 1) cv), w.heap.size + 3 ≤ b from fun b hb => by
        rcases HBL3.out b hb with q | q
        · exact HLC.out b q
        · simp at q; omega)
      go_roundw
      case rel =>
        refine ⟨k + 1, .slice xv (k + 1) cv, by omega, by go_num, ?_, ?_, ?_, ?_, HLV.out⟩
        · show World.ownsRow _ _ _ _ _ _ _
          rw [HS.out]
          exact own_moved HO3.out (Moved.set (S := [w.heap.size + 2]) (by simp) 3 _) (fun j hj q => by have := HLV.out j hj; simp at q; omega)
        · exact (HB2.out.grown HG3.out HB2.out.size (fun j hj => by have := HLC.out j (mem_blkV.2 hj); omega)).setCell (by show w.heap.size ≤ w.heap.size + 2; omega) _
        · exact HX13.out.moved (Moved.set (S := [w.heap.size + 2]) (by simp) 3 _) (by simp)
        · exact HX3.out.set3 _
      case measure => simp [intOf]; omega
    · obtain rfl : k = n := by omega
      have X0 := HY1.out
      have X2 := HY2.out
      have hl0 := X2.lt
      have hps2 := HO.out
      rw [HEND.out] at hps2
      have HP := hid (X0.put (.int .u8 ai) (.bool sh) (.int .i64 cu) (.slice xc k cc))
      have m1 := pt4_moved wr (w.heap.size + 1) (.int .u8 ai) (.bool sh) (.int .i64 cu) (.slice xc k cc)
      have HF := hid (show BakD ai sh cu es w (.returned (.agg #[.int .u8 ai, .bool sh, .int .i64 cu, .slice xc k cc])) (pt4 wr (w.heap.size + 1) (.int .u8 ai) (.bool sh) (.int .i64 cu) (.slice xc k cc)) from ⟨_, rfl, by
        rw [HLN.out]
        have q := own_moved hps2 m1 (fun j hj q => by have := HLC.out j hj; simp at q; omega)
        exact own_strong q (fun j hj => by have := HLC.out j hj; omega), HB.out.trans (m1.toBelow HB.out.size (fun j hj => by simp at hj; omega))⟩)
      obtain ⟨c0, c1, c2, c3, fc⟩ := X0
      obtain ⟨d0, d1, d2, d3, -⟩ := X2
      have f0 := fc 0 (by omega)
      have f1 := fc 1 (by omega)
      have f2 := fc 2 (by omega)
      have f3 := fc 3 (by omega)
      clear fc hps2 m1
      go_wp2
      revert HP HF
      generalize hW : pt4 wr (w.heap.size + 1) (.int .u8 ai) (.bool sh) (.int .i64 cu) (.slice xc k cc) = Wf
      intro HP HF
      obtain ⟨k0, k1, k2, k3, -⟩ := HP.out
      unfold pt4 at hW
      rw [hW]
      clear hW
      exact bodyPost_ret (v := .agg #[.int .u8 ai, .bool sh, .int .i64 cu, .slice xc k cc]) (by simp [results, Try.results32, go_sem, k0, k1, k2, k3]) rfl HF.out
/-- Entries in memory, to be read. -/
def EntIn (w : World) (v : Value) (es : List EnV) : Prop := (∃ x cap, v = .slice x es.length cap ∧ ∀ i (hi : i < es.length), ∃ g, x = some ⟨g, 0, none⟩ ∧ w.cell? ⟨g, i * 2, none⟩ = some (.int .i64 es[i].d.addr) ∧ w.cell? ⟨g, i * 2 + 1, none⟩ = some es[i].tv) ∧ ∀ x ∈ es, Reads w x.tv x.d.text
theorem entIn_of {t : TypeId} {B : Nat} {w : World} {v : Value} {es : List EnV} (h : w.ownsRow B t 2 v es.length (cellsE es)) (ht : ∀ x ∈ es, Reads w x.tv x.d.text) : EntIn w v es := by
  refine ⟨?_, ht⟩
  rcases h.2 with ⟨rfl, e⟩ | ⟨g, cap, cur, rfl, hg, hh, h1, h2, h3, h4⟩
  · have hx : es = [] := List.length_eq_zero_iff.1 e
    subst hx
    exact ⟨none, 0, rfl, fun i hi => absurd hi (Nat.not_lt_zero i)⟩
  · refine ⟨some ⟨g, 0, none⟩, cap, rfl, fun i hi => ⟨g, rfl, ?_, ?_⟩⟩
    · have := World.ownsRow.cellAt h (i * 2) (by omega)
      rw [this, show i * 2 = i * 2 + 0 from rfl, cellsE_at es i hi 0 (by omega)]
      rfl
    · rw [World.ownsRow.cellAt h (i * 2 + 1) (by omega), cellsE_at es i hi 1 (by omega)]
      rfl
theorem EntIn.step {w w' : World} {v : Value} {es : List EnV} (h : EntIn w v es) (hb : Below w.heap.size w w') : EntIn w' v es := by
  obtain ⟨⟨x, cap, hv, hc⟩, ht⟩ := h
  exact ⟨⟨x, cap, hv, fun i hi => by
    obtain ⟨g, hg, a, b⟩ := hc i hi
    exact ⟨g, hg, keepc hb a, keepc hb b⟩⟩, fun x hx => reads_below (ht x hx) hb⟩
set_option maxRecDepth 100000 in
set_option maxHeartbeats 4000000 in
theorem rsame20 (ai : Int) (sh : Bool) (cu : Int) (v u : Value) (es fs : List EnV) (hef : es.map EnV.d = fs.map EnV.d) (w : World) (hv : EntIn w v es) (hu : EntIn w u fs) (hl : es.length ≤ 300000) :
    Calls Try.prog 31 #[.agg #[.int .u8 ai, .bool sh, .int .i64 cu, v], .agg #[.int .u8 ai, .bool sh, .int .i64 cu, u]] w fun e w' => e = .returned (.bool true) ∧ Below w.heap.size w w' := by
  have HV := hid hv
  have HU := hid hu
  have hlen : fs.length = es.length := by have := congrArg List.length hef; simpa using this.symm
  have HDD := hid (fun k (h1 : k < es.length) (h2 : k < fs.length) => show es[k].d = fs[k].d from by
    have q : (es.map EnV.d)[k]? = (fs.map EnV.d)[k]? := by rw [hef]
    simpa [h1, h2] using q)
  obtain ⟨⟨x1, c1, rfl, hc1⟩, ht1⟩ := hv
  obtain ⟨⟨x2, c2, rfl, hc2⟩, ht2⟩ := hu
  obtain ⟨n, hn⟩ : ∃ n, es.length = n := ⟨_, rfl⟩
  have HN := hid hn
  have HN2 := hid (hlen.trans hn)
  have HC1 := hid (fun i (hi : i < n) => hc1 i (by rw [HN.out]; exact hi))
  rw [hlen, hn]
  rw [hn] at hl
  have HC2 := hid (fun i (hi : i < n) => hc2 i (by rw [HN2.out]; exact hi))
  have HT1 := hid ht1
  have HT2 := hid ht2
  have HB2 := hid (bal (bal (Below.refl w.heap.size w) (.cells #[.int .u8 ai, .bool sh, .int .i64 cu, .slice x1 n c1] 62)) (.cells #[.int .u8 ai, .bool sh, .int .i64 cu, .slice x2 n c2] 62))
  have HK1 := hid (show ((w.alloc (.cells #[.int .u8 ai, .bool sh, .int .i64 cu, .slice x1 n c1] 62)).alloc (.cells #[.int .u8 ai, .bool sh, .int .i64 cu, .slice x2 n c2] 62)).cell? ⟨w.heap.size, 3, none⟩ = some (.slice x1 n c1) by simp [go_sem])
  have HK2 := hid (show ((w.alloc (.cells #[.int .u8 ai, .bool sh, .int .i64 cu, .slice x1 n c1] 62)).alloc (.cells #[.int .u8 ai, .bool sh, .int .i64 cu, .slice x2 n c2] 62)).cell? ⟨w.heap.size + 1, 3, none⟩ = some (.slice x2 n c2) by simp [go_sem])
  clear hef hlen hc1 hc2 ht1 ht2 hn
  go_enter Try.func31, Try.ntmps31
  go_wp2
  generalize (w.alloc (.cells #[.int .u8 ai, .bool sh, .int .i64 cu, .slice x1 n c1] 62)).alloc (.cells #[.int .u8 ai, .bool sh, .int .i64 cu, .slice x2 n c2] 62) = W0 at HB2 HK1 HK2 ⊢
  go_loopw [37] (fun i W => ∃ k : Nat, k ≤ n ∧ i = .int .i64 k ∧ Hid (Below W0.heap.size W0 W)) (fun i _ => n - (intOf i).toNat)
  case atStart => exact ⟨0, Nat.zero_le _, rfl, Below.refl _ _⟩
  case round =>
    obtain ⟨k, hk, rfl, HB⟩ := hrel
    by_cases hlt : k < n
    · have hki : (k : Int) < n := by omega
      have hk0 : (0 : Int) ≤ k := by omega
      have he : k < es.length := by rw [HN.out]; exact hlt
      have hf : k < fs.length := by rw [HN2.out]; exact hlt
      obtain ⟨g1, rfl, p0, p1⟩ := HC1.out k hlt
      obtain ⟨g2, rfl, q0, q1⟩ := HC2.out k hlt
      have hbw := below_t HB2.out HB.out
      have hd := HDD.out k he hf
      have r1 := HT1.out _ (List.getElem_mem he)
      have r2 := HT2.out _ (List.getElem_mem hf)
      rw [← hd] at q0 r2
      generalize fs[k] = y at q0 q1 r2 hd
      generalize es[k] = x at p0 p1 r1 q0 r2 hd
      obtain ⟨⟨ad, tx⟩, tv⟩ := x
      obtain ⟨yd, yv⟩ := y
      dsimp only at p0 p1 r1 q0 q1 r2 hd
      obtain ⟨xt, ct, rfl⟩ := reads_sl r1
      obtain ⟨xs, cs, rfl⟩ := reads_sl r2
      have HSM := hid (fun V (hV : Below wr.heap.size wr V) => same_true _ _ tx V (reads_below r1 (below_t hbw hV)) (reads_below r2 (below_t hbw hV)))
      generalize tx.length = nt at p1 q1 HSM
      obtain ⟨ns, hns⟩ : ∃ ns, nt = ns := ⟨_, rfl⟩
      have z2 := keepc hbw p0
      have z3 := keepc hbw q0
      have z4 := keepc hbw p1
      have z5 := keepc hbw q1
      have z0 := keepc HB.out HK1.out
      have z1 := keepc HB.out HK2.out
      clear p0 p1 q0 q1 r1 r2 hd hns
      go_wp2_with fail
      refine wp_region_held_drew (S := fun V => V.cell? ⟨w.heap.size, 3, none⟩ = some (.slice (some ⟨g1, 0, none⟩) n c1) ∧ V.cell? ⟨w.heap.size + 1, 3, none⟩ = some (.slice (some ⟨g2, 0, none⟩) n c2) ∧ V.cell? ⟨g1, k * 2, none⟩ = some (.int .i64 ad) ∧ V.cell? ⟨g2, k * 2, none⟩ = some (.int .i64 ad) ∧ V.cell? ⟨g1, k * 2 + 1, none⟩ = some (.slice xt nt ct) ∧ V.cell? ⟨g2, k * 2 + 1, none⟩ = some (.slice xs nt cs) ∧ Below wr.heap.size wr V) (by kernel_rfl) ?_ (fun hHeld => ?_)
      · have hdr : Below wr.heap.size wr wr.drew := (Below.refl _ _).drew
        exact ⟨keepc hdr z0, keepc hdr z1, keepc hdr z2, keepc hdr z3, keepc hdr z4, keepc hdr z5, hdr⟩
      refine takeD_o (i := 0) (v := ?_) 40 rfl rfl (by kernel_rfl) (by kernel_rfl) (by kernel_rfl) (fun _ _ _ h => h) (by assumption) (Or.inl ⟨by rfl, ?_⟩) ?_
      rotate_left
      · intro w hSw
        (try dsimp only at hSw)
        go_simp
        try with_reducible rfl
      simp only [List.setIfInBounds_toArray, List.set_cons_zero, List.set_cons_succ]
      refine takeD_o (i := 1) (v := ?_) 41 rfl rfl (by kernel_rfl) (by kernel_rfl) (by kernel_rfl) (fun _ _ _ h => h) (by assumption) (Or.inl ⟨by rfl, ?_⟩) ?_
      rotate_left
      · intro w hSw
        (try dsimp only at hSw)
        go_simp
        try with_reducible rfl
      simp only [List.setIfInBounds_toArray, List.set_cons_zero, List.set_cons_succ]
      refine takeD_o (i := 2) (v := ?_) 42 rfl rfl (by kernel_rfl) (by kernel_rfl) (by kernel_rfl) (fun _ _ _ h => h) (by assumption) (Or.inl ⟨by rfl, ?_⟩) ?_
      rotate_left
      · intro w hSw
        (try dsimp only at hSw)
        go_simp
        try with_reducible rfl
      simp only [List.setIfInBounds_toArray, List.set_cons_zero, List.set_cons_succ]
      refine takeD_o (i := 3) (v := ?_) 43 rfl rfl (by kernel_rfl) (by kernel_rfl) (by kernel_rfl) (fun _ _ _ h => h) (by assumption) (Or.inl ⟨by rfl, ?_⟩) ?_
      rotate_left
      · intro w hSw
        (try dsimp only at hSw)
        go_simp
        try with_reducible rfl
      simp only [List.setIfInBounds_toArray, List.set_cons_zero, List.set_cons_succ]
      refine takeD_o (i := 4) (v := ?_) 44 rfl rfl (by kernel_rfl) (by kernel_rfl) (by kernel_rfl) (fun _ _ _ h => h) (by assumption) (Or.inl ⟨by rfl, ?_⟩) ?_
      rotate_left
      · intro w hSw
        (try dsimp only at hSw)
        go_simp
        try with_reducible rfl
      simp only [List.setIfInBounds_toArray, List.set_cons_zero, List.set_cons_succ]
      refine takeD_o (i := 5) (v := ?_) 45 rfl rfl (by kernel_rfl) (by kernel_rfl) (by kernel_rfl) (fun _ _ _ h => h) (by assumption) (Or.inl ⟨by rfl, ?_⟩) ?_
      rotate_left
      · intro w hSw
        (try dsimp only at hSw)
        go_simp
        try with_reducible rfl
      simp only [List.setIfInBounds_toArray, List.set_cons_zero, List.set_cons_succ]
      refine takeD_o (i := 6) (v := ?_) 46 rfl rfl (by kernel_rfl) (by kernel_rfl) (by kernel_rfl) (fun _ _ _ h => h) (by assumption) (Or.inl ⟨by rfl, ?_⟩) ?_
      rotate_left
      · intro w hSw
        (try dsimp only at hSw)
        go_simp
        try with_reducible rfl
      simp only [List.setIfInBounds_toArray, List.set_cons_zero, List.set_cons_succ]
      refine takeD_o (i := 7) (v := ?_) 47 rfl rfl (by kernel_rfl) (by kernel_rfl) (by kernel_rfl) (fun _ _ _ h => h) (by assumption) (Or.inl ⟨by rfl, ?_⟩) ?_
      rotate_left
      · intro w hSw
        (try dsimp only at hSw)
        go_simp
        try with_reducible rfl
      simp only [List.setIfInBounds_toArray, List.set_cons_zero, List.set_cons_succ]
      refine takeD_o (i := 8) (v := ?_) 48 rfl rfl (by kernel_rfl) (by kernel_rfl) (by kernel_rfl) (fun _ _ _ h => h) (by assumption) (Or.inl ⟨by rfl, ?_⟩) ?_
      rotate_left
      · intro w hSw
        (try dsimp only at hSw)
        go_simp
        try with_reducible rfl
      simp only [List.setIfInBounds_toArray, List.set_cons_zero, List.set_cons_succ]
      refine takeD_o (i := 9) (v := ?_) 49 rfl rfl (by kernel_rfl) (by kernel_rfl) (by kernel_rfl) (fun _ _ _ h => h) (by assumption) (Or.inl ⟨by rfl, ?_⟩) ?_
      rotate_left
      · intro w hSw
        (try dsimp only at hSw)
        go_simp
        try with_reducible rfl
      simp only [List.setIfInBounds_toArray, List.set_cons_zero, List.set_cons_succ]
      refine takeD_o (i := 10) (v := ?_) 50 rfl rfl (by kernel_rfl) (by kernel_rfl) (by kernel_rfl) (fun _ _ _ h => h) (by assumption) (Or.inl ⟨by rfl, ?_⟩) ?_
      rotate_left
      · intro w hSw
        (try dsimp only at hSw)
        go_simp
        try with_reducible rfl
      simp only [List.setIfInBounds_toArray, List.set_cons_zero, List.set_cons_succ]
      refine takeD_o (i := 11) (v := ?_) 51 rfl rfl (by kernel_rfl) (by kernel_rfl) (by kernel_rfl) (fun _ _ _ h => h) (by assumption) (Or.inl ⟨by rfl, ?_⟩) ?_
      rotate_left
      · intro w hSw
        (try dsimp only at hSw)
        go_simp
        try with_reducible rfl
      simp only [List.setIfInBounds_toArray, List.set_cons_zero, List.set_cons_succ]
      refine takeD_o (i := 12) (v := ?_) 52 rfl rfl (by kernel_rfl) (by kernel_rfl) (by kernel_rfl) (fun _ _ _ h => h) (by assumption) (Or.inl ⟨by rfl, ?_⟩) ?_
      rotate_left
      · intro w hSw
        (try dsimp only at hSw)
        go_simp
        try with_reducible rfl
      simp only [List.setIfInBounds_toArray, List.set_cons_zero, List.set_cons_succ]
      refine takeD_o (i := 13) (v := ?_) 53 rfl rfl (by kernel_rfl) (by kernel_rfl) (by kernel_rfl) (fun _ _ _ h => h) (by assumption) (Or.inl ⟨by rfl, ?_⟩) ?_
      rotate_left
      · intro w hSw
        (try dsimp only at hSw)
        go_simp
        try with_reducible rfl
      simp only [List.setIfInBounds_toArray, List.set_cons_zero, List.set_cons_succ]
      refine takeD_o (i := 14) (v := ?_) 54 rfl rfl (by kernel_rfl) (by kernel_rfl) (by kernel_rfl) (fun _ _ _ h => h) (by assumption) (Or.inl ⟨by rfl, ?_⟩) ?_
      rotate_left
      · intro w hSw
        (try dsimp only at hSw)
        go_simp
        try with_reducible rfl
      simp only [List.setIfInBounds_toArray, List.set_cons_zero, List.set_cons_succ]
      refine takeD_o (i := 15) (v := ?_) 55 rfl rfl (by kernel_rfl) (by kernel_rfl) (by kernel_rfl) (fun _ _ _ h => h) (by assumption) (Or.inl ⟨by rfl, ?_⟩) ?_
      rotate_left
      · intro w hSw
        (try dsimp only at hSw)
        go_simp
        try with_reducible rfl
      simp only [List.setIfInBounds_toArray, List.set_cons_zero, List.set_cons_succ]
      refine takeD_o (i := 16) (v := ?_) 56 rfl rfl (by kernel_rfl) (by kernel_rfl) (by kernel_rfl) (fun _ _ _ h => h) (by assumption) (Or.inl ⟨by rfl, ?_⟩) ?_
      rotate_left
      · intro w hSw
        (try dsimp only at hSw)
        go_simp
        try with_reducible rfl
      simp only [List.setIfInBounds_toArray, List.set_cons_zero, List.set_cons_succ]
      refine takeD_o (i := 17) (v := ?_) 57 rfl rfl (by kernel_rfl) (by kernel_rfl) (by kernel_rfl) (fun _ _ _ h => h) (by assumption) (Or.inl ⟨by rfl, ?_⟩) ?_
      rotate_left
      · intro w hSw
        (try dsimp only at hSw)
        go_simp
        try with_reducible rfl
      simp only [List.setIfInBounds_toArray, List.set_cons_zero, List.set_cons_succ]
      refine takeD_o (i := 18) (v := ?_) 58 rfl rfl (by kernel_rfl) (by kernel_rfl) (by kernel_rfl) (fun _ _ _ h => h) (by assumption) (Or.inl ⟨by rfl, ?_⟩) ?_
      rotate_left
      · intro w hSw
        (try dsimp only at hSw)
        go_simp
        try with_reducible rfl
      simp only [List.setIfInBounds_toArray, List.set_cons_zero, List.set_cons_succ]
      refine takeD_o (i := 19) (v := ?_) 59 rfl rfl (by kernel_rfl) (by kernel_rfl) (by kernel_rfl) (fun _ _ _ h => h) (by assumption) (Or.inl ⟨by rfl, ?_⟩) ?_
      rotate_left
      · intro w hSw
        (try dsimp only at hSw)
        go_simp
        try with_reducible rfl
      simp only [List.setIfInBounds_toArray, List.set_cons_zero, List.set_cons_succ]
      refine takeD_o (i := 20) (v := ?_) 60 rfl rfl (by kernel_rfl) (by kernel_rfl) (by kernel_rfl) (fun _ _ _ h => h) (by assumption) (Or.inl ⟨by rfl, ?_⟩) ?_
      rotate_left
      · intro w hSw
        (try dsimp only at hSw)
        go_simp
        try with_reducible rfl
      simp only [List.setIfInBounds_toArray, List.set_cons_zero, List.set_cons_succ]
      refine takeD_o (i := 21) (v := ?_) 61 rfl rfl (by kernel_rfl) (by kernel_rfl) (by kernel_rfl) (fun _ _ _ h => h) (by assumption) (Or.inl ⟨by rfl, ?_⟩) ?_
      rotate_left
      · intro w hSw
        (try dsimp only at hSw)
        go_simp
        try with_reducible rfl
      simp only [List.setIfInBounds_toArray, List.set_cons_zero, List.set_cons_succ]
      refine takeD_o (i := 22) (v := ?_) 62 rfl rfl (by kernel_rfl) (by kernel_rfl) (by kernel_rfl) (fun _ _ _ h => h) (by assumption) (Or.inl ⟨by rfl, ?_⟩) ?_
      rotate_left
      · intro w hSw
        (try dsimp only at hSw)
        go_simp
        try with_reducible rfl
      simp only [List.setIfInBounds_toArray, List.set_cons_zero, List.set_cons_succ]
      refine takeD_o (i := 23) (v := ?_) 63 rfl rfl (by kernel_rfl) (by kernel_rfl) (by kernel_rfl) (fun _ _ _ h => h) (by assumption) (Or.inl ⟨by rfl, ?_⟩) ?_
      rotate_left
      · intro w hSw
        (try dsimp only at hSw)
        go_simp
        try with_reducible rfl
      simp only [List.setIfInBounds_toArray, List.set_cons_zero, List.set_cons_succ]
      refine takeD_o (i := 24) (v := ?_) 64 rfl rfl (by kernel_rfl) (by kernel_rfl) (by kernel_rfl) (fun _ _ _ h => h) (by assumption) (Or.inl ⟨by rfl, ?_⟩) ?_
      rotate_left
      · intro w hSw
        (try dsimp only at hSw)
        go_simp
        try with_reducible rfl
      simp only [List.setIfInBounds_toArray, List.set_cons_zero, List.set_cons_succ]
      refine takeD_o (i := 25) (v := ?_) 65 rfl rfl (by kernel_rfl) (by kernel_rfl) (by kernel_rfl) (fun _ _ _ h => h) (by assumption) (Or.inl ⟨by rfl, ?_⟩) ?_
      rotate_left
      · intro w hSw
        (try dsimp only at hSw)
        go_simp
        try with_reducible rfl
      simp only [List.setIfInBounds_toArray, List.set_cons_zero, List.set_cons_succ]
      refine wpAnyH_ready (rs := [26]) (by kernel_rfl) (by simp) ?_
      refine AllReadyH.cons (by simp only [List.getElem?_toArray, List.getElem?_cons_succ, List.getElem?_cons_zero]; rfl) (fun K hK => ?_) AllReadyH.nil
      go_simp
      go_at_call 18; (with_reducible refine (HSM.out _ hHeld.2.2.2.2.2.2).mono ?_); rintro e w3 ⟨rfl, rfl⟩
      refine hK.out _ _ ?_ (fun hHeldN => ?_)
      · exact hHeld
      have HBD := hid hHeld.2.2.2.2.2.2
      clear hK K hHeld
      have hHeld := hHeldN
      clear hHeldN
      (try simp only [Act.put, List.setIfInBounds_toArray, List.set_cons_zero, List.set_cons_succ])
      refine takeD_o (i := 27) (v := ?_) 67 rfl rfl (by kernel_rfl) (by kernel_rfl) (by kernel_rfl) (fun _ _ _ h => h) (by assumption) (Or.inl ⟨by rfl, ?_⟩) ?_
      rotate_left
      · intro w hSw
        (try dsimp only at hSw)
        go_simp
        try with_reducible rfl
      simp only [List.setIfInBounds_toArray, List.set_cons_zero, List.set_cons_succ]
      refine takeD_o (i := 28) (v := ?_) 68 rfl rfl (by kernel_rfl) (by kernel_rfl) (by kernel_rfl) (fun _ _ _ h => h) (by assumption) (Or.inl ⟨by rfl, ?_⟩) ?_
      rotate_left
      · intro w hSw
        (try dsimp only at hSw)
        go_simp
        try with_reducible rfl
      simp only [List.setIfInBounds_toArray, List.set_cons_zero, List.set_cons_succ]
      refine wpAnyH_done (by kernel_rfl) ?_ _
      clear hHeld
      go_wp2
      go_roundw
      case rel => exact ⟨k + 1, by omega, by go_num, below_t HB.out HBD.out⟩
      case measure => simp [intOf]; omega
    · go_wp2
      go_ret
      exact ⟨rfl, below_t HB2.out HB.out⟩
end Go.Proofs.Ytlhaefgchmakfaa
