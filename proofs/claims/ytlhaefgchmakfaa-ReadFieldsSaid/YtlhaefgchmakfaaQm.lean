/-
  ReadFields: the law's own walk.
-/
import Derived.Test.YtlhaefgchmakfaaQl
namespace Go.Proofs.Ytlhaefgchmakfaa
open Go.RowKit Go.Lib Go.Deep

theorem fld_3 (w : World) (p n : Bool) (d : Int) (m : Bool) : (Instr.field 43 (.agg #[.bool p, .bool n, .int .i64 d, .bool m]) 3).run Try.prog w = .ok (.bool m) w := by kernel_rfl
theorem rowsl {w : World} {v : Value} {t : TypeId} {sz n : Nat} {cs : List Value} (h : w.ownsRow 0 t sz v n cs) : ∃ x c, v = .slice x n c := by
  rcases h.2 with ⟨rfl, e⟩ | ⟨g, cap, cur, rfl, _⟩
  · exact ⟨none, 0, by rw [e]⟩
  · exact ⟨_, _, rfl⟩
/-- Numbers in a row, told place by place. -/
def NumsAt (w : World) (x : Option Addr) (l : List Nat) : Prop := ∀ (i y : Nat), l[i]? = some y → ∃ g, x = some ⟨g, 0, none⟩ ∧ w.cell? ⟨g, 0 + i, none⟩ = some (.int .i64 y)
theorem nums_at {w : World} {v : Value} {l : List Nat} {n : Nat} (hn : n = l.length) (h : w.ownsRow 0 3 1 v n (intsV (l.map Int.ofNat))) : ∃ x c, v = .slice x n c ∧ NumsAt w x l := by
  subst hn
  have h' : w.ownsRow 0 3 1 v (l.map Int.ofNat).length (intsV (l.map Int.ofNat)) := by rw [List.length_map]; exact h
  rcases ints_cells h' with ⟨x, c, rfl, e⟩ | ⟨g, c, rfl, hc⟩
  · have : l = [] := List.map_eq_nil_iff.1 e
    subst this
    exact ⟨x, c, rfl, fun i y h => by simp at h⟩
  · refine ⟨_, c, by rw [List.length_map], fun i y hi => ⟨g, rfl, ?_⟩⟩
    have hl := (List.getElem?_eq_some_iff.1 hi).1
    rw [hc i (by rw [List.length_map]; exact hl), List.getD_eq_getElem?_getD, List.getElem?_map, hi]
    rfl
theorem NumsAt.moved {A B : World} {x : Option Addr} {l : List Nat} {S S' : List Nat} (h : NumsAt A x l) (m : Moved A B S S') (hx : ∀ g, x = some ⟨g, 0, none⟩ → g ∉ S) : NumsAt B x l := fun i y hi => by
  obtain ⟨g, e, hc⟩ := h i y hi
  exact ⟨g, e, cell_moved m hc (hx g e)⟩
theorem rlist {w w' : World} {l : List Nat} {e : Ending} (h : ListD 3 1 (intsV (l.map Int.ofNat)) l.length w e w') : ∃ x c, e = .returned (.slice x l.length c) ∧ NumsAt w' x l ∧ (∀ g, x = some ⟨g, 0, none⟩ → w.heap.size ≤ g) ∧ Below w.heap.size w w' := by
  obtain ⟨v, rfl, ho, hk, hb⟩ := h
  obtain ⟨x, c, rfl, hn⟩ := nums_at rfl ho
  exact ⟨x, c, rfl, hn, fun g hg => hk g (by rw [mem_blkV, hg]; rfl), hb⟩
theorem rattrs_nums {b g : Nat} {s : Spc} (w : World) (h : RfM w b g s) : Calls Try.prog 10 #[.pointer (some ⟨b, 0, none⟩)] w fun e w' => ∃ x c, e = .returned (.slice x s.A.length c) ∧ NumsAt w' x s.A ∧ (∀ g, x = some ⟨g, 0, none⟩ → w.heap.size ≤ g) ∧ Below w.heap.size w w' := by
  refine (rattrs_any b g s w h).mono fun e w' q => rlist ?_
  unfold Spc.iA at q
  rwa [List.take_length] at q
theorem rplaces_nums {b g : Nat} {s : Spc} (a : Nat) (ha : a < s.L.length) (w : World) (h : RfM w b g s) : Calls Try.prog 16 #[.pointer (some ⟨b, 0, none⟩), .int .i64 a] w fun e w' => ∃ x c, e = .returned (.slice x (fldP s a).length c) ∧ NumsAt w' x (fldP s a) ∧ (∀ g, x = some ⟨g, 0, none⟩ → w.heap.size ≤ g) ∧ Below w.heap.size w w' := by
  have := h.ok.pos
  refine (rplaces_any (a : Int) (i64_small (by omega) (by omega)) w h).mono fun e w' q => rlist ?_
  rw [wr_nat ha] at q
  exact q
theorem renc_ok (n : Int) (hn : okA n = true) (w : World) : Calls Try.prog 13 #[.int .i64 12, .int .i64 n] w fun e w' => ∃ x c, e = .returned (.tuple #[.slice x 2 c, .int .i64 0]) ∧ OwnB w' (.slice x 2 c) (encZ n) ∧ (∀ k ∈ blkV (.slice x 2 c), w.heap.size ≤ k) ∧ Below w.heap.size w w' := by
  have q := renc_any n w
  unfold EncD at q
  rw [hn, if_pos rfl, if_pos rfl] at q
  refine q.mono ?_
  rintro e w' ⟨v, rfl, ho, hk, hb⟩
  obtain ⟨x, c, rfl⟩ := own_len ho 2 rfl
  exact ⟨x, c, rfl, ho, hk, hb⟩
/-- What the loops keep: what is wanted so far, the lists, all that was. -/
structure Wnt (w0 : World) (p : Value) (bs : List Int) (xa : Option Addr) (la : List Nat) (xb : Option Addr) (lb : List Nat) (W : World) : Prop where
  ow : OwnB W p bs
  nw : ∀ q ∈ blkV p, w0.heap.size ≤ q
  na : NumsAt W xa la
  da : ∀ g, xa = some ⟨g, 0, none⟩ → g ∉ blkV p
  nb : NumsAt W xb lb
  db : ∀ g, xb = some ⟨g, 0, none⟩ → g ∉ blkV p
  bl : Below w0.heap.size w0 W
theorem NumsAt.lt {w : World} {g : Nat} {l : List Nat} (h : NumsAt w (some ⟨g, 0, none⟩) l) (hl : l ≠ []) : g < w.heap.size := by
  cases l with
  | nil => exact absurd rfl hl
  | cons y l =>
    obtain ⟨g', e, hc⟩ := h 0 y rfl
    injection e with e
    injection e with e
    subst e
    exact World.block_lt_of_cell? w _ hc
section
variable {w0 W W' : World} {p : Value} {bs : List Int} {xa xb : Option Addr} {la lb : List Nat}
theorem Wnt.below (h : Wnt w0 p bs xa la xb lb W) (hb : Below W.heap.size W W') : Wnt w0 p bs xa la xb lb W' :=
  ⟨h.ow.moved (Moved.below hb []) (fun _ _ q => by cases q), h.nw, h.na.moved (Moved.below hb []) (fun _ _ q => by cases q), h.da, h.nb.moved (Moved.below hb []) (fun _ _ q => by cases q), h.db, h.bl.trans (hb.mono h.bl.size)⟩
theorem Wnt.grown (h : Wnt w0 p bs xa la xb lb W) {p' : Value} {bs' : List Int} (h3 : OwnB W' p' bs') (g3 : W.grownBy W' p.ownBlock) (k3 : ∀ k ∈ blkV p', k ∈ blkV p ∨ W.heap.size ≤ k) (ha : ∀ g, xa = some ⟨g, 0, none⟩ → g < W.heap.size) (hb : ∀ g, xb = some ⟨g, 0, none⟩ → g < W.heap.size) : Wnt w0 p' bs' xa la xb lb W' :=
  have hm := Moved.grown g3 (S := blkV p) (S' := blkV p') (fun k hk => mem_blkV.2 hk) k3
  ⟨h3, fun q hq => by
    rcases k3 q hq with e | e
    · exact h.nw q e
    · exact Nat.le_trans h.bl.size e, h.na.moved hm h.da, fun g hg hq => by
    rcases k3 g hq with e | e
    · exact h.da g hg e
    · have := ha g hg; omega, h.nb.moved hm h.db, fun g hg hq => by
    rcases k3 g hq with e | e
    · exact h.db g hg e
    · have := hb g hg; omega, h.bl.trans (hm.toBelow h.bl.size h.nw)⟩
end
set_option maxRecDepth 100000 in
set_option maxHeartbeats 8000000 in
theorem rfields_any (m : Nat) (hm : m < 256) (v : Value) (ac : List ActD) (aid : Int) (ha : U8 aid) (w : World) (hx : ActsIn w.heap.size w v ac) : Calls Try.prog 3 #[.int .u8 m, v, .int .u8 aid] w fun e w' => e = .returned (.bool true) ∧ Below w.heap.size w w' := by
  have HAW := hid awake19
  have HLY := hid (fun W (hb : Below w.heap.size w W) => lay_any m hm v ac w.heap.size W hb.size (hx.below hb))
  obtain ⟨s, hs⟩ : ∃ s, runS (clearS (2 + ((m % 4 : Nat) : Int)) false) ac ac.length = s := ⟨_, rfl⟩
  rw [hs] at HLY
  clear hx hs
  have HRS := hid (rshort_any aid)
  have HRA := hid (fun b g W (h : RfM W b g s) => rattrs_nums W h)
  have HEN := hid renc_ok
  have HMO := hid (fun b g W (hA : 0 < s.A.length) (hsh : shZ aid = false) (h : SpM W b g s) => mod_fmt aid 0 ha hsh (by decide) (by decide) (by decide) hA W h)
  have HSA := hid same_true
  have HU := hid ha
  clear ha
  go_enter Try.func3, Try.ntmps3
  go_wp2_with fail
  with_reducible refine (HAW.out _).mono ?_
  rintro e w1 ⟨rfl, hb⟩
  have HB1 := hid hb
  clear hb
  go_wp2_with fail
  with_reducible refine (HLY.out _ HB1.out).mono ?_
  rintro e w2 ⟨b1, g1, b2, g2, rfl, hd, -⟩
  have HB2 := hid (below_t HB1.out hd.bel)
  have HSP := hid hd.sp
  have HRF := hid hd.rf
  clear hd
  go_wp2_with fail
  with_reducible refine (HRA.out b2 g2 _ HRF.out).mono ?_
  rintro e w3 ⟨xa, ca, rfl, -, -, hb3⟩
  have HB3 := hid (below_t HB2.out hb3)
  have HSP3 := hid (HSP.out.below hb3)
  have HRF3 := hid (HRF.out.below hb3)
  clear hb3
  obtain ⟨NA, hNA⟩ : ∃ NA, s.A.length = NA := ⟨_, rfl⟩
  rw [hNA] at HRA ⊢
  have HNA := hid hNA
  clear hNA
  by_cases h0 : NA = 0
  · subst h0
    go_wp2_with fail
    go_ret
    exact ⟨rfl, HB3.out⟩
  · have e0 : ((NA : Int) == 0) = false := by simpa using h0
    have hNA0 : 0 < NA := by omega
    cases hsh : shZ aid
    · rw [hsh] at HRS
      have HSH := hid hsh
      clear hsh h0
      go_wp2_with fail
      with_reducible refine (HRS.out _).mono ?_
      rintro e w4 ⟨rfl, rfl⟩
      go_wp2_with fail
      with_reducible refine (HMO.out b1 g1 _ (by rw [HNA.out]; exact hNA0) HSH.out HSP3.out).mono ?_
      rintro e w5 ⟨v9, rfl, ho9, -, hb5⟩
      obtain ⟨x9, n9, c9, rfl⟩ := own_slice ho9
      have HO9 := hid ho9
      have HB5 := hid (below_t HB3.out hb5)
      have HRF5 := hid (HRF3.out.below hb5)
      have h5 := HRF5.out.h5
      have hl5 := World.block_lt_of_cell? w5 _ h5
      clear ho9 hb5
      go_wp2_with fail
      with_reducible refine (HEN.out s.cu HRF5.out.ok.okC _).mono ?_
      rintro e w6 ⟨x6, c6, rfl, ho6, -, hb6⟩
      have HB6 := hid (below_t HB5.out hb6)
      have HRF6 := hid (HRF5.out.below hb6)
      have HO96 := hid (HO9.out.moved (Moved.below hb6 []) (fun _ _ q => by cases q))
      have hal := bal (Below.refl w6.heap.size w6) (.cells #[.int .u8 aid] 5)
      have HU6 := hid (reads_below ho6.reads hal)
      have HL6 := hid (own_byte0 w6 aid HU.out)
      have HAL := hid hal
      clear ho6 hb6 hal h5 hl5
      go_wp2_with (at_builtin; refine wpList_append_big rfl (.tmp 52) (.tmp 53) rfl (.slice (some ⟨w6.heap.size, 0, none⟩) 1 1) (.slice x6 2 c6) [aid] (encZ s.cu) (aid :: encZ s.cu) 3 rfl rfl HL6.out HU6.out (by simp [encZ]) rfl rfl ?_; intro y7 c7 w7 h7 g7 k7; have HO7 := hid h7; have HB7 := hid (below_grown HAL.out g7 (fun k hk => by rw [mem_blkV] at hk; simp [Value.ownBlock] at hk; omega)); have HN7 := hid (new_grown HAL.out (fun k hk => by rw [mem_blkV] at hk; simp [Value.ownBlock] at hk; omega) k7); have HRF7 := hid (HRF6.out.below HB7.out); clear h7 g7 k7)
      with_reducible refine (HRA.out b2 g2 _ HRF7.out).mono ?_
      rintro e w8 ⟨xl, cl, rfl, hnl, hgl, hb8⟩
      have HW8 := hid (show Wnt w6 (.slice y7 3 c7) (aid :: encZ s.cu) xl s.A none [] w8 from ⟨HO7.out.moved (Moved.below hb8 []) (fun _ _ q => by cases q), HN7.out, hnl, fun g hg e => by have := HO7.out.lt _ e; have := hgl g hg; omega, fun i y h => (by simp at h), fun g h => (by cases h), below_t HB7.out hb8⟩)
      have HXL := hid (show ∀ g, xl = some ⟨g, 0, none⟩ → g < w8.heap.size from fun g hg => by subst hg; exact hnl.lt (fun e => by have := HNA.out; rw [e] at this; simp at this; omega))
      have HRF8 := hid (show ∀ V, Below w6.heap.size w6 V → RfM V b2 g2 s from fun V hV => HRF6.out.below hV)
      have HNL := hid (show NA ≤ 3564 from by rw [← HNA.out]; exact Nat.le_trans (attP_len _ _) HRF6.out.ok.pos.2)
      clear hnl hgl hb8
      go_wp2_with fail
      go_loopw [13, 58] (fun p i W => ∃ k : Nat, k ≤ NA ∧ i = .int .i64 k ∧ Hid (Wnt w6 p (aid :: encZ s.cu ++ fldB s (mdS s (s.A.take k))) xl s.A none [] W) ∧ Hid (w8.heap.size ≤ W.heap.size)) (fun _ i _ => NA - (intOf i).toNat)
      case atStart => exact ⟨0, Nat.zero_le _, rfl, by simpa [fldB, mdS] using HW8, Nat.le_refl _⟩
      case round =>
        obtain ⟨k, hk, rfl, HWN, HSZ⟩ := hrel
        by_cases hlt : k < NA
        · have hki : (k : Int) < NA := by omega
          have hnl := HNL.out
          obtain ⟨x, hx⟩ : ∃ x, s.A[k]? = some x := ⟨_, List.getElem?_eq_getElem (by rw [HNA.out]; exact hlt)⟩
          have hxN := (attP_idx hx).1
          obtain ⟨gl, rfl, hcl⟩ := HWN.out.na k x hx
          have hcl2 : wr.cell? ⟨gl, k, none⟩ = some (.int .i64 x) := by simpa using hcl
          have hgl := World.block_lt_of_cell? wr _ hcl
          obtain ⟨xp, np, cp, rfl⟩ := own_slice HWN.out.ow
          obtain ⟨WR, hWR⟩ : ∃ W, W = wr := ⟨_, rfl⟩
          subst hWR
          have hRF := HRF8.out WR HWN.out.bl
          have hN3 := hRF.ok.pos.2
          have HOK := hid hRF.ok
          have HFI := hid (show Calls Try.prog 14 #[.pointer (some ⟨b2, 0, none⟩), .int .i64 x] WR fun e w' => e = .returned (.agg #[.bool (ofP (s.cel x).fa.toNat), .bool (ofN (s.cel x).fa.toNat), .int .i64 (ofD (s.cel x).fa.toNat), .bool (s.cel x).modi]) ∧ Below WR.heap.size WR w' from rfield_any x hxN WR hRF)
          have hw1 : IntKind.i64.wrap ((x : Int) + 1) = (x : Int) + 1 := wrapI (i64_small (by omega) (by omega))
          have HMD := hid (md_step s hx)
          have hlk : (aid :: encZ s.cu ++ fldB s (mdS s (s.A.take k))).length ≤ 100000000 := by
            have h1 := fldB_len hN3 (mdS s (s.A.take k))
            have h2 := mdS_len s (s.A.take k)
            have h3 := Nat.mul_le_mul_right 7131 (show (mdS s (s.A.take k)).length ≤ 3564 by rw [List.length_take] at h2; have := HNL.out; omega)
            simp [encZ] at h1 ⊢
            omega
          obtain ⟨WK, hWK⟩ : ∃ WK, aid :: encZ s.cu ++ fldB s (mdS s (s.A.take k)) = WK := ⟨_, rfl⟩
          rw [hWK] at HWN hlk
          have HWK := hid hWK
          clear hx hWK hRF
          generalize ofP (s.cel x).fa.toNat = fp at HFI
          generalize ofN (s.cel x).fa.toNat = fn at HFI
          generalize ofD (s.cel x).fa.toNat = fd at HFI
          go_wp2_with fail
          with_reducible refine HFI.out.mono ?_
          rintro e w10 ⟨rfl, hb10⟩
          have HW10 := hid (HWN.out.below hb10)
          have HZ10 := hid (Nat.le_trans HSZ.out hb10.size)
          clear hb10 HWN HFI hcl hcl2 hgl
          cases hmo : (s.cel x).modi
          · have hfd := fld_3 w10 fp fn fd false
            rw [hmo, if_neg (by simp), List.append_nil] at HMD
            clear hmo
            go_wp2_with fail
            go_roundw
            case rel => exact ⟨k + 1, by omega, by go_num, by rw [HMD.out, HWK.out]; exact HW10.out, HZ10.out⟩
            case measure => simp [intOf]; omega
          · have hfd := fld_3 w10 fp fn fd true
            rw [hmo, if_pos rfl] at HMD
            clear hmo
            have HWP := hid (rpos_any (b := b2) (g := g2) (s := s) ((x : Int) + 1) (i64_small (by omega) (by omega)) w10 (HRF8.out w10 HW10.out.bl))
            go_wp2_with fail
            with_reducible refine HWP.out.mono ?_
            rintro e w11 ⟨rfl, hb11⟩
            have HW11 := hid (HW10.out.below hb11)
            have HZ11 := hid (Nat.le_trans HZ10.out hb11.size)
            clear hb11 HWP hfd
            go_wp2_with fail
            with_reducible refine (HEN.out (s.wr ((x : Int) + 1)) (HOK.out.okA _) _).mono ?_
            rintro e w12 ⟨xe, ce, rfl, hoe, hke, hb12⟩
            have hal := bal (Below.refl w12.heap.size w12) (.cells #[.int .u8 17] 5)
            have HW12 := hid ((HW11.out.below hb12).below hal)
            have HU12 := hid (own_byte0 w12 17 (by decide)).reads
            have HE12 := hid (hoe.moved (Moved.below hal []) (fun _ _ q => by cases q))
            have HD12 := hid (show ∀ q ∈ blkV (.slice xe 2 ce), q ∉ blkV (.slice xp np cp) from fun q hq e => by have := hke q hq; have := HW11.out.ow.lt q e; omega)
            have HS12 := hid (show WK.length + [(17 : Int)].length ≤ 100000000000 by simp; omega)
            have HS13 := hid (show (WK ++ [17]).length + (encZ (s.wr ((x : Int) + 1))).length ≤ 100000000000 by simp [encZ]; omega)
            have HZ12 := hid (Nat.le_trans HZ11.out (Nat.le_trans hb12.size hal.size))
            have HXA := hid (show ∀ V : World, w8.heap.size ≤ V.heap.size → ∀ g, (some ⟨gl, 0, none⟩ : Option Addr) = some ⟨g, 0, none⟩ → g < V.heap.size from fun V hV g hg => Nat.lt_of_lt_of_le (HXL.out g hg) hV)
            obtain ⟨N1, hN1⟩ : ∃ N, (WK ++ [(17 : Int)]).length = N := ⟨_, rfl⟩
            obtain ⟨N2, hN2⟩ : ∃ N, ((WK ++ [(17 : Int)]) ++ encZ (s.wr ((x : Int) + 1))).length = N := ⟨_, rfl⟩
            have HN1 := hid hN1
            have HN2 := hid hN2
            clear hoe hke hb12 hal hN1 hN2
            go_wp2_with (first
              | (at_builtin; refine wpList_append_big rfl (.tmp 75) (.tmp 76) rfl (.slice xp np cp) (.slice (some ⟨w12.heap.size, 0, none⟩) 1 1) WK [17] (WK ++ [17]) N1 rfl rfl HW12.out.ow HU12.out HS12.out rfl HN1.out ?_; intro y13 c13 w13 h3 g3 k3; have HZ13 := hid (Nat.le_trans HZ12.out g3.size); have HE13 := hid (HE12.out.moved (Moved.grown g3 (S := blkV (.slice xp np cp)) (S' := blkV (.slice y13 N1 c13)) (fun k hk => mem_blkV.2 hk) k3) HD12.out).reads; have HW13 := hid (HW12.out.grown h3 g3 k3 (HXA.out _ HZ12.out) (fun g h => by cases h)); clear h3 g3 k3)
              | (at_builtin; refine wpList_append_big rfl (.tmp 77) (.tmp 78) rfl (.slice y13 N1 c13) (.slice xe 2 ce) (WK ++ [17]) (encZ (s.wr ((x : Int) + 1))) _ N2 rfl rfl HW13.out.ow HE13.out HS13.out rfl HN2.out ?_; intro y14 c14 w14 h3 g3 k3; have HZ14 := hid (Nat.le_trans HZ13.out g3.size); have HW14 := hid (HW13.out.grown h3 g3 k3 (HXA.out _ HZ13.out) (fun g h => by cases h)); have HPL := hid (rplaces_nums x hxN w14 (HRF8.out w14 HW14.out.bl)); clear h3 g3 k3))
            with_reducible refine HPL.out.mono ?_
            rintro e w15 ⟨xq, cq, rfl, hnq, hgq, hb15⟩
            have HZ15 := hid (Nat.le_trans HZ14.out hb15.size)
            have hW15 := HW14.out.below hb15
            obtain ⟨WM, hWM⟩ : ∃ WM, (WK ++ [(17 : Int)]) ++ encZ (s.wr ((x : Int) + 1)) = WM := ⟨_, rfl⟩
            have HWM := hid hWM
            have HLM := hid (show WM.length ≤ 200000000 by rw [← hWM]; simp [encZ]; omega)
            rw [hWM] at hW15
            have HW15 := hid (show Wnt w6 (.slice y14 N2 c14) WM (some ⟨gl, 0, none⟩) s.A xq (fldP s x) w15 from ⟨hW15.ow, hW15.nw, hW15.na, hW15.da, hnq, fun g hg e => by have := hgq g hg; have := HW14.out.ow.lt _ e; omega, hW15.bl⟩)
            have HXQ := hid (show fldP s x ≠ [] → ∀ g, xq = some ⟨g, 0, none⟩ → g < w15.heap.size from fun hne g hg => by subst hg; exact hnq.lt hne)
            obtain ⟨NP, hNP⟩ : ∃ NP, (fldP s x).length = NP := ⟨_, rfl⟩
            have HNP := hid hNP
            have HPN := hid (show NP ≤ 3564 by rw [← hNP]; have := plL_len1 s.P s.L.length x; unfold fldP; omega)
            rw [hNP]
            clear hnq hgq hb15 hW15 hWM hNP HW14 HW13 HW12 HPL
            go_wp2_with fail
            go_loopw [13, 84] (fun p i W => ∃ j : Nat, j ≤ NP ∧ i = .int .i64 j ∧ Hid (Wnt w6 p (WM ++ fldC s ((fldP s x).take j)) (some ⟨gl, 0, none⟩) s.A xq (fldP s x) W) ∧ Hid (w15.heap.size ≤ W.heap.size)) (fun _ i _ => NP - (intOf i).toNat)
            case atStart => exact ⟨0, Nat.zero_le _, rfl, by simpa [fldC] using HW15, Nat.le_refl _⟩
            case round =>
              obtain ⟨j, hj, rfl, HWI, HSZ2⟩ := hrel
              by_cases hlj : j < NP
              · have hji : (j : Int) < NP := by omega
                have hpn := HPN.out
                obtain ⟨y, hy⟩ : ∃ y, (fldP s x)[j]? = some y := ⟨_, List.getElem?_eq_getElem (by rw [HNP.out]; exact hlj)⟩
                have hyN : y < s.L.length := plL_lt HOK.out.pos.1 hy
                obtain ⟨gq, rfl, hcq⟩ := HWI.out.nb j y hy
                have hcq2 : wr.cell? ⟨gq, j, none⟩ = some (.int .i64 y) := by simpa using hcq
                have hgq2 := World.block_lt_of_cell? wr _ hcq
                have hRF := HRF8.out wr HWI.out.bl
                have h4 := hRF.h4
                have hl4 := World.block_lt_of_cell? wr _ h4
                obtain ⟨c, hc⟩ : ∃ c, s.cel y = c := ⟨_, rfl⟩
                have hcok := HOK.out.cel y
                rw [hc] at hcok
                obtain ⟨a0, a1, a2, a3, a4, a5⟩ := hRF.row.six y hyN c hc
                have hlg := World.block_lt_of_cell? wr _ a0
                have HFT := hid (show fldC s ((fldP s x).take (j + 1)) = fldC s ((fldP s x).take j) ++ mdcB c by rw [fldC_take hy, hc])
                have HXQ2 := hid (HXQ.out (fun e => by rw [e] at hy; simp at hy))
                have hli : (WM ++ fldC s ((fldP s x).take j)).length ≤ 300000000 := by
                  have h1 := fldC_len s ((fldP s x).take j)
                  have h2 := HLM.out
                  rw [List.length_take] at h1
                  rw [List.length_append]
                  omega
                obtain ⟨WJ, hWJ⟩ : ∃ WJ, WM ++ fldC s ((fldP s x).take j) = WJ := ⟨_, rfl⟩
                rw [hWJ] at HWI hli
                have HWJ := hid hWJ
                obtain ⟨xi, ni, ci, rfl⟩ := own_slice HWI.out.ow
                obtain ⟨NL, hNL⟩ : ∃ NL, s.L.length = NL := ⟨_, rfl⟩
                rw [hNL] at h4 hyN
                have hyi : (y : Int) < NL := by omega
                obtain ⟨ch, at_, fa, hi, co, se⟩ := c
                dsimp only at a0 a1 a2 a3 a4 a5
                clear hRF hc hy hWJ hNL
                by_cases hch : ch = 0
                · subst hch
                  have hal := bal (Below.refl wr.heap.size wr) (.cells #[.int .u8 0, .bool at_, .int .u8 fa, .int .u8 hi, .int .u8 co, .int .u8 se] 48)
                  have HQ := hid (HWI.out.below hal)
                  have HQZ := hid (Nat.le_trans HSZ2.out hal.size)
                  clear hal hcok
                  go_wp2_with fail
                  go_roundw
                  case rel => exact ⟨j + 1, by omega, by go_num, by rw [HFT.out, show mdcB ⟨0, at_, fa, hi, co, se⟩ = [] from rfl, List.append_nil, HWJ.out]; exact HQ.out, HQZ.out⟩
                  case measure => simp [intOf]; omega
                · have ech : (ch == 0) = false := by simpa using hch
                  have hb16 := bal (bal (Below.refl wr.heap.size wr) (.cells #[.int .u8 ch, .bool at_, .int .u8 fa, .int .u8 hi, .int .u8 co, .int .u8 se] 48)) (.cells #[.int .u8 ch, .bool at_, .int .u8 fa, .int .u8 hi, .int .u8 co, .int .u8 se] 48)
                  have HC0 := hid (show Six (wr.alloc (.cells #[.int .u8 ch, .bool at_, .int .u8 fa, .int .u8 hi, .int .u8 co, .int .u8 se] 48)) wr.heap.size ⟨ch, at_, fa, hi, co, se⟩ from box_six (box_new wr ch at_ fa hi co se _))
                  have hsx := box_six (box_new (wr.alloc (.cells #[.int .u8 ch, .bool at_, .int .u8 fa, .int .u8 hi, .int .u8 co, .int .u8 se] 48)) ch at_ fa hi co se 48)
                  rw [World.size_alloc] at hsx
                  have HCO := hid (show Calls Try.prog 17 #[.slice (some ⟨wr.heap.size + 1, 0, none⟩) 1 1, .agg #[.int .u8 0, .bool false, .int .u8 0, .int .u8 0, .int .u8 0, .int .u8 0], .int .i64 0] _ _ from rchars_one ⟨ch, at_, fa, hi, co, se⟩ hcok (wr.heap.size + 1) _ hsx)
                  have HB16 := hid hb16
                  have HMC := hid (show mdcB ⟨ch, at_, fa, hi, co, se⟩ = chrB ⟨ch, at_, fa, hi, co, se⟩ by unfold mdcB; exact if_neg hch)
                  have HCL := hid (chrB_len ⟨ch, at_, fa, hi, co, se⟩)
                  generalize chrB ⟨ch, at_, fa, hi, co, se⟩ = cs at HCO HMC HCL
                  clear hb16 hsx hcok hch
                  go_wp2_with fail
                  with_reducible refine HCO.out.mono ?_
                  rintro e w17 ⟨vc, ⟨d0, d1, d2, d3, d4, d5⟩, rfl, hoc, hnc, hb17⟩
                  obtain ⟨xc, nc, cc, rfl⟩ := own_slice hoc
                  have hal := bal (Below.refl w17.heap.size w17) (.cells #[.int .u8 d0, .bool d1, .int .u8 d2, .int .u8 d3, .int .u8 d4, .int .u8 d5] 48)
                  have HW18 := hid (((HWI.out.below HB16.out).below hb17).below hal)
                  have HU18 := hid (reads_below hoc.reads hal)
                  have HS18 := hid (show WJ.length + cs.length ≤ 100000000000 by have := HCL.out; omega)
                  have HZ18 := hid (Nat.le_trans HSZ2.out (Nat.le_trans HB16.out.size (Nat.le_trans hb17.size hal.size)))
                  have HXA2 := hid (show ∀ V : World, w15.heap.size ≤ V.heap.size → (∀ g, (some ⟨gl, 0, none⟩ : Option Addr) = some ⟨g, 0, none⟩ → g < V.heap.size) ∧ ∀ g, (some ⟨gq, 0, none⟩ : Option Addr) = some ⟨g, 0, none⟩ → g < V.heap.size from fun V hV => ⟨fun g hg => Nat.lt_of_lt_of_le (HXA.out w15 HZ15.out g hg) hV, fun g hg => Nat.lt_of_lt_of_le (HXQ2.out g hg) hV⟩)
                  obtain ⟨N3, hN3⟩ : ∃ N, (WJ ++ cs).length = N := ⟨_, rfl⟩
                  have HN3 := hid hN3
                  clear hoc hnc hb17 hal hN3
                  go_wp2_with (at_builtin; refine wpList_append_big rfl (.tmp 105) (.tmp 106) rfl (.slice xi ni ci) (.slice xc nc cc) WJ cs (WJ ++ cs) N3 rfl rfl HW18.out.ow HU18.out HS18.out rfl HN3.out ?_; intro y19 c19 w19 h3 g3 k3; have HZ19 := hid (Nat.le_trans HZ18.out g3.size); have HW19 := hid (HW18.out.grown h3 g3 k3 (HXA2.out _ HZ18.out).1 (HXA2.out _ HZ18.out).2); clear h3 g3 k3)
                  go_roundw
                  case rel => exact ⟨j + 1, by omega, by go_num, by rw [HFT.out, HMC.out, ← List.append_assoc, HWJ.out]; exact HW19.out, HZ19.out⟩
                  case measure => simp [intOf]; omega
              · obtain rfl : j = NP := by omega
                go_wp2_with fail
                go_roundw
                case rel =>
                  have q := HWI.out
                  rw [← HNP.out, List.take_length] at q
                  refine ⟨k + 1, by omega, by go_num, ?_, Nat.le_trans HZ15.out HSZ2.out⟩
                  rw [show aid :: encZ s.cu ++ fldB s (mdS s (s.A.take (k + 1))) = WM ++ fldC s (fldP s x) by rw [HMD.out, ← HWM.out, ← HWK.out]; simp [fldB, fldB1]]
                  exact ⟨q.ow, q.nw, q.na, q.da, fun i y h => (by simp at h), fun g h => (by cases h), q.bl⟩
                case measure => simp [intOf]; omega
        · obtain rfl : k = NA := by omega
          obtain ⟨xp, np, cp, rfl⟩ := own_slice HWN.out.ow
          have HE := hid (show aid :: encZ s.cu ++ fldB s (mdS s (s.A.take k)) = sndB aid s by rw [← HNA.out, List.take_length]; rfl)
          have HR1 := hid (show Reads wr (.slice xp np cp) (sndB aid s) from by rw [← HE.out]; exact HWN.out.ow.reads)
          have HR9 := hid (reads_below HO96.out.reads (show Below w6.heap.size w6 wr from HWN.out.bl))
          have HBF := hid (below_t HB6.out HWN.out.bl)
          clear HWN
          go_wp2_with fail
          with_reducible refine (HSA.out _ _ _ _ HR9.out HR1.out).mono ?_
          rintro e w9 ⟨rfl, rfl⟩
          go_wp2_with fail
          go_ret
          exact ⟨rfl, HBF.out⟩
    · rw [hsh] at HRS
      clear hsh
      go_wp2_with fail
      with_reducible refine (HRS.out _).mono ?_
      rintro e w4 ⟨rfl, rfl⟩
      go_wp2_with fail
      go_ret
      exact ⟨rfl, HB3.out⟩
end Go.Proofs.Ytlhaefgchmakfaa
