/-
  The reference's add: data are put together.
-/
import Derived.Test.YtdbjjieoohfckaaRa
namespace Go.Proofs.Ytdbjjieoohfckaa
open Go.RowKit Go.Lib

def putE (w : World) (L : Nat) (d : Value) : World := (((((w.setCell ⟨L, 0, none⟩ (.int .i64 0)).setCell ⟨L, 1, none⟩ (.int .u8 0)).setCell ⟨L, 2, none⟩ (.int .u8 0)).setCell ⟨L, 3, none⟩ d).setCell ⟨L, 4, none⟩ (.bool false)).setCell ⟨L, 5, none⟩ (.bool false)
theorem putE_blk {w : World} {L : Nat} {d : Value} (h : w.heap[L]? = some (.cells #[.int .i64 0, .int .u8 0, .int .u8 0, .slice none 0 0, .bool false, .bool false] 36 (0, 0))) : (putE w L d).heap[L]? = some (.cells #[.int .i64 0, .int .u8 0, .int .u8 0, d, .bool false, .bool false] 36 (0, 0)) := by
  have h0 := Go.heap_setCell_same w L 0 _ 36 (.int .i64 0) h
  have h1 := Go.heap_setCell_same _ L 1 _ 36 (.int .u8 0) h0
  have h2 := Go.heap_setCell_same _ L 2 _ 36 (.int .u8 0) h1
  have h3 := Go.heap_setCell_same _ L 3 _ 36 d h2
  have h4 := Go.heap_setCell_same _ L 4 _ 36 (.bool false) h3
  have h5 := Go.heap_setCell_same _ L 5 _ 36 (.bool false) h4
  exact h5
theorem putE_below {B : Nat} {a w : World} {L : Nat} {d : Value} (h : Below B a w) (hL : B ≤ L) : Below B a (putE w L d) :=
  (((((h.setCell (p := ⟨L, 0, none⟩) hL _).setCell (p := ⟨L, 1, none⟩) hL _).setCell (p := ⟨L, 2, none⟩) hL _).setCell (p := ⟨L, 3, none⟩) hL _).setCell (p := ⟨L, 4, none⟩) hL _).setCell (p := ⟨L, 5, none⟩) hL _
theorem putE_own {w : World} {L : Nat} {d v : Value} {xs : List Int} (h : OwnB w v xs) (hL : L ∉ blkV v) : OwnB (putE w L d) v xs :=
  set_ownB (set_ownB (set_ownB (set_ownB (set_ownB (set_ownB h hL 0 _) hL 1 _) hL 2 _) hL 3 _) hL 4 _) hL 5 _
section
variable {P : Program} {w : World} {ops : Array Oper} {o : Oper} {a : Act} {K : Act → World → Prop} {Q : Exit → Act → World → Prop} {E : Prop}
/-- An append inside a drawn region, of however many. -/
theorem step_append_any (hgd : o.guard = none) (s x : Operand) (t : TypeId) (ho : o.op = .call { callee := .builtin .append, args := #[s, x], argTypes := #[t, t] })
    (base : Nat) (e : TypeId) (i : TypeInfo) (z : Value) (size bytes : Nat) (ht : P.underlying t = some (.slice e)) (hi : P.info? e = some i) (hz : i.zero = some z)
    (hsize : i.size = size) (hby : i.bytes = bytes) (hzs : z.cells.size = size) (hsz : 0 < size)
    (v : Value) (n : Nat) (xs : List Value) (hs : a.eval s = v) (hown : w.ownsRow base e size v n xs)
    (ad : Addr) (m c : Nat) (news : List Value) (hx : a.eval x = .slice (some ad) m c) (hl : news.length = m * size) (hnews : ∀ j u, news[j]? = some u → w.cell? (ad.add j) = some u) (h1 : ∀ u ∈ news, u.oneCell' = true)
    (N : Nat) (hN : n + m = N) (XS : List Value) (hXS : xs ++ news = XS) (h63 : n + m ≤ maxLen) (hbytes : (n + m) * bytes ≤ 140737488355328) (hbase : base ≤ w.heap.size)
    (h : ∀ y cap w', w'.ownsRow base e size (.slice y N cap) N XS → w.grownBy w' v.ownBlock → K (a.put o.dst (.slice y N cap)) w') :
    if Region.wanted o (yielded ops a.tmps) = true then Oper.wp P o a w K Q else E := by
  have hw : Region.wanted o (yielded ops a.tmps) = true := by simp [Region.wanted, hgd]
  rw [if_pos hw]
  subst hN hXS
  refine wp_append_own w s x t ho base e i z size bytes ht hi hz hsize hby hzs hsz v n xs hs hown ad m c news hx hl hnews h1 h63 hbytes hbase fun v' w' q1 q2 _ => ?_
  obtain ⟨y, cap, rfl⟩ := row_slice q1
  exact h y cap w' q1 q2
end
theorem add_fin {w wc u8 : World} {B n cap : Nat} {v d7 : Value} {y2 : Option Addr} {ys : List (Ev × Value)} {x : Ev × Value} {ed : List Int} {ES : List Ev} (h : TwoL w B (.slice none 0 0) v [] (ys ++ [x])) (hB : B ≤ w.heap.size) (hb : Below w.heap.size w wc) (ho : OwnB wc d7 (x.1.data ++ ed)) (hdn : ∀ k ∈ blkV d7, w.heap.size ≤ k) (hes : ES = ys.map (·.1) ++ [dat (x.1.data ++ ed)])
    (hrow : u8.ownsRow wc.heap.size 36 6 (.slice y2 n cap) (ys.length + 1) (cellsE ys ++ evC (dat (x.1.data ++ ed)) d7)) (hb8 : Below wc.heap.size wc u8) : AddR B ES w (.returned (.slice y2 n cap)) u8 := by
  have hb' := below_t hb hb8
  have hge : ∀ k ∈ blkV (.slice y2 n cap), wc.heap.size ≤ k := fun k hk => (hrow.lt k (mem_blkV.1 hk)).1
  have _ := hdn
  refine ⟨_, ys ++ [(dat (x.1.data ++ ed), d7)], rfl, ⟨World.ownsRow_nil _ _ _ _, ?_, ?_, ?_, fun k hk => by cases hk⟩, (map_snoc _ _ _).trans hes.symm, hb'.mono hB⟩
  · rw [List.length_append, cellsE_append]
    show u8.ownsRow 0 36 6 (.slice y2 n cap) (ys.length + 1) (cellsE ys ++ (evC (dat (x.1.data ++ ed)) d7 ++ []))
    rw [List.append_nil]
    exact hrow.mono (Nat.zero_le _)
  · intro y hy
    rcases hy with hy | hy
    · cases hy
    rcases List.mem_append.1 hy with hy | hy
    · have q := h.data y (.inr (List.mem_append.2 (.inl hy)))
      refine ⟨reads_below q.1 hb', fun k hk => ⟨Nat.lt_of_lt_of_le (q.2 k hk).1 hb'.size, (fun r => by cases r), fun r => ?_⟩⟩
      have := hge k r; have := (q.2 k hk).1; have := hb.size; omega
    · rw [List.mem_singleton.1 hy]
      have hl := own_lt ho.2
      refine ⟨reads_below ho.reads hb8, fun k hk => ⟨Nat.lt_of_lt_of_le (hl k hk) hb8.size, (fun r => by cases r), fun r => ?_⟩⟩
      have := hge k r; have := hl k hk; omega
  · intro k hk
    rcases hk with q | q
    · cases q
    · have := hge k q; have := hb.size; omega
set_option maxRecDepth 100000 in
set_option maxHeartbeats 8000000 in
theorem add_two (B : Nat) (v : Value) (ys : List (Ev × Value)) (x : Ev × Value) (ev eo : Int) (ed : List Int) (el eb : Bool) (d : Value) (w : World) (h : TwoL w B (.slice none 0 0) v [] (ys ++ [x])) (hd : DIn w (.slice none 0 0) v d ed) (hB : B ≤ w.heap.size) (hn : ys.length ≤ 10000000) (hxl : x.1.data.length ≤ 10000000) (hel : ed.length ≤ 10000000) (hne : ed ≠ []) (hxk : x.1.kind = 0) :
    Calls Try.prog 26 #[v, .agg #[.int .i64 0, .int .u8 ev, .int .u8 eo, d, .bool el, .bool eb]] w (AddR B (ys.map (·.1) ++ [dat (x.1.data ++ ed)]) w) := by
  obtain ⟨i1, hi1, hy0, hy1, hy2⟩ := info_parts info36
  obtain ⟨i5, hi5, hx0, hx1, hx2⟩ := info_parts info5
  obtain ⟨ES, hes⟩ : ∃ ES, ES = ys.map (·.1) ++ [dat (x.1.data ++ ed)] := ⟨_, rfl⟩
  rw [← hes]
  have HES := hid hes
  clear hes
  obtain ⟨xd, nd, cd, hde⟩ := reads_any_slice hd.1
  subst hde
  obtain ⟨ad, hxa⟩ : ∃ ad, xd = some ad := by
    rcases hd.1.2 with ⟨_, q⟩ | ⟨ad, _, q, _⟩
    · exact absurd q hne
    · injection q with q1; exact ⟨ad, q1⟩
  subst hxa
  have HT := hid h
  have HB := hid hB
  have HN0 := hid hne
  have HXL := hid hxl
  have HEL := hid hel
  obtain ⟨xw, cw, hwe⟩ := row_slice h.rowW
  subst hwe
  have hll : (ys ++ [x]).length = ys.length + 1 := by simp
  have hrw := h.rowW
  rcases hrw.2 with ⟨e1, e2⟩ | ⟨gw, cap', cur, e1, -⟩
  · exact absurd e2 (by simp)
  injection e1 with q1 q2 q3
  subst q1 q3
  have hcell : ∀ j, j < 6 → w.cell? ⟨gw, ys.length * 6 + j, none⟩ = (evC x.1 x.2)[j]? := fun j hj => by
    rw [World.ownsRow.cellAt hrw _ (by omega), cellsE_at _ ys.length (by omega) j hj]; simp
  have x0 : w.cell? ⟨gw, ys.length * 6, none⟩ = some (.int .i64 x.1.kind) := hcell 0 (by omega)
  have x3 : w.cell? ⟨gw, ys.length * 6 + 3, none⟩ = some x.2 := hcell 3 (by omega)
  rw [hxk] at x0
  have hdl := (h.data x (.inr (by simp))).1
  obtain ⟨xz, nz, cz, hxe⟩ := reads_any_slice hdl
  rw [hxe] at x3 hdl
  have HDL0 := hid hdl
  have hgl := World.block_lt_of_cell? w _ x0
  have HRWW := hid (show w.ownsRow 0 36 6 (.slice (some ⟨gw, 0, none⟩) (ys.length + 1) cw) (ys.length + 1) (cellsE (ys ++ [x])) by have q := hrw; rw [hll] at q; exact q)
  have HDB0 := hid hd.1
  clear hrw q2 cur hxk hcell hd hB hne hxl hel hdl hxe h
  rw [hll]
  obtain ⟨m, hme⟩ : ∃ m, m = ys.length := ⟨_, rfl⟩
  rw [← hme] at x0 x3 hn HRWW ⊢
  have HME := hid hme
  clear hll hme
  have hwrp2 : IntKind.i64.wrap (m : Int) = (m : Int) := by rw [IntKind.wrap_i64]; omega
  have hm0 : (0 : Int) ≤ (m : Int) := by omega
  have hml : (m : Int) < (m : Int) + 1 := by omega
  go_enter Try.func26, Try.ntmps26
  go_upto_region 3 with fail
  have hb0 : Below w.heap.size w (w.alloc (.cells #[.int .i64 0, .int .u8 ev, .int .u8 eo, .slice (some ad) nd cd, .bool el, .bool eb] 36)) := (Below.refl _ _).alloc (Nat.le_refl _) _
  have HBW := hid hb0
  have HX0 : Hid ((w.alloc (.cells #[.int .i64 0, .int .u8 ev, .int .u8 eo, .slice (some ad) nd cd, .bool el, .bool eb] 36)).drew.cell? ⟨gw, m * 6 + 3, none⟩ = some (.slice xz nz cz) ∧ (w.alloc (.cells #[.int .i64 0, .int .u8 ev, .int .u8 eo, .slice (some ad) nd cd, .bool el, .bool eb] 36)).drew.cell? ⟨w.heap.size, 3, none⟩ = some (.slice (some ad) nd cd)) := ⟨keepc hb0.drew x3, by simp [go_sem]⟩
  have HDL := hid (reads_below HDL0.out hb0)
  have HDB := hid (reads_below HDB0.out hb0)
  have HSRC := hid (reads_src HDB.out)
  clear hb0 x0 x3
  generalize (w.alloc (.cells #[.int .i64 0, .int .u8 ev, .int .u8 eo, .slice (some ad) nd cd, .bool el, .bool eb] 36)) = w0 at HBW HX0 HDL HDB ⊢
  have HCP := hid (fun W (hb : Below w0.heap.size w0 W) => copy_any (.slice xz nz cz) x.1.data W (reads_below HDL.out hb) (by have := HXL.out; omega))
  go_cut [6] (fun p wx => ∃ (L : Nat) (d7 : Value), p = .pointer (some ⟨L, 0, none⟩) ∧ wx.heap[L]? = some (.cells #[.int .i64 0, .int .u8 0, .int .u8 0, d7, .bool false, .bool false] 36 (0, 0)) ∧ Below w0.heap.size w0 wx ∧ OwnB wx d7 (x.1.data ++ ed) ∧ (∀ k ∈ blkV d7, w0.heap.size ≤ k))
  case first =>
    refine wp_region_held_drew (S := fun w' => w'.cell? ⟨gw, m * 6 + 3, none⟩ = some (.slice xz nz cz) ∧ w'.cell? ⟨w.heap.size, 3, none⟩ = some (.slice (some ad) nd cd)) (by kernel_rfl) ?_ (fun hHeld => ?_)
    · exact HX0.out
    refine takeD (i := 0) (v := ?_) 25 rfl rfl (by kernel_rfl) (by kernel_rfl) (by kernel_rfl) (fun _ _ _ h => h) (by assumption) (Or.inl ⟨by rfl, ?_⟩) ?_
    rotate_left
    · intro w hSw
      (try dsimp only at hSw)
      go_simp
      try with_reducible rfl
    simp only [List.setIfInBounds_toArray, List.set_cons_zero, List.set_cons_succ]
    refine takeD (i := 1) (v := ?_) 26 rfl rfl (by kernel_rfl) (by kernel_rfl) (by kernel_rfl) (fun _ _ _ h => h) (by assumption) (Or.inl ⟨by rfl, ?_⟩) ?_
    rotate_left
    · intro w hSw
      (try dsimp only at hSw)
      go_simp
      try with_reducible rfl
    simp only [List.setIfInBounds_toArray, List.set_cons_zero, List.set_cons_succ]
    refine takeD (i := 2) (v := ?_) 27 rfl rfl (by kernel_rfl) (by kernel_rfl) (by kernel_rfl) (fun _ _ _ h => h) (by assumption) (Or.inl ⟨by rfl, ?_⟩) ?_
    rotate_left
    · intro w hSw
      (try dsimp only at hSw)
      go_simp
      try with_reducible rfl
    simp only [List.setIfInBounds_toArray, List.set_cons_zero, List.set_cons_succ]
    refine takeD (i := 3) (v := ?_) 28 rfl rfl (by kernel_rfl) (by kernel_rfl) (by kernel_rfl) (fun _ _ _ h => h) (by assumption) (Or.inl ⟨by rfl, ?_⟩) ?_
    rotate_left
    · intro w hSw
      (try dsimp only at hSw)
      go_simp
      try with_reducible rfl
    simp only [List.setIfInBounds_toArray, List.set_cons_zero, List.set_cons_succ]
    refine takeD (i := 4) (v := ?_) 29 rfl rfl (by kernel_rfl) (by kernel_rfl) (by kernel_rfl) (fun _ _ _ h => h) (by assumption) (Or.inl ⟨by rfl, ?_⟩) ?_
    rotate_left
    · intro w hSw
      (try dsimp only at hSw)
      go_simp
      try with_reducible rfl
    simp only [List.setIfInBounds_toArray, List.set_cons_zero, List.set_cons_succ]
    refine takeD (i := 5) (v := ?_) 30 rfl rfl (by kernel_rfl) (by kernel_rfl) (by kernel_rfl) (fun _ _ _ h => h) (by assumption) (Or.inl ⟨by rfl, ?_⟩) ?_
    rotate_left
    · intro w hSw
      (try dsimp only at hSw)
      go_simp
      try with_reducible rfl
    simp only [List.setIfInBounds_toArray, List.set_cons_zero, List.set_cons_succ]
    refine takeD (i := 7) (v := ?_) 32 rfl rfl (by kernel_rfl) (by kernel_rfl) (by kernel_rfl) (fun _ _ _ h => h) (by assumption) (Or.inl ⟨by rfl, ?_⟩) ?_
    rotate_left
    · intro w hSw
      (try dsimp only at hSw)
      go_simp
      try with_reducible rfl
    simp only [List.setIfInBounds_toArray, List.set_cons_zero, List.set_cons_succ]
    refine takeD (i := 8) (v := ?_) 33 rfl rfl (by kernel_rfl) (by kernel_rfl) (by kernel_rfl) (fun _ _ _ h => h) (by assumption) (Or.inl ⟨by rfl, ?_⟩) ?_
    rotate_left
    · intro w hSw
      (try dsimp only at hSw)
      go_simp
      try with_reducible rfl
    simp only [List.setIfInBounds_toArray, List.set_cons_zero, List.set_cons_succ]
    refine wpAnyH_ready (rs := [6, 11]) (by kernel_rfl) (by simp) ?_
    refine AllReadyH.cons (by simp only [List.getElem?_toArray, List.getElem?_cons_succ, List.getElem?_cons_zero]; rfl) (fun K hK => ?_) (AllReadyH.cons (by simp only [List.getElem?_toArray, List.getElem?_cons_succ, List.getElem?_cons_zero]; rfl) (fun K hK => ?_) AllReadyH.nil)
    · go_simp
      refine (HCP.out _ ((Below.refl w0.heap.size w0).drew)).mono ?_
      rintro e w6 ⟨cv, rfl, hr6, hb6, ho6, -⟩
      have HOW := hid (ho6.mono (((Below.refl w0.heap.size w0).drew)).size)
      have HOG := hid (own_ge ho6)
      have HB6 := hid hb6
      have HB06 := hid ((((Below.refl w0.heap.size w0).drew)).trans (hb6.mono (((Below.refl w0.heap.size w0).drew)).size))
      clear hr6 ho6 hb6
      (try go_wp2_with fail)
      refine hK.out _ _ ?_ (fun hHeldN => ?_)
      · exact ⟨keepc HB6.out hHeld.1, keepc HB6.out hHeld.2⟩
      clear hK K hHeld
      have hHeld := hHeldN
      clear hHeldN
      (try simp only [Act.put, List.setIfInBounds_toArray, List.set_cons_zero, List.set_cons_succ])
      refine wpAnyH_ready (rs := [9, 11]) (by kernel_rfl) (by simp) ?_
      refine AllReadyH.cons (by simp only [List.getElem?_toArray, List.getElem?_cons_succ, List.getElem?_cons_zero]; rfl) (fun K hK => ?_) (AllReadyH.cons (by simp only [List.getElem?_toArray, List.getElem?_cons_succ, List.getElem?_cons_zero]; rfl) (fun K hK => ?_) AllReadyH.nil)
      · refine step_append_lies _ (by rfl) _ _ _ (by rfl) w0.heap.size 5 i5 _ 1 1 Try.underlying22 hi5 hx0 hx1 hx2 rfl (by decide) _ _ _ (by rfl) HOW.out ad nd cd (ed.map (Value.int .u8)) (by rfl) (by rw [List.length_map, ← HSRC.out.1]; omega) (reads_src (reads_below HDB.out HB06.out)).2 (ints_oneCell .u8 _) (by have := HSRC.out.1; have := List.length_pos_iff.2 HN0.out; omega) (by have := HXL.out; have := HEL.out; have := HSRC.out.1; unfold maxLen; omega) (by have := HXL.out; have := HEL.out; have := HSRC.out.1; omega) (HB06.out).size _ rfl ?_
        intro g6 cap6 w7 hown7 hgrow7 hat7 hlt7
        have HOW7 := hid hown7
        have HGR7 := hid hgrow7
        have HAT7 := hid hat7
        have HB07 := hid ((HB06.out).grown hgrow7 (HB06.out).size (fun k hk => (HOW.out.lt k hk).1))
        clear hown7 hgrow7 hat7 hlt7
        refine hK.out _ _ ?_ (fun hHeldN => ?_)
        · exact ⟨keepc HB07.out HX0.out.1, keepc HB07.out HX0.out.2⟩
        clear hK K hHeld
        have hHeld := hHeldN
        clear hHeldN
        (try simp only [Act.put, List.setIfInBounds_toArray, List.set_cons_zero, List.set_cons_succ])
        refine takeD (i := 10) (v := ?_) 35 rfl rfl (by kernel_rfl) (by kernel_rfl) (by kernel_rfl) (fun _ _ _ h => h) (by assumption) (Or.inl ⟨by rfl, ?_⟩) ?_
        rotate_left
        · intro w hSw
          (try dsimp only at hSw)
          go_simp
          try with_reducible rfl
        simp only [List.setIfInBounds_toArray, List.set_cons_zero, List.set_cons_succ]
        refine wpAnyH_ready (rs := [11]) (by kernel_rfl) (by simp) ?_
        refine AllReadyH.cons (by simp only [List.getElem?_toArray, List.getElem?_cons_succ, List.getElem?_cons_zero]; rfl) (fun K hK => ?_) AllReadyH.nil
        go_simp
        refine hK.out _ _ ?_ (fun hHeldN => ?_)
        · exact ⟨keepc ((Below.refl _ _).alloc (Nat.le_refl _) _) hHeld.1, keepc ((Below.refl _ _).alloc (Nat.le_refl _) _) hHeld.2⟩
        clear hK K hHeld
        have hHeld := hHeldN
        clear hHeldN
        (try simp only [Act.put, List.setIfInBounds_toArray, List.set_cons_zero, List.set_cons_succ])
        have HOB7 : Hid (OwnB w7 (.slice (some ⟨g6, 0, none⟩) (x.1.data.length + nd) cap6) (x.1.data ++ ed)) := by
          have e1 : x.1.data.length + nd = (x.1.data ++ ed).length := by rw [List.length_append, HSRC.out.1]
          have q := HOW7.out
          rw [← List.map_append, e1] at q
          rw [e1]
          refine ⟨fun y hy => ?_, q.mono (Nat.zero_le _)⟩
          rcases List.mem_append.1 hy with r | r
          · exact HDL.out.1 y r
          · exact HDB.out.1 y r
        refine wpAnyH_ready (rs := [12]) (by kernel_rfl) (by simp) ?_
        refine AllReadyH.cons (by simp only [List.getElem?_toArray, List.getElem?_cons_succ, List.getElem?_cons_zero]; rfl) (fun K hK => ?_) AllReadyH.nil
        go_simp
        have HB08 := hid (HB07.out.alloc HB07.out.size (.cells #[.int .i64 0, .int .u8 0, .int .u8 0, (.slice (some ⟨g6, 0, none⟩) (x.1.data.length + nd) cap6), .bool false, .bool false] 36))
        refine hK.out _ _ ?_ (fun hHeldN => ?_)
        · exact ⟨keepc HB08.out HX0.out.1, keepc HB08.out HX0.out.2⟩
        refine wpAnyH_done (by kernel_rfl) ?_ _
        go_wp2_with fail
        go_meet
        exact ⟨_, _, rfl, heap_alloc_new w7 _, HB08.out, HOB7.out.moved (Moved.alloc w7 _ []) (fun _ _ q => by cases q), fun k hk => (HOW7.out.lt k (mem_blkV.1 hk)).1⟩
      · go_simp
        refine hK.out _ _ ?_ (fun hHeldN => ?_)
        · exact ⟨keepc ((Below.refl _ _).alloc (Nat.le_refl _) _) hHeld.1, keepc ((Below.refl _ _).alloc (Nat.le_refl _) _) hHeld.2⟩
        clear hK K hHeld
        have hHeld := hHeldN
        clear hHeldN
        (try simp only [Act.put, List.setIfInBounds_toArray, List.set_cons_zero, List.set_cons_succ])
        refine wpAnyH_ready (rs := [9]) (by kernel_rfl) (by simp) ?_
        refine AllReadyH.cons (by simp only [List.getElem?_toArray, List.getElem?_cons_succ, List.getElem?_cons_zero]; rfl) (fun K hK => ?_) AllReadyH.nil
        refine step_append_lies _ (by rfl) _ _ _ (by rfl) w0.heap.size 5 i5 _ 1 1 Try.underlying22 hi5 hx0 hx1 hx2 rfl (by decide) _ _ _ (by rfl) (HOW.out.alloc _) ad nd cd (ed.map (Value.int .u8)) (by rfl) (by rw [List.length_map, ← HSRC.out.1]; omega) (reads_src (reads_below HDB.out (HB06.out.alloc HB06.out.size (.cells #[.int .i64 0, .int .u8 0, .int .u8 0, .slice none 0 0, .bool false, .bool false] 36)))).2 (ints_oneCell .u8 _) (by have := HSRC.out.1; have := List.length_pos_iff.2 HN0.out; omega) (by have := HXL.out; have := HEL.out; have := HSRC.out.1; unfold maxLen; omega) (by have := HXL.out; have := HEL.out; have := HSRC.out.1; omega) ((HB06.out.alloc HB06.out.size (.cells #[.int .i64 0, .int .u8 0, .int .u8 0, .slice none 0 0, .bool false, .bool false] 36))).size _ rfl ?_
        intro g6 cap6 w7 hown7 hgrow7 hat7 hlt7
        have HOW7 := hid hown7
        have HGR7 := hid hgrow7
        have HAT7 := hid hat7
        have HB07 := hid (((HB06.out.alloc HB06.out.size (.cells #[.int .i64 0, .int .u8 0, .int .u8 0, .slice none 0 0, .bool false, .bool false] 36))).grown hgrow7 ((HB06.out.alloc HB06.out.size (.cells #[.int .i64 0, .int .u8 0, .int .u8 0, .slice none 0 0, .bool false, .bool false] 36))).size (fun k hk => (HOW.out.lt k hk).1))
        clear hown7 hgrow7 hat7 hlt7
        refine hK.out _ _ ?_ (fun hHeldN => ?_)
        · exact ⟨keepc HB07.out HX0.out.1, keepc HB07.out HX0.out.2⟩
        clear hK K hHeld
        have hHeld := hHeldN
        clear hHeldN
        (try simp only [Act.put, List.setIfInBounds_toArray, List.set_cons_zero, List.set_cons_succ])
        have HOB7 : Hid (OwnB w7 (.slice (some ⟨g6, 0, none⟩) (x.1.data.length + nd) cap6) (x.1.data ++ ed)) := by
          have e1 : x.1.data.length + nd = (x.1.data ++ ed).length := by rw [List.length_append, HSRC.out.1]
          have q := HOW7.out
          rw [← List.map_append, e1] at q
          rw [e1]
          refine ⟨fun y hy => ?_, q.mono (Nat.zero_le _)⟩
          rcases List.mem_append.1 hy with r | r
          · exact HDL.out.1 y r
          · exact HDB.out.1 y r
        have HBK7 : Hid (w7.heap[w6.heap.size]? = some (.cells #[.int .i64 0, .int .u8 0, .int .u8 0, .slice none 0 0, .bool false, .bool false] 36 (0, 0))) := (HGR7.out.block w6.heap.size (by simp) (fun e => by have := own_lt HOW.out _ (mem_blkV.2 e.symm); omega)).trans (heap_alloc_new w6 _)
        have HLL0 := hid (show w0.heap.size ≤ w6.heap.size from HB06.out.size)
        have HLN : Hid (w6.heap.size ∉ blkV (.slice (some ⟨g6, 0, none⟩) (x.1.data.length + nd) cap6)) := fun q => by
          have e : w6.heap.size = g6 := by simpa [blkV, Value.ownBlock] using q
          rcases HAT7.out with r | r
          · have := own_lt HOW.out g6 (mem_blkV.2 r); omega
          · simp at r; omega
        refine takeD (i := 10) (v := ?_) 35 rfl rfl (by kernel_rfl) (by kernel_rfl) (by kernel_rfl) (fun _ _ _ h => h) (by assumption) (Or.inl ⟨by rfl, ?_⟩) ?_
        rotate_left
        · intro w hSw
          (try dsimp only at hSw)
          go_simp
          try with_reducible rfl
        simp only [List.setIfInBounds_toArray, List.set_cons_zero, List.set_cons_succ]
        have y0 := cell_of_row w7 w6.heap.size 0 _ 36 _ HBK7.out
        have y1 := cell_of_row w7 w6.heap.size 1 _ 36 _ HBK7.out
        have y2 := cell_of_row w7 w6.heap.size 2 _ 36 _ HBK7.out
        have y3 := cell_of_row w7 w6.heap.size 3 _ 36 _ HBK7.out
        have y4 := cell_of_row w7 w6.heap.size 4 _ 36 _ HBK7.out
        have y5 := cell_of_row w7 w6.heap.size 5 _ 36 _ HBK7.out
        simp only [List.getElem?_toArray, List.getElem?_cons_zero, List.getElem?_cons_succ] at y0 y1 y2 y3 y4 y5
        have yf := fun j => frozen_of_row w7 w6.heap.size j _ 36 HBK7.out
        have f0 := yf 0
        have f1 := yf 1
        have f2 := yf 2
        have f3 := yf 3
        have f4 := yf 4
        have f5 := yf 5
        clear yf
        refine wpAnyH_ready (rs := [12]) (by kernel_rfl) (by simp) ?_
        refine AllReadyH.cons (by simp only [List.getElem?_toArray, List.getElem?_cons_succ, List.getElem?_cons_zero]; rfl) (fun K hK => ?_) AllReadyH.nil
        go_simp
        have HB08 := hid (putE_below (d := (.slice (some ⟨g6, 0, none⟩) (x.1.data.length + nd) cap6)) HB07.out (show w0.heap.size ≤ w6.heap.size from HLL0.out))
        have HBK8 := hid (putE_blk (d := (.slice (some ⟨g6, 0, none⟩) (x.1.data.length + nd) cap6)) HBK7.out)
        have HOB8 := hid (putE_own (d := (.slice (some ⟨g6, 0, none⟩) (x.1.data.length + nd) cap6)) HOB7.out HLN.out)
        unfold putE at HB08 HBK8 HOB8
        refine hK.out _ _ ?_ (fun hHeldN => ?_)
        · exact ⟨keepc HB08.out HX0.out.1, keepc HB08.out HX0.out.2⟩
        refine wpAnyH_done (by kernel_rfl) ?_ _
        go_wp2_with fail
        go_meet
        exact ⟨_, _, rfl, HBK8.out, HB08.out, HOB8.out, fun k hk => (HOW7.out.lt k (mem_blkV.1 hk)).1⟩
    · go_simp
      refine hK.out _ _ ?_ (fun hHeldN => ?_)
      · exact ⟨keepc ((Below.refl _ _).alloc (Nat.le_refl _) _) hHeld.1, keepc ((Below.refl _ _).alloc (Nat.le_refl _) _) hHeld.2⟩
      clear hK K hHeld
      have hHeld := hHeldN
      clear hHeldN
      (try simp only [Act.put, List.setIfInBounds_toArray, List.set_cons_zero, List.set_cons_succ])
      refine wpAnyH_ready (rs := [6]) (by kernel_rfl) (by simp) ?_
      refine AllReadyH.cons (by simp only [List.getElem?_toArray, List.getElem?_cons_succ, List.getElem?_cons_zero]; rfl) (fun K hK => ?_) AllReadyH.nil
      go_simp
      refine (HCP.out _ (((Below.refl w0.heap.size w0).drew).alloc (Nat.le_refl _) (.cells #[.int .i64 0, .int .u8 0, .int .u8 0, .slice none 0 0, .bool false, .bool false] 36))).mono ?_
      rintro e w6 ⟨cv, rfl, hr6, hb6, ho6, -⟩
      have HOW := hid (ho6.mono ((((Below.refl w0.heap.size w0).drew).alloc (Nat.le_refl _) (.cells #[.int .i64 0, .int .u8 0, .int .u8 0, .slice none 0 0, .bool false, .bool false] 36))).size)
      have HOG := hid (own_ge ho6)
      have HB6 := hid hb6
      have HB06 := hid (((((Below.refl w0.heap.size w0).drew).alloc (Nat.le_refl _) (.cells #[.int .i64 0, .int .u8 0, .int .u8 0, .slice none 0 0, .bool false, .bool false] 36))).trans (hb6.mono ((((Below.refl w0.heap.size w0).drew).alloc (Nat.le_refl _) (.cells #[.int .i64 0, .int .u8 0, .int .u8 0, .slice none 0 0, .bool false, .bool false] 36))).size))
      clear hr6 ho6 hb6
      (try go_wp2_with fail)
      refine hK.out _ _ ?_ (fun hHeldN => ?_)
      · exact ⟨keepc HB6.out hHeld.1, keepc HB6.out hHeld.2⟩
      clear hK K hHeld
      have hHeld := hHeldN
      clear hHeldN
      (try simp only [Act.put, List.setIfInBounds_toArray, List.set_cons_zero, List.set_cons_succ])
      refine wpAnyH_ready (rs := [9]) (by kernel_rfl) (by simp) ?_
      refine AllReadyH.cons (by simp only [List.getElem?_toArray, List.getElem?_cons_succ, List.getElem?_cons_zero]; rfl) (fun K hK => ?_) AllReadyH.nil
      refine step_append_lies _ (by rfl) _ _ _ (by rfl) w0.heap.size 5 i5 _ 1 1 Try.underlying22 hi5 hx0 hx1 hx2 rfl (by decide) _ _ _ (by rfl) HOW.out ad nd cd (ed.map (Value.int .u8)) (by rfl) (by rw [List.length_map, ← HSRC.out.1]; omega) (reads_src (reads_below HDB.out HB06.out)).2 (ints_oneCell .u8 _) (by have := HSRC.out.1; have := List.length_pos_iff.2 HN0.out; omega) (by have := HXL.out; have := HEL.out; have := HSRC.out.1; unfold maxLen; omega) (by have := HXL.out; have := HEL.out; have := HSRC.out.1; omega) (HB06.out).size _ rfl ?_
      intro g6 cap6 w7 hown7 hgrow7 hat7 hlt7
      have HOW7 := hid hown7
      have HGR7 := hid hgrow7
      have HAT7 := hid hat7
      have HB07 := hid ((HB06.out).grown hgrow7 (HB06.out).size (fun k hk => (HOW.out.lt k hk).1))
      clear hown7 hgrow7 hat7 hlt7
      refine hK.out _ _ ?_ (fun hHeldN => ?_)
      · exact ⟨keepc HB07.out HX0.out.1, keepc HB07.out HX0.out.2⟩
      clear hK K hHeld
      have hHeld := hHeldN
      clear hHeldN
      (try simp only [Act.put, List.setIfInBounds_toArray, List.set_cons_zero, List.set_cons_succ])
      have HOB7 : Hid (OwnB w7 (.slice (some ⟨g6, 0, none⟩) (x.1.data.length + nd) cap6) (x.1.data ++ ed)) := by
        have e1 : x.1.data.length + nd = (x.1.data ++ ed).length := by rw [List.length_append, HSRC.out.1]
        have q := HOW7.out
        rw [← List.map_append, e1] at q
        rw [e1]
        refine ⟨fun y hy => ?_, q.mono (Nat.zero_le _)⟩
        rcases List.mem_append.1 hy with r | r
        · exact HDL.out.1 y r
        · exact HDB.out.1 y r
      have HBK7 : Hid (w7.heap[w0.heap.size]? = some (.cells #[.int .i64 0, .int .u8 0, .int .u8 0, .slice none 0 0, .bool false, .bool false] 36 (0, 0))) := (HGR7.out.block w0.heap.size (by have := HB6.out.size; simp at this; omega) (fun e => by have := HOG.out _ e.symm; simp at this; omega)).trans ((HB6.out.block w0.heap.size (by simp)).trans (heap_alloc_new w0.drew _))
      have HLL0 := hid (Nat.le_refl w0.heap.size)
      have HLN : Hid (w0.heap.size ∉ blkV (.slice (some ⟨g6, 0, none⟩) (x.1.data.length + nd) cap6)) := fun q => by
        have e : w0.heap.size = g6 := by simpa [blkV, Value.ownBlock] using q
        rcases HAT7.out with r | r
        · have := HOG.out g6 r; simp at this; omega
        · have := HB6.out.size; simp at this; omega
      refine takeD (i := 10) (v := ?_) 35 rfl rfl (by kernel_rfl) (by kernel_rfl) (by kernel_rfl) (fun _ _ _ h => h) (by assumption) (Or.inl ⟨by rfl, ?_⟩) ?_
      rotate_left
      · intro w hSw
        (try dsimp only at hSw)
        go_simp
        try with_reducible rfl
      simp only [List.setIfInBounds_toArray, List.set_cons_zero, List.set_cons_succ]
      have y0 := cell_of_row w7 w0.heap.size 0 _ 36 _ HBK7.out
      have y1 := cell_of_row w7 w0.heap.size 1 _ 36 _ HBK7.out
      have y2 := cell_of_row w7 w0.heap.size 2 _ 36 _ HBK7.out
      have y3 := cell_of_row w7 w0.heap.size 3 _ 36 _ HBK7.out
      have y4 := cell_of_row w7 w0.heap.size 4 _ 36 _ HBK7.out
      have y5 := cell_of_row w7 w0.heap.size 5 _ 36 _ HBK7.out
      simp only [List.getElem?_toArray, List.getElem?_cons_zero, List.getElem?_cons_succ] at y0 y1 y2 y3 y4 y5
      have yf := fun j => frozen_of_row w7 w0.heap.size j _ 36 HBK7.out
      have f0 := yf 0
      have f1 := yf 1
      have f2 := yf 2
      have f3 := yf 3
      have f4 := yf 4
      have f5 := yf 5
      clear yf
      refine wpAnyH_ready (rs := [12]) (by kernel_rfl) (by simp) ?_
      refine AllReadyH.cons (by simp only [List.getElem?_toArray, List.getElem?_cons_succ, List.getElem?_cons_zero]; rfl) (fun K hK => ?_) AllReadyH.nil
      go_simp
      have HB08 := hid (putE_below (d := (.slice (some ⟨g6, 0, none⟩) (x.1.data.length + nd) cap6)) HB07.out (show w0.heap.size ≤ w0.heap.size from HLL0.out))
      have HBK8 := hid (putE_blk (d := (.slice (some ⟨g6, 0, none⟩) (x.1.data.length + nd) cap6)) HBK7.out)
      have HOB8 := hid (putE_own (d := (.slice (some ⟨g6, 0, none⟩) (x.1.data.length + nd) cap6)) HOB7.out HLN.out)
      unfold putE at HB08 HBK8 HOB8
      refine hK.out _ _ ?_ (fun hHeldN => ?_)
      · exact ⟨keepc HB08.out HX0.out.1, keepc HB08.out HX0.out.2⟩
      refine wpAnyH_done (by kernel_rfl) ?_ _
      go_wp2_with fail
      go_meet
      exact ⟨_, _, rfl, HBK8.out, HB08.out, HOB8.out, fun k hk => (HOW7.out.lt k (mem_blkV.1 hk)).1⟩
  case rest =>
    obtain ⟨L, d7, rfl, hbk, hbc, hob, hdn⟩ := hcut
    obtain ⟨xq, nq, cq, rfl⟩ := own_slice hob
    have HBC := hid hbc
    have HOB := hid hob
    have HBWC := hid (HBW.out.trans (hbc.mono HBW.out.size))
    have HDNW := hid (show ∀ k ∈ blkV (.slice xq nq cq), w.heap.size ≤ k from fun k hk => Nat.le_trans HBW.out.size (hdn k hk))
    have HSX : Hid (∀ W, Below wc.heap.size wc W → (fun w' => w'.cell? ⟨L, 0, none⟩ = some (.int .i64 0) ∧ w'.cell? ⟨L, 1, none⟩ = some (.int .u8 0) ∧ w'.cell? ⟨L, 2, none⟩ = some (.int .u8 0) ∧ w'.cell? ⟨L, 3, none⟩ = some (.slice xq nq cq) ∧ w'.cell? ⟨L, 4, none⟩ = some (.bool false) ∧ w'.cell? ⟨L, 5, none⟩ = some (.bool false)) W) := fun W hb => ⟨keepc hb (cell_of_row wc L 0 _ 36 _ hbk), keepc hb (cell_of_row wc L 1 _ 36 _ hbk), keepc hb (cell_of_row wc L 2 _ 36 _ hbk), keepc hb (cell_of_row wc L 3 _ 36 _ hbk), keepc hb (cell_of_row wc L 4 _ 36 _ hbk), keepc hb (cell_of_row wc L 5 _ 36 _ hbk)⟩
    have HRC := hid (own_moved HRWW.out (Moved.below HBWC.out []) (fun _ _ q => by cases q))
    have HNY : Hid (∀ W, Below wc.heap.size wc W → ∀ j u, (cellsE ys)[j]? = some u → W.cell? ((⟨gw, 0, none⟩ : Addr).add j) = some u) := fun W hb j u hu => by
      have q := HRC.out.cells (g := gw) rfl j u (by rw [cellsE_append, List.getElem?_append_left (List.getElem?_eq_some_iff.1 hu).1]; exact hu)
      exact keepc hb q
    have HONE : Hid (∀ u ∈ cellsE ys, u.oneCell' = true) := fun u hu => one_cellsE (w := w) (fun y hy => (HT.out.data y (.inr (List.mem_append.2 (.inl hy)))).1) u hu
    clear hbk hbc hob hdn HCP HX0
    have HL1 : Hid ((wc.drew.alloc (.cells #[] 36)).ownsRow wc.heap.size 36 6 (.slice (some ⟨wc.heap.size, 0, none⟩) 0 0) 0 []) := World.ownsRow_lit _ #[] 0 (Nat.le_refl _) (Nat.zero_le _) rfl
    have HL2 : Hid (((wc.drew.alloc (.cells #[.int .i64 0, .int .u8 0, .int .u8 0, (.slice xq nq cq), .bool false, .bool false] 36)).alloc (.cells #[] 36)).ownsRow wc.heap.size 36 6 (.slice (some ⟨wc.heap.size + 1, 0, none⟩) 0 0) 0 []) := by
      have q := World.ownsRow_lit (base := wc.heap.size) (e := 36) (size := 6) (wc.drew.alloc (.cells #[.int .i64 0, .int .u8 0, .int .u8 0, (.slice xq nq cq), .bool false, .bool false] 36)) #[] 0 (by simp) (Nat.zero_le _) rfl
      rw [show (wc.drew.alloc (.cells #[.int .i64 0, .int .u8 0, .int .u8 0, (.slice xq nq cq), .bool false, .bool false] 36)).heap.size = wc.heap.size + 1 by simp] at q
      exact q
    have hmc : (m : Int) ≤ (cw : Int) := by
      rcases HRC.out.2 with ⟨q, _⟩ | ⟨_, _, _, q, _, _, q2, _⟩
      · cases q
      · injection q with q3 q4 q5; omega
    go_upto_region 4 with fail
    refine wp_region_held_drew (S := fun w' => w'.cell? ⟨L, 0, none⟩ = some (.int .i64 0) ∧ w'.cell? ⟨L, 1, none⟩ = some (.int .u8 0) ∧ w'.cell? ⟨L, 2, none⟩ = some (.int .u8 0) ∧ w'.cell? ⟨L, 3, none⟩ = some (.slice xq nq cq) ∧ w'.cell? ⟨L, 4, none⟩ = some (.bool false) ∧ w'.cell? ⟨L, 5, none⟩ = some (.bool false)) (by kernel_rfl) ?_ (fun hHeld => ?_)
    · exact HSX.out _ (Below.refl _ _).drew
    refine takeD (i := 1) (v := ?_) 37 rfl rfl (by kernel_rfl) (by kernel_rfl) (by kernel_rfl) (fun _ _ _ h => h) (by assumption) (Or.inl ⟨by rfl, ?_⟩) ?_
    rotate_left
    · intro w hSw
      (try dsimp only at hSw)
      go_simp
      try with_reducible rfl
    simp only [List.setIfInBounds_toArray, List.set_cons_zero, List.set_cons_succ]
    refine takeD (i := 2) (v := ?_) 38 rfl rfl (by kernel_rfl) (by kernel_rfl) (by kernel_rfl) (fun _ _ _ h => h) (by assumption) (Or.inl ⟨by rfl, ?_⟩) ?_
    rotate_left
    · intro w hSw
      (try dsimp only at hSw)
      go_simp
      try with_reducible rfl
    simp only [List.setIfInBounds_toArray, List.set_cons_zero, List.set_cons_succ]
    refine takeD (i := 3) (v := ?_) 39 rfl rfl (by kernel_rfl) (by kernel_rfl) (by kernel_rfl) (fun _ _ _ h => h) (by assumption) (Or.inl ⟨by rfl, ?_⟩) ?_
    rotate_left
    · intro w hSw
      (try dsimp only at hSw)
      go_simp
      try with_reducible rfl
    simp only [List.setIfInBounds_toArray, List.set_cons_zero, List.set_cons_succ]
    refine takeD (i := 4) (v := ?_) 40 rfl rfl (by kernel_rfl) (by kernel_rfl) (by kernel_rfl) (fun _ _ _ h => h) (by assumption) (Or.inl ⟨by rfl, ?_⟩) ?_
    rotate_left
    · intro w hSw
      (try dsimp only at hSw)
      go_simp
      try with_reducible rfl
    simp only [List.setIfInBounds_toArray, List.set_cons_zero, List.set_cons_succ]
    refine takeD (i := 6) (v := ?_) 42 rfl rfl (by kernel_rfl) (by kernel_rfl) (by kernel_rfl) (fun _ _ _ h => h) (by assumption) (Or.inl ⟨by rfl, ?_⟩) ?_
    rotate_left
    · intro w hSw
      (try dsimp only at hSw)
      go_simp
      try with_reducible rfl
    simp only [List.setIfInBounds_toArray, List.set_cons_zero, List.set_cons_succ]
    refine wpAnyH_ready (rs := [0, 7]) (by kernel_rfl) (by simp) ?_
    refine AllReadyH.cons (by simp only [List.getElem?_toArray, List.getElem?_cons_zero]; rfl) (fun K hK => ?_) (AllReadyH.cons (by simp only [List.getElem?_toArray, List.getElem?_cons_succ, List.getElem?_cons_zero]; rfl) (fun K hK => ?_) AllReadyH.nil)
    · go_simp
      refine hK.out _ _ ?_ (fun hHeldN => ?_)
      · exact HSX.out _ ((((Below.refl wc.heap.size wc).drew).alloc (Nat.le_refl _) (.cells #[] 36)))
      clear hK K hHeld
      have hHeld := hHeldN
      clear hHeldN
      (try simp only [Act.put, List.setIfInBounds_toArray, List.set_cons_zero, List.set_cons_succ])
      refine wpAnyH_ready (rs := [5, 7]) (by kernel_rfl) (by simp) ?_
      refine AllReadyH.cons (by simp only [List.getElem?_toArray, List.getElem?_cons_succ, List.getElem?_cons_zero]; rfl) (fun K hK => ?_) (AllReadyH.cons (by simp only [List.getElem?_toArray, List.getElem?_cons_succ, List.getElem?_cons_zero]; rfl) (fun K hK => ?_) AllReadyH.nil)
      · refine step_append_any (by rfl) _ _ _ (by rfl) wc.heap.size 36 i1 _ 6 48 Try.underlying28 hi1 hy0 hy1 hy2 rfl (by decide) _ 0 [] (by rfl) HL1.out ⟨gw, 0, none⟩ m cw (cellsE ys) (by rfl) (by rw [cellsE_length, HME.out]) (HNY.out _ (((Below.refl wc.heap.size wc).drew).alloc (Nat.le_refl _) (.cells #[] 36))) HONE.out m (Nat.zero_add m) (cellsE ys) (List.nil_append _) (by unfold maxLen; omega) (by omega) ((((Below.refl wc.heap.size wc).drew).alloc (Nat.le_refl _) (.cells #[] 36))).size ?_
        intro y1 cap1 u5 hown5 hgrow5
        have HO5 := hid hown5
        have HG5 := hid hgrow5
        have HB5 := hid (((((Below.refl wc.heap.size wc).drew).alloc (Nat.le_refl _) (.cells #[] 36))).grown hgrow5 ((((Below.refl wc.heap.size wc).drew).alloc (Nat.le_refl _) (.cells #[] 36))).size (own_ge HL1.out))
        clear hown5 hgrow5
        refine hK.out _ _ ?_ (fun hHeldN => ?_)
        · exact HSX.out _ HB5.out
        clear hK K hHeld
        have hHeld := hHeldN
        clear hHeldN
        (try simp only [Act.put, List.setIfInBounds_toArray, List.set_cons_zero, List.set_cons_succ])
        refine wpAnyH_ready (rs := [7]) (by kernel_rfl) (by simp) ?_
        refine AllReadyH.cons (by simp only [List.getElem?_toArray, List.getElem?_cons_succ, List.getElem?_cons_zero]; rfl) (fun K hK => ?_) AllReadyH.nil
        go_simp
        refine hK.out _ _ ?_ (fun hHeldN => ?_)
        · exact HSX.out _ ((HB5.out.alloc HB5.out.size (.cells #[.int .i64 0, .int .u8 0, .int .u8 0, (.slice xq nq cq), .bool false, .bool false] 36)))
        clear hK K hHeld
        have hHeld := hHeldN
        clear hHeldN
        (try simp only [Act.put, List.setIfInBounds_toArray, List.set_cons_zero, List.set_cons_succ])
        refine wpAnyH_ready (rs := [8]) (by kernel_rfl) (by simp) ?_
        refine AllReadyH.cons (by simp only [List.getElem?_toArray, List.getElem?_cons_succ, List.getElem?_cons_zero]; rfl) (fun K hK => ?_) AllReadyH.nil
        refine step_append_any (by rfl) _ _ _ (by rfl) wc.heap.size 36 i1 _ 6 48 Try.underlying28 hi1 hy0 hy1 hy2 rfl (by decide) _ m (cellsE ys) (by rfl) (HO5.out.alloc (.cells #[.int .i64 0, .int .u8 0, .int .u8 0, (.slice xq nq cq), .bool false, .bool false] 36)) ⟨u5.heap.size, 0, none⟩ 1 1 (evC (dat (x.1.data ++ ed)) (.slice xq nq cq)) (by rfl) (by rfl) (news_six u5 _ _ _ _ _ _ 36) (one_evC _ _ rfl) (m + 1) rfl _ rfl (by unfold maxLen; omega) (by omega) ((HB5.out.alloc HB5.out.size (.cells #[.int .i64 0, .int .u8 0, .int .u8 0, (.slice xq nq cq), .bool false, .bool false] 36))).size ?_
        intro y2 cap2 u8 hown8 hgrow8
        have HO8 := hid hown8
        have HB8 := hid (((HB5.out.alloc HB5.out.size (.cells #[.int .i64 0, .int .u8 0, .int .u8 0, (.slice xq nq cq), .bool false, .bool false] 36))).grown hgrow8 ((HB5.out.alloc HB5.out.size (.cells #[.int .i64 0, .int .u8 0, .int .u8 0, (.slice xq nq cq), .bool false, .bool false] 36))).size (own_ge (HO5.out.alloc (.cells #[.int .i64 0, .int .u8 0, .int .u8 0, (.slice xq nq cq), .bool false, .bool false] 36))))
        clear hown8 hgrow8
        refine hK.out _ _ ?_ (fun hHeldN => ?_)
        · exact HSX.out _ HB8.out
        clear hK K hHeld
        have hHeld := hHeldN
        clear hHeldN
        (try simp only [Act.put, List.setIfInBounds_toArray, List.set_cons_zero, List.set_cons_succ])
        refine takeD (i := 9) (v := ?_) 4 rfl rfl (by kernel_rfl) (by kernel_rfl) (by kernel_rfl) (fun _ _ _ h => h) (by assumption) (Or.inl ⟨by rfl, ?_⟩) ?_
        rotate_left
        · intro w hSw
          (try dsimp only at hSw)
          go_simp
          try with_reducible rfl
        simp only [List.setIfInBounds_toArray, List.set_cons_zero, List.set_cons_succ]
        refine wpAnyH_done (by kernel_rfl) ?_ _
        go_wp2
        go_ret
        exact add_fin HT.out HB.out HBWC.out HOB.out HDNW.out HES.out (by have q := HO8.out; rw [← HME.out]; exact q) HB8.out
      · go_simp
        refine hK.out _ _ ?_ (fun hHeldN => ?_)
        · exact HSX.out _ (((((Below.refl wc.heap.size wc).drew).alloc (Nat.le_refl _) (.cells #[] 36)).alloc (by simp) (.cells #[.int .i64 0, .int .u8 0, .int .u8 0, (.slice xq nq cq), .bool false, .bool false] 36)))
        clear hK K hHeld
        have hHeld := hHeldN
        clear hHeldN
        (try simp only [Act.put, List.setIfInBounds_toArray, List.set_cons_zero, List.set_cons_succ])
        refine wpAnyH_ready (rs := [5]) (by kernel_rfl) (by simp) ?_
        refine AllReadyH.cons (by simp only [List.getElem?_toArray, List.getElem?_cons_succ, List.getElem?_cons_zero]; rfl) (fun K hK => ?_) AllReadyH.nil
        refine step_append_any (by rfl) _ _ _ (by rfl) wc.heap.size 36 i1 _ 6 48 Try.underlying28 hi1 hy0 hy1 hy2 rfl (by decide) _ 0 [] (by rfl) (HL1.out.alloc (.cells #[.int .i64 0, .int .u8 0, .int .u8 0, (.slice xq nq cq), .bool false, .bool false] 36)) ⟨gw, 0, none⟩ m cw (cellsE ys) (by rfl) (by rw [cellsE_length, HME.out]) (HNY.out _ ((((Below.refl wc.heap.size wc).drew).alloc (Nat.le_refl _) (.cells #[] 36)).alloc (by simp) (.cells #[.int .i64 0, .int .u8 0, .int .u8 0, (.slice xq nq cq), .bool false, .bool false] 36))) HONE.out m (Nat.zero_add m) (cellsE ys) (List.nil_append _) (by unfold maxLen; omega) (by omega) (((((Below.refl wc.heap.size wc).drew).alloc (Nat.le_refl _) (.cells #[] 36)).alloc (by simp) (.cells #[.int .i64 0, .int .u8 0, .int .u8 0, (.slice xq nq cq), .bool false, .bool false] 36))).size ?_
        intro y1 cap1 u5 hown5 hgrow5
        have HO5 := hid hown5
        have HG5 := hid hgrow5
        have HB5 := hid ((((((Below.refl wc.heap.size wc).drew).alloc (Nat.le_refl _) (.cells #[] 36)).alloc (by simp) (.cells #[.int .i64 0, .int .u8 0, .int .u8 0, (.slice xq nq cq), .bool false, .bool false] 36))).grown hgrow5 (((((Below.refl wc.heap.size wc).drew).alloc (Nat.le_refl _) (.cells #[] 36)).alloc (by simp) (.cells #[.int .i64 0, .int .u8 0, .int .u8 0, (.slice xq nq cq), .bool false, .bool false] 36))).size (own_ge (HL1.out.alloc (.cells #[.int .i64 0, .int .u8 0, .int .u8 0, (.slice xq nq cq), .bool false, .bool false] 36))))
        clear hown5 hgrow5
        refine hK.out _ _ ?_ (fun hHeldN => ?_)
        · exact HSX.out _ HB5.out
        clear hK K hHeld
        have hHeld := hHeldN
        clear hHeldN
        (try simp only [Act.put, List.setIfInBounds_toArray, List.set_cons_zero, List.set_cons_succ])
        refine wpAnyH_ready (rs := [8]) (by kernel_rfl) (by simp) ?_
        refine AllReadyH.cons (by simp only [List.getElem?_toArray, List.getElem?_cons_succ, List.getElem?_cons_zero]; rfl) (fun K hK => ?_) AllReadyH.nil
        refine step_append_any (by rfl) _ _ _ (by rfl) wc.heap.size 36 i1 _ 6 48 Try.underlying28 hi1 hy0 hy1 hy2 rfl (by decide) _ m (cellsE ys) (by rfl) HO5.out ⟨wc.heap.size + 1, 0, none⟩ 1 1 (evC (dat (x.1.data ++ ed)) (.slice xq nq cq)) (by rfl) (by rfl) (fun j u hu => HG5.out.cell (by have q := news_six (wc.drew.alloc (.cells #[] 36)) (.int .i64 0) (.int .u8 0) (.int .u8 0) (.slice xq nq cq) (.bool false) (.bool false) 36 j u hu; rw [show (wc.drew.alloc (.cells #[] 36)).heap.size = wc.heap.size + 1 by simp] at q; exact q) (by rw [addr_add]; simp [Value.ownBlock])) (one_evC _ _ rfl) (m + 1) rfl _ rfl (by unfold maxLen; omega) (by omega) (HB5.out).size ?_
        intro y2 cap2 u8 hown8 hgrow8
        have HO8 := hid hown8
        have HB8 := hid ((HB5.out).grown hgrow8 (HB5.out).size (own_ge HO5.out))
        clear hown8 hgrow8
        refine hK.out _ _ ?_ (fun hHeldN => ?_)
        · exact HSX.out _ HB8.out
        clear hK K hHeld
        have hHeld := hHeldN
        clear hHeldN
        (try simp only [Act.put, List.setIfInBounds_toArray, List.set_cons_zero, List.set_cons_succ])
        refine takeD (i := 9) (v := ?_) 4 rfl rfl (by kernel_rfl) (by kernel_rfl) (by kernel_rfl) (fun _ _ _ h => h) (by assumption) (Or.inl ⟨by rfl, ?_⟩) ?_
        rotate_left
        · intro w hSw
          (try dsimp only at hSw)
          go_simp
          try with_reducible rfl
        simp only [List.setIfInBounds_toArray, List.set_cons_zero, List.set_cons_succ]
        refine wpAnyH_done (by kernel_rfl) ?_ _
        go_wp2
        go_ret
        exact add_fin HT.out HB.out HBWC.out HOB.out HDNW.out HES.out (by have q := HO8.out; rw [← HME.out]; exact q) HB8.out
    · go_simp
      refine hK.out _ _ ?_ (fun hHeldN => ?_)
      · exact HSX.out _ ((((Below.refl wc.heap.size wc).drew).alloc (Nat.le_refl _) (.cells #[.int .i64 0, .int .u8 0, .int .u8 0, (.slice xq nq cq), .bool false, .bool false] 36)))
      clear hK K hHeld
      have hHeld := hHeldN
      clear hHeldN
      (try simp only [Act.put, List.setIfInBounds_toArray, List.set_cons_zero, List.set_cons_succ])
      refine wpAnyH_ready (rs := [0]) (by kernel_rfl) (by simp) ?_
      refine AllReadyH.cons (by simp only [List.getElem?_toArray, List.getElem?_cons_zero]; rfl) (fun K hK => ?_) AllReadyH.nil
      go_simp
      refine hK.out _ _ ?_ (fun hHeldN => ?_)
      · exact HSX.out _ (((((Below.refl wc.heap.size wc).drew).alloc (Nat.le_refl _) (.cells #[.int .i64 0, .int .u8 0, .int .u8 0, (.slice xq nq cq), .bool false, .bool false] 36)).alloc (by simp) (.cells #[] 36)))
      clear hK K hHeld
      have hHeld := hHeldN
      clear hHeldN
      (try simp only [Act.put, List.setIfInBounds_toArray, List.set_cons_zero, List.set_cons_succ])
      refine wpAnyH_ready (rs := [5]) (by kernel_rfl) (by simp) ?_
      refine AllReadyH.cons (by simp only [List.getElem?_toArray, List.getElem?_cons_succ, List.getElem?_cons_zero]; rfl) (fun K hK => ?_) AllReadyH.nil
      refine step_append_any (by rfl) _ _ _ (by rfl) wc.heap.size 36 i1 _ 6 48 Try.underlying28 hi1 hy0 hy1 hy2 rfl (by decide) _ 0 [] (by rfl) HL2.out ⟨gw, 0, none⟩ m cw (cellsE ys) (by rfl) (by rw [cellsE_length, HME.out]) (HNY.out _ ((((Below.refl wc.heap.size wc).drew).alloc (Nat.le_refl _) (.cells #[.int .i64 0, .int .u8 0, .int .u8 0, (.slice xq nq cq), .bool false, .bool false] 36)).alloc (by simp) (.cells #[] 36))) HONE.out m (Nat.zero_add m) (cellsE ys) (List.nil_append _) (by unfold maxLen; omega) (by omega) (((((Below.refl wc.heap.size wc).drew).alloc (Nat.le_refl _) (.cells #[.int .i64 0, .int .u8 0, .int .u8 0, (.slice xq nq cq), .bool false, .bool false] 36)).alloc (by simp) (.cells #[] 36))).size ?_
      intro y1 cap1 u5 hown5 hgrow5
      have HO5 := hid hown5
      have HG5 := hid hgrow5
      have HB5 := hid ((((((Below.refl wc.heap.size wc).drew).alloc (Nat.le_refl _) (.cells #[.int .i64 0, .int .u8 0, .int .u8 0, (.slice xq nq cq), .bool false, .bool false] 36)).alloc (by simp) (.cells #[] 36))).grown hgrow5 (((((Below.refl wc.heap.size wc).drew).alloc (Nat.le_refl _) (.cells #[.int .i64 0, .int .u8 0, .int .u8 0, (.slice xq nq cq), .bool false, .bool false] 36)).alloc (by simp) (.cells #[] 36))).size (own_ge HL2.out))
      clear hown5 hgrow5
      refine hK.out _ _ ?_ (fun hHeldN => ?_)
      · exact HSX.out _ HB5.out
      clear hK K hHeld
      have hHeld := hHeldN
      clear hHeldN
      (try simp only [Act.put, List.setIfInBounds_toArray, List.set_cons_zero, List.set_cons_succ])
      refine wpAnyH_ready (rs := [8]) (by kernel_rfl) (by simp) ?_
      refine AllReadyH.cons (by simp only [List.getElem?_toArray, List.getElem?_cons_succ, List.getElem?_cons_zero]; rfl) (fun K hK => ?_) AllReadyH.nil
      refine step_append_any (by rfl) _ _ _ (by rfl) wc.heap.size 36 i1 _ 6 48 Try.underlying28 hi1 hy0 hy1 hy2 rfl (by decide) _ m (cellsE ys) (by rfl) HO5.out ⟨wc.heap.size, 0, none⟩ 1 1 (evC (dat (x.1.data ++ ed)) (.slice xq nq cq)) (by rfl) (by rfl) (fun j u hu => HG5.out.cell (keepc ((Below.refl _ _).alloc (Nat.le_refl _) _) (news_six wc.drew (.int .i64 0) (.int .u8 0) (.int .u8 0) (.slice xq nq cq) (.bool false) (.bool false) 36 j u hu)) (by rw [addr_add]; simp [Value.ownBlock])) (one_evC _ _ rfl) (m + 1) rfl _ rfl (by unfold maxLen; omega) (by omega) (HB5.out).size ?_
      intro y2 cap2 u8 hown8 hgrow8
      have HO8 := hid hown8
      have HB8 := hid ((HB5.out).grown hgrow8 (HB5.out).size (own_ge HO5.out))
      clear hown8 hgrow8
      refine hK.out _ _ ?_ (fun hHeldN => ?_)
      · exact HSX.out _ HB8.out
      clear hK K hHeld
      have hHeld := hHeldN
      clear hHeldN
      (try simp only [Act.put, List.setIfInBounds_toArray, List.set_cons_zero, List.set_cons_succ])
      refine takeD (i := 9) (v := ?_) 4 rfl rfl (by kernel_rfl) (by kernel_rfl) (by kernel_rfl) (fun _ _ _ h => h) (by assumption) (Or.inl ⟨by rfl, ?_⟩) ?_
      rotate_left
      · intro w hSw
        (try dsimp only at hSw)
        go_simp
        try with_reducible rfl
      simp only [List.setIfInBounds_toArray, List.set_cons_zero, List.set_cons_succ]
      refine wpAnyH_done (by kernel_rfl) ?_ _
      go_wp2
      go_ret
      exact add_fin HT.out HB.out HBWC.out HOB.out HDNW.out HES.out (by have q := HO8.out; rw [← HME.out]; exact q) HB8.out
end Go.Proofs.Ytdbjjieoohfckaa
