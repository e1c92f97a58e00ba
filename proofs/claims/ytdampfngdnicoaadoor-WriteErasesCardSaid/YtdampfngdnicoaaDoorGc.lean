/-
  The unprotected fields marked as not modified: unmodify; Unprotected.
-/
import Derived.Test.YtdampfngdnicoaaDoorGb
namespace Go.Proofs.YtdampfngdnicoaaDoor
open Go.RowKit Go.Lib Go.Deep

/-- The protected ones among the first so many. -/
def kpL (s : Spc) (l : List Nat) (k : Nat) : List Nat := (l.take k).filter (fun a => (s.cel a).prot)
theorem kpL_succ (s : Spc) {l : List Nat} {k x : Nat} (h : l[k]? = some x) : kpL s l (k + 1) = if (s.cel x).prot then kpL s l k ++ [x] else kpL s l k := by
  unfold kpL
  have hk : k < l.length := by
    rcases Nat.lt_or_ge k l.length with q | q
    · exact q
    · rw [List.getElem?_eq_none q] at h; cases h
  have hx : l[k] = x := by rw [List.getElem?_eq_getElem hk] at h; exact Option.some.inj h
  rw [List.take_succ_eq_append_getElem hk, List.filter_append, hx]
  cases hp : (s.cel x).prot
  · simp [hp]
  · simp [hp]
/-- Fields modified, one by one. -/
def moR (s : Spc) (l : List Nat) : Nat → Spc
  | 0 => s
  | k + 1 => modS (moR s l k) (l.getD k 0 : Nat)
def kpS (s : Spc) : List Nat := kpL s (mdS s s.A) (mdS s s.A).length
def unmS (s : Spc) : Spc := moR (unS s s.A.length) (kpS s) (kpS s).length
def nxZ (s : Spc) : Int := seekZ s (s.wr ((s.L.length : Int) - 1)) 1
def unpS (s : Spc) : Spc := (unmS (rngS s 0 0)).place (max (nxZ (unmS (rngS s 0 0))) 0)
section
variable {b g : Nat} {s : Spc}
attribute [local go_sem] Oper.semAt_some
set_option maxRecDepth 100000 in
set_option maxHeartbeats 8000000 in
theorem unmodify_in (m : Nat) (hm : 10 ≤ m) (w : World) (h : SpM w b g s) :
    CallsIn Fence.wide m Tryd.prog 56 #[.pointer (some ⟨b, 0, none⟩)] w (SpD b g (unmS s) w) := by
  obtain ⟨i0, hi, hz0, hz1, hz2⟩ := info_parts infoI
  have hok := h.ok
  have hN := hok.pos
  have hbw := h.lt.1
  have hgw := h.lt.2
  have HSP := hid (fun V (hb : Below w.heap.size w V) => h.below hb)
  have HMO := hid (fun (x : Nat) (hx : x < 10000) W (t : Spc) (ht : SpM W b g t) => modify_any (b := b) (g := g) (s := t) (x : Int) (i64_small (by omega) (by omega)) W ht)
  have HMD := hid (fun x (hx : x ∈ mdS s s.A) => (show x < s.L.length ∧ s.P x = true from attP_mem (List.mem_filter.1 hx).1))
  have HML := hid (show (mdS s s.A).length ≤ 3564 from Nat.le_trans (List.length_filter_le _ _) (Nat.le_trans (show s.A.length ≤ s.L.length by unfold Spc.A attP; exact Nat.le_trans (List.length_filter_le _ _) (by rw [List.length_range]; exact Nat.le_refl _)) (by omega)))
  have HOF := hid (fun (x : Nat) (hx : x < s.L.length) (hp : s.P x = true) W (hW : SpM W b g s) => fof_yes (b := b) (g := g) (s := s) (x : Int) (i64_small (by omega) (by omega)) x (by rw [wr_nat hx]; exact stF_self (by omega) hp) W hW)
  have HSQ := hid (fun bs V => (show SeqF Fence.wide (m - 1) Tryd.prog 94 #[.pointer (some ⟨bs, 0, none⟩)] encI (fun k x _ => (mdS s s.A)[k]? = some x) (mdS s s.A).length (RFs bs b g s) V from modified_seq (m - 1) (by omega) bs b g s hN V))
  have HUN := hid (fun V (hV : SpM V b g s) => unmod_in (b := b) (g := g) (s := s) (m - 1) (by omega) V hV)
  unfold unmS kpS
  generalize unS s s.A.length = us at HUN ⊢
  generalize mdS s s.A = ml at HMD HML HSQ ⊢
  obtain ⟨kl, hkl⟩ : ∃ kl, kpL s ml ml.length = kl := ⟨_, rfl⟩
  obtain ⟨n, hn⟩ : ∃ n, kl.length = n := ⟨_, rfl⟩
  rw [hkl, hn]
  have HKL := hid hkl
  have HN := hid hn
  clear h hkl hn
  refine callsIn_of_wp_marks Tryd.func56 rfl trivial ?_ rfl
  simp only [Tryd.ntmps56, List.size_toArray, List.length_cons, List.length_nil, Nat.reduceAdd, Nat.reduceSub, Array.replicate_succ, Array.replicate_zero, List.push_toArray, List.append_toArray, List.nil_append, List.cons_append]
  gi_wp2
  obtain ⟨a0, ha0⟩ : ∃ a0, w.alloc (.cells #[.pointer (some ⟨b, 0, none⟩)] 25) = a0 := ⟨_, rfl⟩
  have hz0' : a0.heap.size = w.heap.size + 1 := by rw [← ha0]; simp
  have hb0 : Below w.heap.size w a0 := by rw [← ha0]; exact bal (Below.refl _ _) _
  have c0 : a0.cell? ⟨w.heap.size, 0, none⟩ = some (.pointer (some ⟨b, 0, none⟩)) := by rw [← ha0]; simp [go_sem]
  obtain ⟨a1, ha1⟩ : ∃ a1, a0.alloc (.cells #[.slice none 0 0] 39) = a1 := ⟨_, rfl⟩
  have hz1' : a1.heap.size = w.heap.size + 2 := by rw [← ha1]; simp; omega
  have hb1 : Below a0.heap.size a0 a1 := by rw [← ha1]; exact bal (Below.refl _ _) _
  have oc : a1.cell? ⟨w.heap.size + 1, 0, none⟩ = some (.slice none 0 0) := by rw [← ha1, ← hz0']; simp [go_sem]
  have of : a1.frozen? ⟨w.heap.size + 1, 0, none⟩ = false := by rw [← ha1, ← hz0']; simp [go_sem]
  have HBL := hid (show Below w.heap.size w a1 from below_t hb0 hb1)
  have HC0 := hid (And.intro (keepc hb1 c0) (And.intro oc of))
  simp only [ha0, ha1]
  clear hz0' hb0 ha0 ha1 hb1 c0 oc of
  refine ⟨trivial, fun _ => (by omega), ?_⟩
  refine (callsIn_wide.2 (modifiedIt_any b _)).mono ?_
  rintro e w1 ⟨bs, rfl, hbs, hcs, hb1⟩
  have HB1 := hid (below_t HBL.out hb1)
  have hzw := hb1.size
  have hlz : w.heap.size ≤ w1.heap.size := HB1.out.size
  have HI0 := hid (show (w1.cell? ⟨w.heap.size, 0, none⟩ = some (.pointer (some ⟨b, 0, none⟩)) ∧ w1.cell? ⟨bs, 0, none⟩ = some (.pointer (some ⟨b, 0, none⟩)) ∧ bs ∉ ([] : List Nat) ∧ Acc w1.heap.size (w.heap.size + 1) 3 1 (intsV ((kpL s ml 0).map Int.ofNat)) (kpL s ml 0).length ([] : List Nat) w1 ∧ Below w.heap.size w w1) from ⟨keepc hb1 HC0.out.1, hcs, by simp, ⟨⟨.slice none 0 0, keepc hb1 HC0.out.2.1, (hb1.frozen (p := ⟨w.heap.size + 1, 0, none⟩) (by show w.heap.size + 1 < a1.heap.size; omega)).trans HC0.out.2.2, by
    have e : kpL s ml 0 = [] := by simp [kpL]
    rw [e]
    exact World.ownsRow_nil _ _ _ _, fun _ q => (by cases q)⟩, by omega, fun _ q => (by cases q)⟩, HB1.out⟩)
  have hbs' : w.heap.size + 2 ≤ bs := by omega
  have hw12 : w.heap.size + 2 ≤ w1.heap.size := by omega
  clear hb1 hbs hcs HC0 HBL hz1'
  gi_wp2
  refine rangeFunc_seq (n := m) (w := w1) rfl (by omega) (gf := 94) (lb := #[.pointer (some ⟨bs, 0, none⟩)]) rfl trivial (enters_of Tryd.func94 (by kernel_rfl) rfl)
    (encs := encI) (fun _ => rfl) (el := fun k x _ => ml[k]? = some x) (N := ml.length) (R := RFs bs b g s)
    (fun k S V => (V.cell? ⟨w.heap.size, 0, none⟩ = some (.pointer (some ⟨b, 0, none⟩)) ∧ V.cell? ⟨bs, 0, none⟩ = some (.pointer (some ⟨b, 0, none⟩)) ∧ bs ∉ S ∧ Acc w1.heap.size (w.heap.size + 1) 3 1 (intsV ((kpL s ml k).map Int.ofNat)) (kpL s ml k).length S V ∧ Below w.heap.size w V)) (fun _ _ _ _ => False) ?hI ?hIx ?hR HI0.out
    (fun k S x a V => (V.cell? ⟨w.heap.size, 0, none⟩ = some (.pointer (some ⟨b, 0, none⟩)) ∧ V.cell? ⟨bs, 0, none⟩ = some (.pointer (some ⟨b, 0, none⟩)) ∧ bs ∉ S ∧ Acc w1.heap.size (w.heap.size + 1) 3 1 (intsV ((kpL s ml k).map Int.ofNat)) (kpL s ml k).length S V ∧ Below w.heap.size w V) ∧ ml[k]? = some x ∧ a = { tmps := #[.pointer (some ⟨b, 0, none⟩), .pointer (some ⟨w.heap.size, 0, none⟩), .pointer (some ⟨w.heap.size + 1, 0, none⟩), .int .i64 (x : Nat), undef, undef, undef, undef, .pointer (some ⟨b, 0, none⟩), .func (.func 94) #[] #[.pointer (some ⟨bs, 0, none⟩)], .int .i64 (x : Nat), undef, undef, undef, undef, undef, undef, undef, undef, undef, undef, undef, undef, undef, undef, undef, undef, undef, undef, undef, undef, undef, undef, undef, undef], defers := [] }) ?hAx ?assign ?body ?iter ?done ?stop
  case hI => exact fun k S A C hg ⟨h1, h2, h3, h4, h5⟩ => ⟨cell_grow hg h1, cell_grow hg h2, h3, h4.grow hg, below_grow h5 hg hlz (Nat.le_refl _)⟩
  case hIx => exact fun c k S A C hg h => h.elim
  case hR => exact fun k S V h => ⟨h.2.1, HSP.out V h.2.2.2.2⟩
  case hAx => exact fun k S x a A C hg ⟨⟨h1, h2, h3, h4, h5⟩, h8, h9⟩ => ⟨⟨cell_grow hg h1, cell_grow hg h2, h3, h4.grow hg, below_grow h5 hg hlz (Nat.le_refl _)⟩, h8, h9⟩
  case iter => exact fun o1 o2 _ _ => HSQ.out bs _
  case assign =>
    rintro l' k x S V KK hk hx1 hi' hsz hK
    have HK := hid hK
    have HI := hid hi'
    clear hK hi'
    gi_wp2
    exact HK.out _ _ (Touch.refl _ _ _) ⟨HI.out, hx1, by first | rfl | simp⟩
  case body =>
    rintro l' k x S a' V hk ⟨hJ, hx, rfl⟩ hsz
    have HJ := hid hJ
    obtain ⟨hxl, hxp⟩ := HMD.out x (List.mem_of_getElem? hx)
    have HOFx := hid (show ∀ W, SpM W b g s → Calls Tryd.prog 73 #[.pointer (some ⟨b, 0, none⟩), .int .i64 (x : Nat)] W fun e w' => e = .returned (.tuple #[.agg #[.bool (ofP (s.cel x).fa.toNat), .bool (ofN (s.cel x).fa.toNat), .int .i64 (ofD (s.cel x).fa.toNat), .bool (ofM (s.cel x).fa.toNat)], .bool true]) ∧ Below W.heap.size W w' from HOF.out x hxl hxp)
    have HKP := hid (kpL_succ s hx)
    have hpr : (s.cel x).prot = ofP (s.cel x).fa.toNat := rfl
    rw [hpr] at HKP
    generalize ofP (s.cel x).fa.toNat = pr at HOFx HKP
    generalize ofN (s.cel x).fa.toNat = n1 at HOFx
    generalize ofD (s.cel x).fa.toNat = d1x at HOFx
    generalize ofM (s.cel x).fa.toNat = m1 at HOFx
    have c1 := hJ.1
    have l1 := World.block_lt_of_cell? V _ c1
    have hkl : (kpL s ml k).length ≤ 3564 := Nat.le_trans (List.length_filter_le _ _) (Nat.le_trans (by rw [List.length_take]; omega) HML.out)
    clear hJ hx hpr
    gi_wp2
    refine ⟨trivial, fun _ => (by omega), ?_⟩
    refine (callsIn_wide.2 (HOFx.out _ (HSP.out V HJ.out.2.2.2.2))).mono ?_
    rintro e w4 ⟨rfl, hb4⟩
    obtain ⟨w5, hw5⟩ : ∃ w5, w4.alloc (.cells #[.bool pr, .bool n1, .int .i64 d1x, .bool m1] 126) = w5 := ⟨_, rfl⟩
    have HB5 := hid (show Below V.heap.size V w5 by rw [← hw5]; exact bal hb4 _)
    have e0 : w5.cell? ⟨w4.heap.size, 0, none⟩ = some (.bool pr) := by rw [← hw5]; simp [go_sem]
    have l5 := World.block_lt_of_cell? w5 _ e0
    have HA5 := hid (HJ.out.2.2.2.1.grow (Grow.below HB5.out 0))
    obtain ⟨v, hv, hf, hrow, hbl⟩ := HA5.out.ex
    have hlt := World.block_lt_of_cell? w5 _ hv
    have hmV : w1.heap.size ≤ w5.heap.size := by have := HB5.out.size; omega
    have HROW := hid hrow
    have HV := hid hv
    clear hb4 hrow hbl
    cases pr
    · rw [if_neg (by simp)] at HKP
      gi_wp2
      try simp only [hw5]
      exact ⟨S, Touch.below HB5.out _ S, keepc HB5.out HJ.out.1, keepc HB5.out HJ.out.2.1, HJ.out.2.2.1, by rw [HKP.out]; exact HA5.out, below_t HJ.out.2.2.2.2 HB5.out⟩
    · rw [if_pos rfl] at HKP
      obtain ⟨y0, cap0, rfl⟩ := row_any HROW.out
      gi_wp2_with (gi_at_builtin; refine wpListIn_append_blk _ rfl _ _ 39 rfl 3 i0 _ 1 8 Tryd.underlying39 hi hz0 hz1 hz2 rfl (by decide) _ (kpL s ml k).length (intsV ((kpL s ml k).map Int.ofNat)) rfl (HROW.out.alloc _) ⟨w5.heap.size, 0, none⟩ 1 1 [.int .i64 x] rfl rfl (one_new w5 _ _ _ rfl) (by simp [Value.oneCell']) (by unfold maxLen; omega) (by omega) ?_; intro v' W1 hown' hgrow hb'; obtain ⟨s1, s2, s3, s4, s5, s6, s7⟩ := HA5.out.step HV.out hown' hgrow hb' hmV; obtain ⟨g', cap', rfl⟩ := row_any hown'; have S1 := hid s4; have S2 := hid s5; have S3 := hid (s6 _ _ (by omega) (below_t HJ.out.2.2.2.2 HB5.out)); have S7 := hid s7; clear hown' hgrow hb' s4 s5 s6 s7)
      have hbsl := World.block_lt_of_cell? w5 _ (keepc HB5.out HJ.out.2.1)
      have hk1 : (W1.setCell ⟨w.heap.size + 1, 0, none⟩ (.slice g' ((kpL s ml k).length + 1) cap')).cell? ⟨w.heap.size, 0, none⟩ = some (.pointer (some ⟨b, 0, none⟩)) := (World.cell?_of_block (a := ⟨w.heap.size, 0, none⟩) (S7.out w.heap.size (World.block_lt_of_cell? w5 _ (keepc HB5.out HJ.out.1)) (by omega) (fun q => by have := HA5.out.ms _ q; omega))).trans (keepc HB5.out HJ.out.1)
      have hk2 : (W1.setCell ⟨w.heap.size + 1, 0, none⟩ (.slice g' ((kpL s ml k).length + 1) cap')).cell? ⟨bs, 0, none⟩ = some (.pointer (some ⟨b, 0, none⟩)) := (World.cell?_of_block (a := ⟨bs, 0, none⟩) (S7.out bs hbsl (by omega) HJ.out.2.2.1)).trans (keepc HB5.out HJ.out.2.1)
      refine ⟨_, (Touch.below HB5.out _ S).trans S2.out, hk1, hk2, notin_touch S2.out HJ.out.2.2.1 hbsl, ?_, S3.out⟩
      rw [HKP.out, List.map_append, List.length_append, show intsV (List.map Int.ofNat (kpL s ml k) ++ List.map Int.ofNat [x]) = intsV (List.map Int.ofNat (kpL s ml k)) ++ [.int .i64 x] by simp [intsV]]
      exact S1.out
  case done =>
    rintro D S V hD ⟨h1, h2, h3, h4, h5⟩ hK
    obtain ⟨v, hv, hf, hrow, hbl⟩ := h4.ex
    have hms := h4.ms
    have HKB := hid (fun a (ha : a ∈ kpL s ml ml.length) => HMD.out a (List.mem_of_mem_take (List.mem_filter.1 ha).1))
    have hkn : (kpL s ml ml.length).length ≤ 3564 := Nat.le_trans (List.length_filter_le _ _) (Nat.le_trans (by rw [List.length_take]; omega) HML.out)
    have l1 := World.block_lt_of_cell? V _ h1
    have HUNk := hid (HUN.out V (HSP.out V h5))
    have HK := hid hK
    have H1 := hid h1
    have HV := hid hv
    have HR := hid hrow
    have HBK := hid (fun k (hk : k ∈ blkV v) => hms k (hbl k hk))
    have H5 := hid h5
    rw [HKL.out] at HKB HR hkn
    rw [HN.out] at HR hkn
    clear hK h5 h4 h3 h2 hv hf hrow hbl hms
    obtain ⟨y, cap, rfl⟩ := row_any HR.out
    gi_wp2
    refine ⟨trivial, fun _ => (by omega), ?_⟩
    refine HUNk.out.mono ?_
    rintro e w3 ⟨⟨v3, rfl⟩, hs3, hm3⟩
    have HS3 := hid hs3
    have HM3 := hid ((Moved.below H5.out [b, g]).trans hm3)
    have HR3 := hid (own_moved HR.out hm3 (fun k hk q => by have := HBK.out k hk; simp at q; omega))
    have HC3 := hid (cell_moved hm3 H1.out (by simp; omega))
    have c3 := cell_moved hm3 HV.out (by simp; omega)
    have l3 := World.block_lt_of_cell? w3 _ c3
    have HD3 := hid ((hm3.block D (Array.getElem?_eq_some_iff.1 HK.out).1 (by simp; omega)).trans HK.out)
    clear hs3 hm3 h1 l1
    gi_wp2
    gi_loopw [27] (fun i W => ∃ k : Nat, k ≤ n ∧ i = .int .i64 k ∧ Hid (SpM W b g (moR us kl k)) ∧ Hid (Moved w W [b, g] [b, g]) ∧ Hid (W.ownsRow 0 3 1 (.slice y n cap) n (intsV (kl.map Int.ofNat))) ∧ Hid (W.cell? ⟨w.heap.size, 0, none⟩ = some (.pointer (some ⟨b, 0, none⟩))) ∧ Hid (W.heap[D]? = V.heap[D]?)) (fun i _ => n - (RowKit.intOf i).toNat)
    case atStart => exact ⟨0, by omega, rfl, HS3.out, HM3.out, HR3.out, HC3.out, HD3.out.trans HK.out.symm⟩
    case round =>
      obtain ⟨k, hk, rfl, HSw, HMw, HRw, HCw, HDw⟩ := hrel
      by_cases hlt : k < n
      · have hki : (k : Int) < n := by omega
        obtain ⟨gk, hgk⟩ : ∃ gk, y = some ⟨gk, 0, none⟩ := by
          rcases HRw.out.2 with ⟨e, e2⟩ | ⟨gk, cp, cur, e, _⟩
          · omega
          · injection e with e _ _; exact ⟨gk, e⟩
        subst hgk
        have hkl : k < kl.length := by rw [HN.out]; exact hlt
        have hx := HKB.out kl[k] (List.getElem_mem hkl)
        have hxd : kl.getD k 0 = kl[k] := by rw [List.getD_eq_getElem?_getD, List.getElem?_eq_getElem hkl]; rfl
        have ce : wr.cell? ⟨gk, k, none⟩ = some (.int .i64 (kl[k] : Nat)) := by
          rw [World.ownsRow.cellAt HRw.out k (by omega)]
          simp [intsV, List.getElem?_eq_getElem hkl]
        have HMk := hid (HMO.out kl[k] (by omega) wr _ HSw.out)
        have HNX := hid (show moR us kl (k + 1) = modS (moR us kl k) (kl[k] : Nat) by show modS _ (kl.getD k 0 : Nat) = _; rw [hxd])
        generalize kl[k] = x at hx ce HMk HNX
        have cw := HCw.out
        have lw := World.block_lt_of_cell? wr _ cw
        have lk := World.block_lt_of_cell? wr _ ce
        clear hxd hkl
        gi_wp2
        refine ⟨trivial, fun _ => (by omega), ?_⟩
        refine (callsIn_wide.2 HMk.out).mono ?_
        rintro e w6 ⟨rfl, hs6, hm6⟩
        have HS6 := hid hs6
        have HM6 := hid hm6
        clear hs6 hm6 ce cw lw lk
        gi_wp2
        go_roundw
        case rel => exact ⟨k + 1, by omega, by go_num, by show SpM _ _ _ (moR us kl (k + 1)); rw [HNX.out]; exact HS6.out, HMw.out.trans HM6.out, own_moved HRw.out HM6.out (fun j hj q => by have := HBK.out j hj; simp at q; omega), cell_moved HM6.out HCw.out (by simp; omega), (HM6.out.block D (by have := (Array.getElem?_eq_some_iff.1 (HDw.out.trans HK.out)).1; exact this) (by simp; omega)).trans HDw.out⟩
        case measure => simp [RowKit.intOf]; omega
      · obtain rfl : k = n := by omega
        have HD4 := hid (HDw.out.trans HK.out)
        gi_wp2
        refine ⟨by simp, .inl ⟨_, _, rfl, run_takeDeferred HD4.out, ?_⟩⟩
        have hg := Grow.put (m := w1.heap.size) (.deferred none) hD HD4.out rfl
        exact ⟨_, results_none rfl _ _ _, ⟨_, rfl⟩, HSw.out.grow hg, moved_grow HMw.out hg hlz⟩
  case stop => exact fun _ _ _ _ _ _ _ h => h.elim
set_option maxRecDepth 100000 in
set_option maxHeartbeats 4000000 in
theorem unprotected_any (w : World) (h : SpM w b g s) : Calls Tryd.prog 33 #[.pointer (some ⟨b, 0, none⟩)] w (SpD b g (unpS s) w) := by
  have HRA := hid (callsIn_wide.1 (range_in (b := b) (g := g) (s := s) 10 (by omega) 0 0 ⟨by decide, by decide⟩ ⟨by decide, by decide⟩ w h))
  have HUM := hid (fun W (t : Spc) (ht : SpM W b g t) => callsIn_wide.1 (unmodify_in (b := b) (g := g) (s := t) 10 (by omega) W ht))
  have HSZ := hid (fun W (t : Spc) (ht : SpM W b g t) => size_any (b := b) (g := g) (s := t) W ht)
  have HCL := hid (fun W (t : Spc) (ht : SpM W b g t) => (show Calls Tryd.prog 44 #[sizeV t.r t.c] W fun e w' => e = .returned (.int .i64 t.L.length) ∧ Below W.heap.size W w' from by
    have q := cells_ok t.r t.c ht.ok.sz W
    rwa [← ht.ok.len] at q))
  have HNX := hid (fun (n : Int) (hn : I64 n) W (t : Spc) (ht : SpM W b g t) => next_any (b := b) (g := g) (s := t) n hn W ht)
  have HPL := hid (fun (n : Int) (hn : I64 n) W (t : Spc) (ht : SpM W b g t) => place_any (b := b) (g := g) (s := t) n hn W ht)
  obtain ⟨us, hus⟩ : ∃ us, unpS s = us := ⟨_, rfl⟩
  rw [hus]
  have HUS := hid hus
  obtain ⟨t0, ht0⟩ : ∃ t0, rngS s 0 0 = t0 := ⟨_, rfl⟩
  rw [ht0] at HRA
  have HT0 := hid ht0
  clear hus ht0
  go_enter Tryd.func33, Tryd.ntmps33
  go_wp2_with fail
  with_reducible refine HRA.out.mono ?_
  rintro e w1 ⟨⟨v1, rfl⟩, hs1, hm1⟩
  have HS1 := hid hs1
  have HM1 := hid hm1
  clear hs1 hm1
  go_wp2_with fail
  with_reducible refine (HUM.out _ _ HS1.out).mono ?_
  rintro e w2 ⟨⟨v2, rfl⟩, hs2, hm2⟩
  have HS2 := hid hs2
  have HM2 := hid (HM1.out.trans hm2)
  clear hs2 hm2
  obtain ⟨t, ht⟩ : ∃ t, unmS t0 = t := ⟨_, rfl⟩
  rw [ht] at HS2
  have HT := hid ht
  clear ht
  have hN := HS2.out.ok.pos
  go_wp2_with fail
  with_reducible refine (HSZ.out _ _ HS2.out).mono ?_
  rintro e w3 ⟨rfl, hb3⟩
  have HB3 := hid hb3
  clear hb3
  go_wp2_with fail
  with_reducible refine (HCL.out _ _ (HS2.out.below HB3.out)).mono ?_
  rintro e w4 ⟨rfl, hb4⟩
  have HB4 := hid (below_t HB3.out hb4)
  clear hb4
  have HNk := hid (HNX.out ((t.L.length : Int) - 1) (i64_small (by omega) (by omega)) w4 t (HS2.out.below HB4.out))
  have hl1 : (1 : Int) ≤ t.L.length := by omega
  have hl2 : (t.L.length : Int) ≤ 3564 := by omega
  have hl3 : (0 : Int) ≤ (t.L.length : Int) - 1 := by omega
  have HRB := hid (fun r (hr : SeekR t (t.wr ((t.L.length : Int) - 1)) 1 r) => seek_i64 HS2.out.ok hr)
  have HNZ := hid (fun r (hr : SeekR t (t.wr ((t.L.length : Int) - 1)) 1 r) => (show r = nxZ t from hr.is))
  go_wp2_with fail
  with_reducible refine HNk.out.mono ?_
  rintro e w5 ⟨⟨r, rfl, hr⟩, hb5⟩
  have HB5 := hid (below_t HB4.out hb5)
  have hri := HRB.out r hr
  have HNR := hid (HNZ.out r hr)
  have HUE := hid (show us = t.place (max r 0) by rw [← HUS.out]; unfold unpS; rw [HT0.out, HT.out, ← HNR.out])
  clear hb5 hr
  have HPr := hid (HPL.out r hri w5 t (HS2.out.below HB5.out))
  have HP0 := hid (HPL.out 0 ⟨by decide, by decide⟩ w5 t (HS2.out.below HB5.out))
  clear hri
  by_cases hr0 : r < 0
  · have HMX := hid (show max r 0 = 0 by omega)
    go_wp2_with fail
    with_reducible refine HP0.out.mono ?_
    rintro e w6 ⟨⟨v6, rfl⟩, hs6, hm6⟩
    have HS6 := hid hs6
    have HM6 := hid ((HM2.out.trans (Moved.below HB5.out _)).trans hm6)
    clear hs6 hm6
    go_wp2
    go_end0
    exact ⟨⟨_, rfl⟩, by rw [HUE.out, HMX.out]; exact HS6.out, HM6.out⟩
  · have HMX := hid (show max r 0 = r by omega)
    go_wp2_with fail
    with_reducible refine HPr.out.mono ?_
    rintro e w6 ⟨⟨v6, rfl⟩, hs6, hm6⟩
    have HS6 := hid hs6
    have HM6 := hid ((HM2.out.trans (Moved.below HB5.out _)).trans hm6)
    clear hs6 hm6
    go_wp2
    go_end0
    exact ⟨⟨_, rfl⟩, by rw [HUE.out, HMX.out]; exact HS6.out, HM6.out⟩
end
end Go.Proofs.YtdampfngdnicoaaDoor
