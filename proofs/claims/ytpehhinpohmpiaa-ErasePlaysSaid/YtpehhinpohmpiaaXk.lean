/-
  The reference's Unprotected.
-/
import Derived.Test.YtpehhinpohmpiaaXi
import Derived.Test.YtpehhinpohmpiaaCc
namespace Go.Proofs.Ytpehhinpohmpiaa
open Go.RowKit Go.Lib Go.Deep

theorem mk_same_tab : ∀ k : Nat, k < 256 → sixB (k : Int) = (k : Int) → sixB (markB (k : Int) (ofM k)) = (k : Int) := by decide +kernel
theorem mkF_same {c : Cel} (h : c.OK) (ha : c.at_ = true) (hf : fit c = c) : mkF c c.modi = c := by
  obtain ⟨k, hk, e⟩ := u8_nat h.fa
  have t := mk_same_tab k hk
  obtain ⟨c0, c1, c2, c3, c4, c5⟩ := c
  dsimp only at e ha
  subst e ha
  unfold fit at hf
  simp only [if_true, Cel.mk.injEq] at hf
  have q := t hf.2.2.1
  show fit _ = _
  unfold fit Cel.mk1 Cel.modi
  simp only [if_true, Int.toNat_natCast, q, Cel.mk.injEq, and_true, true_and]
  exact hf.1
/-- The unprotected attributes, unmarked one after the other. -/
def unP (s : Spc) : Nat → Spc
  | 0 => s
  | k + 1 => if (s.cel (s.A.getD k 0)).prot then unP s k else mkS (unP s k) (s.A.getD k 0) false
theorem unP_hd (s : Spc) : ∀ k, SameHd s (unP s k)
  | 0 => SameHd.refl s
  | k + 1 => by
    show SameHd s (if _ then _ else _)
    split
    · exact unP_hd s k
    · exact (unP_hd s k).mark _ _
theorem unP_ok {s : Spc} (h : s.OK) : ∀ k, (unP s k).OK
  | 0 => h
  | k + 1 => by
    show (if _ then _ else _ : Spc).OK
    split
    · exact unP_ok h k
    · exact mkS_ok (unP_ok h k) _ _
theorem unP_prot {s : Spc} (h : s.OK) {i : Nat} (hi : i < s.L.length) (hp : s.P i = true) : ∀ k, ((unP s k).cel i).prot = (s.cel i).prot
  | 0 => rfl
  | k + 1 => by
    show ((if _ then _ else _ : Spc).cel i).prot = _
    split
    · exact unP_prot h hi hp k
    · have hd := unP_hd s k
      by_cases e : i = s.A.getD k 0
      · rw [← e, mkS_self (by rw [hd.al.len]; exact hi), mkF_prot ((unP_ok h k).cel i) (show (unP s k).P i = true by rw [hd.al.P]; exact hp)]
        exact unP_prot h hi hp k
      · rw [mkS_other _ false e]
        exact unP_prot h hi hp k
theorem unP_cel {s : Spc} (hok : s.OK) : ∀ k, k ≤ s.A.length → ∀ i, ((∃ j, j < k ∧ s.A[j]? = some i) ∧ (s.cel i).prot = false → (unP s k).cel i = mkF (s.cel i) false) ∧ (¬ ((∃ j, j < k ∧ s.A[j]? = some i) ∧ (s.cel i).prot = false) → (unP s k).cel i = s.cel i)
  | 0, _, i => ⟨fun ⟨⟨j, hj, _⟩, _⟩ => absurd hj (Nat.not_lt_zero j), fun _ => rfl⟩
  | k + 1, h, i => by
    obtain ⟨i1, i2⟩ := unP_cel hok k (by omega) i
    have hk : k < s.A.length := h
    have hg : s.A.getD k 0 = s.A[k] := by rw [List.getD_eq_getElem?_getD, List.getElem?_eq_getElem hk]; rfl
    obtain ⟨h1, h2⟩ := attP_mem (P := s.P) (N := s.L.length) (List.getElem_mem hk)
    have e0 : unP s (k + 1) = if (s.cel s.A[k]).prot then unP s k else mkS (unP s k) s.A[k] false := by rw [← hg]; rfl
    have hal := (unP_hd s k).al
    have hj : i ≠ s.A[k] → ((∃ j, j < k + 1 ∧ s.A[j]? = some i) ↔ ∃ j, j < k ∧ s.A[j]? = some i) := fun e => ⟨fun ⟨j, hj, q⟩ => ⟨j, by
      by_cases e2 : j = k
      · rw [e2, List.getElem?_eq_getElem hk] at q
        injection q with q
        exact absurd q.symm e
      · omega, q⟩, fun ⟨j, hj, q⟩ => ⟨j, by omega, q⟩⟩
    rw [e0]
    by_cases e : i = s.A[k]
    · subst e
      cases hp : (s.cel s.A[k]).prot
      · rw [if_neg (by decide)]
        refine ⟨fun _ => ?_, fun q => absurd ⟨⟨k, by omega, List.getElem?_eq_getElem hk⟩, rfl⟩ q⟩
        rw [mkS_self (by rw [hal.len]; exact h1)]
        by_cases q : ∃ j, j < k ∧ s.A[j]? = some s.A[k]
        · rw [i1 ⟨q, hp⟩]
          exact mkF_mk (hok.cel _) h2 false false
        · rw [i2 (fun r => q r.1)]
      · rw [if_pos rfl]
        exact ⟨fun q => (by cases q.2), fun _ => i2 (fun r => (by rw [hp] at r; cases r.2))⟩
    · have e1 : (if (s.cel s.A[k]).prot then unP s k else mkS (unP s k) s.A[k] false : Spc).cel i = (unP s k).cel i := by
        split
        · rfl
        · exact mkS_other _ false e
      rw [e1, hj e]
      exact ⟨i1, i2⟩
/-- It is what the program leaves. -/
theorem unP_is {s : Spc} (hok : s.OK) (hf : FitC s) : unP s s.A.length = unmS s := by
  have h1 := unP_hd s s.A.length
  have h2 := unm_hd s
  refine (spc_ext (s := unmS s) (t := unP s s.A.length) (h1.mo.trans h2.mo.symm) (h1.alt.trans h2.alt.symm) (h1.cu.trans h2.cu.symm) (h1.ex.trans h2.ex.symm) (h1.al.len.trans h2.al.len.symm) fun i hi => ?_)
  rw [h2.al.len] at hi
  obtain ⟨c1, c2⟩ := unP_cel hok s.A.length (Nat.le_refl _) i
  obtain ⟨d1, d2⟩ := unm_cel hok i
  rw [at_mem, mem_A] at c1 c2
  by_cases hp : s.P i = true
  · rw [d1 ⟨hi, hp⟩]
    cases hpr : (s.cel i).prot
    · rw [c1 ⟨⟨hi, hp⟩, hpr⟩, Bool.and_false]
    · rw [c2 (fun q => by rw [hpr] at q; cases q.2), Bool.and_true]
      exact (mkF_same (hok.cel i) hp (hf i hi)).symm
  · rw [c2 (fun q => hp q.1.2), d2 (fun q => hp q.2)]
theorem spS_all {s : Spc} (h : s.OK) : (spS s 0 0).length = s.L.length ∧ ∀ k, k < s.L.length → (spS s 0 0).getD k 0 = k := by
  have hp := h.pos
  have e : (lenZ s.r s.c 0 0).toNat = s.L.length := by
    have := h.len
    unfold lenZ
    simp only [Int.sub_self, Int.zero_emod, if_true]
    omega
  have e0 : s.wr 0 = 0 := by unfold Spc.wr; simp
  refine ⟨by unfold spS; rw [spN_len, e], fun k hk => ?_⟩
  unfold spS
  rw [List.getD_eq_getElem?_getD, spN_get (by rw [e]; exact hk), e0, Nat.zero_add, Nat.mod_eq_of_lt hk]
  rfl
theorem nx_is {s : Spc} (h : s.OK) : seekZ s (s.wr (-1)) (stB false) = nxZ s := by
  have hp := h.pos
  unfold nxZ
  have e : s.wr (-1) = s.wr ((s.L.length : Int) - 1) := by
    unfold Spc.wr
    rw [show ((s.L.length : Int) - 1) = -1 + (s.L.length : Int) by omega, Int.add_emod_right]
  rw [e]
  rfl
theorem nx_place {s : Spc} (h : s.OK) : ∃ a : Nat, a < s.L.length ∧ max (nxZ s) 0 = (a : Int) := by
  have hp := h.pos
  unfold nxZ
  rcases seekZ_bd h (s.wr ((s.L.length : Int) - 1)) 1 with e | ⟨a, ha, e⟩
  · exact ⟨0, hp.1, by rw [e]; rfl⟩
  · exact ⟨a, ha, by rw [e]; omega⟩
section
variable {b g : Nat} {s : Spc}
set_option maxRecDepth 100000 in
set_option maxHeartbeats 8000000 in
theorem runp_any (w : World) (h : RfM w b g s) (hfit : FitC s) : Calls Try.prog 67 #[.pointer (some ⟨b, 0, none⟩)] w (RfD b g (unpS s) w) := by
  have hok := h.ok
  have hb := h.lt.1
  have hg := h.lt.2
  have HRS := hid (fun W h => rstarts_any (b := b) (g := g) (s := s) W h)
  have HN := hid hok.pos
  obtain ⟨hal1, hal2⟩ := spS_all hok
  have hfla : ∀ k, k < s.L.length → flR s (spS s 0 0) (fl0 s 0) (k + 1) = protF s (stF s.P s.L.length k) := fun k hk => by
    have q := flR_is hok 0 0 k (by rw [hal1]; exact hk)
    rwa [hal2 k hk] at q
  have HFD := hid (fun a (ha : a < s.L.length) (hP : s.P a = true) k W (ht : RfM W b g (rngR s (spS s 0 0) (fl0 s 0) k)) => (show Calls Try.prog 21 #[.pointer (some ⟨b, 0, none⟩), .int .i64 a] W fun e w' => e = .returned (s.cel a).fv ∧ Below W.heap.size W w' from by
    have z := rfield_any (b := b) (g := g) (s := rngR s (spS s 0 0) (fl0 s 0) k) a (by rw [(rngR_alike s _ _ k).len]; exact ha) W ht
    rwa [rngR_attr _ _ hP k] at z))
  have HPU := hid (fun (n : Int) (hn : I64 n) W (t : Spc) (ht : RfM W b g t) => rput_any (b := b) (g := g) (s := t) n hn 0 u8_zero W ht)
  have htok := rng_ok hok 0 0
  have htf := rng_fit hok hfit 0 0
  have htl : (rngS s 0 0).L.length = s.L.length := (rngR_alike s (spS s 0 0) (fl0 s 0) _).len
  have hte : rngR s (spS s 0 0) (fl0 s 0) s.L.length = rngS s 0 0 := by unfold rngS; rw [hal1]
  obtain ⟨f, hf⟩ : ∃ f, (fun k => rngR s (spS s 0 0) (fl0 s 0) k) = f := ⟨_, rfl⟩
  have HF0 := hid (show f 0 = s by rw [← hf]; rfl)
  have HFS := hid (show ∀ k, k < s.L.length → f (k + 1) = if protF s (stF s.P s.L.length k) then f k else (f k).putC (k : Nat) 0 from fun k hk => by
    rw [← hfla k hk, ← hf]
    show (if _ then _ else Spc.putC _ ((spS s 0 0).getD k 0 : Nat) 0) = _
    rw [hal2 k hk])
  have HFN := hid (show f s.L.length = rngS s 0 0 by rw [← hf]; exact hte)
  replace HFD := hid (fun a (ha : a < s.L.length) (hP : s.P a = true) k W (ht : RfM W b g (f k)) => HFD.out a ha hP k W (by rw [← hf] at ht; exact ht))
  clear hf hte hfla hal1 hal2
  -- the second half
  have hup : unpS s = (unP (rngS s 0 0) (rngS s 0 0).A.length).place (max (nxZ (unP (rngS s 0 0) (rngS s 0 0).A.length)) 0) := by
    unfold unpS
    rw [unP_is htok htf]
  rw [hup]
  generalize rngS s 0 0 = t at htok htl HFN ⊢
  have HRA := hid (fun W (h : RfM W b g t) => rattrs_any b g t W h)
  obtain ⟨NA, hNA⟩ : ∃ NA : Nat, t.A.length = NA := ⟨_, rfl⟩
  have HAE := hid (show t.iA NA = intsV (t.A.map Int.ofNat) ∧ t.A.length = NA by
    exact ⟨by unfold Spc.iA; rw [← hNA, List.take_length], hNA⟩)
  have hNA1 : NA ≤ 3564 := by rw [← hNA]; exact Nat.le_trans (attP_len _ _) htok.pos.2
  have HMEM := hid (fun a (h : a ∈ t.A) => attP_mem (P := t.P) (N := t.L.length) h)
  have HFD2 := hid (fun (k a : Nat) (ha : a < t.L.length) (hP : t.P a = true) W (h : RfM W b g (unP t k)) => (show Calls Try.prog 21 #[.pointer (some ⟨b, 0, none⟩), .int .i64 a] W fun e w' => (∃ (n0 : Bool) (d0 : Int) (m0 : Bool), e = .returned (.agg #[.bool (t.cel a).prot, .bool n0, .int .i64 d0, .bool m0])) ∧ Below W.heap.size W w' from by
    have q := rfield_any (b := b) (g := g) (s := unP t k) a (by rw [(unP_hd t k).al.len]; exact ha) W h
    refine q.mono fun e w' ⟨he, hb⟩ => ⟨⟨ofN ((unP t k).cel a).fa.toNat, ofD ((unP t k).cel a).fa.toNat, ofM ((unP t k).cel a).fa.toNat, ?_⟩, hb⟩
    rw [he, ← unP_prot htok ha hP k]
    rfl))
  have HSET := hid (fun (k a : Nat) (ha : a < t.L.length) W (h : RfM W b g (unP t k)) => (show Calls Try.prog 118 #[.pointer (some ⟨b, 0, none⟩), .int .i64 a, (((unP t k).cel a).mk1 false).v] W (RfD b g (mkS (unP t k) a false) W) from by
    have q := rset_any (b := b) (g := g) (s := unP t k) (a : Int) (i64_small (by have := htok.pos; omega) (by have := htok.pos; omega)) (((unP t k).cel a).mk1 false) (mk1_ok (h.ok.cel a) false) W h
    rwa [mkS_set (by rw [(unP_hd t k).al.len]; exact ha)] at q))
  have HUL := hid (fun k => (unP_hd t k).al.len)
  have HUS := hid (show ∀ k, unP t (k + 1) = if (t.cel (t.A.getD k 0)).prot then unP t k else mkS (unP t k) (t.A.getD k 0) false from fun k => rfl)
  have HU0 := hid (show unP t 0 = t from rfl)
  rw [hNA] at HRA ⊢
  have HNX := hid (fun W (h : RfM W b g (unP t NA)) => (show Calls Try.prog 119 #[.pointer (some ⟨b, 0, none⟩), .int .i64 (-1), .bool false] W fun e w' => e = .returned (.int .i64 (nxZ (unP t NA))) ∧ Below W.heap.size W w' from by
    have q := rnext_is (b := b) (g := g) (s := unP t NA) (-1) ⟨by decide, by decide⟩ false W h
    rwa [nx_is (unP_ok htok NA)] at q))
  obtain ⟨pa, hpa, hpe⟩ := nx_place (unP_ok htok NA)
  rw [hpe]
  have HPL := hid (fun W (h : RfM W b g (unP t NA)) => (show RfM (W.setCell ⟨b, 5, none⟩ (.int .i64 (pa : Int))) b g ((unP t NA).place (pa : Int)) from by
    have q := h.placed (pa : Int)
    rwa [wr_nat hpa] at q))
  have HPE := hid hpe
  have HR0 := hid h
  have HSB := hid (fun x (hx : x < s.L.length) => stF_bd s.P hx)
  have HW := hid (fun W (hW : RfM W b g s) => (show W.cell? ⟨b, 4, none⟩ = some (.slice (some ⟨g, 0, none⟩) s.L.length s.L.length) ∧ b < W.heap.size from ⟨hW.h4, hW.lt.1⟩))
  obtain ⟨N, hNe⟩ : ∃ N, s.L.length = N := ⟨_, rfl⟩
  rw [hNe] at HRS HN HFS HFD HSB HW HFN htl
  generalize (unP t NA).place (pa : Int) = tp at HPL ⊢
  generalize nxZ (unP t NA) = nz at HNX HPE
  generalize unP t = u at HUS HU0 HUL HSET HFD2 HNX HPL
  clear h hok hNA hNe hpe hpa hup hfit htf htok
  have hf0 := rattf0
  obtain ⟨hN8, hN9⟩ := HN.out
  go_enter Try.func67, Try.ntmps67
  go_wp2_with fail
  with_reducible refine (HRS.out _ HR0.out).mono ?_
  rintro e w1 ⟨hh, rfl, hhs, hO, hb1⟩
  have HO1 := hid hO
  have HB1 := hid hb1
  obtain ⟨h4, hlb⟩ := HW.out _ (HR0.out.below hb1)
  clear hO hb1
  go_wp2_with fail
  clear h4
  go_loopw [14] (fun i W => ∃ k : Nat, k ≤ N ∧ i = .int .i64 k ∧ Hid (RfM W b g (f k)) ∧ Hid (Moved w1 W [b, g] [b, g])) (fun i _ => N - (RowKit.intOf i).toNat)
  case atStart => exact ⟨0, by omega, rfl, by show RfM _ _ _ _; rw [HF0.out]; exact HR0.out.below HB1.out, Moved.refl _ _⟩
  case round =>
    obtain ⟨k, hk, rfl, HR, HM⟩ := hrel
    by_cases hkN : k < N
    · have hki : (k : Int) < N := by omega
      have hfk := HFS.out k hkN
      obtain ⟨sv, hs0, hsv⟩ := HO1.out.at_ k hkN
      have esv := hsv hkN
      have hs1 := cell_moved HM.out hs0 (by simp; omega)
      have hlh := World.block_lt_of_cell? wr _ hs1
      have HX := hid (i64_small (n := (k : Int)) (by have := HN.out; omega) (by have := HN.out; omega))
      clear hs0 hsv
      rcases HSB.out k hkN with e | ⟨a, ha, hP, e⟩
      · rw [e] at esv hfk
        subst esv
        have HFK := hid (show f (k + 1) = (f k).putC (k : Nat) 0 from hfk)
        clear hfk e
        go_wp2_with fail
        with_reducible refine (HPU.out _ HX.out _ _ HR.out).mono ?_
        rintro e w3 ⟨⟨v2, rfl⟩, hs, hm⟩
        have HS2 := hid hs
        have HM2 := hid (HM.out.trans hm)
        clear hs hm hs1
        go_wp2
        go_roundw
        case rel => exact ⟨k + 1, by omega, by go_num, by show RfM _ _ _ _; rw [HFK.out]; exact HS2.out, HM2.out⟩
        case measure => simp [RowKit.intOf]; omega
      · rw [e] at esv hfk
        subst esv
        have ha0 : ¬ (a : Int) < 0 := by omega
        have e3 : protF s (a : Int) = (s.cel a).prot := by unfold protF; rw [if_neg ha0]; rfl
        rw [e3] at hfk
        have HF1 := hid (fun W ht => HFD.out a ha hP k W ht)
        unfold Cel.fv at HF1
        change f (k + 1) = if ofP (s.cel a).fa.toNat then f k else (f k).putC (k : Nat) 0 at hfk
        have HFK := hid hfk
        generalize ofP (s.cel a).fa.toNat = pr at HF1 HFK
        generalize ofN (s.cel a).fa.toNat = nr at HF1
        generalize ofD (s.cel a).fa.toNat = dr at HF1
        generalize ofM (s.cel a).fa.toNat = mr at HF1
        clear hfk e e3 hP
        cases pr
        · go_wp2_with fail
          with_reducible refine (HF1.out _ HR.out).mono ?_
          rintro e w3 ⟨rfl, hb3⟩
          have HR3 := hid (HR.out.below hb3)
          have HM3 := hid (HM.out.trans (Moved.below hb3 [b, g]))
          clear hb3 hs1
          go_wp2_with fail
          with_reducible refine (HPU.out _ HX.out _ _ HR3.out).mono ?_
          rintro e w4 ⟨⟨v2, rfl⟩, hs, hm⟩
          have HS2 := hid hs
          have HM2 := hid (HM3.out.trans hm)
          clear hs hm
          go_wp2
          go_roundw
          case rel => exact ⟨k + 1, by omega, by go_num, by show RfM _ _ _ _; rw [HFK.out]; exact HS2.out, HM2.out⟩
          case measure => simp [RowKit.intOf]; omega
        · go_wp2_with fail
          with_reducible refine (HF1.out _ HR.out).mono ?_
          rintro e w3 ⟨rfl, hb3⟩
          have HR3 := hid (HR.out.below hb3)
          have HM3 := hid (HM.out.trans (Moved.below hb3 [b, g]))
          clear hb3 hs1
          go_wp2
          go_roundw
          case rel => exact ⟨k + 1, by omega, by go_num, by show RfM _ _ _ _; rw [HFK.out]; exact HR3.out, HM3.out⟩
          case measure => simp [RowKit.intOf]; omega
    · obtain rfl : k = N := by omega
      have HRT := hid (show RfM wr b g t by rw [← HFN.out]; exact HR.out)
      have HMW := hid ((Moved.below HB1.out [b, g]).trans HM.out)
      have hws : w.heap.size ≤ wr.heap.size := HMW.out.size
      clear HR HM HFS HFD HF0 HFN HPU HSB HW HO1 hlb hhs
      go_wp2_with fail
      with_reducible refine (HRA.out _ HRT.out).mono ?_
      rintro e w2 ⟨v1, rfl, ho1, hk1, hb2⟩
      rw [HAE.out.1] at ho1
      obtain ⟨y1, c1, rfl, hlc⟩ := lst_cells ho1 HAE.out.2 hk1
      have HLC := hid hlc
      have HR2 := hid (HRT.out.below hb2)
      have HM2 := hid (HMW.out.trans (Moved.below hb2 [b, g]))
      clear ho1 hk1 hb2 hlc HRT HMW HRA
      go_wp2_with fail
      go_loopw [39] (fun i W => ∃ k : Nat, k ≤ NA ∧ i = .int .i64 k ∧ Hid (RfM W b g (u k)) ∧ Hid (Moved w2 W [b, g] [b, g])) (fun i _ => NA - (RowKit.intOf i).toNat)
      case atStart => exact ⟨0, by omega, rfl, by show RfM _ _ _ _; rw [HU0.out]; exact HR2.out, Moved.refl _ _⟩
      case round =>
        obtain ⟨k, hk, rfl, HR, HM⟩ := hrel
        by_cases hkN : k < NA
        · have hki : (k : Int) < NA := by omega
          obtain ⟨gg, rfl, hgg, hc0⟩ := HLC.out k hkN
          have hc := cell_moved HM.out hc0 (by simp; omega)
          have hlc := World.block_lt_of_cell? wr _ hc
          have hget : t.A[k]? = some (t.A.getD k 0) := by rw [List.getD_eq_getElem?_getD, List.getElem?_eq_getElem (by rw [HAE.out.2]; exact hkN)]; rfl
          obtain ⟨haN, haP⟩ := HMEM.out _ (List.mem_of_getElem? hget)
          have HUN := hid (HUS.out k)
          have HS1 := hid (fun W h => HSET.out k (t.A.getD k 0) haN W h)
          have HF1 := hid (fun W h => HFD2.out k (t.A.getD k 0) haN haP W h)
          generalize t.A.getD k 0 = a at hc haN HUN HS1 HF1
          generalize (t.cel a).prot = pr at HF1 HUN
          clear hget hc0 haP
          cases pr
          · go_wp2_with fail
            with_reducible refine (HF1.out _ HR.out).mono ?_
            rintro e w3 ⟨⟨n0, d0, m0, rfl⟩, hb3⟩
            have HR3 := hid (HR.out.below hb3)
            have HM3 := hid (HM.out.trans (Moved.below hb3 [b, g]))
            have y4 := HR3.out.hd.h4
            obtain ⟨y0, y1', y2, y3, y5, y6⟩ := HR3.out.row.six a (by rw [HUL.out]; exact haN) _ rfl
            rw [HUL.out] at y4
            have hai : (a : Int) < t.L.length := by omega
            have hl4 := World.block_lt_of_cell? w3 _ y4
            have hl0 := World.block_lt_of_cell? w3 _ y0
            have e1 : (u k).L.getD a cel0 = (u k).cel a := rfl
            rw [e1] at y0 y1' y2 y3 y5 y6
            have HMK := hid (show ((u k).cel a).mk1 false = { (u k).cel a with fa := bits .and .u8 ((u k).cel a).fa 254 } from rfl)
            rw [HMK.out] at HS1
            generalize (u k).cel a = c at y0 y1' y2 y3 y5 y6 HS1
            obtain ⟨x0, x1, x2, x3, x4, x5⟩ := c
            dsimp only at y0 y1' y2 y3 y5 y6 HS1
            clear hb3 hc e1 HMK
            go_wp2_with fail
            with_reducible refine (HS1.out _ (HR3.out.below (bal (Below.refl w3.heap.size w3) _))).mono ?_
            rintro e w4 ⟨⟨v2, rfl⟩, hs, hm⟩
            have HR4 := hid (And.intro hs (HM3.out.trans ((Moved.below (bal (Below.refl w3.heap.size w3) _) [b, g]).trans hm)))
            clear hs hm HR HR3 HM HM3
            go_wp2
            go_roundw
            case rel => exact ⟨k + 1, by omega, by go_num, by show RfM _ _ _ _; rw [HUN.out]; exact HR4.out.1, HR4.out.2⟩
            case measure => simp [RowKit.intOf]; omega
          · go_wp2_with fail
            with_reducible refine (HF1.out _ HR.out).mono ?_
            rintro e w3 ⟨⟨n0, d0, m0, rfl⟩, hb3⟩
            have HR3 := hid (HR.out.below hb3)
            have HM3 := hid (HM.out.trans (Moved.below hb3 [b, g]))
            clear hb3 hc
            go_wp2
            go_roundw
            case rel => exact ⟨k + 1, by omega, by go_num, by show RfM _ _ _ _; rw [HUN.out]; exact HR3.out, HM3.out⟩
            case measure => simp [RowKit.intOf]; omega
        · obtain rfl : k = NA := by omega
          go_wp2_with fail
          with_reducible refine (HNX.out _ HR.out).mono ?_
          rintro e w5 ⟨rfl, hb5⟩
          have HR5 := hid (HR.out.below hb5)
          have HM5 := hid (HM2.out.trans (HM.out.trans (Moved.below hb5 [b, g])))
          have hpe := HPE.out
          have h5 := HR5.out.h5
          have f5 := HR5.out.fr 5
          have hl5 := World.block_lt_of_cell? w5 _ h5
          clear hb5 HR HM
          go_wp2
          first
            | exact bodyPost_ret (results_none rfl _ _ _) rfl ⟨⟨_, rfl⟩, by (try rw [HPE.out]); exact HPL.out _ HR5.out, HM5.out.trans (Moved.set (by simp) _ _)⟩
            | (go_end0; exact ⟨⟨_, rfl⟩, by (try rw [HPE.out]); exact HPL.out _ HR5.out, HM5.out.trans (Moved.set (by simp) _ _)⟩)
end
end Go.Proofs.Ytpehhinpohmpiaa
