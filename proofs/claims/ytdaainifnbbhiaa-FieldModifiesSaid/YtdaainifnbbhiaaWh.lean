/-
  FieldModifies: the walk.
-/
import Derived.Test.YtdaainifnbbhiaaWg
namespace Go.Proofs.Ytdaainifnbbhiaa
open Go.RowKit Go.Lib Go.Deep

theorem modi_tab : ∀ k : Nat, k < 256 → ofM (sixB (markB k false)).toNat = false := by decide +kernel
theorem mkS_modi {s : Spc} (h : s.OK) {a : Nat} (ha : a < s.L.length) (hp : s.P a = true) : ((mkS s a false).cel a).modi = false := by
  unfold mkS
  rw [Spc.put1_cel, if_pos ⟨rfl, ha⟩]
  obtain ⟨k, hk, e⟩ := u8_nat (h.cel a).fa
  show ofM (fit ((s.cel a).mk1 false)).fa.toNat = false
  unfold fit
  rw [if_pos (show ((s.cel a).mk1 false).at_ = true from hp)]
  show ofM (sixB (markB (s.cel a).fa false)).toNat = false
  rw [e]
  exact modi_tab k hk
theorem mkS_other (s : Spc) {a i : Nat} (m : Bool) (h : i ≠ a) : (mkS s a m).cel i = s.cel i := by
  unfold mkS
  rw [Spc.put1_cel, if_neg (fun q => h q.1)]
theorem unS_modi {s : Spc} (h : s.OK) : ∀ k, k ≤ s.A.length → ∀ j, j < k → ∀ x, s.A[j]? = some x → ((unS s k).cel x).modi = false := by
  intro k
  induction k with
  | zero => exact fun _ j hj => absurd hj (Nat.not_lt_zero j)
  | succ k ih =>
    intro hk j hj x hx
    obtain ⟨y, hy⟩ : ∃ y, s.A[k]? = some y := ⟨_, List.getElem?_eq_getElem (by omega)⟩
    have e : unS s (k + 1) = mkS (unS s k) y false := by
      show mkS (unS s k) (s.A.getD k 0) false = _
      rw [List.getD_eq_getElem?_getD, hy]
      rfl
    have hm := attP_mem (P := s.P) (N := s.L.length) (List.mem_of_getElem? hy)
    rw [e]
    by_cases hxy : x = y
    · rw [hxy]
      exact mkS_modi (unS_ok h k) (by rw [unS_len]; exact hm.1) (by rw [unS_P]; exact hm.2)
    · rw [mkS_other _ _ hxy]
      refine ih (by omega) j ?_ x hx
      apply Nat.lt_of_le_of_ne (by omega)
      intro e
      rw [e, hy] at hx
      injection hx with hx
      exact hxy hx.symm
theorem unS_none {s : Spc} (h : s.OK) : mdS (unS s s.A.length) (unS s s.A.length).A = [] := by
  have e : (unS s s.A.length).A = s.A := by
    show attP (unS s s.A.length).P (unS s s.A.length).L.length = attP s.P s.L.length
    rw [unS_P, unS_len]
  rw [e]
  unfold mdS
  rw [List.filter_eq_nil_iff]
  intro x hx
  obtain ⟨j, hj⟩ := List.mem_iff_getElem?.1 hx
  rw [unS_modi h _ (Nat.le_refl _) j (List.getElem?_eq_some_iff.1 hj).1 x hj]
  decide
theorem collectM_any (bs b g : Nat) (t : Spc) (w : World) (h : SpM w b g t) (hb : w.cell? ⟨bs, 0, none⟩ = some (.pointer (some ⟨b, 0, none⟩))) : Calls Try.prog 48 #[.func (.func 89) #[] #[.pointer (some ⟨bs, 0, none⟩)]] w (IntsD ((mdS t t.A).map Int.ofNat) w) :=
  collect_any 89 #[.pointer (some ⟨bs, 0, none⟩)] (mdS t t.A) (Nat.le_trans (mdS_len t t.A) (Nat.le_trans (attP_len t.P t.L.length) (by have := h.ok.pos.2; omega))) (RFs bs b g t) (enters_of Try.func89 (by kernel_rfl) rfl)
    (fun V => modified_seq 7 (by omega) bs b g t h.ok.pos V) w (fun _ hV => ⟨keepc hV hb, h.below hV⟩)
set_option maxRecDepth 100000 in
set_option maxHeartbeats 8000000 in
theorem modifies_any (m : Nat) (hm : m < 256) (v : Value) (ac : List ActD) (nz : Int) (hnz : I64 nz) (w : World) (hx : ActsIn w.heap.size w v ac) : Calls Try.prog 9 #[.int .u8 m, v, .int .i64 nz] w fun e w' => e = .returned (.bool true) ∧ Below w.heap.size w w' := by
  have HW := hid (awake13 w)
  have HLY := hid (fun W (hb : Below w.heap.size w W) => lay_any m hm v ac w.heap.size W hb.size (hx.below hb))
  obtain ⟨x, cp, rfl⟩ := hx.sl
  generalize runS (clearS (2 + ((m % 4 : Nat) : Int)) false) ac ac.length = s at HLY
  have HMO := hid (fun b g W h => modify_any (b := b) (g := g) (s := s) nz hnz W h)
  have HRM := hid (fun b g W h => rmodify_any (b := b) (g := g) (s := s) nz hnz W h)
  have HUN := hid (fun b g t W h => callsIn_wide.1 (unmod_in (b := b) (g := g) (s := t) 8 (by omega) W h))
  have HRU := hid (fun b g t W h => runmodify_any (b := b) (g := g) (s := t) W h)
  have HRD := hid (fun b g t W h => rmodified_any (b := b) (g := g) (s := t) W h)
  generalize modS s nz = t at HMO HRM
  generalize modB s nz = mb at HMO HRM
  clear hx hnz hm
  go_enter Try.func9, Try.ntmps9
  go_wp2_with fail
  with_reducible refine HW.out.mono ?_
  rintro e w1 ⟨rfl, hb1⟩
  have HB1 := hid hb1
  clear hb1
  go_wp2_with fail
  with_reducible refine (HLY.out _ HB1.out).mono ?_
  rintro e w2 ⟨b1, g1, b2, g2, rfl, hd, -⟩
  have HAP := hid hd.ap
  have HLB := hid (show (∀ k ∈ [b1, g1], w.heap.size ≤ k) ∧ (∀ k ∈ [b2, g2], w.heap.size ≤ k) from
    ⟨fun k hk => Nat.le_trans HB1.out.size (hd.lb k (by simp at hk ⊢; omega)), fun k hk => Nat.le_trans HB1.out.size (hd.lb k (by simp at hk ⊢; omega))⟩)
  have HA1 := hid (show b2 ∉ [b1, g1] ∧ g2 ∉ [b1, g1] from ⟨fun q => HAP.out _ q (by simp), fun q => HAP.out _ q (by simp)⟩)
  have HA2 := hid (show b1 ∉ [b2, g2] ∧ g1 ∉ [b2, g2] from ⟨HAP.out _ (by simp), HAP.out _ (by simp)⟩)
  have HD2 := hid (show SpM w2 b1 g1 s ∧ RfM w2 b2 g2 s ∧ Below w.heap.size w w2 from ⟨hd.sp, hd.rf, below_t HB1.out hd.bel⟩)
  clear hd HB1 HAP
  go_wp2_with fail
  with_reducible refine (HMO.out b1 g1 _ HD2.out.1).mono ?_
  rintro e w3 ⟨rfl, h3, m3⟩
  have HD3 := hid (show SpM w3 b1 g1 t ∧ RfM w3 b2 g2 s ∧ Below w.heap.size w w3 from ⟨h3, HD2.out.2.1.moved m3 HA1.out.1 HA1.out.2, HD2.out.2.2.trans (m3.toBelow HD2.out.2.2.size HLB.out.1)⟩)
  clear h3 m3 HD2
  go_wp2_with fail
  with_reducible refine (HRM.out b2 g2 _ HD3.out.2.1).mono ?_
  rintro e w4 ⟨rfl, h4, m4⟩
  have HD4 := hid (show SpM w4 b1 g1 t ∧ RfM w4 b2 g2 t ∧ Below w.heap.size w w4 from ⟨HD3.out.1.moved m4 HA2.out.1 HA2.out.2, h4, HD3.out.2.2.trans (m4.toBelow HD3.out.2.2.size HLB.out.2)⟩)
  clear h4 m4 HD3
  go_wp2_with fail
  with_reducible refine (same13 b1 g1 b2 g2 t _ HD4.out.1 HD4.out.2.1).mono ?_
  rintro e w5 ⟨rfl, hb5⟩
  have HD5 := hid (show SpM w5 b1 g1 t ∧ RfM w5 b2 g2 t ∧ Below w.heap.size w w5 from ⟨HD4.out.1.below hb5, HD4.out.2.1.below hb5, below_t HD4.out.2.2 hb5⟩)
  clear hb5 HD4
  go_wp2_with fail
  with_reducible refine (modifiedIt_any b1 _).mono ?_
  rintro e w6 ⟨bs, rfl, hbs, hcs, hb6⟩
  have HCS := hid hcs
  have HD6 := hid (show SpM w6 b1 g1 t ∧ RfM w6 b2 g2 t ∧ Below w.heap.size w w6 from ⟨HD5.out.1.below hb6, HD5.out.2.1.below hb6, below_t HD5.out.2.2 hb6⟩)
  clear hb6 hbs hcs HD5
  go_wp2_with fail
  with_reducible refine (collectM_any bs b1 g1 t _ HD6.out.1 HCS.out).mono ?_
  rintro e w7 ⟨v7, rfl, ho7, -, hb7⟩
  obtain ⟨y7, c7, rfl⟩ := row_any ho7
  have HO7 := hid ho7
  have HD7 := hid (show SpM w7 b1 g1 t ∧ RfM w7 b2 g2 t ∧ Below w.heap.size w w7 from ⟨HD6.out.1.below hb7, HD6.out.2.1.below hb7, below_t HD6.out.2.2 hb7⟩)
  clear hb7 ho7 HD6
  go_wp2_with fail
  with_reducible refine (HRD.out b2 g2 t _ HD7.out.2.1).mono ?_
  rintro e w8 ⟨v8, rfl, ho8, -, hb8⟩
  obtain ⟨y8, c8, rfl⟩ := row_any ho8
  rw [show (mdS t t.A).length = ((mdS t t.A).map Int.ofNat).length by rw [List.length_map]] at ho8 ⊢
  have hq := (equalI_any _ _ _ w8 (own_below HO7.out hb8) ho8 (by rw [List.length_map]; exact Nat.le_trans (mdS_len t t.A) (Nat.le_trans (attP_len t.P t.L.length) (by have := HD7.out.1.ok.pos.2; omega))))
  rw [List.length_map] at hq
  have HEQ := hid hq
  clear hq
  have HD8 := hid (show SpM w8 b1 g1 t ∧ RfM w8 b2 g2 t ∧ Below w.heap.size w w8 from ⟨HD7.out.1.below hb8, HD7.out.2.1.below hb8, below_t HD7.out.2.2 hb8⟩)
  clear hb8 ho8 HD7 HO7
  go_wp2_with fail
  with_reducible refine HEQ.out.mono ?_
  rintro e w9 ⟨rfl, hb9⟩
  have HD9 := hid (show SpM w9 b1 g1 t ∧ RfM w9 b2 g2 t ∧ Below w.heap.size w w9 from ⟨HD8.out.1.below hb9, HD8.out.2.1.below hb9, below_t HD8.out.2.2 hb9⟩)
  clear hb9 HD8 HEQ
  have HNO := hid (unS_none HD9.out.1.ok)
  go_wp2_with fail
  with_reducible refine (HUN.out b1 g1 t _ HD9.out.1).mono ?_
  rintro e w10 ⟨⟨v10, rfl⟩, h10, m10⟩
  have HD10 := hid (show SpM w10 b1 g1 (unS t t.A.length) ∧ RfM w10 b2 g2 t ∧ Below w.heap.size w w10 from ⟨h10, HD9.out.2.1.moved m10 HA1.out.1 HA1.out.2, HD9.out.2.2.trans (m10.toBelow HD9.out.2.2.size HLB.out.1)⟩)
  clear h10 m10 HD9
  go_wp2_with fail
  with_reducible refine (HRU.out b2 g2 t _ HD10.out.2.1).mono ?_
  rintro e w11 ⟨⟨v11, rfl⟩, h11, m11⟩
  have HD11 := hid (show SpM w11 b1 g1 (unS t t.A.length) ∧ RfM w11 b2 g2 (unS t t.A.length) ∧ Below w.heap.size w w11 from ⟨HD10.out.1.moved m11 HA2.out.1 HA2.out.2, h11, HD10.out.2.2.trans (m11.toBelow HD10.out.2.2.size HLB.out.2)⟩)
  clear h11 m11 HD10
  generalize unS t t.A.length = u at HD11 HNO
  go_wp2_with fail
  with_reducible refine (same13 b1 g1 b2 g2 u _ HD11.out.1 HD11.out.2.1).mono ?_
  rintro e w12 ⟨rfl, hb12⟩
  have HD12 := hid (show SpM w12 b1 g1 u ∧ Below w.heap.size w w12 from ⟨HD11.out.1.below hb12, below_t HD11.out.2.2 hb12⟩)
  clear hb12 HD11
  go_wp2_with fail
  with_reducible refine (modifiedIt_any b1 _).mono ?_
  rintro e w13 ⟨bs2, rfl, hbs2, hcs2, hb13⟩
  have HCS2 := hid hcs2
  have HD13 := hid (show SpM w13 b1 g1 u ∧ Below w.heap.size w w13 from ⟨HD12.out.1.below hb13, below_t HD12.out.2 hb13⟩)
  clear hb13 hbs2 hcs2 HD12
  go_wp2_with fail
  with_reducible refine (collectM_any bs2 b1 g1 u _ HD13.out.1 HCS2.out).mono ?_
  rintro e w14 ⟨v14, rfl, ho14, -, hb14⟩
  rw [HNO.out] at ho14
  obtain ⟨y14, c14, rfl⟩ := row_any ho14
  have HB14 := hid (below_t HD13.out.2 hb14)
  clear hb14 ho14 HD13
  go_wp2
  go_ret
  exact ⟨rfl, HB14.out⟩
end Go.Proofs.Ytdaainifnbbhiaa
