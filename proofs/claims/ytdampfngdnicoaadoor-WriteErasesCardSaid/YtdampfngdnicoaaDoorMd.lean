/-
  PT: the characters to the next attribute, or the end, taken away; where one writes then.
-/
import Derived.Test.YtdampfngdnicoaaDoorMc
namespace Go.Proofs.YtdampfngdnicoaaDoor
open Go.RowKit Go.Lib Go.Deep

/-- From place n on, as many as f, up to the next attribute: null. -/
def nulS : Spc → Nat → Nat → Spc
  | s, _, 0 => s
  | s, n, f + 1 => if (s.cel n).at_ then s else nulS (s.putC n 0) (n + 1) f
theorem nulS_len : ∀ (f : Nat) (s : Spc) (n : Nat), (nulS s n f).L.length = s.L.length
  | 0, _, _ => rfl
  | f + 1, s, n => by
    unfold nulS
    split
    · rfl
    · rw [nulS_len f, putC_len]
def nullW (x : Wst) : Wst := { x with s := nulS x.s x.n (x.s.L.length - x.n) }
/-- Where PT goes. -/
def tabN (x : Wst) : Nat := (if seekZ x.s (x.s.wr x.n) 1 ≤ x.n then 0 else seekZ x.s (x.s.wr x.n) 1).toNat
def tabW (x : Wst) : Wst := { (if x.wr then nullW x else x) with n := tabN (if x.wr then nullW x else x) }
theorem tabN_lt {x : Wst} (h : x.s.OK) : tabN x < x.s.L.length := by
  unfold tabN
  have hp := h.pos
  rcases seekZ_bd h (x.s.wr x.n) 1 with q | ⟨a, ha, q⟩
  · rw [q]
    split <;> simp <;> omega
  · rw [q]
    split <;> simp <;> omega
section
variable {q b g : Nat} {x : Wst}
set_option maxRecDepth 100000 in
set_option maxHeartbeats 2000000 in
theorem null_any (w : World) (h : WrM w q b g x) : Calls Tryd.prog 84 #[.pointer (some ⟨q, 0, none⟩)] w (WrD q b g (nullW x) w) := by
  have hok := h.sp.ok
  have hpos := hok.pos
  have hxn := h.lt
  have HSZ := hid (fun W (t : Spc) (ht : SpM W b g t) => size_any (b := b) (g := g) (s := t) W ht)
  have HCL := hid (fun W W' (t : Spc) (ht : SpM W' b g t) => (show Calls Tryd.prog 44 #[.agg #[.int .i64 t.r, .int .i64 t.c]] W fun e w' => e = .returned (.int .i64 (t.L.length : Nat)) ∧ Below W.heap.size W w' from by
    rw [ht.ok.len]
    exact cells_ok t.r t.c ht.ok.sz W))
  have HAT := hid (fun (k : Nat) (hk : I64 (k : Int)) W (t : Spc) (ht : SpM W b g t) (hl : k < t.L.length) => (show Calls Tryd.prog 14 #[.pointer (some ⟨b, 0, none⟩), .int .i64 k] W fun e w' => e = .returned (t.cel k).v ∧ Below W.heap.size W w' from by
    have q := at_any (b := b) (g := g) (s := t) (k : Int) hk W ht
    unfold Spc.atC at q
    rwa [wr_nat hl] at q))
  have HPU := hid (fun (k : Nat) (hk : I64 (k : Int)) W (t : Spc) (ht : SpM W b g t) => put_any (b := b) (g := g) (s := t) (k : Int) hk 0 u8_zero W ht)
  have hf1 := celf1
  have HX := hid h
  obtain ⟨NN, hNN⟩ : ∃ NN, x.s.L.length = NN := ⟨_, rfl⟩
  rw [hNN] at hpos hxn
  have HNN := hid hNN
  have c0 := h.c0
  have c1 := h.c1
  obtain ⟨xn, hxn0⟩ : ∃ n, x.n = n := ⟨_, rfl⟩
  have HFN := hid (show nullW x = { x with s := nulS x.s xn (NN - xn) } by rw [← hxn0, ← hNN]; rfl)
  rw [hxn0] at c1 hxn
  clear h hok hNN
  go_enter Tryd.func84, Tryd.ntmps84
  go_wp2
  go_loopw [2] (fun i wr => ∃ (k : Nat) (t : Spc), k ≤ NN ∧ i = .int .i64 k ∧ Hid (WrM wr q b g { x with s := t }) ∧ Hid (t.L.length = NN) ∧ Hid (nulS t k (NN - k) = nulS x.s xn (NN - xn)) ∧ Hid (Moved w wr [q, b, g] [q, b, g])) (fun i _ => NN - (intOf i).toNat)
  case atStart => exact ⟨xn, x.s, by omega, rfl, HX, HNN, rfl, Moved.refl _ _⟩
  case round =>
    obtain ⟨k, t, hk, rfl, HW, HL, HE, HM⟩ := hrel
    have d0 := HW.out.c0
    have hsp := HW.out.sp
    dsimp only at hsp
    have HSP := hid hsp
    have HS1 := hid (fun W (hW : Below wr.heap.size wr W) => HSZ.out W t (HSP.out.below hW))
    have HC1 := hid (fun W => HCL.out W wr t HSP.out)
    rw [HL.out] at HC1
    have hki : I64 (k : Int) := i64_small (by omega) (by omega)
    clear hsp
    have HPK := hid (fun W (hW : Below wr.heap.size wr W) => HPU.out k hki W t (HSP.out.below hW))
    have ARM := HS1
    by_cases hlt : k < NN
    · have HA1 := hid (fun W (hW : Below wr.heap.size wr W) => HAT.out k hki W t (HSP.out.below hW) (by rw [HL.out]; exact hlt))
      obtain ⟨cc, hcc⟩ : ∃ cc, t.cel k = cc := ⟨_, rfl⟩
      rw [hcc] at HA1
      have HCC := hid hcc
      obtain ⟨y0, y1, y2, y3, y4, y5⟩ := cc
      have hlt2 : (k : Int) < NN := by omega
      have hwk : IntKind.i64.wrap ((k : Int) + 1) = (k : Int) + 1 := wrapI (i64_small (by omega) (by omega))
      have HST := hid (show NN - k = (NN - (k + 1)) + 1 by omega)
      clear hcc ARM
      cases y1
      · go_wp2_with fail
        with_reducible refine (HS1.out _ (Below.refl _ _)).mono ?_
        rintro e w3 ⟨rfl, hb3⟩
        have HB3 := hid hb3
        clear hb3
        go_wp2_with fail
        with_reducible refine (HC1.out _).mono ?_
        rintro e w4 ⟨rfl, hb4⟩
        have HB4 := hid (below_t HB3.out hb4)
        have d4 := keepc HB4.out d0
        clear hb4
        go_wp2_with fail
        with_reducible refine (HA1.out _ HB4.out).mono ?_
        rintro e w5 ⟨rfl, hb5⟩
        have HB5 := hid (below_t HB4.out hb5)
        have d5 := keepc HB5.out d0
        clear hb5
        go_wp2_with fail
        with_reducible refine (HPK.out _ HB5.out).mono ?_
        rintro e w6 ⟨⟨v6, rfl⟩, hs6, hm6⟩
        have HW6 := hid ((HW.out.below HB5.out).space hs6 hm6 (putC_len _ _ _))
        have HL6 := hid ((putC_len t k 0).trans HL.out)
        have HM6 := hid ((HM.out.trans (Moved.below HB5.out _)).trans (moved_bg (q := q) hm6))
        have HE6 := hid (show nulS (t.putC k 0) (k + 1) (NN - (k + 1)) = nulS x.s xn (NN - xn) by
          rw [← HE.out, HST.out]
          show _ = if (t.cel k).at_ then t else _
          rw [HCC.out]
          rfl)
        clear hs6 hm6
        go_wp2
        go_roundw
        case rel => exact ⟨k + 1, _, by omega, by go_num, HW6, HL6, HE6, HM6⟩
        case measure => simp [intOf]; omega
      · go_wp2_with fail
        with_reducible refine (HS1.out _ (Below.refl _ _)).mono ?_
        rintro e w3 ⟨rfl, hb3⟩
        have HB3 := hid hb3
        clear hb3
        go_wp2_with fail
        with_reducible refine (HC1.out _).mono ?_
        rintro e w4 ⟨rfl, hb4⟩
        have HB4 := hid (below_t HB3.out hb4)
        have d4 := keepc HB4.out d0
        clear hb4
        go_wp2_with fail
        with_reducible refine (HA1.out _ HB4.out).mono ?_
        rintro e w5 ⟨rfl, hb5⟩
        have HB5 := hid (below_t HB4.out hb5)
        have d5 := keepc HB5.out d0
        clear hb5
        go_wp2
        go_end0
        have e1 : nulS x.s xn (NN - xn) = t := by
          rw [← HE.out, HST.out]
          show (if (t.cel k).at_ then t else _) = t
          rw [HCC.out]
          rfl
        exact ⟨⟨_, rfl⟩, by rw [HFN.out, e1]; exact HW.out.below HB5.out, HM.out.trans (Moved.below HB5.out _)⟩
    · obtain rfl : k = NN := by omega
      clear ARM
      go_wp2_with fail
      with_reducible refine (HS1.out _ (Below.refl _ _)).mono ?_
      rintro e w3 ⟨rfl, hb3⟩
      have HB3 := hid hb3
      clear hb3
      go_wp2_with fail
      with_reducible refine (HC1.out _).mono ?_
      rintro e w4 ⟨rfl, hb4⟩
      have HB5 := hid (below_t HB3.out hb4)
      clear hb4
      go_wp2
      go_end0
      have e1 : nulS x.s xn (k - xn) = t := by
        rw [← HE.out, Nat.sub_self]
        rfl
      exact ⟨⟨_, rfl⟩, by rw [HFN.out, e1]; exact HW.out.below HB5.out, HM.out.trans (Moved.below HB5.out _)⟩
theorem tabN_z {x : Wst} (h : x.s.OK) : (tabN x : Int) = if seekZ x.s (x.s.wr x.n) 1 ≤ x.n then 0 else seekZ x.s (x.s.wr x.n) 1 := by
  unfold tabN
  rcases seekZ_bd h (x.s.wr x.n) 1 with q | ⟨a, ha, q⟩
  · rw [q]
    split <;> omega
  · rw [q]
    split <;> omega
set_option maxRecDepth 100000 in
set_option maxHeartbeats 2000000 in
theorem ptab_any (w : World) (h : WrM w q b g x) : Calls Tryd.prog 66 #[.pointer (some ⟨q, 0, none⟩)] w (WrD q b g (tabW x) w) := by
  have c8 := h.c8
  have HX := hid h
  have HNU := hid (fun W (hW : WrM W q b g x) => null_any W hW)
  have HTW0 := hid (show tabW x = { (if x.wr then nullW x else x) with n := tabN (if x.wr then nullW x else x) } from rfl)
  generalize tabW x = tw at HTW0 ⊢
  clear h
  cases ht : x.wr
  · rw [ht] at c8 HTW0
    simp only [Bool.false_eq_true, if_false] at HTW0
    clear ht HNU
    obtain ⟨y, hy⟩ : ∃ y, x = y := ⟨_, rfl⟩
    rw [hy] at HX HTW0
    have HTW := HTW0
    clear HTW0 hy
    have HM := Moved.refl w [q, b, g]
    go_enter Tryd.func66, Tryd.ntmps66
    have hylt := HX.out.lt
    have hypos := HX.out.sp.ok.pos
    have hyi : I64 (y.n : Int) := i64_small (by omega) (by omega)
    have HTL := hid (tabN_lt (x := y) HX.out.sp.ok)
    have HNX := hid (fun W (hW : SpM W b g y.s) => next_is (b := b) (g := g) (s := y.s) (y.n : Int) hyi W hW)
    have HTN := hid (show (tabN y : Int) = if seekZ y.s (y.s.wr y.n) 1 ≤ y.n then 0 else seekZ y.s (y.s.wr y.n) 1 from tabN_z HX.out.sp.ok)
    generalize tabN y = tn at HTL HTN HTW
    generalize seekZ y.s (y.s.wr y.n) 1 = z at HNX HTN
    have e0 := HX.out.c0
    have e1 := HX.out.c1
    obtain ⟨xn, hxn⟩ : ∃ k, y.n = k := ⟨_, rfl⟩
    rw [hxn] at HNX HTN e1
    clear hxn hylt hypos hyi
    go_wp2
    have hdr : Below w.heap.size w w.drew := (Below.refl _ _).drew
    refine wp_region_held_drew (S := fun V => V.cell? ⟨q, 0, none⟩ = some (.pointer (some ⟨b, 0, none⟩)) ∧ V.cell? ⟨q, 1, none⟩ = some (.int .i64 xn) ∧ Below w.heap.size w V) (by kernel_rfl) ?_ (fun hHeld => ?_)
    · exact ⟨keepc hdr e0, keepc hdr e1, hdr⟩
    refine takeD (i := 0) (v := ?_) 9 rfl rfl (by kernel_rfl) (by kernel_rfl) (by kernel_rfl) (fun _ _ _ h => h) (by assumption) (Or.inl ⟨by rfl, ?_⟩) ?_
    rotate_left
    · intro w hSw
      (try dsimp only at hSw)
      go_simp
      try with_reducible rfl
    simp only [List.setIfInBounds_toArray, List.set_cons_zero, List.set_cons_succ]
    refine takeD (i := 1) (v := ?_) 10 rfl rfl (by kernel_rfl) (by kernel_rfl) (by kernel_rfl) (fun _ _ _ h => h) (by assumption) (Or.inl ⟨by rfl, ?_⟩) ?_
    rotate_left
    · intro w hSw
      (try dsimp only at hSw)
      go_simp
      try with_reducible rfl
    simp only [List.setIfInBounds_toArray, List.set_cons_zero, List.set_cons_succ]
    refine takeD (i := 2) (v := ?_) 11 rfl rfl (by kernel_rfl) (by kernel_rfl) (by kernel_rfl) (fun _ _ _ h => h) (by assumption) (Or.inl ⟨by rfl, ?_⟩) ?_
    rotate_left
    · intro w hSw
      (try dsimp only at hSw)
      go_simp
      try with_reducible rfl
    simp only [List.setIfInBounds_toArray, List.set_cons_zero, List.set_cons_succ]
    refine takeD (i := 3) (v := ?_) 12 rfl rfl (by kernel_rfl) (by kernel_rfl) (by kernel_rfl) (fun _ _ _ h => h) (by assumption) (Or.inl ⟨by rfl, ?_⟩) ?_
    rotate_left
    · intro w hSw
      (try dsimp only at hSw)
      go_simp
      try with_reducible rfl
    simp only [List.setIfInBounds_toArray, List.set_cons_zero, List.set_cons_succ]
    refine takeD (i := 4) (v := ?_) 13 rfl rfl (by kernel_rfl) (by kernel_rfl) (by kernel_rfl) (fun _ _ _ h => h) (by assumption) (Or.inl ⟨by rfl, ?_⟩) ?_
    rotate_left
    · intro w hSw
      (try dsimp only at hSw)
      go_simp
      try with_reducible rfl
    simp only [List.setIfInBounds_toArray, List.set_cons_zero, List.set_cons_succ]
    refine takeD (i := 5) (v := ?_) 14 rfl rfl (by kernel_rfl) (by kernel_rfl) (by kernel_rfl) (fun _ _ _ h => h) (by assumption) (Or.inl ⟨by rfl, ?_⟩) ?_
    rotate_left
    · intro w hSw
      (try dsimp only at hSw)
      go_simp
      try with_reducible rfl
    simp only [List.setIfInBounds_toArray, List.set_cons_zero, List.set_cons_succ]
    refine takeD (i := 6) (v := ?_) 15 rfl rfl (by kernel_rfl) (by kernel_rfl) (by kernel_rfl) (fun _ _ _ h => h) (by assumption) (Or.inl ⟨by rfl, ?_⟩) ?_
    rotate_left
    · intro w hSw
      (try dsimp only at hSw)
      go_simp
      try with_reducible rfl
    simp only [List.setIfInBounds_toArray, List.set_cons_zero, List.set_cons_succ]
    refine takeD (i := 7) (v := ?_) 16 rfl rfl (by kernel_rfl) (by kernel_rfl) (by kernel_rfl) (fun _ _ _ h => h) (by assumption) (Or.inl ⟨by rfl, ?_⟩) ?_
    rotate_left
    · intro w hSw
      (try dsimp only at hSw)
      go_simp
      try with_reducible rfl
    simp only [List.setIfInBounds_toArray, List.set_cons_zero, List.set_cons_succ]
    refine wpAnyH_ready (rs := [8]) (by kernel_rfl) (by simp) ?_
    refine AllReadyH.cons (by simp only [List.getElem?_toArray, List.getElem?_cons_succ, List.getElem?_cons_zero]; rfl) (fun K hK => ?_) AllReadyH.nil
    go_simp
    go_at_call 57; (with_reducible refine (HNX.out _ (HX.out.sp.below hHeld.2.2)).mono ?_); rintro e w5 ⟨rfl, hb5⟩
    refine hK.out _ _ ?_ (fun hHeldN => ?_)
    · exact ⟨keepc hb5 hHeld.1, keepc hb5 hHeld.2.1, below_t hHeld.2.2 hb5⟩
    have HB5 := hid (below_t hHeld.2.2 hb5)
    clear hb5
    clear hK K hHeld
    have hHeld := hHeldN
    clear hHeldN
    (try simp only [Act.put, List.setIfInBounds_toArray, List.set_cons_zero, List.set_cons_succ])
    refine takeD (i := 9) (v := ?_) 2 rfl rfl (by kernel_rfl) (by kernel_rfl) (by kernel_rfl) (fun _ _ _ h => h) (by assumption) (Or.inl ⟨by rfl, ?_⟩) ?_
    rotate_left
    · intro w hSw
      (try dsimp only at hSw)
      go_simp
      try with_reducible rfl
    simp only [List.setIfInBounds_toArray, List.set_cons_zero, List.set_cons_succ]
    refine wpAnyH_done (by kernel_rfl) ?_ _
    clear hHeld
    have g1 := keepc HB5.out e1
    have gf := (HX.out.below HB5.out).fr 1
    have HF := hid (show WrM (w5.setCell ⟨q, 1, none⟩ (.int .i64 tn)) q b g { y with n := tn } ∧ Moved w (w5.setCell ⟨q, 1, none⟩ (.int .i64 tn)) [q, b, g] [q, b, g] from ⟨(HX.out.below HB5.out).at_ tn HTL.out, (HM.trans (Moved.below HB5.out _)).trans (Moved.set (by simp) 1 _)⟩)
    have htz := HTN.out
    split at htz
    · rename_i hle
      obtain rfl : tn = 0 := by omega
      go_wp2
      go_end0
      exact ⟨⟨_, rfl⟩, by rw [HTW.out]; exact HF.out.1, HF.out.2⟩
    · rename_i hle
      obtain rfl : z = tn := by omega
      go_wp2
      go_end0
      exact ⟨⟨_, rfl⟩, by rw [HTW.out]; exact HF.out.1, HF.out.2⟩
  · rw [ht] at c8 HTW0
    simp only [if_true] at HTW0
    clear ht
    generalize nullW x = y at HTW0 HNU
    have HTW := HTW0
    clear HTW0
    go_enter Tryd.func66, Tryd.ntmps66
    go_wp2_with fail
    with_reducible refine (HNU.out _ HX.out).mono ?_
    rintro e w2 ⟨⟨v2, rfl⟩, hw2, hm2⟩
    have HX2 := hid hw2
    have HM := hid hm2
    clear hw2 hm2 c8 HNU HX
    have hylt := HX2.out.lt
    have hypos := HX2.out.sp.ok.pos
    have hyi : I64 (y.n : Int) := i64_small (by omega) (by omega)
    have HTL := hid (tabN_lt (x := y) HX2.out.sp.ok)
    have HNX := hid (fun W (hW : SpM W b g y.s) => next_is (b := b) (g := g) (s := y.s) (y.n : Int) hyi W hW)
    have HTN := hid (show (tabN y : Int) = if seekZ y.s (y.s.wr y.n) 1 ≤ y.n then 0 else seekZ y.s (y.s.wr y.n) 1 from tabN_z HX2.out.sp.ok)
    generalize tabN y = tn at HTL HTN HTW
    generalize seekZ y.s (y.s.wr y.n) 1 = z at HNX HTN
    have e0 := HX2.out.c0
    have e1 := HX2.out.c1
    obtain ⟨xn, hxn⟩ : ∃ k, y.n = k := ⟨_, rfl⟩
    rw [hxn] at HNX HTN e1
    clear hxn hylt hypos hyi
    go_wp2
    have hdr : Below w2.heap.size w2 w2.drew := (Below.refl _ _).drew
    refine wp_region_held_drew (S := fun V => V.cell? ⟨q, 0, none⟩ = some (.pointer (some ⟨b, 0, none⟩)) ∧ V.cell? ⟨q, 1, none⟩ = some (.int .i64 xn) ∧ Below w2.heap.size w2 V) (by kernel_rfl) ?_ (fun hHeld => ?_)
    · exact ⟨keepc hdr e0, keepc hdr e1, hdr⟩
    refine takeD (i := 0) (v := ?_) 9 rfl rfl (by kernel_rfl) (by kernel_rfl) (by kernel_rfl) (fun _ _ _ h => h) (by assumption) (Or.inl ⟨by rfl, ?_⟩) ?_
    rotate_left
    · intro w hSw
      (try dsimp only at hSw)
      go_simp
      try with_reducible rfl
    simp only [List.setIfInBounds_toArray, List.set_cons_zero, List.set_cons_succ]
    refine takeD (i := 1) (v := ?_) 10 rfl rfl (by kernel_rfl) (by kernel_rfl) (by kernel_rfl) (fun _ _ _ h => h) (by assumption) (Or.inl ⟨by rfl, ?_⟩) ?_
    rotate_left
    · intro w hSw
      (try dsimp only at hSw)
      go_simp
      try with_reducible rfl
    simp only [List.setIfInBounds_toArray, List.set_cons_zero, List.set_cons_succ]
    refine takeD (i := 2) (v := ?_) 11 rfl rfl (by kernel_rfl) (by kernel_rfl) (by kernel_rfl) (fun _ _ _ h => h) (by assumption) (Or.inl ⟨by rfl, ?_⟩) ?_
    rotate_left
    · intro w hSw
      (try dsimp only at hSw)
      go_simp
      try with_reducible rfl
    simp only [List.setIfInBounds_toArray, List.set_cons_zero, List.set_cons_succ]
    refine takeD (i := 3) (v := ?_) 12 rfl rfl (by kernel_rfl) (by kernel_rfl) (by kernel_rfl) (fun _ _ _ h => h) (by assumption) (Or.inl ⟨by rfl, ?_⟩) ?_
    rotate_left
    · intro w hSw
      (try dsimp only at hSw)
      go_simp
      try with_reducible rfl
    simp only [List.setIfInBounds_toArray, List.set_cons_zero, List.set_cons_succ]
    refine takeD (i := 4) (v := ?_) 13 rfl rfl (by kernel_rfl) (by kernel_rfl) (by kernel_rfl) (fun _ _ _ h => h) (by assumption) (Or.inl ⟨by rfl, ?_⟩) ?_
    rotate_left
    · intro w hSw
      (try dsimp only at hSw)
      go_simp
      try with_reducible rfl
    simp only [List.setIfInBounds_toArray, List.set_cons_zero, List.set_cons_succ]
    refine takeD (i := 5) (v := ?_) 14 rfl rfl (by kernel_rfl) (by kernel_rfl) (by kernel_rfl) (fun _ _ _ h => h) (by assumption) (Or.inl ⟨by rfl, ?_⟩) ?_
    rotate_left
    · intro w hSw
      (try dsimp only at hSw)
      go_simp
      try with_reducible rfl
    simp only [List.setIfInBounds_toArray, List.set_cons_zero, List.set_cons_succ]
    refine takeD (i := 6) (v := ?_) 15 rfl rfl (by kernel_rfl) (by kernel_rfl) (by kernel_rfl) (fun _ _ _ h => h) (by assumption) (Or.inl ⟨by rfl, ?_⟩) ?_
    rotate_left
    · intro w hSw
      (try dsimp only at hSw)
      go_simp
      try with_reducible rfl
    simp only [List.setIfInBounds_toArray, List.set_cons_zero, List.set_cons_succ]
    refine takeD (i := 7) (v := ?_) 16 rfl rfl (by kernel_rfl) (by kernel_rfl) (by kernel_rfl) (fun _ _ _ h => h) (by assumption) (Or.inl ⟨by rfl, ?_⟩) ?_
    rotate_left
    · intro w hSw
      (try dsimp only at hSw)
      go_simp
      try with_reducible rfl
    simp only [List.setIfInBounds_toArray, List.set_cons_zero, List.set_cons_succ]
    refine wpAnyH_ready (rs := [8]) (by kernel_rfl) (by simp) ?_
    refine AllReadyH.cons (by simp only [List.getElem?_toArray, List.getElem?_cons_succ, List.getElem?_cons_zero]; rfl) (fun K hK => ?_) AllReadyH.nil
    go_simp
    go_at_call 57; (with_reducible refine (HNX.out _ (HX2.out.sp.below hHeld.2.2)).mono ?_); rintro e w5 ⟨rfl, hb5⟩
    refine hK.out _ _ ?_ (fun hHeldN => ?_)
    · exact ⟨keepc hb5 hHeld.1, keepc hb5 hHeld.2.1, below_t hHeld.2.2 hb5⟩
    have HB5 := hid (below_t hHeld.2.2 hb5)
    clear hb5
    clear hK K hHeld
    have hHeld := hHeldN
    clear hHeldN
    (try simp only [Act.put, List.setIfInBounds_toArray, List.set_cons_zero, List.set_cons_succ])
    refine takeD (i := 9) (v := ?_) 2 rfl rfl (by kernel_rfl) (by kernel_rfl) (by kernel_rfl) (fun _ _ _ h => h) (by assumption) (Or.inl ⟨by rfl, ?_⟩) ?_
    rotate_left
    · intro w hSw
      (try dsimp only at hSw)
      go_simp
      try with_reducible rfl
    simp only [List.setIfInBounds_toArray, List.set_cons_zero, List.set_cons_succ]
    refine wpAnyH_done (by kernel_rfl) ?_ _
    clear hHeld
    have g1 := keepc HB5.out e1
    have gf := (HX2.out.below HB5.out).fr 1
    have HF := hid (show WrM (w5.setCell ⟨q, 1, none⟩ (.int .i64 tn)) q b g { y with n := tn } ∧ Moved w (w5.setCell ⟨q, 1, none⟩ (.int .i64 tn)) [q, b, g] [q, b, g] from ⟨(HX2.out.below HB5.out).at_ tn HTL.out, (HM.out.trans (Moved.below HB5.out _)).trans (Moved.set (by simp) 1 _)⟩)
    have htz := HTN.out
    split at htz
    · rename_i hle
      obtain rfl : tn = 0 := by omega
      go_wp2
      go_end0
      exact ⟨⟨_, rfl⟩, by rw [HTW.out]; exact HF.out.1, HF.out.2⟩
    · rename_i hle
      obtain rfl : z = tn := by omega
      go_wp2
      go_end0
      exact ⟨⟨_, rfl⟩, by rw [HTW.out]; exact HF.out.1, HF.out.2⟩
end
end Go.Proofs.YtdampfngdnicoaaDoor
