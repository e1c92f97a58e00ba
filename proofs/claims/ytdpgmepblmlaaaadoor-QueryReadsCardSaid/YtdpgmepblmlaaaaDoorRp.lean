/-
  The document's reading of a field: modes, commands.
-/
import Derived.Test.YtdpgmepblmlaaaaDoorRo
import Derived.RegionTactic
import Derived.BigRegion
import Derived.ChangeAlike
import Derived.Deep.DeepCutAuto
namespace Go.Proofs.YtdpgmepblmlaaaaDoor
open Go.RowKit Go.Lib Go.Deep

theorem Box7.set1 {w : World} {b : Nat} {v0 v1 v2 v3 v4 v5 v6 : Value} (h : Box7 w b v0 v1 v2 v3 v4 v5 v6) (u : Value) : Box7 (w.setCell ⟨b, 0, none⟩ u) b u v1 v2 v3 v4 v5 v6 :=
  ⟨set_s h.c0, set_o (by omega) h.c1, set_o (by omega) h.c2, set_o (by omega) h.c3, set_o (by omega) h.c4, set_o (by omega) h.c5, set_o (by omega) h.c6, fun i hi => by simp [h.fr i hi]⟩
theorem Box7.set06 {w : World} {b : Nat} {v0 v1 v2 v3 v4 v5 v6 : Value} (h : Box7 w b v0 v1 v2 v3 v4 v5 v6) (u x : Value) : Box7 ((w.setCell ⟨b, 0, none⟩ u).setCell ⟨b, 6, none⟩ x) b u v1 v2 v3 v4 v5 x :=
  have k := h.set1 u
  ⟨set_o (by omega) k.c0, set_o (by omega) k.c1, set_o (by omega) k.c2, set_o (by omega) k.c3, set_o (by omega) k.c4, set_o (by omega) k.c5, set_s k.c6, fun i hi => by simp [h.fr i hi]⟩
theorem Box7.set045 {w : World} {b : Nat} {v0 v1 v2 v3 v4 v5 v6 : Value} (h : Box7 w b v0 v1 v2 v3 v4 v5 v6) (u x y : Value) : Box7 (((w.setCell ⟨b, 0, none⟩ u).setCell ⟨b, 4, none⟩ x).setCell ⟨b, 5, none⟩ y) b u v1 v2 v3 x y v6 :=
  have k := h.set1 u
  ⟨set_o (by omega) (set_o (by omega) k.c0), set_o (by omega) (set_o (by omega) k.c1), set_o (by omega) (set_o (by omega) k.c2), set_o (by omega) (set_o (by omega) k.c3), set_o (by omega) (set_s k.c4), set_s (set_o (by omega) k.c5), set_o (by omega) (set_o (by omega) k.c6), fun i hi => by simp [h.fr i hi]⟩
theorem Opn7.moved {w w' : World} {b : Nat} {S S' : List Nat} (h : Opn7 w b) (m : Moved w w' S S') (hb : b ∉ S) : Opn7 w' b := by
  obtain ⟨v0, v1, v2, v3, v4, v5, v6, h⟩ := h
  exact ⟨v0, v1, v2, v3, v4, v5, v6, h.moved m hb⟩
set_option maxRecDepth 100000 in
set_option maxHeartbeats 4000000 in
theorem rof_9 (dv : Value) (xs : List Int) (w : World) (h : Reads w dv xs) : Calls Tryd.prog 17 #[.agg #[.int .u8 9, dv]] w (ErD (inP modeM xs) w) := by
  have HE := hid (fun (m : Int × AcD) (e : inP modeM xs = m) (h1 : m.2.codes = []) (h2 : m.2.rcd = []) w' (hb : Below w.heap.size w w') => (show ErD (inP modeM xs) w (.returned (.tuple #[acV m.2 (.slice none 0 0) (.slice none 0 0), .int .i64 m.1])) w' from by rw [e]; exact er_plain (m := m) (w := w) (w' := w') h1 h2 hb))
  obtain ⟨x, c, rfl, hop⟩ := reads_open h
  match xs, h, hop, HE with
  | [], h, hop, HE =>
    have HE1 := hid (HE.out (4, acZ) rfl rfl rfl)
    clear h HE hop
    go_enter Tryd.func17, Tryd.ntmps17
    go_wp2
    refine bodyPost_ret (v := .tuple #[.agg #[.int .i64 0, .int .i64 0, .int .i64 0, .bool false, .int .u8 0, .slice none 0 0, .slice none 0 0], .int .i64 4]) (by simp [results, Tryd.results17, go_sem]) rfl (HE1.out _ ?_)
    exact bal (bal (bal (Below.refl _ _) _) _) _
  | [b], h, hop, HE =>
    have HE1 := hid (HE.out (4, acZ) rfl rfl rfl)
    clear h HE hop
    go_enter Tryd.func17, Tryd.ntmps17
    go_wp2
    refine bodyPost_ret (v := .tuple #[.agg #[.int .i64 0, .int .i64 0, .int .i64 0, .bool false, .int .u8 0, .slice none 0 0, .slice none 0 0], .int .i64 4]) (by simp [results, Tryd.results17, go_sem]) rfl (HE1.out _ ?_)
    exact bal (bal (bal (Below.refl _ _) _) _) _
  | b0 :: b1 :: r, h, hop, HE =>
    obtain ⟨g, o, rfl, hgl, hc, hm, hcell⟩ := hop (by simp)
    have hgl1 : g < w.heap.size + 1 := by omega
    have hgl2 : g < w.heap.size + 1 + 1 := by omega
    have k0 := h.1 b0 (by simp)
    have k1 := h.1 b1 (by simp)
    have c0 : w.cell? ⟨g, o, none⟩ = some (.int .u8 b0) := hcell 0 (by simp)
    have c1 : w.cell? ⟨g, o + 1, none⟩ = some (.int .u8 b1) := hcell 1 (by simp)
    obtain ⟨b0, rfl⟩ : ∃ n : Nat, b0 = n := ⟨b0.toNat, by omega⟩
    obtain ⟨b1, rfl⟩ : ∃ n : Nat, b1 = n := ⟨b1.toNat, by omega⟩
    have hM := inP_cons modeM (b0 : Int) ((b1 : Int) :: r)
    obtain ⟨N, hN⟩ : ∃ N, ((b0 : Int) :: (b1 : Int) :: r).length = N := ⟨_, rfl⟩
    rw [hN]
    rw [List.length_cons, List.length_cons] at hN
    have n1 : 1 < N := by omega
    have n0 : 0 < N := by omega
    have i1 : (1 : Int) < N := by omega
    have i2 : ¬ (N : Int) < 2 := by omega
    have i0 : (0 : Int) < N := by omega
    clear hcell hc hm
    have hw : IntKind.i64.wrap (b1 : Int) = b1 := wraps_i64 _ (by omega) (by omega)
    have hR := modeM_cons (b1 : Int) r
    by_cases h2 : (2 : Int) < b1
    · rw [if_pos (.inl h2)] at hR
      clear hN
      have HE1 := hid (HE.out (4, acZ) (by rw [hM, hR, if_neg Bool.false_ne_true]) rfl rfl)
      clear h hM HE hR 
      go_enter Tryd.func17, Tryd.ntmps17
      go_wp2
      refine bodyPost_ret (v := .tuple #[.agg #[.int .i64 0, .int .i64 0, .int .i64 0, .bool false, .int .u8 0, .slice none 0 0, .slice none 0 0], .int .i64 4]) (by simp [results, Tryd.results17, go_sem]) rfl (HE1.out _ ?_)
      exact bal (bal (bal (Below.refl _ _) _) _) _
    by_cases h3 : (b1 : Int) < 2 ∧ r ≠ []
    · rw [if_pos (.inr h3)] at hR
      have hr0 : 0 < r.length := List.length_pos_iff.2 h3.2
      have i3 : (2 : Int) < N := by omega
      have i4 := h3.1
      clear hN hr0 h3
      have HE1 := hid (HE.out (4, acZ) (by rw [hM, hR, if_neg Bool.false_ne_true]) rfl rfl)
      clear h hM HE hR 
      go_enter Tryd.func17, Tryd.ntmps17
      go_wp2
      refine bodyPost_ret (v := .tuple #[.agg #[.int .i64 0, .int .i64 0, .int .i64 0, .bool false, .int .u8 0, .slice none 0 0, .slice none 0 0], .int .i64 4]) (by simp [results, Tryd.results17, go_sem]) rfl (HE1.out _ ?_)
      exact bal (bal (bal (Below.refl _ _) _) _) _
    rw [if_neg (fun hh => hh.elim h2 h3)] at hR
    by_cases h4 : (b1 : Int) < 2
    · have hr : r = [] := Classical.byContradiction fun hh => h3 ⟨h4, hh⟩
      subst hr
      obtain rfl : N = 2 := by simpa using hN.symm
      clear hN h3
      by_cases hp : (b0 : Int) = 0
      · obtain rfl : b0 = 0 := by omega
        have HE1 := hid (HE.out (0, ⟨5, 0, b1, false, 0, [], []⟩) (by rw [hM, hR, if_pos rfl]; exact if_pos rfl) rfl rfl)
        clear h hM HE hp hR 
        go_enter Tryd.func17, Tryd.ntmps17
        go_wp2
        go_region
        all_goals
          go_wp2
          refine bodyPost_ret (v := .tuple #[.agg #[.int .i64 5, .int .i64 0, .int .i64 b1, .bool false, .int .u8 0, .slice none 0 0, .slice none 0 0], .int .i64 0]) (by simp [results, Tryd.results17, go_sem]) rfl (HE1.out _ ?_)
          exact (bal (bal (bal (Below.refl _ _) _) _) _).drew
      · have HE1 := hid (HE.out (1, acZ) (by rw [hM, hR, if_pos rfl]; exact if_neg hp) rfl rfl)
        have e1 : ((b0 : Int) == 0) = false := by simpa using hp
        clear h hM HE hp hR 
        go_enter Tryd.func17, Tryd.ntmps17
        go_wp2
        go_region
        all_goals
          go_wp2
          refine bodyPost_ret (v := .tuple #[.agg #[.int .i64 0, .int .i64 0, .int .i64 0, .bool false, .int .u8 0, .slice none 0 0, .slice none 0 0], .int .i64 1]) (by simp [results, Tryd.results17, go_sem]) rfl (HE1.out _ ?_)
          exact (bal (bal (bal (Below.refl _ _) _) _) _).drew
    clear hN h3
    by_cases hp : (b0 : Int) = 0
    · obtain rfl : b0 = 0 := by omega
      have HE1 := hid (HE.out (0, ⟨5, 0, b1, false, 0, [], []⟩) (by rw [hM, hR, if_pos rfl]; exact if_pos rfl) rfl rfl)
      clear h hM HE hp hR 
      go_enter Tryd.func17, Tryd.ntmps17
      go_wp2
      go_region
      all_goals
        go_wp2
        refine bodyPost_ret (v := .tuple #[.agg #[.int .i64 5, .int .i64 0, .int .i64 b1, .bool false, .int .u8 0, .slice none 0 0, .slice none 0 0], .int .i64 0]) (by simp [results, Tryd.results17, go_sem]) rfl (HE1.out _ ?_)
        exact (bal (bal (bal (Below.refl _ _) _) _) _).drew
    · have HE1 := hid (HE.out (1, acZ) (by rw [hM, hR, if_pos rfl]; exact if_neg hp) rfl rfl)
      have e1 : ((b0 : Int) == 0) = false := by simpa using hp
      clear h hM HE hp hR 
      go_enter Tryd.func17, Tryd.ntmps17
      go_wp2
      go_region
      all_goals
        go_wp2
        refine bodyPost_ret (v := .tuple #[.agg #[.int .i64 0, .int .i64 0, .int .i64 0, .bool false, .int .u8 0, .slice none 0 0, .slice none 0 0], .int .i64 1]) (by simp [results, Tryd.results17, go_sem]) rfl (HE1.out _ ?_)
        exact (bal (bal (bal (Below.refl _ _) _) _) _).drew
theorem cmdF_range : ∀ b : Nat, b < 256 → 0 ≤ (cmdF b).1 ∧ (cmdF b).1 ≤ 8 := by decide +kernel
set_option maxRecDepth 100000 in
set_option maxHeartbeats 4000000 in
theorem rof_64 (dv : Value) (xs : List Int) (w : World) (h : Reads w dv xs) (hl : xs.length ≤ 10000000) : Calls Tryd.prog 17 #[.agg #[.int .u8 64, dv]] w (ErD (inP outM xs) w) := by
  have HE := hid (fun (m : Int × AcD) (e : inP outM xs = m) (h1 : m.2.codes = []) (h2 : m.2.rcd = []) w' (hb : Below w.heap.size w w') => (show ErD (inP outM xs) w (.returned (.tuple #[acV m.2 (.slice none 0 0) (.slice none 0 0), .int .i64 m.1])) w' from by rw [e]; exact er_plain (m := m) (w := w) (w' := w') h1 h2 hb))
  obtain ⟨x, c, rfl, hop⟩ := reads_open h
  match xs, h, hop, HE with
  | [], h, hop, HE =>
    have HE1 := hid (HE.out (4, acZ) rfl rfl rfl)
    clear h HE hop
    go_enter Tryd.func17, Tryd.ntmps17
    go_wp2
    refine bodyPost_ret (v := .tuple #[.agg #[.int .i64 0, .int .i64 0, .int .i64 0, .bool false, .int .u8 0, .slice none 0 0, .slice none 0 0], .int .i64 4]) (by simp [results, Tryd.results17, go_sem]) rfl (HE1.out _ ?_)
    exact bal (bal (bal (Below.refl _ _) _) _) _
  | [b], h, hop, HE =>
    have HE1 := hid (HE.out (4, acZ) rfl rfl rfl)
    clear h HE hop
    go_enter Tryd.func17, Tryd.ntmps17
    go_wp2
    refine bodyPost_ret (v := .tuple #[.agg #[.int .i64 0, .int .i64 0, .int .i64 0, .bool false, .int .u8 0, .slice none 0 0, .slice none 0 0], .int .i64 4]) (by simp [results, Tryd.results17, go_sem]) rfl (HE1.out _ ?_)
    exact bal (bal (bal (Below.refl _ _) _) _) _
  | b0 :: b1 :: r, h, hop, HE =>
    obtain ⟨g, o, rfl, hgl, hc, hm, hcell⟩ := hop (by simp)
    have hgl1 : g < w.heap.size + 1 := by omega
    have hgl2 : g < w.heap.size + 1 + 1 := by omega
    have k0 := h.1 b0 (by simp)
    have k1 := h.1 b1 (by simp)
    have c0 : w.cell? ⟨g, o, none⟩ = some (.int .u8 b0) := hcell 0 (by simp)
    have c1 : w.cell? ⟨g, o + 1, none⟩ = some (.int .u8 b1) := hcell 1 (by simp)
    obtain ⟨b0, rfl⟩ : ∃ n : Nat, b0 = n := ⟨b0.toNat, by omega⟩
    obtain ⟨b1, rfl⟩ : ∃ n : Nat, b1 = n := ⟨b1.toNat, by omega⟩
    have hM := inP_cons outM (b0 : Int) ((b1 : Int) :: r)
    obtain ⟨N, hN⟩ : ∃ N, ((b0 : Int) :: (b1 : Int) :: r).length = N := ⟨_, rfl⟩
    rw [hN]
    rw [List.length_cons, List.length_cons] at hN
    have n1 : 1 < N := by omega
    have n0 : 0 < N := by omega
    have i1 : (1 : Int) < N := by omega
    have i2 : ¬ (N : Int) < 2 := by omega
    have i0 : (0 : Int) < N := by omega
    clear hcell hc hm
    have hR : outM ((b1 : Int) :: r) = (⟨9, 0, 0, false, 0, [], (b1 : Int) :: r⟩, outOK b1) := rfl
    have HCM := hid (fun W => rcommand_any b1 (by omega) W)
    have HRG := hid (cmdF_range b1 (by omega))
    cases ho : outOK (b1 : Int)
    · rw [ho] at hR
      have hc : (if (cmdF (b1 : Int)).2 then (cmdF (b1 : Int)).1 else -1) < 0 ∨ 4 < (if (cmdF (b1 : Int)).2 then (cmdF (b1 : Int)).1 else -1) := by
        unfold outOK at ho
        cases h2 : (cmdF (b1 : Int)).2
        · rw [if_neg Bool.false_ne_true]
          omega
        · rw [h2] at ho
          rw [if_pos rfl]
          have : ¬ (cmdF (b1 : Int)).1 ≤ 4 := by simpa using ho
          omega
      generalize (if (cmdF (b1 : Int)).2 then (cmdF (b1 : Int)).1 else -1) = cm at HCM hc
      have HE1 := hid (HE.out (4, acZ) (by rw [hM, hR, if_neg Bool.false_ne_true]) rfl rfl)
      clear h hM HE hR ho hN hl HRG
      by_cases h0 : cm < 0
      · clear hc
        go_enter Tryd.func17, Tryd.ntmps17
        go_wp2_with fail
        with_reducible refine (HCM.out _).mono ?_
        rintro e w1 ⟨rfl, hw⟩
        obtain rfl := hw
        go_wp2
        refine bodyPost_ret (v := .tuple #[.agg #[.int .i64 0, .int .i64 0, .int .i64 0, .bool false, .int .u8 0, .slice none 0 0, .slice none 0 0], .int .i64 4]) (by simp [results, Tryd.results17, go_sem]) rfl (HE1.out _ ?_)
        exact bal (bal (bal (Below.refl _ _) _) _) _
      have h4 : 4 < cm := by omega
      clear hc
      go_enter Tryd.func17, Tryd.ntmps17
      go_wp2_with fail
      with_reducible refine (HCM.out _).mono ?_
      rintro e w1 ⟨rfl, hw⟩
      obtain rfl := hw
      go_wp2
      refine bodyPost_ret (v := .tuple #[.agg #[.int .i64 0, .int .i64 0, .int .i64 0, .bool false, .int .u8 0, .slice none 0 0, .slice none 0 0], .int .i64 4]) (by simp [results, Tryd.results17, go_sem]) rfl (HE1.out _ ?_)
      exact bal (bal (bal (Below.refl _ _) _) _) _
    rw [ho] at hR
    have hc : ¬ (if (cmdF (b1 : Int)).2 then (cmdF (b1 : Int)).1 else -1) < 0 ∧ ¬ 4 < (if (cmdF (b1 : Int)).2 then (cmdF (b1 : Int)).1 else -1) := by
      unfold outOK at ho
      have hr := HRG.out
      cases h2 : (cmdF (b1 : Int)).2
      · rw [h2] at ho
        simp at ho
      · rw [h2] at ho
        rw [if_pos rfl]
        have : (cmdF (b1 : Int)).1 ≤ 4 := by simpa using ho
        omega
    generalize (if (cmdF (b1 : Int)).2 then (cmdF (b1 : Int)).1 else -1) = cm at HCM hc
    obtain ⟨hc0, hc4⟩ := hc
    obtain ⟨xs, cs, hsl0, hrd⟩ := from_all h 1 (by simp)
    have hdr : ((b0 : Int) :: (b1 : Int) :: r).drop 1 = (b1 : Int) :: r := rfl
    rw [hdr] at hrd
    have hlen : ((b0 : Int) :: (b1 : Int) :: r).length - 1 = N - 1 := by simp; omega
    rw [hlen] at hsl0 hrd
    have hlen2 : ((b0 : Int) :: (b1 : Int) :: r).length = N := by simp; omega
    rw [hlen2] at hsl0 h hrd
    have hn1' : (1 : Nat) ≤ N := by omega
    have HCP := hid (fun W (hW : Below w.heap.size w W) => rcopy_own _ _ W (hrd W (reads_below h hW)) (by simp at hl; simp; omega))
    have hsl : ∀ w', (Instr.sliceAt 22 (.slice (some ⟨g, o, none⟩) N c) (some (.int .i64 1)) none none).run Tryd.prog w' = .ok (.slice xs (N - 1) cs) w' := hsl0
    obtain ⟨w0, hw0⟩ : ∃ w0, ((w.alloc (.cells #[.int .u8 64, .slice (some ⟨g, o, none⟩) N c] 36)).alloc (.cells #[.int .i64 0, .int .i64 0, .int .i64 0, .bool false, .int .u8 0, .slice none 0 0, .slice none 0 0] 41)).alloc (.cells #[.int .i64 0, .int .i64 0, .int .i64 0, .bool false, .int .u8 0, .slice none 0 0, .slice none 0 0] 41) = w0 := ⟨_, rfl⟩
    have hb0 : Below w.heap.size w w0 := by rw [← hw0]; exact bal (bal (bal (Below.refl _ _) _) _) _
    have hz0 : w0.heap.size = w.heap.size + 3 := by rw [← hw0]; simp
    have HA0 := hid (show Box7 w0 (w.heap.size + 1 + 1) (.int .i64 0) (.int .i64 0) (.int .i64 0) (.bool false) (.int .u8 0) (.slice none 0 0) (.slice none 0 0) from by
      rw [← hw0]
      exact ⟨by simp [go_sem], by simp [go_sem], by simp [go_sem], by simp [go_sem], by simp [go_sem], by simp [go_sem], by simp [go_sem], fun i _ => by simp [go_sem]⟩)
    have HR0 := hid (show Opn7 w0 (w.heap.size + 1) from by
      rw [← hw0]
      exact ⟨_, _, _, _, _, _, _, ⟨by simp [go_sem]; rfl, by simp [go_sem]; rfl, by simp [go_sem]; rfl, by simp [go_sem]; rfl, by simp [go_sem]; rfl, by simp [go_sem]; rfl, by simp [go_sem]; rfl, fun i _ => by simp [go_sem]⟩⟩)
    have HCP0 := hid (HCP.out w0 hb0)
    have HB0 := hid hb0
    have HW0 := hid hw0
    have HM := hid hM
    rw [hR, if_pos rfl] at HM
    generalize inP outM ((b0 : Int) :: (b1 : Int) :: r) = R at HM ⊢
    clear h hsl0 hrd hdr hlen hlen2 hM HE hR ho hN hl HRG HCP hw0 hb0
    go_enter Tryd.func17, Tryd.ntmps17
    go_wp2_with fail
    with_reducible refine (HCM.out _).mono ?_
    rintro e w1 ⟨rfl, hw⟩
    obtain rfl := hw
    go_wp2_with fail
    rw [HW0.out]
    with_reducible refine HCP0.out.mono ?_
    rintro e w2 ⟨vc, rfl, ho, hb2, hk⟩
    obtain ⟨xv, nv, cv, rfl⟩ := own_slice ho
    have hz2 := hb2.size
    obtain ⟨a0, a1, a2, a3, a4, a5, a6, af⟩ := HA0.out.step hb2
    have f0 := af 0 (by omega)
    have f6 := af 6 (by omega)
    have HA2 := hid (HA0.out.step hb2)
    have HR2 := hid (HR0.out.step hb2)
    have HO2 := hid ho
    have HB2 := hid (below_t HB0.out hb2)
    have HK2 := hid (show ∀ j ∈ blkV (.slice xv nv cv), w.heap.size + 2 < j from fun j q => by have := hk j q; omega)
    have HC2 := hid (keepc HB2.out c0)
    have hlt2 : w.heap.size + 1 + 1 < w2.heap.size := by omega
    clear ho hb2 hk af
    go_upto_region 43 with fail
    obtain ⟨w3, hw3⟩ : ∃ w3, (w2.setCell ⟨w.heap.size + 1 + 1, 0, none⟩ (.int .i64 9)).setCell ⟨w.heap.size + 1 + 1, 6, none⟩ (.slice xv nv cv) = w3 := ⟨_, rfl⟩
    have hm3 : Moved w2 w3 [w.heap.size + 1 + 1] [w.heap.size + 1 + 1] := by rw [← hw3]; exact (Moved.set (by simp) _ _).trans (Moved.set (by simp) _ _)
    have HA3 := hid (show Box7 w3 (w.heap.size + 1 + 1) (.int .i64 9) (.int .i64 0) (.int .i64 0) (.bool false) (.int .u8 0) (.slice none 0 0) (.slice xv nv cv) from by rw [← hw3]; exact HA2.out.set06 _ _)
    have HOP := hid (HR2.out.moved hm3 (by simp))
    have HO3 := hid (HO2.out.moved hm3 (fun j q q2 => by have := HK2.out j q; have := List.mem_singleton.1 q2; omega))
    have HB3 := hid (show Below w.heap.size w w3 from HB2.out.trans (hm3.toBelow (by omega) (fun j q => by have := List.mem_singleton.1 q; omega)))
    have c0 := cell_moved hm3 HC2.out (fun q => by have := List.mem_singleton.1 q; have h2 : g = w.heap.size + 1 + 1 := this; omega)
    rw [hw3]
    clear a0 a1 a2 a3 a4 a5 a6 f0 f6 hm3 hw3 hz2 c1 HA2 HR2
    obtain ⟨x0, x1, x2, x3, x4, x5, x6, -⟩ := HA3.out
    obtain ⟨z0, z1, z2, z3, z4, z5, z6, y0, y1, y2, y3, y4, y5, y6, y7, y8, y9, ya, yb, yc, yd⟩ := HOP.out.out
    by_cases hp : (b0 : Int) = 0
    · obtain rfl : b0 = 0 := by omega
      obtain rfl : R = (0, ⟨9, 0, 0, false, 0, [], (b1 : Int) :: r⟩) := HM.out.trans (if_pos rfl)
      clear hp
      go_wp2
      obtain ⟨k0, k1, k2, k3, k4, k5, k6, -⟩ := Opn7.put (w := w3) (b := (w.heap.size + 1)) HOP.out (.int .i64 9) (.int .i64 0) (.int .i64 0) (.bool false) (.int .u8 0) (.slice none 0 0) (.slice xv nv cv)
      have HF := hid (show ErD (0, ⟨9, 0, 0, false, 0, [], (b1 : Int) :: r⟩) w (.returned (.tuple #[acV ⟨9, 0, 0, false, 0, [], (b1 : Int) :: r⟩ (.slice none 0 0) (.slice xv nv cv), .int .i64 0])) (put7 w3 (w.heap.size + 1) (.int .i64 9) (.int .i64 0) (.int .i64 0) (.bool false) (.int .u8 0) (.slice none 0 0) (.slice xv nv cv)) from ⟨_, _, rfl, OwnB.nil _, put7_own HO3.out (fun j q => by have := HK2.out j q; omega) _ _ _ _ _ _ _, put7_below HB3.out (by omega) _ _ _ _ _ _ _, fun _ q => (by cases q), fun j q => by have := HK2.out j q; omega⟩)
      revert HF k0 k1 k2 k3 k4 k5 k6
      generalize hW : put7 w3 (w.heap.size + 1) (.int .i64 9) (.int .i64 0) (.int .i64 0) (.bool false) (.int .u8 0) (.slice none 0 0) (.slice xv nv cv) = Wf
      intro k0 k1 k2 k3 k4 k5 k6 HF
      unfold put7 at hW
      rw [hW]
      exact bodyPost_ret (v := .tuple #[.agg #[.int .i64 9, .int .i64 0, .int .i64 0, .bool false, .int .u8 0, .slice none 0 0, .slice xv nv cv], .int .i64 0]) (by simp [results, Tryd.results17, go_sem, k0, k1, k2, k3, k4, k5, k6]) rfl HF.out
    · obtain rfl : R = (1, acZ) := HM.out.trans (if_neg hp)
      have e1 : ((b0 : Int) == 0) = false := by simpa using hp
      clear hp
      go_wp2
      obtain ⟨k0, k1, k2, k3, k4, k5, k6, -⟩ := Opn7.put (w := w3) (b := (w.heap.size + 1)) HOP.out (.int .i64 0) (.int .i64 0) (.int .i64 0) (.bool false) (.int .u8 0) (.slice none 0 0) (.slice none 0 0)
      have HF := hid (show ErD (1, acZ) w (.returned (.tuple #[acV acZ (.slice none 0 0) (.slice none 0 0), .int .i64 1])) (put7 w3 (w.heap.size + 1) (.int .i64 0) (.int .i64 0) (.int .i64 0) (.bool false) (.int .u8 0) (.slice none 0 0) (.slice none 0 0)) from Opn7.putZ (m := (1, acZ)) HB3.out (by omega) rfl)
      revert HF k0 k1 k2 k3 k4 k5 k6
      generalize hW : put7 w3 (w.heap.size + 1) (.int .i64 0) (.int .i64 0) (.int .i64 0) (.bool false) (.int .u8 0) (.slice none 0 0) (.slice none 0 0) = Wf
      intro k0 k1 k2 k3 k4 k5 k6 HF
      unfold put7 at hW
      rw [hW]
      exact bodyPost_ret (v := .tuple #[.agg #[.int .i64 0, .int .i64 0, .int .i64 0, .bool false, .int .u8 0, .slice none 0 0, .slice none 0 0], .int .i64 1]) (by simp [results, Tryd.results17, go_sem, k0, k1, k2, k3, k4, k5, k6]) rfl HF.out
end Go.Proofs.YtdpgmepblmlaaaaDoor
