/-
  Modify, the reference's Modify, Unmodify, Modified; two that are alike.
-/
import Derived.Test.YtdaainifnbbhiaaZy
namespace Go.Proofs.Ytdaainifnbbhiaa
open Go.RowKit Go.Lib Go.Deep

theorem rattf3 (p n m : Bool) (d : Int) (w : World) : (Instr.field 74 (.agg #[.bool p, .bool n, .int .i64 d, .bool m]) 3).run Try.prog w = .ok (.bool m) w := by kernel_rfl
/-- A place's field, marked, if there is one. -/
def modS (s : Spc) (n : Int) : Spc := if stF s.P s.L.length (s.wr n) < 0 then s else mkS s (stF s.P s.L.length (s.wr n)).toNat true
def modB (s : Spc) (n : Int) : Bool := decide (0 ≤ stF s.P s.L.length (s.wr n))
/-- The attributes, unmarked one after the other. -/
def unS (s : Spc) : Nat → Spc
  | 0 => s
  | k + 1 => mkS (unS s k) (s.A.getD k 0) false
theorem mkS_len (s : Spc) (a : Nat) (m : Bool) : (mkS s a m).L.length = s.L.length := Spc.put1_len _ _ _
theorem mkS_ok {s : Spc} (h : s.OK) (a : Nat) (m : Bool) : (mkS s a m).OK := h.put1 _ (fit_ok (mk1_ok (h.cel a) m))
theorem fit_at (c : Cel) : (fit c).at_ = c.at_ := by unfold fit; split <;> rfl
theorem mkS_at (s : Spc) (a i : Nat) (m : Bool) : ((mkS s a m).cel i).at_ = (s.cel i).at_ := by
  unfold mkS
  rw [Spc.put1_cel]
  split
  · rename_i q
    rw [fit_at, q.1]
    rfl
  · rfl
theorem mkS_P (s : Spc) (a : Nat) (m : Bool) : (mkS s a m).P = s.P := funext fun i => mkS_at s a i m
theorem unS_len (s : Spc) (k : Nat) : (unS s k).L.length = s.L.length := by
  induction k with
  | zero => rfl
  | succ k ih => unfold unS; rw [mkS_len, ih]
theorem unS_P (s : Spc) (k : Nat) : (unS s k).P = s.P := by
  induction k with
  | zero => rfl
  | succ k ih => unfold unS; rw [mkS_P, ih]
theorem unS_ok {s : Spc} (h : s.OK) (k : Nat) : (unS s k).OK := by
  induction k with
  | zero => exact h
  | succ k ih => unfold unS; exact mkS_ok ih _ _
section
variable {b g : Nat} {s : Spc}
set_option maxRecDepth 100000 in
set_option maxHeartbeats 8000000 in
theorem modify_any (n : Int) (hn : I64 n) (w : World) (h : SpM w b g s) : Calls Try.prog 60 #[.pointer (some ⟨b, 0, none⟩), .int .i64 n] w fun e w' => e = .returned (.bool (modB s n)) ∧ SpM w' b g (modS s n) ∧ Moved w w' [b, g] [b, g] := by
  have HS := hid (fun W h => start_any (b := b) (g := g) (s := s) n hn W h)
  have HH := hid h
  rcases stF_bd s.P (h.ok.wr_lt n) with he | ⟨a, ha, hp, he⟩
  · have HE := hid (show modB s n = false ∧ modS s n = s by unfold modB modS; rw [he]; exact ⟨rfl, rfl⟩)
    rw [he] at HS
    rw [HE.out.1, HE.out.2]
    clear h hn he
    go_enter Try.func60, Try.ntmps60
    go_wp2_with fail
    with_reducible refine (HS.out _ HH.out).mono ?_
    rintro e w1 ⟨rfl, hb1⟩
    have HB1 := hid hb1
    clear hb1
    go_wp2
    go_ret
    exact ⟨rfl, HH.out.below HB1.out, Moved.below HB1.out _⟩
  · have HE := hid (show modB s n = true ∧ modS s n = mkS s a true by
      unfold modB modS
      rw [he, if_neg (by omega), Int.toNat_natCast]
      exact ⟨decide_eq_true (by omega), rfl⟩)
    have HM := hid (fun W h => mark_any (b := b) (g := g) (s := s) a ha hp true W h)
    rw [he] at HS
    rw [HE.out.1, HE.out.2]
    have hneg : ¬ ((a : Int) = -1) := by omega
    clear h hn he ha hp
    go_enter Try.func60, Try.ntmps60
    go_wp2_with fail
    with_reducible refine (HS.out _ HH.out).mono ?_
    rintro e w1 ⟨rfl, hb1⟩
    have HB1 := hid hb1
    clear hb1
    go_wp2_with fail
    with_reducible refine (HM.out _ (HH.out.below HB1.out)).mono ?_
    rintro e w2 ⟨⟨v2, rfl⟩, hs, hm⟩
    have HR := hid (And.intro hs ((Moved.below HB1.out [b, g]).trans hm))
    clear hs hm
    go_wp2
    go_ret
    exact ⟨rfl, HR.out.1, HR.out.2⟩
set_option maxRecDepth 100000 in
set_option maxHeartbeats 8000000 in
theorem rmodify_any (n : Int) (hn : I64 n) (w : World) (h : RfM w b g s) : Calls Try.prog 61 #[.pointer (some ⟨b, 0, none⟩), .int .i64 n] w fun e w' => e = .returned (.bool (modB s n)) ∧ RfM w' b g (modS s n) ∧ Moved w w' [b, g] [b, g] := by
  have HS := hid (fun W h => rstart_any (b := b) (g := g) (s := s) n hn W h)
  have HH := hid h
  rcases stF_bd s.P (h.ok.wr_lt n) with he | ⟨a, ha, hp, he⟩
  · have HE := hid (show modB s n = false ∧ modS s n = s by unfold modB modS; rw [he]; exact ⟨rfl, rfl⟩)
    rw [he] at HS
    rw [HE.out.1, HE.out.2]
    clear h hn he
    go_enter Try.func61, Try.ntmps61
    go_wp2_with fail
    with_reducible refine (HS.out _ HH.out).mono ?_
    rintro e w1 ⟨rfl, hb1⟩
    have HB1 := hid hb1
    clear hb1
    go_wp2
    go_ret
    exact ⟨rfl, HH.out.below HB1.out, Moved.below HB1.out _⟩
  · have HE := hid (show modB s n = true ∧ modS s n = mkS s a true by
      unfold modB modS
      rw [he, if_neg (by omega), Int.toNat_natCast]
      exact ⟨decide_eq_true (by omega), rfl⟩)
    have hN := h.ok.pos
    have hok := mk1_ok (h.ok.cel a) true
    have HM := hid (fun W h => (show Calls Try.prog 88 #[.pointer (some ⟨b, 0, none⟩), .int .i64 a, ((s.cel a).mk1 true).v] W (RfD b g (mkS s a true) W) from by
      have q := rset_any (b := b) (g := g) (s := s) (a : Int) (i64_small (by omega) (by omega)) ((s.cel a).mk1 true) hok W h
      rwa [mkS_set ha] at q))
    have HX := hid (fun W (hW : RfM W b g s) => (show W.cell? ⟨b, 4, none⟩ = some (.slice (some ⟨g, 0, none⟩) s.L.length s.L.length) ∧ W.cell? ⟨g, a * 6, none⟩ = some (.int .u8 (s.cel a).ch) ∧ W.cell? ⟨g, a * 6 + 1, none⟩ = some (.bool (s.cel a).at_) ∧ W.cell? ⟨g, a * 6 + 2, none⟩ = some (.int .u8 (s.cel a).fa) ∧ W.cell? ⟨g, a * 6 + 3, none⟩ = some (.int .u8 (s.cel a).hi) ∧ W.cell? ⟨g, a * 6 + 4, none⟩ = some (.int .u8 (s.cel a).co) ∧ W.cell? ⟨g, a * 6 + 5, none⟩ = some (.int .u8 (s.cel a).se) from ⟨hW.h4, hW.row.six a ha _ rfl⟩))
    have hai : (a : Int) < s.L.length := by omega
    have HMK := hid (show (s.cel a).mk1 true = { s.cel a with fa := bits .or .u8 (s.cel a).fa 1 } from rfl)
    rw [HMK.out] at HM
    rw [he] at HS
    rw [HE.out.1, HE.out.2]
    have hneg : ¬ ((a : Int) < 0) := by omega
    generalize s.cel a = c at HM HX
    generalize mkS s a true = s2 at HM ⊢
    generalize s.L.length = N at HX hai hN
    clear h hn he ha hp hok HMK HE
    obtain ⟨x0, x1, x2, x3, x4, x5⟩ := c
    dsimp only at HM HX
    go_enter Try.func61, Try.ntmps61
    go_wp2_with fail
    with_reducible refine (HS.out _ HH.out).mono ?_
    rintro e w1 ⟨rfl, hb1⟩
    have HB1 := hid hb1
    obtain ⟨y4, y0, y1, y2, y3, y5, y6⟩ := HX.out _ (HH.out.below HB1.out)
    have hl4 := World.block_lt_of_cell? w1 _ y4
    have hl0 := World.block_lt_of_cell? w1 _ y0
    clear hb1
    go_wp2_with fail
    with_reducible refine (HM.out _ (HH.out.below (below_t HB1.out (bal (Below.refl w1.heap.size w1) _)))).mono ?_
    rintro e w2 ⟨⟨v2, rfl⟩, hs, hm⟩
    have HR := hid (And.intro hs ((Moved.below (below_t HB1.out (bal (Below.refl w1.heap.size w1) _)) [b, g]).trans hm))
    clear hs hm
    go_wp2
    go_ret
    exact ⟨rfl, HR.out.1, HR.out.2⟩
set_option maxRecDepth 100000 in
set_option maxHeartbeats 8000000 in
theorem runmodify_any (w : World) (h : RfM w b g s) : Calls Try.prog 66 #[.pointer (some ⟨b, 0, none⟩)] w (RfD b g (unS s s.A.length) w) := by
  obtain ⟨i0, hi, hz0, hz1, hz2⟩ := info_parts infoI
  have hN := h.ok.pos
  have HRA := hid (rattrs_any b g s w h)
  have HH := hid h
  obtain ⟨NA, hNA⟩ : ∃ NA : Nat, s.A.length = NA := ⟨_, rfl⟩
  have HAE := hid (show s.iA NA = intsV (s.A.map Int.ofNat) ∧ (s.A.map Int.ofNat).length = NA ∧ s.A.length = NA by
    exact ⟨by unfold Spc.iA; rw [← hNA, List.take_length], by rw [List.length_map]; exact hNA, hNA⟩)
  have hNA1 : NA ≤ 3564 := by rw [← hNA]; exact Nat.le_trans (attP_len _ _) hN.2
  have HMEM := hid (fun a (h : a ∈ s.A) => attP_mem (P := s.P) (N := s.L.length) h)
  rw [hNA] at HRA
  have HSET := hid (fun (k a : Nat) (ha : a < s.L.length) W (h : RfM W b g (unS s k)) => (show Calls Try.prog 88 #[.pointer (some ⟨b, 0, none⟩), .int .i64 a, (((unS s k).cel a).mk1 false).v] W (RfD b g (mkS (unS s k) a false) W) from by
    have q := rset_any (b := b) (g := g) (s := unS s k) (a : Int) (i64_small (by omega) (by omega)) (((unS s k).cel a).mk1 false) (mk1_ok (h.ok.cel a) false) W h
    rwa [mkS_set (by rw [unS_len]; exact ha)] at q))
  rw [hNA]
  clear h hNA
  have hbl := HH.out.lt
  go_enter Try.func66, Try.ntmps66
  go_wp2_with fail
  with_reducible refine HRA.out.mono ?_
  rintro e w1 ⟨v1, rfl, ho1, hk1, hb1⟩
  rw [HAE.out.1] at ho1
  have hoc := ints_cells (xs := s.A.map Int.ofNat) (by rw [HAE.out.2.1]; exact ho1)
  rw [HAE.out.2.1] at hoc
  obtain ⟨y1, c1, rfl⟩ := row_any ho1
  have HOC := hid (show ∀ k, k < NA → ∃ gg, y1 = some ⟨gg, 0, none⟩ ∧ w.heap.size ≤ gg ∧ w1.cell? ⟨gg, k, none⟩ = some (.int .i64 (s.A.getD k 0 : Nat)) from fun k hk => by
    rcases hoc with ⟨x, c, e, hx⟩ | ⟨gg, c, e, hc⟩
    · have : NA = 0 := by rw [← HAE.out.2.1, hx]; rfl
      omega
    · injection e with e1
      refine ⟨gg, e1, hk1 gg (mem_blkV.2 (by rw [e1]; rfl)), ?_⟩
      have q := hc k hk
      rw [Nat.zero_add] at q
      refine q.trans ?_
      rw [List.getD_eq_getElem?_getD, List.getElem?_map, List.getD_eq_getElem?_getD, List.getElem?_eq_getElem (by rw [HAE.out.2.2]; exact hk)]
      rfl)
  have HB1 := hid hb1
  clear ho1 hk1 hb1 hoc
  go_wp2_with fail
  go_loopw [8] (fun i W => ∃ k : Nat, k ≤ NA ∧ i = .int .i64 k ∧ Hid (RfM W b g (unS s k)) ∧ Hid (Moved w1 W [b, g] [b, g])) (fun i _ => NA - (intOf i).toNat)
  case atStart => exact ⟨0, by omega, rfl, HH.out.below HB1.out, Moved.refl _ _⟩
  case round =>
    obtain ⟨k, hk, rfl, HR, HM⟩ := hrel
    by_cases hkN : k < NA
    · have hki : (k : Int) < NA := by omega
      obtain ⟨gg, rfl, hgg, hc0⟩ := HOC.out k hkN
      have hc := cell_moved HM.out hc0 (by simp; omega)
      have hlc := World.block_lt_of_cell? wr _ hc
      have hget : s.A[k]? = some (s.A.getD k 0) := by rw [List.getD_eq_getElem?_getD, List.getElem?_eq_getElem (by rw [HAE.out.2.2]; exact hkN)]; rfl
      have hmem := HMEM.out _ (List.mem_of_getElem? hget)
      have HUN := hid (show unS s (k + 1) = mkS (unS s k) (s.A.getD k 0) false from rfl)
      generalize s.A.getD k 0 = a at hc hc0 hmem HUN
      obtain ⟨haN, -⟩ := hmem
      have HS1 := hid (fun W h => HSET.out k a haN W h)
      have y4 := HR.out.hd.h4
      obtain ⟨y0, y1', y2, y3, y5, y6⟩ := HR.out.row.six a (by rw [unS_len]; exact haN) _ rfl
      rw [unS_len] at y4
      have hai : (a : Int) < s.L.length := by omega
      have hl4 := World.block_lt_of_cell? wr _ y4
      have hl0 := World.block_lt_of_cell? wr _ y0
      have e1 : (unS s k).L.getD a cel0 = (unS s k).cel a := rfl
      rw [e1] at y0 y1' y2 y3 y5 y6
      have HMK := hid (show ((unS s k).cel a).mk1 false = { (unS s k).cel a with fa := bits .and .u8 ((unS s k).cel a).fa 254 } from rfl)
      rw [HMK.out] at HS1
      have HRR := HR
      generalize (unS s k).cel a = c at y0 y1' y2 y3 y5 y6 HS1
      obtain ⟨x0, x1, x2, x3, x4, x5⟩ := c
      dsimp only at y0 y1' y2 y3 y5 y6 HS1
      clear hget hc0 e1 HMK
      go_wp2_with fail
      with_reducible refine (HS1.out _ (HRR.out.below (bal (Below.refl wr.heap.size wr) _))).mono ?_
      rintro e w2 ⟨⟨v2, rfl⟩, hs, hm⟩
      have HR2 := hid (And.intro hs (HM.out.trans ((Moved.below (bal (Below.refl wr.heap.size wr) _) [b, g]).trans hm)))
      clear hs hm HR HRR HM
      go_wp2
      go_roundw
      case rel => exact ⟨k + 1, by omega, by go_num, by rw [HUN.out]; exact HR2.out.1, HR2.out.2⟩
      case measure => simp [intOf]; omega
    · obtain rfl : k = NA := by omega
      go_wp2
      go_end0
      exact ⟨⟨_, rfl⟩, HR.out, (Moved.below HB1.out _).trans HM.out⟩
end
end Go.Proofs.Ytdaainifnbbhiaa
