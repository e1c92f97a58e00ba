/-
  Fields that are marked: the program's and the reference's Modify; two that are alike.
  Modify, the reference's Modify, Unmodify, Modified; two that are alike.
  The reference's Modified; two that are alike, the law's way.
  Unmodify: each attribute is unmarked, while they are told.
-/
import Derived.Test.YtdampfngdnicoaaDoorFi
namespace Go.Proofs.YtdampfngdnicoaaDoor
open Go.RowKit Go.Lib Go.Deep

def markB (n : Int) (m : Bool) : Int := if m then bits .or .u8 n 1 else bits .and .u8 n 254
theorem mark_tab : ∀ k : Nat, k < 256 → (sixB (bitsZ (ofP k) (ofN k) (ofD k) true) = sixB (markB k true) ∧ sixB (bitsZ (ofP k) (ofN k) (ofD k) false) = sixB (markB k false)) ∧ (0 ≤ markB k true ∧ markB k true < 256) ∧ (0 ≤ markB k false ∧ markB k false < 256) := by decide +kernel
def Cel.mk1 (c : Cel) (m : Bool) : Cel := { c with fa := markB c.fa m }
theorem mk1_ok {c : Cel} (h : c.OK) (m : Bool) : (c.mk1 m).OK := by
  obtain ⟨k, hk, e⟩ := u8_nat h.fa
  have q := mark_tab k hk
  refine ⟨h.ch, ?_, h.hi, h.co, h.se⟩
  show U8 (markB c.fa m)
  rw [e]
  cases m
  · exact q.2.2
  · exact q.2.1
/-- A field is marked. -/
def mkS (s : Spc) (a : Nat) (m : Bool) : Spc := s.put1 a (fit ((s.cel a).mk1 m))
theorem mkS_set {s : Spc} {a : Nat} (ha : a < s.L.length) (m : Bool) : s.setC (a : Int) ((s.cel a).mk1 m) = mkS s a m := by
  unfold Spc.setC mkS
  rw [wr_nat ha]
theorem fit_mk {c : Cel} (h : c.OK) (ha : c.at_ = true) (m : Bool) : fit { c with fa := bitsZ (ofP c.fa.toNat) (ofN c.fa.toNat) (ofD c.fa.toNat) m } = fit (c.mk1 m) := by
  obtain ⟨k, hk, e⟩ := u8_nat h.fa
  have q := mark_tab k hk
  unfold fit Cel.mk1
  dsimp only
  rw [if_pos ha, if_pos ha, e, Int.toNat_natCast]
  congr 1
  cases m
  · exact q.1.2
  · exact q.1.1
theorem ofD_bd (k : Nat) : 0 ≤ ofD k ∧ ofD k ≤ 3 := by unfold ofD; omega
section
variable {b g : Nat} {s : Spc}
set_option maxRecDepth 100000 in
set_option maxHeartbeats 8000000 in
theorem mark_any (a : Nat) (ha : a < s.L.length) (hp : s.P a = true) (m : Bool) (w : World) (h : SpM w b g s) : Calls Tryd.prog 72 #[.pointer (some ⟨b, 0, none⟩), .int .i64 a, .bool m] w (SpD b g (mkS s a m) w) := by
  have hN := h.ok.pos
  have hai : I64 (a : Int) := i64_small (by omega) (by omega)
  have hcok := h.ok.cel a
  have hat : (s.cel a).at_ = true := hp
  have e0 : s.atC (a : Int) = s.cel a := by unfold Spc.atC; rw [wr_nat ha]
  have HF := hid (fun W h => fat_any (b := b) (g := g) (s := s) (a : Int) hai W h)
  have HA := hid (fun W h => at_any (b := b) (g := g) (s := s) (a : Int) hai W h)
  rw [e0] at HF HA
  have hd := ofD_bd (s.cel a).fa.toNat
  have HBI := hid (fun W => bits_ok (ofP (s.cel a).fa.toNat) (ofN (s.cel a).fa.toNat) m (ofD (s.cel a).fa.toNat) hd.1 hd.2 W)
  obtain ⟨k, hk, ek⟩ := u8_nat hcok.fa
  have hzb := bitsZ_bd (ofP (s.cel a).fa.toNat) (ofN (s.cel a).fa.toNat) m (ofD (s.cel a).fa.toNat) hd.1 hd.2
  have HSE := hid (fun W h => (show Calls Tryd.prog 29 #[.pointer (some ⟨b, 0, none⟩), .int .i64 a, ({ s.cel a with fa := bitsZ (ofP (s.cel a).fa.toNat) (ofN (s.cel a).fa.toNat) (ofD (s.cel a).fa.toNat) m } : Cel).v] W (SpD b g (mkS s a m) W) from by
    have q := set_any (b := b) (g := g) (s := s) (a : Int) hai { s.cel a with fa := bitsZ (ofP (s.cel a).fa.toNat) (ofN (s.cel a).fa.toNat) (ofD (s.cel a).fa.toNat) m } ⟨hcok.ch, ⟨hzb.1, by show bitsZ _ _ _ _ < 256; omega⟩, hcok.hi, hcok.co, hcok.se⟩ W h
    have e1 : s.setC (a : Int) { s.cel a with fa := bitsZ (ofP (s.cel a).fa.toNat) (ofN (s.cel a).fa.toNat) (ofD (s.cel a).fa.toNat) m } = mkS s a m := by
      unfold Spc.setC mkS
      rw [wr_nat ha, fit_mk hcok hat]
    rwa [e1] at q))
  have HFV := hid (show (s.cel a).fv = fieldV (ofP (s.cel a).fa.toNat) (ofN (s.cel a).fa.toNat) (ofD (s.cel a).fa.toNat) (ofM (s.cel a).fa.toNat) from rfl)
  rw [HFV.out] at HF
  have HH := hid h
  generalize bitsZ (ofP (s.cel a).fa.toNat) (ofN (s.cel a).fa.toNat) (ofD (s.cel a).fa.toNat) m = z at HBI HSE
  generalize ofP (s.cel a).fa.toNat = fp at HF HBI
  generalize ofN (s.cel a).fa.toNat = fn at HF HBI
  generalize ofD (s.cel a).fa.toNat = fd at HF HBI
  generalize ofM (s.cel a).fa.toNat = fm at HF
  generalize mkS s a m = s2 at HSE ⊢
  generalize s.cel a = c at HA HSE
  obtain ⟨x0, x1, x2, x3, x4, x5⟩ := c
  dsimp only at HSE
  clear h hai hcok hat e0 hd hzb ek hk ha hp HFV
  go_enter Tryd.func72, Tryd.ntmps72
  go_wp2_with fail
  with_reducible refine (HF.out _ HH.out).mono ?_
  rintro e w1 ⟨rfl, hb1⟩
  have HB1 := hid hb1
  clear hb1 HF
  go_wp2_with fail
  with_reducible refine (HA.out _ (HH.out.below (below_t HB1.out (bal (Below.refl w1.heap.size w1) _)))).mono ?_
  rintro e w2 ⟨rfl, hb2⟩
  obtain ⟨⟨c0, c1, c2, c3⟩, ⟨f0, f1, f2, f3⟩, hs⟩ := box4 hb2
  have HB2 := hid (below_t HB1.out (blw hb2))
  clear hb2 HA
  go_wp2_with fail
  with_reducible refine (HBI.out _).mono ?_
  rintro e w3 ⟨rfl, hb3⟩
  obtain ⟨⟨d0, d1, d2, d3, d4, d5⟩, ⟨k0, k1, k2, k3, k4, k5⟩, hs3⟩ := box6 hb3
  have HB3 := hid (below_t HB2.out (blw hb3))
  have HSZ := hid HB2.out.size
  clear hb3 HBI c0 c1 c2 c3 f0 f1 f2 f3 hs
  go_wp2_with fail
  with_reducible refine (HSE.out _ (HH.out.below (HB3.out.sc _ _ _ HSZ.out))).mono ?_
  rintro e w4 ⟨⟨v4, rfl⟩, hsp, hm⟩
  have HR := hid (And.intro hsp ((Moved.below (HB3.out.sc _ _ _ HSZ.out) [b, g]).trans hm))
  clear hsp hm HSE
  go_wp2
  exact bodyPost_ret (results_none rfl _ _ _) rfl ⟨⟨_, rfl⟩, HR.out.1, HR.out.2⟩
end
end Go.Proofs.YtdampfngdnicoaaDoor
namespace Go.Proofs.YtdampfngdnicoaaDoor
open Go.RowKit Go.Lib Go.Deep

theorem rattf3 (p n m : Bool) (d : Int) (w : World) : (Instr.field 50 (.agg #[.bool p, .bool n, .int .i64 d, .bool m]) 3).run Tryd.prog w = .ok (.bool m) w := by kernel_rfl
/-- A place's field, marked, if there is one. -/
def modS (s : Spc) (n : Int) : Spc := if stF s.P s.L.length (s.wr n) < 0 then s else mkS s (stF s.P s.L.length (s.wr n)).toNat true
def modB (s : Spc) (n : Int) : Bool := decide (0 ≤ stF s.P s.L.length (s.wr n))
/-- The attributes, unmarked one after the other. -/
def unS (s : Spc) : Nat → Spc
  | 0 => s
  | k + 1 => mkS (unS s k) (s.A.getD k 0) false
theorem mkS_len (s : Spc) (a : Nat) (m : Bool) : (mkS s a m).L.length = s.L.length := Spc.put1_len _ _ _
theorem mkS_ok {s : Spc} (h : s.OK) (a : Nat) (m : Bool) : (mkS s a m).OK := h.put1 _ (fit_ok (mk1_ok (h.cel a) m))
theorem fit_at (c : Cel) : (fit c).at_ = c.at_ := by unfold fit; split <;> rfl
theorem mkS_at (s : Spc) (a i : Nat) (m : Bool) : ((mkS s a m).cel i).at_ = (s.cel i).at_ := by
  unfold mkS
  rw [Spc.put1_cel]
  split
  · rename_i q
    rw [fit_at, q.1]
    rfl
  · rfl
theorem mkS_P (s : Spc) (a : Nat) (m : Bool) : (mkS s a m).P = s.P := funext fun i => mkS_at s a i m
theorem unS_len (s : Spc) (k : Nat) : (unS s k).L.length = s.L.length := by
  induction k with
  | zero => rfl
  | succ k ih => unfold unS; rw [mkS_len, ih]
theorem unS_P (s : Spc) (k : Nat) : (unS s k).P = s.P := by
  induction k with
  | zero => rfl
  | succ k ih => unfold unS; rw [mkS_P, ih]
theorem unS_ok {s : Spc} (h : s.OK) (k : Nat) : (unS s k).OK := by
  induction k with
  | zero => exact h
  | succ k ih => unfold unS; exact mkS_ok ih _ _
section
variable {b g : Nat} {s : Spc}
set_option maxRecDepth 100000 in
set_option maxHeartbeats 8000000 in
theorem modify_any (n : Int) (hn : I64 n) (w : World) (h : SpM w b g s) : Calls Tryd.prog 77 #[.pointer (some ⟨b, 0, none⟩), .int .i64 n] w fun e w' => e = .returned (.bool (modB s n)) ∧ SpM w' b g (modS s n) ∧ Moved w w' [b, g] [b, g] := by
  have HS := hid (fun W h => start_any (b := b) (g := g) (s := s) n hn W h)
  have HH := hid h
  rcases stF_bd s.P (h.ok.wr_lt n) with he | ⟨a, ha, hp, he⟩
  · have HE := hid (show modB s n = false ∧ modS s n = s by unfold modB modS; rw [he]; exact ⟨rfl, rfl⟩)
    rw [he] at HS
    rw [HE.out.1, HE.out.2]
    clear h hn he
    go_enter Tryd.func77, Tryd.ntmps77
    go_wp2_with fail
    with_reducible refine (HS.out _ HH.out).mono ?_
    rintro e w1 ⟨rfl, hb1⟩
    have HB1 := hid hb1
    clear hb1
    go_wp2
    go_ret
    exact ⟨rfl, HH.out.below HB1.out, Moved.below HB1.out _⟩
  · have HE := hid (show modB s n = true ∧ modS s n = mkS s a true by
      unfold modB modS
      rw [he, if_neg (by omega), Int.toNat_natCast]
      exact ⟨decide_eq_true (by omega), rfl⟩)
    have HM := hid (fun W h => mark_any (b := b) (g := g) (s := s) a ha hp true W h)
    rw [he] at HS
    rw [HE.out.1, HE.out.2]
    have hneg : ¬ ((a : Int) = -1) := by omega
    clear h hn he ha hp
    go_enter Tryd.func77, Tryd.ntmps77
    go_wp2_with fail
    with_reducible refine (HS.out _ HH.out).mono ?_
    rintro e w1 ⟨rfl, hb1⟩
    have HB1 := hid hb1
    clear hb1
    go_wp2_with fail
    with_reducible refine (HM.out _ (HH.out.below HB1.out)).mono ?_
    rintro e w2 ⟨⟨v2, rfl⟩, hs, hm⟩
    have HR := hid (And.intro hs ((Moved.below HB1.out [b, g]).trans hm))
    clear hs hm
    go_wp2
    go_ret
    exact ⟨rfl, HR.out.1, HR.out.2⟩
end
end Go.Proofs.YtdampfngdnicoaaDoor
namespace Go.Proofs.YtdampfngdnicoaaDoor
open Go.RowKit Go.Lib Go.Deep

/-- Is it modified? -/
def Cel.modi (c : Cel) : Bool := ofM c.fa.toNat
/-- The modified ones, of some attributes. -/
def mdS (s : Spc) (l : List Nat) : List Nat := l.filter (fun a => (s.cel a).modi)
theorem mdS_add (s : Spc) (l : List Nat) (a : Nat) : mdS s (l ++ [a]) = mdS s l ++ (if (s.cel a).modi then [a] else []) := by
  unfold mdS
  rw [List.filter_append]
  congr 1
  cases h : (s.cel a).modi <;> simp [h]
theorem mdS_len (s : Spc) (l : List Nat) : (mdS s l).length ≤ l.length := List.length_filter_le _ _
section
variable {b g : Nat} {s : Spc}
end
end Go.Proofs.YtdampfngdnicoaaDoor
namespace Go.Proofs.YtdampfngdnicoaaDoor
open Go.RowKit Go.Lib Go.Deep

theorem moved_grow {m : Nat} {w A C : World} {S S' : List Nat} (h : Moved w A S S') (k : Grow m A C) (hm : w.heap.size ≤ m) : Moved w C S S' :=
  ⟨k.os.trans h.os, k.tape.trans h.tape, k.output.trans h.output, Nat.le_trans h.size k.size, fun i hi hs => by
    have e := h.block i hi hs
    rw [← e]
    rw [Array.getElem?_eq_getElem hi] at e
    exact (k.block i _ e (.inl (Nat.lt_of_lt_of_le hi hm))).trans e.symm, h.from'⟩
section
attribute [local go_sem] Oper.semAt_some
variable {b g : Nat} {s : Spc}
set_option maxRecDepth 100000 in
set_option maxHeartbeats 8000000 in
theorem unmod_in (m : Nat) (hm : 8 ≤ m) (w : World) (h : SpM w b g s) : CallsIn Fence.wide m Tryd.prog 53 #[.pointer (some ⟨b, 0, none⟩)] w (SpD b g (unS s s.A.length) w) := by
  have hN := h.ok.pos
  have hlt := h.lt
  have HMEM := hid (fun a (h : a ∈ s.A) => attP_mem (P := s.P) (N := s.L.length) h)
  have HMK := hid (fun (k a : Nat) (ha : a < s.L.length) (hp : s.P a = true) W (h : SpM W b g (unS s k)) => mark_any (b := b) (g := g) (s := unS s k) a (by rw [unS_len]; exact ha) (by rw [unS_P]; exact hp) false W h)
  have HH := hid h
  clear h
  refine callsIn_of_wp_marks Tryd.func53 rfl trivial ?_ rfl
  simp only [Tryd.ntmps53, List.size_toArray, List.length_cons, List.length_nil, Nat.reduceAdd, Nat.reduceSub, Array.replicate_succ, Array.replicate_zero, List.push_toArray, List.append_toArray, List.nil_append, List.cons_append]
  gi_wp2
  obtain ⟨w0, hw0⟩ : ∃ w0, w.alloc (.cells #[.pointer (some ⟨b, 0, none⟩)] 25) = w0 := ⟨_, rfl⟩
  have hb0 : Below w.heap.size w w0 := by rw [← hw0]; exact bal (Below.refl _ _) _
  have hz0 : w0.heap.size = w.heap.size + 1 := by rw [← hw0]; simp
  have hc0 : w0.cell? ⟨w.heap.size, 0, none⟩ = some (.pointer (some ⟨b, 0, none⟩)) := by rw [← hw0]; simp [go_sem]
  simp only [hw0]
  refine ⟨trivial, fun _ => (by omega), ?_⟩
  refine (callsIn_wide.2 (attrsIt_any b _)).mono ?_
  rintro e w1 ⟨bs, rfl, hbs, hcs, hb1⟩
  have hbs' : w.heap.size + 1 ≤ bs := by omega
  have hlz : w.heap.size + 1 ≤ w1.heap.size := by have := hb1.size; omega
  have HI0 := hid (show w1.cell? ⟨bs, 0, none⟩ = some (.pointer (some ⟨b, 0, none⟩)) ∧ w1.cell? ⟨w.heap.size, 0, none⟩ = some (.pointer (some ⟨b, 0, none⟩)) ∧ SpM w1 b g (unS s 0) ∧ Moved w w1 [b, g] [b, g] from ⟨hcs, keepc hb1 hc0, (HH.out.below hb0).below hb1, Moved.below (below_t hb0 hb1) _⟩)
  clear hb1 hbs hcs hb0 hz0 hc0 hw0
  gi_wp2
  refine rangeFunc_seq (n := m) (w := w1) rfl (by omega) (gf := 88) (lb := #[.pointer (some ⟨bs, 0, none⟩)]) rfl trivial (enters_of Tryd.func88 (by kernel_rfl) rfl)
    (encs := encI) (fun _ => rfl) (el := fun k x _ => s.A[k]? = some x) (N := s.A.length) (R := RP bs b s.L.length s.P)
    (fun k _ V => V.cell? ⟨bs, 0, none⟩ = some (.pointer (some ⟨b, 0, none⟩)) ∧ V.cell? ⟨w.heap.size, 0, none⟩ = some (.pointer (some ⟨b, 0, none⟩)) ∧ SpM V b g (unS s k) ∧ Moved w V [b, g] [b, g]) (fun _ _ _ _ => False) ?hI ?hIx ?hR HI0.out
    (fun k _ x a V => (V.cell? ⟨bs, 0, none⟩ = some (.pointer (some ⟨b, 0, none⟩)) ∧ V.cell? ⟨w.heap.size, 0, none⟩ = some (.pointer (some ⟨b, 0, none⟩)) ∧ SpM V b g (unS s k) ∧ Moved w V [b, g] [b, g]) ∧ s.A[k]? = some x ∧ a = { tmps := #[.pointer (some ⟨b, 0, none⟩), .pointer (some ⟨w.heap.size, 0, none⟩), .int .i64 (x : Nat), .pointer (some ⟨b, 0, none⟩), .func (.func 88) #[] #[.pointer (some ⟨bs, 0, none⟩)], .int .i64 (x : Nat), undef, undef, undef], defers := [] }) ?hAx ?assign ?body ?iter ?done ?stop
  case hI => exact fun k S A C hg ⟨h1, h2, h3, h4⟩ => ⟨cell_grow hg h1, cell_grow hg h2, h3.grow hg, moved_grow h4 hg (by omega)⟩
  case hIx => exact fun c k S A C hg h => h.elim
  case hR => exact fun k S V h => ⟨h.1, g, unS s k, h.2.2.1, unS_len s k, fun i _ => congrFun (unS_P s k) i⟩
  case hAx => exact fun k S x a A C hg ⟨⟨h1, h2, h3, h4⟩, h5, h6⟩ => ⟨⟨cell_grow hg h1, cell_grow hg h2, h3.grow hg, moved_grow h4 hg (by omega)⟩, h5, h6⟩
  case iter => exact fun o1 o2 _ _ => attrs_seq (m - 1) (by omega) bs b s.L.length s.P hN.2 _
  case assign =>
    rintro l' k x S V KK hk hx1 hi hsz hK
    have HK := hid hK
    have HI := hid (And.intro hi hx1)
    clear hK hi hx1
    gi_wp2
    exact HK.out _ _ (Touch.refl _ _ _) ⟨HI.out.1, HI.out.2, rfl⟩
  case body =>
    rintro l' k x S a' V hk ⟨⟨h1, h2, h3, h4⟩, h5, rfl⟩ hsz
    have hl2 := World.block_lt_of_cell? V _ h2
    have hmem := HMEM.out _ (List.mem_of_getElem? h5)
    have HM1 := hid (HMK.out k x hmem.1 hmem.2 V h3)
    have HJ := hid (And.intro h1 (And.intro h2 h4))
    have HUN := hid (show unS s (k + 1) = mkS (unS s k) x false by
      show mkS (unS s k) (s.A.getD k 0) false = _
      rw [List.getD_eq_getElem?_getD, h5]
      rfl)
    clear h1 h3 h4 h5 hmem
    gi_wp2
    refine ⟨trivial, fun _ => (by omega), ?_⟩
    refine (CallsIn.inRound l' (callsIn_wide.2 HM1.out)).mono ?_
    rintro e W1 ⟨⟨v, rfl⟩, hs, hmv⟩
    have HR := hid (show Touch w1.heap.size V W1 S S ∧ W1.cell? ⟨bs, 0, none⟩ = some (.pointer (some ⟨b, 0, none⟩)) ∧ W1.cell? ⟨w.heap.size, 0, none⟩ = some (.pointer (some ⟨b, 0, none⟩)) ∧ SpM W1 b g (unS s (k + 1)) ∧ Moved w W1 [b, g] [b, g] from
      ⟨⟨hmv.size, fun q hq hq2 _ => hmv.block q hq2 (by simp; omega), fun _ q => .inl q⟩, cell_moved hmv HJ.out.1 (by simp; omega), cell_moved hmv HJ.out.2.1 (by simp; omega), by rw [HUN.out]; exact hs, HJ.out.2.2.trans hmv⟩)
    clear hs hmv
    gi_wp2
    exact ⟨S, HR.out.1, HR.out.2⟩
  case done =>
    rintro D S V hD ⟨_, _, h3, h4⟩ hK
    have HK := hid hK
    have HJ := hid (And.intro h3 h4)
    clear hK h3 h4
    gi_wp2
    refine ⟨by simp, .inl ⟨_, _, rfl, run_takeDeferred HK.out, ?_⟩⟩
    have hg := Grow.put (m := w1.heap.size) (.deferred none) hD HK.out rfl
    exact ⟨_, results_none rfl _ _ _, ⟨_, rfl⟩, HJ.out.1.grow hg, moved_grow HJ.out.2 hg (by omega)⟩
  case stop => exact fun _ _ _ _ _ _ _ h => h.elim
end
end Go.Proofs.YtdampfngdnicoaaDoor
