/-
  Fields that are marked: the program's and the reference's Modify; two that are alike.
-/
import Derived.Test.YtdaainifnbbhiaaZv
namespace Go.Proofs.Ytdaainifnbbhiaa
open Go.RowKit Go.Lib Go.Deep

def markB (n : Int) (m : Bool) : Int := if m then bits .or .u8 n 1 else bits .and .u8 n 254
theorem mark_tab : ∀ k : Nat, k < 256 → (sixB (bitsZ (ofP k) (ofN k) (ofD k) true) = sixB (markB k true) ∧ sixB (bitsZ (ofP k) (ofN k) (ofD k) false) = sixB (markB k false)) ∧ (0 ≤ markB k true ∧ markB k true < 256) ∧ (0 ≤ markB k false ∧ markB k false < 256) := by decide +kernel
def Cel.mk1 (c : Cel) (m : Bool) : Cel := { c with fa := markB c.fa m }
theorem mk1_ok {c : Cel} (h : c.OK) (m : Bool) : (c.mk1 m).OK := by
  obtain ⟨k, hk, e⟩ := u8_nat h.fa
  have q := mark_tab k hk
  refine ⟨h.ch, ?_, h.hi, h.co, h.se⟩
  show U8 (markB c.fa m)
  rw [e]
  cases m
  · exact q.2.2
  · exact q.2.1
/-- A field is marked. -/
def mkS (s : Spc) (a : Nat) (m : Bool) : Spc := s.put1 a (fit ((s.cel a).mk1 m))
theorem mkS_set {s : Spc} {a : Nat} (ha : a < s.L.length) (m : Bool) : s.setC (a : Int) ((s.cel a).mk1 m) = mkS s a m := by
  unfold Spc.setC mkS
  rw [wr_nat ha]
theorem fit_mk {c : Cel} (h : c.OK) (ha : c.at_ = true) (m : Bool) : fit { c with fa := bitsZ (ofP c.fa.toNat) (ofN c.fa.toNat) (ofD c.fa.toNat) m } = fit (c.mk1 m) := by
  obtain ⟨k, hk, e⟩ := u8_nat h.fa
  have q := mark_tab k hk
  unfold fit Cel.mk1
  dsimp only
  rw [if_pos ha, if_pos ha, e, Int.toNat_natCast]
  congr 1
  cases m
  · exact q.1.2
  · exact q.1.1
theorem ofD_bd (k : Nat) : 0 ≤ ofD k ∧ ofD k ≤ 3 := by unfold ofD; omega
section
variable {b g : Nat} {s : Spc}
set_option maxRecDepth 100000 in
set_option maxHeartbeats 8000000 in
theorem mark_any (a : Nat) (ha : a < s.L.length) (hp : s.P a = true) (m : Bool) (w : World) (h : SpM w b g s) : Calls Try.prog 87 #[.pointer (some ⟨b, 0, none⟩), .int .i64 a, .bool m] w (SpD b g (mkS s a m) w) := by
  have hN := h.ok.pos
  have hai : I64 (a : Int) := i64_small (by omega) (by omega)
  have hcok := h.ok.cel a
  have hat : (s.cel a).at_ = true := hp
  have e0 : s.atC (a : Int) = s.cel a := by unfold Spc.atC; rw [wr_nat ha]
  have HF := hid (fun W h => fat_any (b := b) (g := g) (s := s) (a : Int) hai W h)
  have HA := hid (fun W h => at_any (b := b) (g := g) (s := s) (a : Int) hai W h)
  rw [e0] at HF HA
  have hd := ofD_bd (s.cel a).fa.toNat
  have HBI := hid (fun W => bits_ok (ofP (s.cel a).fa.toNat) (ofN (s.cel a).fa.toNat) m (ofD (s.cel a).fa.toNat) hd.1 hd.2 W)
  obtain ⟨k, hk, ek⟩ := u8_nat hcok.fa
  have hzb := bitsZ_bd (ofP (s.cel a).fa.toNat) (ofN (s.cel a).fa.toNat) m (ofD (s.cel a).fa.toNat) hd.1 hd.2
  have HSE := hid (fun W h => (show Calls Try.prog 19 #[.pointer (some ⟨b, 0, none⟩), .int .i64 a, ({ s.cel a with fa := bitsZ (ofP (s.cel a).fa.toNat) (ofN (s.cel a).fa.toNat) (ofD (s.cel a).fa.toNat) m } : Cel).v] W (SpD b g (mkS s a m) W) from by
    have q := set_any (b := b) (g := g) (s := s) (a : Int) hai { s.cel a with fa := bitsZ (ofP (s.cel a).fa.toNat) (ofN (s.cel a).fa.toNat) (ofD (s.cel a).fa.toNat) m } ⟨hcok.ch, ⟨hzb.1, by show bitsZ _ _ _ _ < 256; omega⟩, hcok.hi, hcok.co, hcok.se⟩ W h
    have e1 : s.setC (a : Int) { s.cel a with fa := bitsZ (ofP (s.cel a).fa.toNat) (ofN (s.cel a).fa.toNat) (ofD (s.cel a).fa.toNat) m } = mkS s a m := by
      unfold Spc.setC mkS
      rw [wr_nat ha, fit_mk hcok hat]
    rwa [e1] at q))
  have HFV := hid (show (s.cel a).fv = fieldV (ofP (s.cel a).fa.toNat) (ofN (s.cel a).fa.toNat) (ofD (s.cel a).fa.toNat) (ofM (s.cel a).fa.toNat) from rfl)
  rw [HFV.out] at HF
  have HH := hid h
  generalize bitsZ (ofP (s.cel a).fa.toNat) (ofN (s.cel a).fa.toNat) (ofD (s.cel a).fa.toNat) m = z at HBI HSE
  generalize ofP (s.cel a).fa.toNat = fp at HF HBI
  generalize ofN (s.cel a).fa.toNat = fn at HF HBI
  generalize ofD (s.cel a).fa.toNat = fd at HF HBI
  generalize ofM (s.cel a).fa.toNat = fm at HF
  generalize mkS s a m = s2 at HSE ⊢
  generalize s.cel a = c at HA HSE
  obtain ⟨x0, x1, x2, x3, x4, x5⟩ := c
  dsimp only at HSE
  clear h hai hcok hat e0 hd hzb ek hk ha hp HFV
  go_enter Try.func87, Try.ntmps87
  go_wp2_with fail
  with_reducible refine (HF.out _ HH.out).mono ?_
  rintro e w1 ⟨rfl, hb1⟩
  have HB1 := hid hb1
  clear hb1 HF
  go_wp2_with fail
  with_reducible refine (HA.out _ (HH.out.below (below_t HB1.out (bal (Below.refl w1.heap.size w1) _)))).mono ?_
  rintro e w2 ⟨rfl, hb2⟩
  obtain ⟨⟨c0, c1, c2, c3⟩, ⟨f0, f1, f2, f3⟩, hs⟩ := box4 hb2
  have HB2 := hid (below_t HB1.out (blw hb2))
  clear hb2 HA
  go_wp2_with fail
  with_reducible refine (HBI.out _).mono ?_
  rintro e w3 ⟨rfl, hb3⟩
  obtain ⟨⟨d0, d1, d2, d3, d4, d5⟩, ⟨k0, k1, k2, k3, k4, k5⟩, hs3⟩ := box6 hb3
  have HB3 := hid (below_t HB2.out (blw hb3))
  have HSZ := hid HB2.out.size
  clear hb3 HBI c0 c1 c2 c3 f0 f1 f2 f3 hs
  go_wp2_with fail
  with_reducible refine (HSE.out _ (HH.out.below (HB3.out.sc _ _ _ HSZ.out))).mono ?_
  rintro e w4 ⟨⟨v4, rfl⟩, hsp, hm⟩
  have HR := hid (And.intro hsp ((Moved.below (HB3.out.sc _ _ _ HSZ.out) [b, g]).trans hm))
  clear hsp hm HSE
  go_wp2
  exact bodyPost_ret (results_none rfl _ _ _) rfl ⟨⟨_, rfl⟩, HR.out.1, HR.out.2⟩
end
end Go.Proofs.Ytdaainifnbbhiaa
