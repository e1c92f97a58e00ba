/-
  After a character: the program's After; the reference's tab and First.
-/
import Derived.Test.YtpehhinpohmpiaaCd
namespace Go.Proofs.Ytpehhinpohmpiaa
open Go.RowKit Go.Lib Go.Deep

def Cel.num (c : Cel) : Bool := ofN c.fa.toNat
/-- Where the cursor is after a character. -/
def aftS (s : Spc) : Spc :=
  if (s.cel (s.wr (s.cu + 1))).at_ then
    (if (s.cel (s.wr (s.cu + 1))).prot && (s.cel (s.wr (s.cu + 1))).num then s.cuS (tabZ s (s.wr (s.cu + 1) : Nat) false) else s.cuS (s.wr ((s.wr (s.cu + 1) : Nat) + 1) : Nat))
  else s.cuS (s.wr (s.cu + 1) : Nat)
set_option maxRecDepth 100000 in
theorem skipped_any (p n m : Bool) (d : Int) (w : World) : Calls Try.prog 112 #[.agg #[.bool p, .bool n, .int .i64 d, .bool m]] w fun e w' => e = .returned (.bool (p && n)) ∧ Below w.heap.size w w' := by
  cases p <;> cases n <;> (
    go_enter Try.func112, Try.ntmps112
    go_wp2
    go_ret
    exact ⟨rfl, (Below.refl _ _).al (Nat.le_refl _) _⟩)
section
variable {b g : Nat} {s : Spc}
theorem move_one (h : s.OK) (n : Int) : moveZ s.r s.c n 0 1 = (s.wr (n + 1) : Nat) := by
  rw [move_right h.sz, h.wr_eq, h.len]
/-- One on. -/
theorem cmove_one (w : World) (h : SpM w b g s) : Calls Try.prog 59 #[.pointer (some ⟨b, 0, none⟩), .int .i64 0, .int .i64 1] w (SpD b g (s.cuS (s.wr (s.cu + 1) : Nat)) w) := by
  have q := cmove_any (b := b) (g := g) (s := s) 0 1 ⟨by decide, by decide⟩ ⟨by decide, by decide⟩ w h
  rwa [move_one h.ok] at q
set_option maxRecDepth 100000 in
set_option maxHeartbeats 2000000 in
theorem after_any (w : World) (h : SpM w b g s) : Calls Try.prog 60 #[.pointer (some ⟨b, 0, none⟩)] w (SpD b g (aftS s) w) := by
  have hw := h.ok.wr_lt (s.cu + 1)
  have HM1 := hid (fun W h => cmove_one (b := b) (g := g) (s := s) W h)
  unfold aftS
  obtain ⟨a, hae⟩ : ∃ a, s.wr (s.cu + 1) = a := ⟨_, rfl⟩
  rw [hae] at HM1 hw ⊢
  have hia : I64 (a : Int) := nat_i64 h.ok hw
  have HCU := hid (fun W h => (show Calls Try.prog 22 #[.pointer (some ⟨b, 0, none⟩)] W fun e w' => e = .returned (.int .i64 a) ∧ Below W.heap.size W w' from cursor_any (b := b) (g := g) (s := s.cuS (a : Int)) W h))
  have HAT := hid (fun W h => (show Calls Try.prog 20 #[.pointer (some ⟨b, 0, none⟩), .int .i64 a] W fun e w' => e = .returned (s.cel a).v ∧ Below W.heap.size W w' from by
    have q := at_any (b := b) (g := g) (s := s.cuS (a : Int)) (a : Int) hia W h
    unfold Spc.atC at q
    rwa [wr_nat (s := s.cuS (a : Int)) hw] at q))
  have HM2 := hid (fun W h => (show Calls Try.prog 59 #[.pointer (some ⟨b, 0, none⟩), .int .i64 0, .int .i64 1] W (SpD b g (s.cuS (s.wr ((a : Int) + 1) : Nat)) W) from cmove_one (b := b) (g := g) (s := s.cuS (a : Int)) W h))
  have HTB := hid (fun W h => (show Calls Try.prog 51 #[.pointer (some ⟨b, 0, none⟩)] W (SpD b g (s.cuS (tabZ s a false)) W) from tab_any (b := b) (g := g) (s := s.cuS (a : Int)) W h))
  have HOF : Hid ((s.cel a).at_ = true → ∀ W, SpM W b g (s.cuS (a : Int)) → Calls Try.prog 96 #[.pointer (some ⟨b, 0, none⟩), .int .i64 a] W fun e w' => e = .returned (.tuple #[.agg #[.bool (s.cel a).prot, .bool (s.cel a).num, .int .i64 (ofD (s.cel a).fa.toNat), .bool (ofM (s.cel a).fa.toNat)], .bool true]) ∧ Below W.heap.size W w') := fun hp W hW => by
    have e1 : (s.cuS (a : Int)).wr (a : Int) = a := wr_nat (s := s.cuS (a : Int)) hw
    exact fof_yes (b := b) (g := g) (s := s.cuS (a : Int)) (a : Int) hia a (by rw [e1]; exact stF_self (by have := h.ok.pos; exact this.1) hp) W hW
  have HSK := hid (fun W => skipped_any (s.cel a).prot (s.cel a).num (ofM (s.cel a).fa.toNat) (ofD (s.cel a).fa.toNat) W)
  have HH := hid h
  have hf1 := celf1
  generalize (s.cel a).prot = cp at HOF HSK ⊢
  generalize (s.cel a).num = cn at HOF HSK ⊢
  generalize ofD (s.cel a).fa.toNat = cd at HOF HSK
  generalize ofM (s.cel a).fa.toNat = cm at HOF HSK
  generalize s.cel a = c at HAT HOF ⊢
  generalize s.cuS (a : Int) = s1 at HM1 HCU HAT HM2 HTB HOF ⊢
  generalize s.cuS (s.wr ((a : Int) + 1) : Nat) = s2 at HM2 ⊢
  generalize s.cuS (tabZ s a false) = s3 at HTB ⊢
  clear h hw hae hia
  obtain ⟨x0, x1, x2, x3, x4, x5⟩ := c
  dsimp only at HOF ⊢
  cases x1
  · rw [if_neg (by simp)]
    clear HOF HSK HM2 HTB
    go_enter Try.func60, Try.ntmps60
    go_wp2_with fail
    with_reducible refine (HM1.out _ HH.out).mono ?_
    rintro e w1 ⟨⟨v1, rfl⟩, hs, hm⟩
    have HM1 := hid (hm)
    have HH1 := hid hs
    clear hs hm
    go_wp2_with fail
    with_reducible refine (HCU.out _ HH1.out).mono ?_
    rintro e w2 ⟨rfl, hb⟩
    have HB2 := hid (hb)
    clear hb
    go_wp2_with fail
    with_reducible refine (HAT.out _ (HH1.out.below HB2.out)).mono ?_
    rintro e w3 ⟨rfl, hb⟩
    have HB3 := hid (below_t HB2.out hb)
    clear hb HB2
    go_wp2
    exact bodyPost_ret (results_none rfl _ _ _) rfl ⟨⟨_, rfl⟩, (HH1.out.below HB3.out), HM1.out.trans (Moved.below HB3.out [b, g])⟩
  · rw [if_pos rfl]
    have HOF' := hid (HOF.out rfl)
    clear HOF
    cases hpn : (cp && cn)
    · rw [if_neg (by simp)]
      rw [hpn] at HSK
      clear hpn HTB
      go_enter Try.func60, Try.ntmps60
      go_wp2_with fail
      with_reducible refine (HM1.out _ HH.out).mono ?_
      rintro e w1 ⟨⟨v1, rfl⟩, hs, hm⟩
      have HM1 := hid (hm)
      have HH1 := hid hs
      clear hs hm
      go_wp2_with fail
      with_reducible refine (HCU.out _ HH1.out).mono ?_
      rintro e w2 ⟨rfl, hb⟩
      have HB2 := hid (hb)
      clear hb
      go_wp2_with fail
      with_reducible refine (HAT.out _ (HH1.out.below HB2.out)).mono ?_
      rintro e w3 ⟨rfl, hb⟩
      have HB3 := hid (below_t HB2.out hb)
      clear hb HB2
      go_wp2_with fail
      with_reducible refine (HCU.out _ (HH1.out.below HB3.out)).mono ?_
      rintro e w4 ⟨rfl, hb⟩
      have HB4 := hid (below_t HB3.out hb)
      clear hb HB3
      go_wp2_with fail
      with_reducible refine (HOF'.out _ (HH1.out.below HB4.out)).mono ?_
      rintro e w5 ⟨rfl, hb⟩
      have HB5 := hid (below_t HB4.out hb)
      clear hb HB4
      go_wp2_with fail
      with_reducible refine (HSK.out _).mono ?_
      rintro e w6 ⟨rfl, hb⟩
      have HB6 := hid (below_t HB5.out (blw hb))
      clear hb HB5
      go_wp2_with fail
      with_reducible refine (HM2.out _ (HH1.out.below HB6.out)).mono ?_
      rintro e w7 ⟨⟨v7, rfl⟩, hs, hm⟩
      have HM7 := hid (HM1.out.trans ((Moved.below HB6.out [b, g]).trans hm))
      have HH7 := hid hs
      clear hs hm HB6 HM1
      go_wp2
      go_end0
      exact ⟨⟨_, rfl⟩, HH7.out, HM7.out⟩
    · rw [if_pos rfl]
      rw [hpn] at HSK
      clear hpn HM2
      go_enter Try.func60, Try.ntmps60
      go_wp2_with fail
      with_reducible refine (HM1.out _ HH.out).mono ?_
      rintro e w1 ⟨⟨v1, rfl⟩, hs, hm⟩
      have HM1 := hid (hm)
      have HH1 := hid hs
      clear hs hm
      go_wp2_with fail
      with_reducible refine (HCU.out _ HH1.out).mono ?_
      rintro e w2 ⟨rfl, hb⟩
      have HB2 := hid (hb)
      clear hb
      go_wp2_with fail
      with_reducible refine (HAT.out _ (HH1.out.below HB2.out)).mono ?_
      rintro e w3 ⟨rfl, hb⟩
      have HB3 := hid (below_t HB2.out hb)
      clear hb HB2
      go_wp2_with fail
      with_reducible refine (HCU.out _ (HH1.out.below HB3.out)).mono ?_
      rintro e w4 ⟨rfl, hb⟩
      have HB4 := hid (below_t HB3.out hb)
      clear hb HB3
      go_wp2_with fail
      with_reducible refine (HOF'.out _ (HH1.out.below HB4.out)).mono ?_
      rintro e w5 ⟨rfl, hb⟩
      have HB5 := hid (below_t HB4.out hb)
      clear hb HB4
      go_wp2_with fail
      with_reducible refine (HSK.out _).mono ?_
      rintro e w6 ⟨rfl, hb⟩
      have HB6 := hid (below_t HB5.out (blw hb))
      clear hb HB5
      go_wp2_with fail
      with_reducible refine (HTB.out _ (HH1.out.below HB6.out)).mono ?_
      rintro e w7 ⟨⟨v7, rfl⟩, hs, hm⟩
      have HM7 := hid (HM1.out.trans ((Moved.below HB6.out [b, g]).trans hm))
      have HH7 := hid hs
      clear hs hm HB6 HM1
      go_wp2
      go_end0
      exact ⟨⟨_, rfl⟩, HH7.out, HM7.out⟩
set_option maxRecDepth 100000 in
set_option maxHeartbeats 2000000 in
theorem rtab_any (n : Int) (hn : I64 n) (back : Bool) (w : World) (h : RfM w b g s) : Calls Try.prog 101 #[.pointer (some ⟨b, 0, none⟩), .int .i64 n, .bool back] w fun e w' => e = .returned (.int .i64 (tabZ s n back)) ∧ Below w.heap.size w w' := by
  have HN := hid (fun W h => rnext_is (b := b) (g := g) (s := s) n hn back W h)
  have HH := hid h
  unfold tabZ
  generalize seekZ s (s.wr n) (stB back) = z at HN ⊢
  clear h hn
  by_cases hz : z < 0
  · rw [if_pos hz]
    go_enter Try.func101, Try.ntmps101
    go_wp2_with fail
    with_reducible refine (HN.out _ HH.out).mono ?_
    rintro e w1 ⟨rfl, hb⟩
    have HB1 := hid (hb)
    clear hb
    go_wp2
    go_ret
    exact ⟨rfl, HB1.out⟩
  · rw [if_neg hz]
    go_enter Try.func101, Try.ntmps101
    go_wp2_with fail
    with_reducible refine (HN.out _ HH.out).mono ?_
    rintro e w1 ⟨rfl, hb⟩
    have HB1 := hid (hb)
    clear hb
    go_wp2
    go_ret
    exact ⟨rfl, HB1.out⟩
set_option maxRecDepth 100000 in
set_option maxHeartbeats 2000000 in
theorem rcfirst_any (n : Int) (hn : I64 n) (w : World) (h : RfM w b g s) : Calls Try.prog 56 #[.pointer (some ⟨b, 0, none⟩), .int .i64 n] w fun e w' => e = .returned (.int .i64 (frstZ s n)) ∧ Below w.heap.size w w' := by
  have HOP := hid (fun W h => ropen_any (b := b) (g := g) (s := s) n hn W h)
  have HWR := hid (fun W h => rpos_any (b := b) (g := g) (s := s) n hn W h)
  have HTB := hid (fun W h => rtab_any (b := b) (g := g) (s := s) n hn false W h)
  have HH := hid h
  clear h hn
  unfold frstZ
  generalize tabZ s n false = t at HTB ⊢
  generalize (s.wr n : Int) = a at HWR ⊢
  cases ho : openB s n
  · rw [if_neg (by simp)]
    rw [ho] at HOP
    clear ho
    go_enter Try.func56, Try.ntmps56
    go_wp2_with fail
    with_reducible refine (HOP.out _ HH.out).mono ?_
    rintro e w1 ⟨rfl, hb⟩
    have HB1 := hid (hb)
    clear hb
    go_wp2_with fail
    with_reducible refine (HTB.out _ (HH.out.below HB1.out)).mono ?_
    rintro e w2 ⟨rfl, hb⟩
    have HB2 := hid (below_t HB1.out hb)
    clear hb HB1
    go_wp2
    go_ret
    exact ⟨rfl, HB2.out⟩
  · rw [if_pos rfl]
    rw [ho] at HOP
    clear ho
    go_enter Try.func56, Try.ntmps56
    go_wp2_with fail
    with_reducible refine (HOP.out _ HH.out).mono ?_
    rintro e w1 ⟨rfl, hb⟩
    have HB1 := hid (hb)
    clear hb
    go_wp2_with fail
    with_reducible refine (HWR.out _ (HH.out.below HB1.out)).mono ?_
    rintro e w2 ⟨rfl, hb⟩
    have HB2 := hid (below_t HB1.out hb)
    clear hb HB1
    go_wp2
    go_ret
    exact ⟨rfl, HB2.out⟩
end
end Go.Proofs.Ytpehhinpohmpiaa
