/-
  A place's field; whether one may write there; the first place of the next one.
-/
import Derived.Test.YtdaainifnbbhiaaYx
namespace Go.Proofs.Ytdaainifnbbhiaa
open Go.RowKit Go.Lib Go.Deep

/-- Is it protected? -/
def Cel.prot (c : Cel) : Bool := ofP c.fa.toNat
/-- Is the field that starts there protected? -/
def protF (s : Spc) (a : Int) : Bool := if a < 0 then false else (s.cel a.toNat).prot
/-- May one write there? -/
def openB (s : Spc) (n : Int) : Bool := !(s.atC n).at_ && !protF s (stF s.P s.L.length (s.wr n))
/-- Is that the first place of an unprotected field? -/
def firstB (s : Spc) (n : Int) : Bool := (s.atC (n - 1)).at_ && !(s.atC (n - 1)).prot && !(s.atC n).at_
/-- What is sought, from a place on. -/
def SeekR (s : Spc) (p : Nat) (st r : Int) : Prop := (∃ k : Nat, k < s.L.length ∧ firstB s ((p : Int) + st * ((k : Int) + 1)) = true ∧ (∀ j : Nat, j < k → firstB s ((p : Int) + st * ((j : Int) + 1)) = false) ∧ r = (s.wr ((p : Int) + st * ((k : Int) + 1)) : Int)) ∨ ((∀ j : Nat, j < s.L.length → firstB s ((p : Int) + st * ((j : Int) + 1)) = false) ∧ r = -1)
abbrev field0 : Value := .agg #[.bool false, .bool false, .int .i64 0, .bool false]
section
variable {b g : Nat} {s : Spc}
set_option maxRecDepth 100000 in
set_option maxHeartbeats 4000000 in
theorem fof_yes (n : Int) (hn : I64 n) (a : Nat) (ha : stF s.P s.L.length (s.wr n) = a) (w : World) (h : SpM w b g s) : Calls Try.prog 41 #[.pointer (some ⟨b, 0, none⟩), .int .i64 n] w fun e w' => e = .returned (.tuple #[(s.cel a).fv, .bool true]) ∧ Below w.heap.size w w' := by
  have HS := hid (fun W h => start_any (b := b) (g := g) (s := s) n hn W h)
  rw [ha] at HS
  have hal : a < s.L.length := by
    rcases stF_bd s.P (h.ok.wr_lt n) with q | ⟨a', h1, _, h3⟩
    · rw [ha] at q; omega
    · rw [ha] at h3; omega
  have HA := hid (fun W h => fat_any (b := b) (g := g) (s := s) (a : Int) (i64_small (by omega) (by have := h.ok.pos; omega)) W h)
  rw [show s.atC (a : Int) = s.cel a by unfold Spc.atC; rw [wr_nat hal]] at HA
  have HH := hid h
  obtain ⟨fp, fn, fd, fm, hf⟩ : ∃ p n d m, (s.cel a).fv = .agg #[.bool p, .bool n, .int .i64 d, .bool m] := ⟨_, _, _, _, rfl⟩
  rw [hf] at HA ⊢
  have hneg : ¬ ((a : Int) = -1) := by omega
  clear h hn ha hal hf
  go_enter Try.func41, Try.ntmps41
  go_wp2_with fail
  with_reducible refine (HS.out _ (HH.out.below (bal (Below.refl w.heap.size w) _))).mono ?_
  rintro e w1 ⟨rfl, hb1⟩
  have HB1 := hid hb1
  clear hb1 HS
  go_wp2_with fail
  with_reducible refine (HA.out _ (HH.out.below (blw HB1.out))).mono ?_
  rintro e w2 ⟨rfl, hb2⟩
  obtain ⟨⟨c0, c1, c2, c3⟩, ⟨f0, f1, f2, f3⟩, hs⟩ := box4 (below_t HB1.out hb2)
  have HB2 := hid (blw (below_t HB1.out hb2))
  clear hb2 HB1 HA
  go_wp2
  exact bodyPost_ret (v := .tuple #[.agg #[.bool fp, .bool fn, .int .i64 fd, .bool fm], .bool true]) (by simp [results, Try.results41, go_sem, c0, c1, c2, c3]) rfl ⟨rfl, ((((HB2.out.sc _ _ _ (Nat.le_refl _)).sc _ _ _ (Nat.le_refl _)).sc _ _ _ (Nat.le_refl _)).sc _ _ _ (Nat.le_refl _))⟩
set_option maxRecDepth 100000 in
set_option maxHeartbeats 4000000 in
theorem fof_no (n : Int) (hn : I64 n) (ha : stF s.P s.L.length (s.wr n) = -1) (w : World) (h : SpM w b g s) : Calls Try.prog 41 #[.pointer (some ⟨b, 0, none⟩), .int .i64 n] w fun e w' => e = .returned (.tuple #[field0, .bool false]) ∧ Below w.heap.size w w' := by
  have HS := hid (fun W h => start_any (b := b) (g := g) (s := s) n hn W h)
  rw [ha] at HS
  have HH := hid h
  clear h hn ha
  go_enter Try.func41, Try.ntmps41
  go_wp2_with fail
  with_reducible refine (HS.out _ (HH.out.below (bal (Below.refl w.heap.size w) _))).mono ?_
  rintro e w1 ⟨rfl, hb1⟩
  obtain ⟨⟨c0, c1, c2, c3⟩, ⟨f0, f1, f2, f3⟩, hs⟩ := box4 hb1
  have HB1 := hid (blw hb1)
  clear hb1 HS
  go_wp2
  exact bodyPost_ret (v := .tuple #[field0, .bool false]) (by simp [results, Try.results41, go_sem, c0, c1, c2, c3]) rfl ⟨rfl, ((((HB1.out.sc _ _ _ (Nat.le_refl _)).sc _ _ _ (Nat.le_refl _)).sc _ _ _ (Nat.le_refl _)).sc _ _ _ (Nat.le_refl _))⟩
set_option maxRecDepth 100000 in
set_option maxHeartbeats 4000000 in
theorem open_any (n : Int) (hn : I64 n) (w : World) (h : SpM w b g s) : Calls Try.prog 44 #[.pointer (some ⟨b, 0, none⟩), .int .i64 n] w fun e w' => e = .returned (.bool (openB s n)) ∧ Below w.heap.size w w' := by
  have HA := hid (fun W h => at_any (b := b) (g := g) (s := s) n hn W h)
  have HH := hid h
  have HO : Hid (∃ (f0 f1 : Bool) (f2 : Int) (f3 ok : Bool), f0 = protF s (stF s.P s.L.length (s.wr n)) ∧ ∀ W, SpM W b g s → Calls Try.prog 41 #[.pointer (some ⟨b, 0, none⟩), .int .i64 n] W fun e w' => e = .returned (.tuple #[.agg #[.bool f0, .bool f1, .int .i64 f2, .bool f3], .bool ok]) ∧ Below W.heap.size W w') := by
    rcases stF_bd s.P (h.ok.wr_lt n) with q | ⟨a, h1, _, h3⟩
    · exact ⟨false, false, 0, false, false, by rw [q]; rfl, fun W hW => fof_no n hn q W hW⟩
    · exact ⟨_, _, _, _, true, by rw [h3]; unfold protF; rw [if_neg (by omega), Int.toNat_natCast]; rfl, fun W hW => fof_yes n hn a h3 W hW⟩
  obtain ⟨f0, f1, f2, f3, ok, hf, ho⟩ := HO.out
  have HOF := hid ho
  have HE := hid (show openB s n = (!(s.atC n).at_ && !f0) by unfold openB; rw [hf])
  generalize s.atC n = c at HA HE
  have hf1 := celf1
  clear h hn ho hf HO
  obtain ⟨x0, x1, x2, x3, x4, x5⟩ := c
  dsimp only at HE
  rw [HE.out]
  cases x1
  · go_enter Try.func44, Try.ntmps44
    go_wp2_with fail
    with_reducible refine (HA.out _ HH.out).mono ?_
    rintro e w1 ⟨rfl, hb1⟩
    have HB1 := hid hb1
    clear hb1
    go_wp2_with fail
    with_reducible refine (HOF.out _ (HH.out.below HB1.out)).mono ?_
    rintro e w2 ⟨rfl, hb2⟩
    have HB2 := hid (below_t HB1.out hb2)
    clear hb2 HB1
    go_wp2
    go_ret
    exact ⟨by simp, HB2.out.al (Nat.le_refl _) _⟩
  · go_enter Try.func44, Try.ntmps44
    go_wp2_with fail
    with_reducible refine (HA.out _ HH.out).mono ?_
    rintro e w1 ⟨rfl, hb1⟩
    have HB1 := hid hb1
    clear hb1
    go_wp2
    go_ret
    exact ⟨by simp, HB1.out⟩
set_option maxRecDepth 100000 in
set_option maxHeartbeats 4000000 in
theorem first_any (n : Int) (h1 : -9000 ≤ n) (h2 : n ≤ 9000) (w : World) (h : SpM w b g s) : Calls Try.prog 97 #[.pointer (some ⟨b, 0, none⟩), .int .i64 n] w fun e w' => e = .returned (.bool (firstB s n)) ∧ Below w.heap.size w w' := by
  have HA := hid (fun W h => at_any (b := b) (g := g) (s := s) (n - 1) (i64_small (by omega) (by omega)) W h)
  have HF := hid (fun W h => fat_any (b := b) (g := g) (s := s) (n - 1) (i64_small (by omega) (by omega)) W h)
  have HA2 := hid (fun W h => at_any (b := b) (g := g) (s := s) n (i64_small (by omega) (by omega)) W h)
  have HH := hid h
  have HE := hid (show firstB s n = ((s.atC (n - 1)).at_ && !(s.atC (n - 1)).prot && !(s.atC n).at_) from rfl)
  obtain ⟨fp, fn, fd, fm, hfp, hf⟩ : ∃ p n' d m, p = (s.atC (n - 1)).prot ∧ (s.atC (n - 1)).fv = .agg #[.bool p, .bool n', .int .i64 d, .bool m] := ⟨_, _, _, _, rfl, rfl⟩
  rw [hf] at HF
  rw [← hfp] at HE
  generalize s.atC (n - 1) = c at HA HE
  generalize s.atC n = d at HA2 HE
  have hf1 := celf1
  have hf0 := attf0
  have hw1 : IntKind.i64.wrap (n - 1) = n - 1 := wrapI (i64_small (by omega) (by omega))
  clear h hfp hf
  obtain ⟨x0, x1, x2, x3, x4, x5⟩ := c
  obtain ⟨y0, y1, y2, y3, y4, y5⟩ := d
  dsimp only at HE
  rw [HE.out]
  cases x1
  · go_enter Try.func97, Try.ntmps97
    go_wp2_with fail
    try simp only [hw1]
    with_reducible refine (HA.out _ HH.out).mono ?_
    rintro e w1 ⟨rfl, hb1⟩
    have HB1 := hid hb1
    clear hb1
    go_wp2
    go_ret
    exact ⟨by simp, HB1.out⟩
  · cases fp
    · go_enter Try.func97, Try.ntmps97
      go_wp2_with fail
      try simp only [hw1]
      with_reducible refine (HA.out _ HH.out).mono ?_
      rintro e w1 ⟨rfl, hb1⟩
      have HB1 := hid hb1
      clear hb1
      go_wp2_with fail
      try simp only [hw1]
      with_reducible refine (HF.out _ (HH.out.below HB1.out)).mono ?_
      rintro e w2 ⟨rfl, hb2⟩
      have HB2 := hid (below_t HB1.out hb2)
      clear hb2 HB1
      go_wp2_with fail
      with_reducible refine (HA2.out _ (HH.out.below HB2.out)).mono ?_
      rintro e w3 ⟨rfl, hb3⟩
      have HB3 := hid (below_t HB2.out hb3)
      clear hb3 HB2
      go_wp2
      go_ret
      exact ⟨by simp, HB3.out⟩
    · go_enter Try.func97, Try.ntmps97
      go_wp2_with fail
      try simp only [hw1]
      with_reducible refine (HA.out _ HH.out).mono ?_
      rintro e w1 ⟨rfl, hb1⟩
      have HB1 := hid hb1
      clear hb1
      go_wp2_with fail
      try simp only [hw1]
      with_reducible refine (HF.out _ (HH.out.below HB1.out)).mono ?_
      rintro e w2 ⟨rfl, hb2⟩
      have HB2 := hid (below_t HB1.out hb2)
      clear hb2 HB1
      go_wp2
      go_ret
      exact ⟨by simp, HB2.out⟩
set_option maxRecDepth 100000 in
set_option maxHeartbeats 4000000 in
theorem seek_any (n st : Int) (hn : I64 n) (hst : st = 1 ∨ st = -1) (w : World) (h : SpM w b g s) : Calls Try.prog 85 #[.pointer (some ⟨b, 0, none⟩), .int .i64 n, .int .i64 st] w fun e w' => (∃ r, e = .returned (.int .i64 r) ∧ SeekR s (s.wr n) st r) ∧ Below w.heap.size w w' := by
  have hok := h.ok
  have hLp := hok.pos
  have HSZ := hid (size_any w h)
  have HH := hid h
  obtain ⟨N, hN⟩ : ∃ N : Nat, s.L.length = N := ⟨_, rfl⟩
  have HW1 := hid (fun W => wrap_ok s.r s.c n hok.sz hn W)
  rw [← hok.len, ← hok.wr_eq n] at HW1
  have hp := hok.wr_lt n
  obtain ⟨p, hpe⟩ : ∃ p, s.wr n = p := ⟨_, rfl⟩
  rw [hpe] at HW1 hp
  have HCL := hid (fun W => cells_ok s.r s.c hok.sz W)
  rw [← hok.len, hN] at HCL
  rw [hN] at hp hLp
  have HST := hid hst
  have hbd : ∀ q : Nat, q ≤ N → -3564 ≤ (p : Int) + st * (q : Int) ∧ (p : Int) + st * (q : Int) ≤ 7128 := fun q hq => by
    rcases hst with rfl | rfl <;> omega
  have HW2 := hid (fun (q : Nat) (hq : q < N) W => (show Calls Try.prog 70 #[.agg #[.int .i64 s.r, .int .i64 s.c], .int .i64 ((p : Int) + st * ((q : Int) + 1))] W fun e w' => e = .returned (.int .i64 (s.wr ((p : Int) + st * ((q : Int) + 1)))) ∧ Below W.heap.size W w' from by
    have q0 := hbd (q + 1) (by omega)
    have q1 := wrap_ok s.r s.c ((p : Int) + st * ((q : Int) + 1)) hok.sz (i64_small (by push_cast at q0; omega) (by push_cast at q0; omega)) W
    rw [← hok.len, ← hok.wr_eq] at q1
    exact q1))
  have HFI := hid (fun (q : Nat) (hq : q < N) (W : World) (hW : SpM W b g s) => (show Calls Try.prog 97 #[.pointer (some ⟨b, 0, none⟩), .int .i64 ((p : Int) + st * ((q : Int) + 1))] W fun e w' => e = .returned (.bool (firstB s ((p : Int) + st * ((q : Int) + 1)))) ∧ Below W.heap.size W w' from by
    have q0 := hbd (q + 1) (by omega)
    exact first_any (b := b) (g := g) (s := s) _ (by push_cast at q0; omega) (by push_cast at q0; omega) W hW))
  have HBD := hid hbd
  have HNE := hid hN
  rw [hpe]
  generalize s.r = R at HSZ HW1 HCL HW2
  generalize s.c = C at HSZ HW1 HCL HW2
  clear h hn hok hpe hN hst hbd
  go_enter Try.func85, Try.ntmps85
  go_wp2_with fail
  with_reducible refine HSZ.out.mono ?_
  rintro e w1 ⟨rfl, hb1⟩
  obtain ⟨W0, hW0⟩ : ∃ W0, w1.alloc (.cells #[.int .i64 R, .int .i64 C] 52) = W0 := ⟨_, rfl⟩
  have HZ := hid (show ∀ V, Below W0.heap.size W0 V → V.cell? ⟨w1.heap.size, 0, none⟩ = some (.int .i64 R) ∧ V.cell? ⟨w1.heap.size, 1, none⟩ = some (.int .i64 C) ∧ w1.heap.size < V.heap.size from fun V hV => by
    rw [← hW0] at hV
    obtain ⟨c0, c1, _, _, hs⟩ := box2 hV
    exact ⟨c0, c1, hs⟩)
  have HB0 := hid (show Below w.heap.size w W0 by rw [← hW0]; exact bal hb1 _)
  have HW0 := hid hW0
  clear hb1 hW0
  obtain ⟨z0, z1, z2⟩ := HZ.out _ (Below.refl _ _)
  go_wp2_with fail
  simp only [HW0.out]
  with_reducible refine (HW1.out _).mono ?_
  rintro e w2 ⟨rfl, hb2⟩
  have HB2 := hid hb2
  clear hb2 z0 z1 z2
  obtain ⟨z0, z1, z2⟩ := HZ.out _ HB2.out
  go_wp2_with fail
  with_reducible refine (HCL.out _).mono ?_
  rintro e w3 ⟨rfl, hb3⟩
  have HB3 := hid (below_t HB2.out hb3)
  clear hb3 z0 z1 z2 HB2
  go_wp2_with fail
  go_loopw [15, 1] (fun i t W => ∃ q : Nat, q ≤ N ∧ i = .int .i64 q ∧ t = .int .i64 ((p : Int) + st * q) ∧ Hid (Below W0.heap.size W0 W) ∧ Hid (∀ j : Nat, j < q → firstB s ((p : Int) + st * ((j : Int) + 1)) = false)) (fun i _ _ => N - (intOf i).toNat)
  case atStart => exact ⟨0, by omega, rfl, by simp, HB3.out, fun j hj => absurd hj (Nat.not_lt_zero _)⟩
  case round =>
    clear HB3
    obtain ⟨q, hq, rfl, rfl, HB, HN⟩ := hrel
    obtain ⟨z0, z1, z2⟩ := HZ.out _ HB.out
    by_cases hqN : q < N
    · have hqi : (q : Int) < N := by omega
      have hwz : IntKind.i64.wrap ((p : Int) + st * (q : Int) + st) = (p : Int) + st * ((q : Int) + 1) := by
        have q0 := HBD.out (q + 1) (by omega)
        push_cast at q0
        rw [show (p : Int) + st * (q : Int) + st = (p : Int) + st * ((q : Int) + 1) by rw [Int.mul_add, Int.mul_one, Int.add_assoc]]
        exact wrapI (i64_small (by omega) (by omega))
      have HF1 := hid (fun W h => HFI.out q hqN W h)
      have HA2 := hid (fun W => HW2.out q hqN W)
      obtain ⟨u, hu⟩ : ∃ u : Int, (p : Int) + st * ((q : Int) + 1) = u := ⟨_, rfl⟩
      have HU := hid hu
      rw [hu] at hwz HF1 HA2
      obtain ⟨f, hf⟩ : ∃ f, firstB s u = f := ⟨_, rfl⟩
      rw [hf] at HF1
      have HFE := hid hf
      clear hu hf
      cases f
      · go_wp2_with fail
        try simp only [hwz]
        with_reducible refine (HF1.out _ (HH.out.below (below_t HB0.out HB.out))).mono ?_
        rintro e w4 ⟨rfl, hb4⟩
        have HB4 := hid (below_t HB.out hb4)
        have HN2 := hid (show ∀ j : Nat, j < q + 1 → firstB s ((p : Int) + st * ((j : Int) + 1)) = false from fun j hj => by
          by_cases e : j = q
          · rw [e, HU.out]; exact HFE.out
          · exact HN.out j (by omega))
        clear hb4 HB HN z0 z1 z2
        go_wp2
        go_roundw
        case rel => exact ⟨q + 1, by omega, by go_num, by rw [← HU.out]; push_cast; rfl, HB4.out, HN2.out⟩
        case measure => simp [intOf]; omega
      · go_wp2_with fail
        try simp only [hwz]
        with_reducible refine (HF1.out _ (HH.out.below (below_t HB0.out HB.out))).mono ?_
        rintro e w4 ⟨rfl, hb4⟩
        have HB4 := hid (below_t HB.out hb4)
        clear hb4 HB z0 z1 z2
        obtain ⟨z0, z1, z2⟩ := HZ.out _ HB4.out
        go_wp2_with fail
        try simp only [hwz]
        with_reducible refine (HA2.out _).mono ?_
        rintro e w5 ⟨rfl, hb5⟩
        have HB5 := hid (below_t HB4.out hb5)
        clear hb5 HB4 z0 z1 z2
        go_wp2
        go_ret
        exact ⟨⟨_, rfl, .inl ⟨q, by rw [HNE.out]; exact hqN, by rw [HU.out]; exact HFE.out, HN.out, by rw [HU.out]⟩⟩, below_t HB0.out HB5.out⟩
    · obtain rfl : q = N := by omega
      go_wp2
      go_ret
      exact ⟨⟨_, rfl, .inr ⟨by rw [HNE.out]; exact HN.out, rfl⟩⟩, below_t HB0.out HB.out⟩
set_option maxRecDepth 100000 in
set_option maxHeartbeats 4000000 in
theorem next_any (n : Int) (hn : I64 n) (w : World) (h : SpM w b g s) : Calls Try.prog 57 #[.pointer (some ⟨b, 0, none⟩), .int .i64 n] w fun e w' => (∃ r, e = .returned (.int .i64 r) ∧ SeekR s (s.wr n) 1 r) ∧ Below w.heap.size w w' := by
  have HS := hid (fun W h => seek_any (b := b) (g := g) (s := s) n 1 hn (by decide) W h)
  have HH := hid h
  clear h hn
  go_enter Try.func57, Try.ntmps57
  go_wp2_with fail
  with_reducible refine (HS.out _ HH.out).mono ?_
  rintro e w1 ⟨⟨r, rfl, hr⟩, hb⟩
  have HR := hid (And.intro hr hb)
  clear hr hb
  go_wp2
  go_ret
  exact ⟨⟨r, rfl, HR.out.1⟩, HR.out.2⟩
set_option maxRecDepth 100000 in
set_option maxHeartbeats 4000000 in
theorem prev_any (n : Int) (hn : I64 n) (w : World) (h : SpM w b g s) : Calls Try.prog 58 #[.pointer (some ⟨b, 0, none⟩), .int .i64 n] w fun e w' => (∃ r, e = .returned (.int .i64 r) ∧ SeekR s (s.wr n) (-1) r) ∧ Below w.heap.size w w' := by
  have HS := hid (fun W h => seek_any (b := b) (g := g) (s := s) n (-1) hn (by decide) W h)
  have HH := hid h
  clear h hn
  go_enter Try.func58, Try.ntmps58
  go_wp2_with fail
  with_reducible refine (HS.out _ HH.out).mono ?_
  rintro e w1 ⟨⟨r, rfl, hr⟩, hb⟩
  have HR := hid (And.intro hr hb)
  clear hr hb
  go_wp2
  go_ret
  exact ⟨⟨r, rfl, HR.out.1⟩, HR.out.2⟩
end
end Go.Proofs.Ytdaainifnbbhiaa
