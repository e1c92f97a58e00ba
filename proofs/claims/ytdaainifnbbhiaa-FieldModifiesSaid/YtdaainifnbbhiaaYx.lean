/-
  The field of a place: where it starts, whether one may write there, the next one's first place.
-/
import Derived.Test.YtdaainifnbbhiaaYw
namespace Go.Proofs.Ytdaainifnbbhiaa
open Go.RowKit Go.Lib Go.Deep

/-- The last place below k that has it; -1: there is none. -/
def lastP (P : Nat → Bool) : Nat → Int
  | 0 => -1
  | k + 1 => if P k then (k : Int) else lastP P k
theorem lastP_at (P : Nat → Bool) {a : Nat} : ∀ {k : Nat}, a < k → P a = true → (∀ j, a < j → j < k → P j = false) → lastP P k = a
  | 0, h, _, _ => absurd h (Nat.not_lt_zero _)
  | k + 1, h, ha, hn => by
    unfold lastP
    by_cases e : a = k
    · subst e
      rw [if_pos ha]
    · rw [if_neg (by rw [hn k (by omega) (by omega)]; simp)]
      exact lastP_at P (by omega) ha (fun j h1 h2 => hn j h1 (by omega))
theorem lastP_none (P : Nat → Bool) : ∀ {k : Nat}, (∀ j, j < k → P j = false) → lastP P k = -1
  | 0, _ => rfl
  | k + 1, hn => by
    unfold lastP
    rw [if_neg (by rw [hn k (by omega)]; simp)]
    exact lastP_none P (fun j h => hn j (by omega))
theorem lastP_cases (P : Nat → Bool) : ∀ (k : Nat), ((∀ j, j < k → P j = false) ∧ lastP P k = -1) ∨ ∃ a : Nat, a < k ∧ P a = true ∧ (∀ j, a < j → j < k → P j = false) ∧ lastP P k = a
  | 0 => .inl ⟨fun j h => absurd h (Nat.not_lt_zero _), rfl⟩
  | k + 1 => by
    by_cases e : P k = true
    · exact .inr ⟨k, by omega, e, fun j h1 h2 => absurd h1 (by omega), by unfold lastP; rw [if_pos e]⟩
    · have e' : P k = false := by simpa using e
      rcases lastP_cases P k with ⟨h1, h2⟩ | ⟨a, h1, h2, h3, h4⟩
      · refine .inl ⟨fun j hj => ?_, by unfold lastP; rw [if_neg e]; exact h2⟩
        by_cases q : j = k
        · rw [q]; exact e'
        · exact h1 j (by omega)
      · refine .inr ⟨a, by omega, h2, fun j k1 k2 => ?_, by unfold lastP; rw [if_neg e]; exact h4⟩
        by_cases q : j = k
        · rw [q]; exact e'
        · exact h3 j k1 (by omega)
/-- Where a place's field starts. -/
def stF (P : Nat → Bool) (N p : Nat) : Int := if 0 ≤ lastP P (p + 1) then lastP P (p + 1) else lastP P N
/-- So many places back, round the screen. -/
def bk (N p j : Nat) : Nat := if j ≤ p then p - j else p + N - j
theorem stF_found {P : Nat → Bool} {N p q : Nat} (hq : q < N) (h : ∀ j, j < q → P (bk N p j) = false) (hf : P (bk N p q) = true) : stF P N p = (bk N p q : Int) := by
  unfold stF
  by_cases e : q ≤ p
  · have e1 : bk N p q = p - q := by unfold bk; rw [if_pos e]
    rw [e1] at hf ⊢
    have : lastP P (p + 1) = ((p - q : Nat) : Int) := lastP_at P (by omega) hf (fun j h1 h2 => by
      have := h (p - j) (by omega)
      unfold bk at this
      rwa [if_pos (by omega), show p - (p - j) = j by omega] at this)
    rw [this, if_pos (by omega)]
  · have e1 : bk N p q = p + N - q := by unfold bk; rw [if_neg e]
    rw [e1] at hf ⊢
    have h1 : lastP P (p + 1) = -1 := lastP_none P (fun j hj => by
      have := h (p - j) (by omega)
      unfold bk at this
      rwa [if_pos (by omega), show p - (p - j) = j by omega] at this)
    rw [h1, if_neg (by omega)]
    exact lastP_at P (by omega) hf (fun j k1 k2 => by
      have := h (p + N - j) (by omega)
      unfold bk at this
      rwa [if_neg (by omega), show p + N - (p + N - j) = j by omega] at this)
theorem stF_none {P : Nat → Bool} {N p : Nat} (hp : p < N) (h : ∀ j, j < N → P (bk N p j) = false) : stF P N p = -1 := by
  have hall : ∀ j, j < N → P j = false := fun j hj => by
    by_cases e : j ≤ p
    · have := h (p - j) (by omega)
      unfold bk at this
      rwa [if_pos (by omega), show p - (p - j) = j by omega] at this
    · have := h (p + N - j) (by omega)
      unfold bk at this
      rwa [if_neg (by omega), show p + N - (p + N - j) = j by omega] at this
  unfold stF
  rw [lastP_none P (fun j hj => hall j (by omega)), if_neg (by omega), lastP_none P hall]
theorem stF_bd (P : Nat → Bool) {N p : Nat} (hp : p < N) : stF P N p = -1 ∨ ∃ a : Nat, a < N ∧ P a = true ∧ stF P N p = a := by
  unfold stF
  rcases lastP_cases P (p + 1) with ⟨_, h2⟩ | ⟨a, h1, h2, _, h4⟩
  · rw [h2, if_neg (by omega)]
    rcases lastP_cases P N with ⟨_, h2⟩ | ⟨a, h1, h2, _, h4⟩
    · exact .inl h2
    · exact .inr ⟨a, h1, h2, h4⟩
  · rw [h4, if_pos (by omega)]
    exact .inr ⟨a, by omega, h2, rfl⟩
theorem wr_bk {s : Spc} {p q : Nat} (hp : p < s.L.length) (hq : q ≤ s.L.length) : s.wr ((p : Int) - q) = bk s.L.length p q := by
  unfold Spc.wr bk
  by_cases e : q ≤ p
  · rw [if_pos e, Int.emod_eq_of_lt (by omega) (by omega)]
    omega
  · rw [if_neg e, ← Int.add_emod_right, Int.emod_eq_of_lt (by omega) (by omega)]
    omega
theorem celf1 (x0 : Int) (x1 : Bool) (x2 x3 x4 x5 : Int) (w : World) : (Instr.field 31 (.agg #[.int .u8 x0, .bool x1, .int .u8 x2, .int .u8 x3, .int .u8 x4, .int .u8 x5]) 1).run Try.prog w = .ok (.bool x1) w := by kernel_rfl
theorem celf2 (x0 : Int) (x1 : Bool) (x2 x3 x4 x5 : Int) (w : World) : (Instr.field 31 (.agg #[.int .u8 x0, .bool x1, .int .u8 x2, .int .u8 x3, .int .u8 x4, .int .u8 x5]) 2).run Try.prog w = .ok (.int .u8 x2) w := by kernel_rfl
theorem attf0 (p n m : Bool) (d : Int) (w : World) : (Instr.field 70 (.agg #[.bool p, .bool n, .int .i64 d, .bool m]) 0).run Try.prog w = .ok (.bool p) w := by kernel_rfl
/-- A cell's field attribute. -/
def Cel.fv (c : Cel) : Value := .agg #[.bool (ofP c.fa.toNat), .bool (ofN c.fa.toNat), .int .i64 (ofD c.fa.toNat), .bool (ofM c.fa.toNat)]
theorem of_cel (c : Cel) (h : c.OK) (w : World) : Calls Try.prog 96 #[.int .u8 c.fa] w fun e w' => e = .returned c.fv ∧ Below w.heap.size w w' := by
  obtain ⟨k, hk, e⟩ := u8_nat h.fa
  have q := of_any k hk w
  unfold Cel.fv
  rw [e, Int.toNat_natCast]
  exact q
theorem rof_cel (c : Cel) (h : c.OK) (w : World) : Calls Try.prog 80 #[.int .u8 c.fa] w fun e w' => e = .returned c.fv ∧ Below w.heap.size w w' := by
  obtain ⟨k, hk, e⟩ := u8_nat h.fa
  have q := rof_any k hk w
  unfold Cel.fv
  rw [e, Int.toNat_natCast]
  exact q
theorem box4 {w w1 : World} {x0 x1 x2 x3 : Value} {t : TypeId} (hb : Below (w.alloc (.cells #[x0, x1, x2, x3] t)).heap.size (w.alloc (.cells #[x0, x1, x2, x3] t)) w1) :
    (w1.cell? ⟨w.heap.size, 0, none⟩ = some x0 ∧ w1.cell? ⟨w.heap.size, 1, none⟩ = some x1 ∧ w1.cell? ⟨w.heap.size, 2, none⟩ = some x2 ∧ w1.cell? ⟨w.heap.size, 3, none⟩ = some x3) ∧ (w1.frozen? ⟨w.heap.size, 0, none⟩ = false ∧ w1.frozen? ⟨w.heap.size, 1, none⟩ = false ∧ w1.frozen? ⟨w.heap.size, 2, none⟩ = false ∧ w1.frozen? ⟨w.heap.size, 3, none⟩ = false) ∧ w.heap.size < w1.heap.size :=
  ⟨⟨(hb.cell (p := ⟨w.heap.size, 0, none⟩) (by simp)).trans (by simp [go_sem]), (hb.cell (p := ⟨w.heap.size, 1, none⟩) (by simp)).trans (by simp [go_sem]), (hb.cell (p := ⟨w.heap.size, 2, none⟩) (by simp)).trans (by simp [go_sem]), (hb.cell (p := ⟨w.heap.size, 3, none⟩) (by simp)).trans (by simp [go_sem])⟩, ⟨(hb.frozen (p := ⟨w.heap.size, 0, none⟩) (by simp)).trans (by simp [go_sem]), (hb.frozen (p := ⟨w.heap.size, 1, none⟩) (by simp)).trans (by simp [go_sem]), (hb.frozen (p := ⟨w.heap.size, 2, none⟩) (by simp)).trans (by simp [go_sem]), (hb.frozen (p := ⟨w.heap.size, 3, none⟩) (by simp)).trans (by simp [go_sem])⟩, by have := hb.size; simp at this; omega⟩
section
variable {b g : Nat} {s : Spc}
set_option maxRecDepth 100000 in
set_option maxHeartbeats 4000000 in
theorem fat_any (n : Int) (hn : I64 n) (w : World) (h : SpM w b g s) : Calls Try.prog 79 #[.pointer (some ⟨b, 0, none⟩), .int .i64 n] w fun e w' => e = .returned (s.atC n).fv ∧ Below w.heap.size w w' := by
  have HA := hid (fun W h => at_any (b := b) (g := g) (s := s) n hn W h)
  have HO := hid (fun W => of_cel (s.atC n) (h.ok.cel _) W)
  have HH := hid h
  generalize s.atC n = c at HA HO ⊢
  obtain ⟨fp, fn, fd, fm, hf⟩ : ∃ p n d m, c.fv = .agg #[.bool p, .bool n, .int .i64 d, .bool m] := ⟨_, _, _, _, rfl⟩
  rw [hf] at HO ⊢
  obtain ⟨x0, x1, x2, x3, x4, x5⟩ := c
  dsimp only at HO
  have hf2 := celf2
  clear h hn hf
  go_enter Try.func79, Try.ntmps79
  go_wp2_with fail
  with_reducible refine (HA.out _ (HH.out.below (bal (Below.refl w.heap.size w) _))).mono ?_
  rintro e w1 ⟨rfl, hb1⟩
  have HB1 := hid hb1
  clear hb1 HA
  go_wp2_with fail
  with_reducible refine (HO.out _).mono ?_
  rintro e w2 ⟨rfl, hb2⟩
  obtain ⟨⟨c0, c1, c2, c3⟩, ⟨f0, f1, f2, f3⟩, hs⟩ := box4 (below_t HB1.out hb2)
  have HB2 := hid (blw (below_t HB1.out hb2))
  clear hb2 HB1 HO hf2
  go_wp2
  exact bodyPost_ret (v := .agg #[.bool fp, .bool fn, .int .i64 fd, .bool fm]) (by simp [results, Try.results79, go_sem, c0, c1, c2, c3]) rfl ⟨rfl, ((((HB2.out.sc _ _ _ (Nat.le_refl _)).sc _ _ _ (Nat.le_refl _)).sc _ _ _ (Nat.le_refl _)).sc _ _ _ (Nat.le_refl _))⟩
set_option maxRecDepth 100000 in
set_option maxHeartbeats 4000000 in
theorem start_any (n : Int) (hn : I64 n) (w : World) (h : SpM w b g s) : Calls Try.prog 42 #[.pointer (some ⟨b, 0, none⟩), .int .i64 n] w fun e w' => e = .returned (.int .i64 (stF s.P s.L.length (s.wr n))) ∧ Below w.heap.size w w' := by
  have hok := h.ok
  have hLp := hok.pos
  have HSZ := hid (size_any w h)
  have HH := hid h
  obtain ⟨N, hN⟩ : ∃ N : Nat, s.L.length = N := ⟨_, rfl⟩
  have HW1 := hid (fun W => wrap_ok s.r s.c n hok.sz hn W)
  rw [← hok.len, ← hok.wr_eq n] at HW1
  have hp := hok.wr_lt n
  obtain ⟨p, hpe⟩ : ∃ p, s.wr n = p := ⟨_, rfl⟩
  rw [hpe] at HW1 hp
  have HCL := hid (fun W => cells_ok s.r s.c hok.sz W)
  rw [← hok.len, hN] at HCL
  rw [hN] at hp hLp
  have HW2 := hid (fun (q : Nat) (hq : q < N) W => (show Calls Try.prog 70 #[.agg #[.int .i64 s.r, .int .i64 s.c], .int .i64 ((p : Int) - q)] W fun e w' => e = .returned (.int .i64 (bk N p q)) ∧ Below W.heap.size W w' from by
    have q1 := wrap_ok s.r s.c ((p : Int) - q) hok.sz (i64_small (by omega) (by omega)) W
    rw [← hok.len, ← hok.wr_eq, wr_bk (by omega) (by omega), hN] at q1
    exact q1))
  have HAT := hid (fun (q : Nat) (hq : q < N) W h => (show Calls Try.prog 15 #[.pointer (some ⟨b, 0, none⟩), .int .i64 ((p : Int) - q)] W fun e w' => e = .returned (s.cel (bk N p q)).v ∧ Below W.heap.size W w' from by
    have q1 := at_any (b := b) (g := g) (s := s) ((p : Int) - q) (i64_small (by omega) (by omega)) W h
    unfold Spc.atC at q1
    rw [wr_bk (by omega) (by omega), hN] at q1
    exact q1))
  rw [hpe, hN]
  generalize s.r = R at HSZ HW1 HCL HW2
  generalize s.c = C at HSZ HW1 HCL HW2
  have hf1 := celf1
  clear h hn hok hpe hN
  go_enter Try.func42, Try.ntmps42
  go_wp2_with fail
  with_reducible refine HSZ.out.mono ?_
  rintro e w1 ⟨rfl, hb1⟩
  obtain ⟨W0, hW0⟩ : ∃ W0, w1.alloc (.cells #[.int .i64 R, .int .i64 C] 52) = W0 := ⟨_, rfl⟩
  have HZ := hid (show ∀ V, Below W0.heap.size W0 V → V.cell? ⟨w1.heap.size, 0, none⟩ = some (.int .i64 R) ∧ V.cell? ⟨w1.heap.size, 1, none⟩ = some (.int .i64 C) ∧ w1.heap.size < V.heap.size from fun V hV => by
    rw [← hW0] at hV
    obtain ⟨c0, c1, _, _, hs⟩ := box2 hV
    exact ⟨c0, c1, hs⟩)
  have HB0 := hid (show Below w.heap.size w W0 by rw [← hW0]; exact bal hb1 _)
  have HW0 := hid hW0
  clear hb1 hW0
  obtain ⟨z0, z1, z2⟩ := HZ.out _ (Below.refl _ _)
  go_wp2_with fail
  simp only [HW0.out]
  with_reducible refine (HW1.out _).mono ?_
  rintro e w2 ⟨rfl, hb2⟩
  have HB2 := hid hb2
  clear hb2 z0 z1 z2
  obtain ⟨z0, z1, z2⟩ := HZ.out _ HB2.out
  go_wp2_with fail
  with_reducible refine (HCL.out _).mono ?_
  rintro e w3 ⟨rfl, hb3⟩
  have HB3 := hid (below_t HB2.out hb3)
  clear hb3 z0 z1 z2 HB2
  go_wp2_with fail
  go_loopw [14] (fun i W => ∃ q : Nat, q ≤ N ∧ i = .int .i64 q ∧ Hid (Below W0.heap.size W0 W) ∧ Hid (∀ j, j < q → s.P (bk N p j) = false)) (fun i _ => N - (intOf i).toNat)
  case atStart => exact ⟨0, by omega, rfl, HB3.out, fun j hj => absurd hj (Nat.not_lt_zero _)⟩
  case round =>
    clear HB3
    obtain ⟨q, hq, rfl, HB, HN⟩ := hrel
    obtain ⟨z0, z1, z2⟩ := HZ.out _ HB.out
    by_cases hqN : q < N
    · have hqi : (q : Int) < N := by omega
      have hwz : IntKind.i64.wrap ((p : Int) - q) = (p : Int) - q := wrapI (i64_small (by omega) (by omega))
      have HA1 := hid (fun W h => HAT.out q hqN W h)
      have HA2 := hid (fun W => HW2.out q hqN W)
      obtain ⟨c, hc⟩ : ∃ c, s.cel (bk N p q) = c := ⟨_, rfl⟩
      rw [hc] at HA1
      have HC := hid (show s.P (bk N p q) = c.at_ by unfold Spc.P; rw [hc])
      clear hc
      obtain ⟨x0, x1, x2, x3, x4, x5⟩ := c
      dsimp only at HC
      cases x1
      · go_wp2_with fail
        try simp only [hwz]
        with_reducible refine (HA1.out _ (HH.out.below (below_t HB0.out HB.out))).mono ?_
        rintro e w4 ⟨rfl, hb4⟩
        have HB4 := hid (below_t HB.out hb4)
        have HN2 := hid (show ∀ j, j < q + 1 → s.P (bk N p j) = false from fun j hj => by
          by_cases e : j = q
          · rw [e]; exact HC.out
          · exact HN.out j (by omega))
        clear hb4 HB HN z0 z1 z2
        go_wp2
        go_roundw
        case rel => exact ⟨q + 1, by omega, by go_num, HB4.out, HN2.out⟩
        case measure => simp [intOf]; omega
      · go_wp2_with fail
        try simp only [hwz]
        with_reducible refine (HA1.out _ (HH.out.below (below_t HB0.out HB.out))).mono ?_
        rintro e w4 ⟨rfl, hb4⟩
        have HB4 := hid (below_t HB.out hb4)
        clear hb4 HB z0 z1 z2
        obtain ⟨z0, z1, z2⟩ := HZ.out _ HB4.out
        go_wp2_with fail
        try simp only [hwz]
        with_reducible refine (HA2.out _).mono ?_
        rintro e w5 ⟨rfl, hb5⟩
        have HB5 := hid (below_t HB4.out hb5)
        have HE := hid (stF_found hqN HN.out HC.out)
        clear hb5 HB4 z0 z1 z2
        go_wp2
        go_ret
        exact ⟨by rw [HE.out]; rfl, below_t HB0.out HB5.out⟩
    · obtain rfl : q = N := by omega
      have HE := hid (stF_none hp HN.out)
      go_wp2
      go_ret
      exact ⟨by rw [HE.out]; rfl, below_t HB0.out HB.out⟩
end
end Go.Proofs.Ytdaainifnbbhiaa
