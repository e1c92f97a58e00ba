/-
  Acts: the reference's Do, the law's do.
-/
import Derived.Test.YtdaainifnbbhiaaYm
namespace Go.Proofs.Ytdaainifnbbhiaa
open Go.RowKit Go.Lib

theorem wrapI {n : Int} (h : I64 n) : IntKind.i64.wrap n = n := by
  obtain ⟨h1, h2⟩ := h
  simp [IntKind.wrap, IntKind.bits, IntKind.signed]
  omega

/-- An act. -/
structure ActD where
  k : Nat
  n : Int
  on : Bool
  code : Int
  c : Cel
  tx : Value
  xs : List Int
def ActD.cs (a : ActD) : List Value := [.int .u8 a.k, .int .i64 a.n, .bool a.on, .int .u8 a.code, .int .u8 a.c.ch, .bool a.c.at_, .int .u8 a.c.fa, .int .u8 a.c.hi, .int .u8 a.c.co, .int .u8 a.c.se, a.tx]
abbrev ActD.v (a : ActD) : Value := .agg #[.int .u8 a.k, .int .i64 a.n, .bool a.on, .int .u8 a.code, .int .u8 a.c.ch, .bool a.c.at_, .int .u8 a.c.fa, .int .u8 a.c.hi, .int .u8 a.c.co, .int .u8 a.c.se, a.tx]
/-- A text that lies below B. -/
structure TxIn (B : Nat) (w : World) (tx : Value) (xs : List Int) : Prop where
  u8 : ∀ x ∈ xs, U8 x
  len : xs.length ≤ 9223372036854775807
  sl : ∃ x c, tx = .slice x xs.length c
  at_ : ∀ x c, tx = .slice x xs.length c → ∀ i, i < xs.length → ∃ g o, x = some ⟨g, o, none⟩ ∧ g < B ∧ w.cell? ⟨g, o + i, none⟩ = some (.int .u8 (xs.getD i 0))
theorem TxIn.below {B : Nat} {A C : World} {tx : Value} {xs : List Int} (h : TxIn B A tx xs) (hb : Below B A C) : TxIn B C tx xs :=
  ⟨h.u8, h.len, h.sl, fun x c e i hi => by
    obtain ⟨g, o, e1, e2, e3⟩ := h.at_ x c e i hi
    exact ⟨g, o, e1, e2, (hb.cell (p := ⟨g, o + i, none⟩) e2).trans e3⟩⟩
structure ActD.Fit (B : Nat) (w : World) (a : ActD) : Prop where
  k : a.k < 256
  n : I64 a.n
  code : U8 a.code
  c : a.c.OK
  tx : TxIn B w a.tx a.xs
theorem ActD.Fit.below {B : Nat} {A C : World} {a : ActD} (h : a.Fit B A) (hb : Below B A C) : a.Fit B C := ⟨h.k, h.n, h.code, h.c, h.tx.below hb⟩
def txS (s : Spc) (n : Int) (xs : List Int) : Nat → Spc
  | 0 => s
  | k + 1 => if k < 200 then (txS s n xs k).putC ((s.wr n : Int) + k) (xs.getD k 0) else txS s n xs k
def doS (s : Spc) (a : ActD) : Spc :=
  if a.k % 6 = 0 then clearS s.mo a.on else if a.k % 6 = 1 then s.place a.n else if a.k % 6 = 2 then s.putC a.n a.code else if a.k % 6 = 3 then s.setC a.n ⟨0, true, a.code, 0, 0, 0⟩ else if a.k % 6 = 4 then s.setC a.n a.c else txS s a.n a.xs a.xs.length
theorem setC_len (s : Spc) (n : Int) (c : Cel) : (s.setC n c).L.length = s.L.length := Spc.put1_len _ _ _
theorem putC_len (s : Spc) (n : Int) (x : Int) : (s.putC n x).L.length = s.L.length := by unfold Spc.putC; split; rfl; exact setC_len _ _ _
theorem txS_len (s : Spc) (n : Int) (xs : List Int) (k : Nat) : (txS s n xs k).L.length = s.L.length := by
  induction k with
  | zero => rfl
  | succ k ih => unfold txS; split; rw [putC_len, ih]; exact ih
theorem txS_wr (s : Spc) (n : Int) (xs : List Int) (k : Nat) (m : Int) : (txS s n xs k).wr m = s.wr m := by unfold Spc.wr; rw [txS_len]
theorem getD_u8 {xs : List Int} (h : ∀ x ∈ xs, U8 x) (i : Nat) : U8 (xs.getD i 0) := by
  by_cases hi : i < xs.length
  · rw [List.getD, List.getElem?_eq_getElem hi]; exact h _ (List.getElem_mem hi)
  · rw [List.getD, List.getElem?_eq_none (by omega)]; exact u8_zero
theorem txS_ok {s : Spc} (h : s.OK) (n : Int) {xs : List Int} (hx : ∀ x ∈ xs, U8 x) (k : Nat) : (txS s n xs k).OK := by
  induction k with
  | zero => exact h
  | succ k ih => unfold txS; split; exact ih.putC _ (getD_u8 hx k); exact ih
theorem attr_ok {code : Int} (h : U8 code) : (Cel.mk 0 true code 0 0 0).OK := ⟨u8_zero, h, u8_zero, u8_zero, u8_zero⟩
theorem doS_ok {B : Nat} {w : World} {s : Spc} (h : s.OK) {a : ActD} (ha : a.Fit B w) : (doS s a).OK := by
  unfold doS
  split
  · exact clearS_ok h.m1 h.m2 _
  split
  · exact h.place _
  split
  · exact h.putC _ ha.code
  split
  · exact h.setC _ (attr_ok ha.code)
  split
  · exact h.setC _ ha.c
  · exact txS_ok h _ ha.tx.u8 _
/-- An act was done on the reference's. -/
def RDoD (b g : Nat) (s' : Spc) (w : World) (e : Ending) (w' : World) : Prop := (∃ v, e = .returned v) ∧ ∃ g', RfM w' b g' s' ∧ Moved w w' [b, g] [b, g']
theorem RfD.do_ {b g : Nat} {s' : Spc} {w w' : World} {e : Ending} (h : RfD b g s' w e w') : RDoD b g s' w e w' := ⟨h.1, g, h.2.1, h.2.2⟩
theorem moved_b {A B : World} {b g g' : Nat} (m : Moved A B [b] [b]) (hg : A.heap.size ≤ g') : Moved A B [b, g] [b, g'] :=
  ⟨m.os, m.tape, m.output, m.size, fun k hk hs => m.block k hk (fun q => hs (by simp at q; simp [q])), fun k hk => by
    simp at hk
    rcases hk with rfl | rfl
    · exact .inl (by simp)
    · exact .inr hg⟩
theorem RClD.do_ {b g : Nat} {s' : Spc} {w w' : World} {e : Ending} (h : RClD b s' w e w') : RDoD b g s' w e w' := by
  obtain ⟨h1, g', h2, h3, h4⟩ := h
  exact ⟨h1, g', h3, moved_b h4 h2⟩
theorem RDoD.pre {b g : Nat} {s' : Spc} {w w1 w' : World} {e : Ending} (h : RDoD b g s' w1 e w') (hb : Below w.heap.size w w1) : RDoD b g s' w e w' := by
  obtain ⟨h1, g', h2, h3⟩ := h
  exact ⟨h1, g', h2, (Moved.below hb [b, g]).trans h3⟩
def DoD (b g : Nat) (s' : Spc) (w : World) (e : Ending) (w' : World) : Prop := (∃ v, e = .returned v) ∧ ∃ g', SpM w' b g' s' ∧ Moved w w' [b, g] [b, g']
theorem SpD.do_ {b g : Nat} {s' : Spc} {w w' : World} {e : Ending} (h : SpD b g s' w e w') : DoD b g s' w e w' := ⟨h.1, g, h.2.1, h.2.2⟩
theorem ClD.do_ {b g : Nat} {s' : Spc} {w w' : World} {e : Ending} (h : ClD b s' w e w') : DoD b g s' w e w' := by
  obtain ⟨h1, g', h2, h3, h4⟩ := h
  exact ⟨h1, g', h3, moved_b h4 h2⟩
theorem mod6 (k : Nat) : ∃ m : Nat, m < 6 ∧ k % 6 = m := ⟨k % 6, by omega, rfl⟩
section
variable {B : Nat} {b g : Nat} {s : Spc}
set_option maxRecDepth 100000 in
set_option maxHeartbeats 4000000 in
theorem rdo_any (a : ActD) (w : World) (ha : a.Fit B w) (h : RfM w b g s) (hbB : B ≤ b) (hgB : B ≤ g) : Calls Try.prog 71 #[.pointer (some ⟨b, 0, none⟩), a.v] w (RDoD b g (doS s a) w) := by
  obtain ⟨k, n, on, code, c, tx, xs⟩ := a
  obtain ⟨hk, hn, hcode, hc, htx⟩ := ha
  dsimp only at hk hn hcode hc htx
  obtain ⟨x, cp, rfl⟩ := htx.sl
  have hlt := h.lt.1
  have HH := hid h
  have HCL := hid (fun (al : Bool) w h => rclear_any (b := b) (g := g) (s := s) al w h)
  have HPO := hid (fun w h => rpos_any (b := b) (g := g) (s := s) n hn w h)
  have HPU := hid (fun w h => rput_any (b := b) (g := g) (s := s) n hn code hcode w h)
  have HSE := hid (fun (c : Cel) (hc : c.OK) w h => rset_any (b := b) (g := g) (s := s) n hn c hc w h)
  have HAO := hid (attr_ok hcode)
  have HCO := hid hc
  have HN := hid hn
  have HTX := hid htx
  have hb0 : Below w.heap.size w (w.alloc (.cells #[.int .u8 k, .int .i64 n, .bool on, .int .u8 code, .int .u8 c.ch, .bool c.at_, .int .u8 c.fa, .int .u8 c.hi, .int .u8 c.co, .int .u8 c.se, .slice x xs.length cp] 34)) := bal (Below.refl _ _) _
  have HB := hid hb0
  obtain ⟨m, hm6, hm⟩ := mod6 k
  have hkm : ((k : Int) % 6) = m := by omega
  have hkm' : (k : Int).tmod 6 = m := by rw [Int.tmod_eq_emod_of_nonneg (by omega)]; exact hkm
  have hk0 : 0 ≤ (k : Int) := by omega
  have hk1 : (k : Int) < 256 := by omega
  unfold doS
  dsimp only
  rw [hm]
  obtain ⟨x0, x1, x2, x3, x4, x5⟩ := c
  dsimp only at HB
  clear h hc hn hcode htx hb0 hm hk hkm
  show Calls Try.prog 71 #[.pointer (some ⟨b, 0, none⟩), .agg #[.int .u8 k, .int .i64 n, .bool on, .int .u8 code, .int .u8 x0, .bool x1, .int .u8 x2, .int .u8 x3, .int .u8 x4, .int .u8 x5, .slice x xs.length cp]] w _
  have : m = 0 ∨ m = 1 ∨ m = 2 ∨ m = 3 ∨ m = 4 ∨ m = 5 := by omega
  rcases this with rfl | rfl | rfl | rfl | rfl | rfl
  all_goals simp only [Nat.reduceEqDiff, if_true, if_false]
  · go_enter Try.func71, Try.ntmps71
    go_wp2_with fail
    with_reducible refine (HCL.out _ _ (HH.out.below HB.out)).mono ?_
    rintro e w1 h1
    obtain ⟨⟨v, rfl⟩, _⟩ := id h1
    have H1 := hid ((RClD.do_ (g := g) h1).pre HB.out)
    clear h1
    go_wp2
    exact bodyPost_ret (results_none rfl _ _ _) rfl ⟨⟨_, rfl⟩, H1.out.2⟩
  · go_enter Try.func71, Try.ntmps71
    go_wp2_with fail
    with_reducible refine (HPO.out _ (HH.out.below HB.out)).mono ?_
    rintro e w1 ⟨rfl, hb⟩
    have HB1 := hid (below_t HB.out hb)
    have HD := hid ((HH.out.below HB.out).below hb)
    have h5 := HD.out.h5
    have f5 := HD.out.fr 5
    have hl1 := HD.out.lt.1
    clear hb
    go_wp2
    exact bodyPost_ret (results_none rfl _ _ _) rfl ⟨⟨_, rfl⟩, g, HD.out.placed n, (Moved.below HB1.out [b, g]).trans (Moved.set (by simp) 5 _)⟩
  · go_enter Try.func71, Try.ntmps71
    go_wp2_with fail
    with_reducible refine (HPU.out _ (HH.out.below HB.out)).mono ?_
    rintro e w1 h1
    obtain ⟨⟨v, rfl⟩, _⟩ := id h1
    have H1 := hid ((RfD.do_ h1).pre HB.out)
    clear h1
    go_wp2
    exact bodyPost_ret (results_none rfl _ _ _) rfl ⟨⟨_, rfl⟩, H1.out.2⟩
  · go_enter Try.func71, Try.ntmps71
    go_wp2_with fail
    with_reducible refine (HSE.out _ HAO.out _ (HH.out.below HB.out)).mono ?_
    rintro e w1 h1
    obtain ⟨⟨v, rfl⟩, _⟩ := id h1
    have H1 := hid ((RfD.do_ h1).pre HB.out)
    clear h1
    go_wp2
    exact bodyPost_ret (results_none rfl _ _ _) rfl ⟨⟨_, rfl⟩, H1.out.2⟩
  · go_enter Try.func71, Try.ntmps71
    go_wp2_with fail
    with_reducible refine (HSE.out _ HCO.out _ (HH.out.below HB.out)).mono ?_
    rintro e w1 h1
    obtain ⟨⟨v, rfl⟩, _⟩ := id h1
    have H1 := hid ((RfD.do_ h1).pre HB.out)
    clear h1
    go_wp2
    exact bodyPost_ret (results_none rfl _ _ _) rfl ⟨⟨_, rfl⟩, H1.out.2⟩
  · have HL := hid HTX.out.len
    obtain ⟨M, hM⟩ : ∃ M, M = xs.length := ⟨_, rfl⟩
    have HM := hid hM
    have hML : M ≤ 9223372036854775807 := by rw [hM]; exact HL.out
    rw [← hM] at HB ⊢
    clear hM
    go_enter Try.func71, Try.ntmps71
    go_wp2_with fail
    obtain ⟨W0, hW0⟩ : ∃ W0, w.alloc (.cells #[.int .u8 k, .int .i64 n, .bool on, .int .u8 code, .int .u8 x0, .bool x1, .int .u8 x2, .int .u8 x3, .int .u8 x4, .int .u8 x5, .slice x M cp] 34) = W0 := ⟨_, rfl⟩
    have hn0 : W0.cell? ⟨w.heap.size, 1, none⟩ = some (.int .i64 n) := by rw [← hW0]; simp [go_sem]
    rw [hW0] at HB ⊢
    have HN0 := hid hn0
    have HX := hid (HTX.out.below (HB.out.mono (Nat.le_trans hbB (Nat.le_of_lt hlt))))
    have hgl := HH.out.lt.2
    have hBw : B ≤ W0.heap.size := by have := HB.out.size; omega
    clear hW0 hn0 HTX HCL HPO HPU HSE
    go_loopw [12] (fun i W => ∃ k : Nat, k ≤ M ∧ i = .int .i64 k ∧ Hid (RfM W b g (txS s n xs k)) ∧ Hid (Moved W0 W [b, g] [b, g])) (fun i _ => M - (intOf i).toNat)
    case atStart => exact ⟨0, by omega, rfl, HH.out.below HB.out, Moved.refl _ _⟩
    case round =>
      obtain ⟨q, hq, rfl, HR, HMv⟩ := hrel
      by_cases hqM : q < M
      · have hqi : (q : Int) < M := by omega
        obtain ⟨g1, o1, rfl, hg1, hcell⟩ := (HX.out.below (HMv.out.toBelow hBw (fun k hk => by simp at hk; rcases hk with rfl | rfl <;> assumption))).at_ x cp rfl q (by rw [← HM.out]; exact hqM)
        have hncell := cell_moved HMv.out HN0.out (show w.heap.size ∉ [b, g] by simp; omega)
        have hnl := World.block_lt_of_cell? wr _ hncell
        have hg1l := World.block_lt_of_cell? wr _ hcell
        have HP := hid (rpos_any (b := b) (g := g) (s := txS s n xs q) n HN.out wr HR.out)
        have hwl := HH.out.ok.wr_lt n
        have hwp := HH.out.ok.pos
        rw [txS_wr] at HP
        have HPU := hid (fun (h2 : q < 200) w1 h1 => rput_any (b := b) (g := g) (s := txS s n xs q) ((s.wr n : Int) + q) (i64_small (by omega) (by omega)) (xs.getD q 0) (getD_u8 HX.out.u8 q) w1 h1)
        have htx : txS s n xs (q + 1) = if q < 200 then (txS s n xs q).putC ((s.wr n : Int) + q) (xs.getD q 0) else txS s n xs q := rfl
        generalize xs.getD q 0 = y at hcell HPU htx
        generalize hz : s.wr n = z at HP HPU htx hwl
        by_cases h200 : q < 200
        · rw [if_pos h200] at htx
          have h2i : (q : Int) < 200 := by omega
          have HT := hid htx
          clear htx hz
          go_wp2_with fail
          with_reducible refine HP.out.mono ?_
          rintro e w1 ⟨rfl, hb1⟩
          have HB1 := hid hb1
          clear hb1
          go_wp2_with fail
          with_reducible refine (HPU.out h200 _ (HR.out.below HB1.out)).mono ?_
          rintro e w2 ⟨⟨v, rfl⟩, hs, hm⟩
          have HS := hid hs
          have HM2 := hid (HMv.out.trans ((Moved.below HB1.out [b, g]).trans hm))
          clear hs hm
          go_wp2
          go_roundw
          case rel => exact ⟨q + 1, by omega, by go_num, by rw [HT.out]; exact HS.out, HM2.out⟩
          case measure => simp [intOf]; omega
        · rw [if_neg h200] at htx
          have h2i : ¬ (q : Int) < 200 := by omega
          have HT := hid htx
          clear htx hz
          go_wp2
          go_roundw
          case rel => exact ⟨q + 1, by omega, by go_num, by rw [HT.out]; exact HR.out, HMv.out⟩
          case measure => simp [intOf]; omega
      · obtain rfl : q = M := by omega
        go_wp2
        exact bodyPost_ret (results_none rfl _ _ _) rfl ⟨⟨_, rfl⟩, g, HR.out, (Moved.below HB.out [b, g]).trans HMv.out⟩
/-- The program's and the reference's, side by side. -/
structure Two (w : World) (b1 g1 b2 g2 : Nat) (s : Spc) : Prop where
  sp : SpM w b1 g1 s
  rf : RfM w b2 g2 s
  ap : ∀ k ∈ [b1, g1], k ∉ [b2, g2]
theorem Two.below {A C : World} {b1 g1 b2 g2 : Nat} {s : Spc} (h : Two A b1 g1 b2 g2 s) (hb : Below A.heap.size A C) : Two C b1 g1 b2 g2 s := ⟨h.sp.below hb, h.rf.below hb, h.ap⟩
def TwoD (b1 g1 b2 g2 : Nat) (s' : Spc) (w : World) (e : Ending) (w' : World) : Prop := (∃ v, e = .returned v) ∧ ∃ g1' g2', Two w' b1 g1' b2 g2' s' ∧ Moved w w' [b1, g1, b2, g2] [b1, g1', b2, g2']
theorem two_first {A C : World} {b1 g1 b2 g2 g1' : Nat} {s s' : Spc} (h : Two A b1 g1 b2 g2 s) (_hs : SpM C b1 g1' s') (m : Moved A C [b1, g1] [b1, g1']) : RfM C b2 g2 s ∧ ∀ k ∈ [b1, g1'], k ∉ [b2, g2] := by
  have hb : b2 ∉ [b1, g1] := fun q => h.ap b2 q (by simp)
  have hg : g2 ∉ [b1, g1] := fun q => h.ap g2 q (by simp)
  have h1 := h.rf.lt
  refine ⟨h.rf.moved m hb hg, fun k hk q => ?_⟩
  rcases m.from' k hk with r | r
  · exact h.ap k r q
  · simp at q; omega
theorem two_second {A C D : World} {b1 g1 b2 g2 g1' g2' : Nat} {s' : Spc} (hs : SpM C b1 g1' s') (m1 : Moved A C [b1, g1] [b1, g1']) (hap : ∀ k ∈ [b1, g1'], k ∉ [b2, g2]) (hr : RfM D b2 g2' s') (m2 : Moved C D [b2, g2] [b2, g2']) : Two D b1 g1' b2 g2' s' ∧ Moved A D [b1, g1, b2, g2] [b1, g1', b2, g2'] := by
  have h1 := hs.lt
  refine ⟨⟨hs.moved m2 (hap b1 (by simp)) (hap g1' (by simp)), hr, fun k hk q => ?_⟩, ?_⟩
  · rcases m2.from' k q with r | r
    · exact hap k hk r
    · simp at hk; omega
  · have e1 : Moved A C [b1, g1, b2, g2] [b1, g1', b2, g2] := ⟨m1.os, m1.tape, m1.output, m1.size, fun k hk hq => m1.block k hk (fun r => hq (by simp at r ⊢; omega)), fun k hk => by
      simp at hk
      by_cases r : k ∈ [b1, g1']
      · rcases m1.from' k r with y | y
        · exact .inl (by simp at y ⊢; omega)
        · exact .inr y
      · exact .inl (by simp at r ⊢; omega)⟩
    have e2 : Moved C D [b1, g1', b2, g2] [b1, g1', b2, g2'] := ⟨m2.os, m2.tape, m2.output, m2.size, fun k hk hq => m2.block k hk (fun r => hq (by simp at r ⊢; omega)), fun k hk => by
      simp at hk
      by_cases r : k ∈ [b2, g2']
      · rcases m2.from' k r with y | y
        · exact .inl (by simp at y ⊢; omega)
        · exact .inr y
      · exact .inl (by simp at r ⊢; omega)⟩
    exact e1.trans e2
end
section
variable {B b1 g1 b2 g2 : Nat} {s : Spc}
set_option maxRecDepth 100000 in
set_option maxHeartbeats 8000000 in
theorem do_any (a : ActD) (w : World) (ha : a.Fit B w) (h : Two w b1 g1 b2 g2 s) (hB : ∀ k ∈ [b1, g1, b2, g2], B ≤ k) : Calls Try.prog 14 #[.pointer (some ⟨b1, 0, none⟩), .pointer (some ⟨b2, 0, none⟩), a.v] w (TwoD b1 g1 b2 g2 (doS s a) w) := by
  have hb1B : B ≤ b1 := hB b1 (by simp)
  have hg1B : B ≤ g1 := hB g1 (by simp)
  have hb2B : B ≤ b2 := hB b2 (by simp)
  have hg2B : B ≤ g2 := hB g2 (by simp)
  have HRD := hid (fun (W : World) (ha : a.Fit B W) (h : RfM W b2 g2 s) => rdo_any a W ha h hb2B hg2B)
  have HFIT := hid ha
  obtain ⟨k, n, on, code, c, tx, xs⟩ := a
  obtain ⟨hk, hn, hcode, hc, htx⟩ := ha
  dsimp only at hk hn hcode hc htx
  obtain ⟨x, cp, rfl⟩ := htx.sl
  have hlt := h.sp.lt.1
  have HH := hid h
  have HCL := hid (fun (al : Bool) w h => clear_any (b := b1) (g := g1) (s := s) al w h)
  have HPL := hid (fun w h => place_any (b := b1) (g := g1) (s := s) n hn w h)
  have HPU := hid (fun w h => put_any (b := b1) (g := g1) (s := s) n hn code hcode w h)
  have HSE := hid (fun (c : Cel) (hc : c.OK) w h => set_any (b := b1) (g := g1) (s := s) n hn c hc w h)
  have HAO := hid (attr_ok hcode)
  have HCO := hid hc
  have HN := hid hn
  have HTX := hid htx
  have HL := hid htx.len
  obtain ⟨M, hM⟩ : ∃ M, M = xs.length := ⟨_, rfl⟩
  have HM := hid hM
  have hML : M ≤ 9223372036854775807 := by rw [hM]; exact HL.out
  obtain ⟨x0, x1, x2, x3, x4, x5⟩ := c
  obtain ⟨W0, hW0⟩ : ∃ W0, w.alloc (.cells #[.int .u8 k, .int .i64 n, .bool on, .int .u8 code, .int .u8 x0, .bool x1, .int .u8 x2, .int .u8 x3, .int .u8 x4, .int .u8 x5, .slice x M cp] 34) = W0 := ⟨_, rfl⟩
  have hb0 : Below w.heap.size w W0 := by rw [← hW0]; exact bal (Below.refl _ _) _
  have hz0 : W0.heap.size = w.heap.size + 1 := by rw [← hW0]; simp
  have HZ := hid (show ∀ (g1' : Nat) (V : World), Moved W0 V [b1, g1] [b1, g1'] → V.cell? ⟨w.heap.size, 0, none⟩ = some (.int .u8 k) ∧ V.cell? ⟨w.heap.size, 1, none⟩ = some (.int .i64 n) ∧ V.cell? ⟨w.heap.size, 2, none⟩ = some (.bool on) ∧ V.cell? ⟨w.heap.size, 3, none⟩ = some (.int .u8 code) ∧ V.cell? ⟨w.heap.size, 4, none⟩ = some (.int .u8 x0) ∧ V.cell? ⟨w.heap.size, 5, none⟩ = some (.bool x1) ∧ V.cell? ⟨w.heap.size, 6, none⟩ = some (.int .u8 x2) ∧ V.cell? ⟨w.heap.size, 7, none⟩ = some (.int .u8 x3) ∧ V.cell? ⟨w.heap.size, 8, none⟩ = some (.int .u8 x4) ∧ V.cell? ⟨w.heap.size, 9, none⟩ = some (.int .u8 x5) ∧ V.cell? ⟨w.heap.size, 10, none⟩ = some (.slice x M cp) from fun g1' V m => by
    have hn : ∀ o, (⟨w.heap.size, o, none⟩ : Addr).block ∉ [b1, g1] := fun o q => by have := HH.out.sp.lt; simp at q; omega
    have hc : ∀ o v, W0.cell? ⟨w.heap.size, o, none⟩ = some v → V.cell? ⟨w.heap.size, o, none⟩ = some v := fun o v q => cell_moved m q (hn o)
    exact ⟨hc 0 _ (by rw [← hW0]; simp [go_sem]), hc 1 _ (by rw [← hW0]; simp [go_sem]), hc 2 _ (by rw [← hW0]; simp [go_sem]), hc 3 _ (by rw [← hW0]; simp [go_sem]), hc 4 _ (by rw [← hW0]; simp [go_sem]), hc 5 _ (by rw [← hW0]; simp [go_sem]), hc 6 _ (by rw [← hW0]; simp [go_sem]), hc 7 _ (by rw [← hW0]; simp [go_sem]), hc 8 _ (by rw [← hW0]; simp [go_sem]), hc 9 _ (by rw [← hW0]; simp [go_sem]), hc 10 _ (by rw [← hW0]; simp [go_sem])⟩)
  have HB := hid hb0
  have HW := hid hW0
  have HZ0 := hid hz0
  obtain ⟨m, hm6, hm⟩ := mod6 k
  have hkm : ((k : Int) % 6) = m := by omega
  have hkm' : (k : Int).tmod 6 = m := by rw [Int.tmod_eq_emod_of_nonneg (by omega)]; exact hkm
  have hk0 : 0 ≤ (k : Int) := by omega
  have hk1 : (k : Int) < 256 := by omega
  have hmN : (k % 6) = m := hm
  have HDO := hid hmN
  rw [← hM] at HFIT HRD ⊢
  clear h hc hn hcode htx hb0 hm hk hkm hM hW0 hz0 hmN hB
  show Calls Try.prog 14 #[.pointer (some ⟨b1, 0, none⟩), .pointer (some ⟨b2, 0, none⟩), .agg #[.int .u8 k, .int .i64 n, .bool on, .int .u8 code, .int .u8 x0, .bool x1, .int .u8 x2, .int .u8 x3, .int .u8 x4, .int .u8 x5, .slice x M cp]] w _
  have : m = 0 ∨ m = 1 ∨ m = 2 ∨ m = 3 ∨ m = 4 ∨ m = 5 := by omega
  rcases this with rfl | rfl | rfl | rfl | rfl | rfl
  · have HE := hid (show doS s ⟨k, n, on, code, ⟨x0, x1, x2, x3, x4, x5⟩, .slice x M cp, xs⟩ = clearS s.mo on by unfold doS; dsimp only; rw [HDO.out]; rfl)
    go_enter Try.func14, Try.ntmps14
    go_wp2_with fail
    rw [HW.out]
    with_reducible refine (HCL.out _ _ (HH.out.sp.below HB.out)).mono ?_
    rintro e w1 h1
    obtain ⟨⟨v, rfl⟩, g1', hs, hm1⟩ := ClD.do_ (g := g1) h1
    clear h1
    have HS := hid hs
    have HM1 := hid hm1
    obtain ⟨z0, z1, z2, z3, z4, z5, z6, z7, z8, z9, z10⟩ := HZ.out _ _ hm1
    have hr2 := two_first (HH.out.below HB.out) hs hm1
    have HF2 := hid (HFIT.out.below ((HB.out.mono (show B ≤ w.heap.size by omega)).trans (hm1.toBelow (show B ≤ W0.heap.size by have := HB.out.size; omega) (fun q hq => by simp at hq; rcases hq with rfl | rfl <;> assumption))))
    have HR2 := hid hr2
    have hlz := World.block_lt_of_cell? w1 _ z0
    clear hs hm1 hr2
    go_wp2_with fail
    with_reducible refine (HRD.out _ HF2.out HR2.out.1).mono ?_
    rintro e w2 ⟨⟨v2, rfl⟩, g2', hr, hm2⟩
    have HT := hid (two_second HS.out HM1.out HR2.out.2 (by rw [HE.out] at hr; exact hr) hm2)
    clear hr hm2
    go_wp2
    exact bodyPost_ret (results_none rfl _ _ _) rfl ⟨⟨_, rfl⟩, _, g2', by rw [HE.out]; exact HT.out.1, (Moved.below HB.out _).trans HT.out.2⟩
  · have HE := hid (show doS s ⟨k, n, on, code, ⟨x0, x1, x2, x3, x4, x5⟩, .slice x M cp, xs⟩ = s.place n by unfold doS; dsimp only; rw [HDO.out]; rfl)
    go_enter Try.func14, Try.ntmps14
    go_wp2_with fail
    rw [HW.out]
    with_reducible refine (HPL.out _ (HH.out.sp.below HB.out)).mono ?_
    rintro e w1 h1
    obtain ⟨⟨v, rfl⟩, g1', hs, hm1⟩ := SpD.do_ h1
    clear h1
    have HS := hid hs
    have HM1 := hid hm1
    obtain ⟨z0, z1, z2, z3, z4, z5, z6, z7, z8, z9, z10⟩ := HZ.out _ _ hm1
    have hr2 := two_first (HH.out.below HB.out) hs hm1
    have HF2 := hid (HFIT.out.below ((HB.out.mono (show B ≤ w.heap.size by omega)).trans (hm1.toBelow (show B ≤ W0.heap.size by have := HB.out.size; omega) (fun q hq => by simp at hq; rcases hq with rfl | rfl <;> assumption))))
    have HR2 := hid hr2
    have hlz := World.block_lt_of_cell? w1 _ z0
    clear hs hm1 hr2
    go_wp2_with fail
    with_reducible refine (HRD.out _ HF2.out HR2.out.1).mono ?_
    rintro e w2 ⟨⟨v2, rfl⟩, g2', hr, hm2⟩
    have HT := hid (two_second HS.out HM1.out HR2.out.2 (by rw [HE.out] at hr; exact hr) hm2)
    clear hr hm2
    go_wp2
    exact bodyPost_ret (results_none rfl _ _ _) rfl ⟨⟨_, rfl⟩, _, g2', by rw [HE.out]; exact HT.out.1, (Moved.below HB.out _).trans HT.out.2⟩
  · have HE := hid (show doS s ⟨k, n, on, code, ⟨x0, x1, x2, x3, x4, x5⟩, .slice x M cp, xs⟩ = s.putC n code by unfold doS; dsimp only; rw [HDO.out]; rfl)
    go_enter Try.func14, Try.ntmps14
    go_wp2_with fail
    rw [HW.out]
    with_reducible refine (HPU.out _ (HH.out.sp.below HB.out)).mono ?_
    rintro e w1 h1
    obtain ⟨⟨v, rfl⟩, g1', hs, hm1⟩ := SpD.do_ h1
    clear h1
    have HS := hid hs
    have HM1 := hid hm1
    obtain ⟨z0, z1, z2, z3, z4, z5, z6, z7, z8, z9, z10⟩ := HZ.out _ _ hm1
    have hr2 := two_first (HH.out.below HB.out) hs hm1
    have HF2 := hid (HFIT.out.below ((HB.out.mono (show B ≤ w.heap.size by omega)).trans (hm1.toBelow (show B ≤ W0.heap.size by have := HB.out.size; omega) (fun q hq => by simp at hq; rcases hq with rfl | rfl <;> assumption))))
    have HR2 := hid hr2
    have hlz := World.block_lt_of_cell? w1 _ z0
    clear hs hm1 hr2
    go_wp2_with fail
    with_reducible refine (HRD.out _ HF2.out HR2.out.1).mono ?_
    rintro e w2 ⟨⟨v2, rfl⟩, g2', hr, hm2⟩
    have HT := hid (two_second HS.out HM1.out HR2.out.2 (by rw [HE.out] at hr; exact hr) hm2)
    clear hr hm2
    go_wp2
    exact bodyPost_ret (results_none rfl _ _ _) rfl ⟨⟨_, rfl⟩, _, g2', by rw [HE.out]; exact HT.out.1, (Moved.below HB.out _).trans HT.out.2⟩
  · have HE := hid (show doS s ⟨k, n, on, code, ⟨x0, x1, x2, x3, x4, x5⟩, .slice x M cp, xs⟩ = s.setC n ⟨0, true, code, 0, 0, 0⟩ by unfold doS; dsimp only; rw [HDO.out]; rfl)
    go_enter Try.func14, Try.ntmps14
    go_wp2_with fail
    rw [HW.out]
    with_reducible refine (HSE.out _ HAO.out _ (HH.out.sp.below HB.out)).mono ?_
    rintro e w1 h1
    obtain ⟨⟨v, rfl⟩, g1', hs, hm1⟩ := SpD.do_ h1
    clear h1
    have HS := hid hs
    have HM1 := hid hm1
    obtain ⟨z0, z1, z2, z3, z4, z5, z6, z7, z8, z9, z10⟩ := HZ.out _ _ hm1
    have hr2 := two_first (HH.out.below HB.out) hs hm1
    have HF2 := hid (HFIT.out.below ((HB.out.mono (show B ≤ w.heap.size by omega)).trans (hm1.toBelow (show B ≤ W0.heap.size by have := HB.out.size; omega) (fun q hq => by simp at hq; rcases hq with rfl | rfl <;> assumption))))
    have HR2 := hid hr2
    have hlz := World.block_lt_of_cell? w1 _ z0
    clear hs hm1 hr2
    go_wp2_with fail
    with_reducible refine (HRD.out _ HF2.out HR2.out.1).mono ?_
    rintro e w2 ⟨⟨v2, rfl⟩, g2', hr, hm2⟩
    have HT := hid (two_second HS.out HM1.out HR2.out.2 (by rw [HE.out] at hr; exact hr) hm2)
    clear hr hm2
    go_wp2
    exact bodyPost_ret (results_none rfl _ _ _) rfl ⟨⟨_, rfl⟩, _, g2', by rw [HE.out]; exact HT.out.1, (Moved.below HB.out _).trans HT.out.2⟩
  · have HE := hid (show doS s ⟨k, n, on, code, ⟨x0, x1, x2, x3, x4, x5⟩, .slice x M cp, xs⟩ = s.setC n ⟨x0, x1, x2, x3, x4, x5⟩ by unfold doS; dsimp only; rw [HDO.out]; rfl)
    go_enter Try.func14, Try.ntmps14
    go_wp2_with fail
    rw [HW.out]
    with_reducible refine (HSE.out _ HCO.out _ (HH.out.sp.below HB.out)).mono ?_
    rintro e w1 h1
    obtain ⟨⟨v, rfl⟩, g1', hs, hm1⟩ := SpD.do_ h1
    clear h1
    have HS := hid hs
    have HM1 := hid hm1
    obtain ⟨z0, z1, z2, z3, z4, z5, z6, z7, z8, z9, z10⟩ := HZ.out _ _ hm1
    have hr2 := two_first (HH.out.below HB.out) hs hm1
    have HF2 := hid (HFIT.out.below ((HB.out.mono (show B ≤ w.heap.size by omega)).trans (hm1.toBelow (show B ≤ W0.heap.size by have := HB.out.size; omega) (fun q hq => by simp at hq; rcases hq with rfl | rfl <;> assumption))))
    have HR2 := hid hr2
    have hlz := World.block_lt_of_cell? w1 _ z0
    clear hs hm1 hr2
    go_wp2_with fail
    with_reducible refine (HRD.out _ HF2.out HR2.out.1).mono ?_
    rintro e w2 ⟨⟨v2, rfl⟩, g2', hr, hm2⟩
    have HT := hid (two_second HS.out HM1.out HR2.out.2 (by rw [HE.out] at hr; exact hr) hm2)
    clear hr hm2
    go_wp2
    exact bodyPost_ret (results_none rfl _ _ _) rfl ⟨⟨_, rfl⟩, _, g2', by rw [HE.out]; exact HT.out.1, (Moved.below HB.out _).trans HT.out.2⟩
  · have HE := hid (show doS s ⟨k, n, on, code, ⟨x0, x1, x2, x3, x4, x5⟩, .slice x M cp, xs⟩ = txS s n xs xs.length by unfold doS; dsimp only; rw [HDO.out]; rfl)
    go_enter Try.func14, Try.ntmps14
    go_wp2_with fail
    rw [HW.out]
    have HX := hid (HTX.out.below (HB.out.mono (Nat.le_trans hb1B (Nat.le_of_lt hlt))))
    have hgl := HH.out.sp.lt.2
    have hBw : B ≤ W0.heap.size := by have := HB.out.size; omega
    clear HTX HCL HPU HSE HPL
    go_loopw [14] (fun i W => ∃ k : Nat, k ≤ M ∧ i = .int .i64 k ∧ Hid (SpM W b1 g1 (txS s n xs k)) ∧ Hid (Moved W0 W [b1, g1] [b1, g1])) (fun i _ => M - (intOf i).toNat)
    case atStart => exact ⟨0, by omega, rfl, HH.out.sp.below HB.out, Moved.refl _ _⟩
    case round =>
      obtain ⟨q, hq, rfl, HR, HMv⟩ := hrel
      by_cases hqM : q < M
      · have hqi : (q : Int) < M := by omega
        obtain ⟨g3, o1, rfl, hg1, hcell⟩ := (HX.out.below (HMv.out.toBelow hBw (fun k hk => by simp at hk; rcases hk with rfl | rfl <;> assumption))).at_ x cp rfl q (by rw [← HM.out]; exact hqM)
        have hncell := (HZ.out _ _ HMv.out).2.1
        have HNC := hid hncell
        have HNI := hid (show (⟨w.heap.size, 1, none⟩ : Addr).block ∉ [b1, g1] by simp; omega)
        have hnl := World.block_lt_of_cell? wr _ hncell
        have hg1l := World.block_lt_of_cell? wr _ hcell
        have hso := HH.out.sp.ok
        have htl := txS_len s n xs q
        have HP1 := hid (fun w h => size_any (b := b1) (g := g1) (s := txS s n xs q) w h)
        have HP2 := hid (fun w => wrap_ok (txS s n xs q).r (txS s n xs q).c n HR.out.ok.sz HN.out w)
        rw [← HR.out.ok.len, ← HR.out.ok.wr_eq n, txS_wr] at HP2
        have hwl := hso.wr_lt n
        have hwp := hso.pos
        have HPU := hid (fun (h2 : q < 200) w1 h1 => put_any (b := b1) (g := g1) (s := txS s n xs q) ((s.wr n : Int) + q) (i64_small (by omega) (by omega)) (xs.getD q 0) (getD_u8 HX.out.u8 q) w1 h1)
        have htx : txS s n xs (q + 1) = if q < 200 then (txS s n xs q).putC ((s.wr n : Int) + q) (xs.getD q 0) else txS s n xs q := rfl
        generalize xs.getD q 0 = y at hcell HPU htx
        generalize hz : s.wr n = z at HP2 HPU htx hwl
        generalize (txS s n xs q).r = R at HP1 HP2
        generalize (txS s n xs q).c = C at HP1 HP2
        by_cases h200 : q < 200
        · rw [if_pos h200] at htx
          have h2i : (q : Int) < 200 := by omega
          have HT := hid htx
          have HWZ := hid (wrapI (i64_small (show (-1000000 : Int) ≤ (z : Int) + q by omega) (by omega)))
          have HPV := hid (fun w1 h1 => (show Calls Try.prog 20 #[.pointer (some ⟨b1, 0, none⟩), .int .i64 (IntKind.i64.wrap ((z : Int) + q)), .int .u8 y] w1 _ from by rw [HWZ.out]; exact HPU.out h200 w1 h1))
          clear htx hz hso htl
          go_wp2_with fail
          refine wp_region_held_drew (S := fun V => V.cell? ⟨w.heap.size, 1, none⟩ = some (.int .i64 n)) (by kernel_rfl) ?_ (fun hHeld => ?_)
          · exact hncell
          refine takeD (i := 0) (v := ?_) 21 rfl rfl (by kernel_rfl) (by kernel_rfl) (by kernel_rfl) (fun _ _ _ h => h) (by assumption) (Or.inl ⟨by rfl, ?_⟩) ?_
          rotate_left
          · intro w hSw
            (try dsimp only at hSw)
            go_simp
            try with_reducible rfl
          simp only [List.setIfInBounds_toArray, List.set_cons_zero, List.set_cons_succ]
          refine takeD (i := 1) (v := ?_) 22 rfl rfl (by kernel_rfl) (by kernel_rfl) (by kernel_rfl) (fun _ _ _ h => h) (by assumption) (Or.inl ⟨by rfl, ?_⟩) ?_
          rotate_left
          · intro w hSw
            (try dsimp only at hSw)
            go_simp
            try with_reducible rfl
          simp only [List.setIfInBounds_toArray, List.set_cons_zero, List.set_cons_succ]
          refine takeD (i := 3) (v := ?_) 24 rfl rfl (by kernel_rfl) (by kernel_rfl) (by kernel_rfl) (fun _ _ _ h => h) (by assumption) (Or.inl ⟨by rfl, ?_⟩) ?_
          rotate_left
          · intro w hSw
            (try dsimp only at hSw)
            go_simp
            try with_reducible rfl
          simp only [List.setIfInBounds_toArray, List.set_cons_zero, List.set_cons_succ]
          refine takeD (i := 4) (v := ?_) 25 rfl rfl (by kernel_rfl) (by kernel_rfl) (by kernel_rfl) (fun _ _ _ h => h) (by assumption) (Or.inl ⟨by rfl, ?_⟩) ?_
          rotate_left
          · intro w hSw
            (try dsimp only at hSw)
            go_simp
            try with_reducible rfl
          simp only [List.setIfInBounds_toArray, List.set_cons_zero, List.set_cons_succ]
          refine takeD (i := 6) (v := ?_) 27 rfl rfl (by kernel_rfl) (by kernel_rfl) (by kernel_rfl) (fun _ _ _ h => h) (by assumption) (Or.inl ⟨by rfl, ?_⟩) ?_
          rotate_left
          · intro w hSw
            (try dsimp only at hSw)
            go_simp
            try with_reducible rfl
          simp only [List.setIfInBounds_toArray, List.set_cons_zero, List.set_cons_succ]
          refine takeD (i := 8) (v := ?_) 29 rfl rfl (by kernel_rfl) (by kernel_rfl) (by kernel_rfl) (fun _ _ _ h => h) (by assumption) (Or.inl ⟨by rfl, ?_⟩) ?_
          rotate_left
          · intro w hSw
            (try dsimp only at hSw)
            go_simp
            try with_reducible rfl
          simp only [List.setIfInBounds_toArray, List.set_cons_zero, List.set_cons_succ]
          refine wpAnyH_ready (rs := [2]) (by kernel_rfl) (by simp) ?_
          refine AllReadyH.cons (by simp only [List.getElem?_toArray, List.getElem?_cons_succ, List.getElem?_cons_zero]; rfl) (fun K hK => ?_) AllReadyH.nil
          go_simp
          go_at_call 24; (with_reducible refine (HP1.out _ (HR.out.below (Below.refl _ _).drew)).mono ?_); rintro e w1 ⟨rfl, hb1⟩; have H1 := hid (below_t (Below.refl wr.heap.size wr).drew hb1); clear hb1
          refine hK.out _ _ ?_ (fun hHeldN => ?_)
          · exact keepc H1.out HNC.out
          clear hK K hHeld
          have hHeld := hHeldN
          clear hHeldN
          (try simp only [Act.put, List.setIfInBounds_toArray, List.set_cons_zero, List.set_cons_succ])
          refine wpAnyH_ready (rs := [5]) (by kernel_rfl) (by simp) ?_
          refine AllReadyH.cons (by simp only [List.getElem?_toArray, List.getElem?_cons_succ, List.getElem?_cons_zero]; rfl) (fun K hK => ?_) AllReadyH.nil
          go_simp
          go_at_call 70; (with_reducible refine (HP2.out _).mono ?_); rintro e w2 ⟨rfl, hb2⟩; have H2 := hid (below_t H1.out hb2); clear hb2
          refine hK.out _ _ ?_ (fun hHeldN => ?_)
          · exact keepc H2.out HNC.out
          clear hK K hHeld
          have hHeld := hHeldN
          clear hHeldN
          (try simp only [Act.put, List.setIfInBounds_toArray, List.set_cons_zero, List.set_cons_succ])
          refine takeD (i := 7) (v := ?_) 28 rfl rfl (by kernel_rfl) (by kernel_rfl) (by kernel_rfl) (fun _ _ _ h => h) (by assumption) (Or.inl ⟨by rfl, ?_⟩) ?_
          rotate_left
          · intro w hSw
            (try dsimp only at hSw)
            go_simp
            try with_reducible rfl
          simp only [List.setIfInBounds_toArray, List.set_cons_zero, List.set_cons_succ]
          refine wpAnyH_ready (rs := [9]) (by kernel_rfl) (by simp) ?_
          refine AllReadyH.cons (by simp only [List.getElem?_toArray, List.getElem?_cons_succ, List.getElem?_cons_zero]; rfl) (fun K hK => ?_) AllReadyH.nil
          go_simp
          go_at_call 20; (with_reducible refine (HPV.out _ (HR.out.below H2.out)).mono ?_); rintro e w3 ⟨⟨v, rfl⟩, hs, hm⟩; have HS := hid hs; have HM3 := hid hm; have hnc3 := cell_moved hm (keepc H2.out HNC.out) HNI.out; clear hs hm
          refine hK.out _ _ ?_ (fun hHeldN => ?_)
          · exact hnc3
          clear hK K hHeld
          have hHeld := hHeldN
          clear hHeldN
          (try simp only [Act.put, List.setIfInBounds_toArray, List.set_cons_zero, List.set_cons_succ])
          refine wpAnyH_done (by kernel_rfl) ?_ _
          clear hHeld
          go_wp2
          go_roundw
          case rel => exact ⟨q + 1, by omega, by go_num, by rw [HT.out]; exact HS.out, HMv.out.trans ((Moved.below H2.out [b1, g1]).trans HM3.out)⟩
          case measure => simp [intOf]; omega
        · rw [if_neg h200] at htx
          have h2i : ¬ (q : Int) < 200 := by omega
          have HT := hid htx
          clear htx hz hso htl HPU
          go_wp2
          go_roundw
          case rel => exact ⟨q + 1, by omega, by go_num, by rw [HT.out]; exact HR.out, HMv.out⟩
          case measure => simp [intOf]; omega
      · obtain rfl : q = M := by omega
        have hs := HR.out
        have hm1 := HMv.out
        rw [HM.out] at hs
        clear hq hqM HR HMv
        have HS := hid hs
        have HM1 := hid hm1
        obtain ⟨z0, z1, z2, z3, z4, z5, z6, z7, z8, z9, z10⟩ := HZ.out _ _ hm1
        have hr2 := two_first (HH.out.below HB.out) hs hm1
        have HF2 := hid (HFIT.out.below ((HB.out.mono (show B ≤ w.heap.size by omega)).trans (hm1.toBelow (show B ≤ W0.heap.size by have := HB.out.size; omega) (fun q hq => by simp at hq; rcases hq with rfl | rfl <;> assumption))))
        have HR2 := hid hr2
        have hlz := World.block_lt_of_cell? wr _ z0
        clear hs hm1 hr2
        go_wp2_with fail
        with_reducible refine (HRD.out _ HF2.out HR2.out.1).mono ?_
        rintro e w2 ⟨⟨v2, rfl⟩, g2', hr, hm2⟩
        have HT := hid (two_second HS.out HM1.out HR2.out.2 (by rw [HE.out] at hr; exact hr) hm2)
        clear hr hm2
        go_wp2
        exact bodyPost_ret (results_none rfl _ _ _) rfl ⟨⟨_, rfl⟩, _, g2', by rw [HE.out]; exact HT.out.1, (Moved.below HB.out _).trans HT.out.2⟩
end
end Go.Proofs.Ytdaainifnbbhiaa
