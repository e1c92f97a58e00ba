/-
  LinkResponds: the law's walk.
-/
import Derived.Test.YtaanpnmgibcemaaGreatDoorVO
import Derived.Lib.SlBytesConst
namespace Go.Proofs.YtaanpnmgibcemaaGreatDoor
open Go.RowKit Go.Lib Go.Deep

theorem reads_lit (w : World) (fr : Nat × Nat) (ps : List Int) (n : Nat) (hn : ps.length = n) (hm : n ≤ 100) (hb : ∀ x ∈ ps, 0 ≤ x ∧ x < 256) : Reads (w.alloc (.cells (ps.map (Value.int .u8)).toArray 5 fr)) (.slice (some ⟨w.heap.size, 0, none⟩) n n) ps := by
  subst hn
  refine ⟨hb, .inr ⟨⟨w.heap.size, 0, none⟩, ps.length, rfl, Nat.le_refl _, by unfold maxLen; omega, fun i hi => ?_⟩⟩
  rw [addr_add, Nat.zero_add, cell_of_row _ w.heap.size i (ps.map (Value.int .u8)).toArray 5 fr (heap_alloc_new w _)]
  simp [List.getD, List.getElem?_eq_getElem hi]
theorem esc_runS (p : List Int) : Tn.runS .between (Tn.escI p ++ [255, 239]) = .between := by
  induction p with
  | nil => rfl
  | cons b p ih =>
    simp only [Tn.escI]
    by_cases hb : b = 255
    · subst hb
      rw [if_pos rfl]
      exact ih
    · rw [if_neg hb]
      simp only [List.cons_append, Tn.runS, Tn.stepS, if_neg hb]
      exact ih
/-- A header's box. -/
structure HBx (W : World) (hb : Nat) (t r s q : Int) : Prop where
  c0 : W.cell? ⟨hb, 0, none⟩ = some (.int .u8 t)
  c1 : W.cell? ⟨hb, 1, none⟩ = some (.int .u8 r)
  c2 : W.cell? ⟨hb, 2, none⟩ = some (.int .u8 s)
  c3 : W.cell? ⟨hb, 3, none⟩ = some (.int .u16 q)
theorem HBx.moved {W V : World} {hb : Nat} {t r s q : Int} {S S' : List Nat} (h : HBx W hb t r s q) (m : Moved W V S S') (hn : hb ∉ S) : HBx V hb t r s q :=
  ⟨cell_moved m h.c0 hn, cell_moved m h.c1 hn, cell_moved m h.c2 hn, cell_moved m h.c3 hn⟩
theorem respE_ok {c : Cf} {k : Lk} (hk : LkOK c k) {X : Evt} (code : Int) : LkOK c (respE k X code) := by
  unfold respE
  split
  · exact hk.out _
  · exact hk
theorem respB_ex (x : Int) (p : List Int) (t r s q code : Int) : respB exRL ⟨x, p, ⟨t, r, s, q⟩, true⟩ code = Hd.ansB t s code := by
  unfold respB
  have h1 : exRL.mode = 2 := exRK_mode
  have h2 : exRL.has = true := exRK_has
  rw [h1, h2]
  simp
theorem resp_out (x : Int) (p : List Int) (t r s q code : Int) : (respE exRL ⟨x, p, ⟨t, r, s, q⟩, true⟩ code).out = (if Hd.ansB t s code = true then recB (Hd.ansL t s q code) else []) ∧ ({ respE exRL ⟨x, p, ⟨t, r, s, q⟩, true⟩ code with out := [] } : Lk) = exRL := by
  unfold respE
  rw [respB_ex]
  split
  · exact ⟨rfl, rfl⟩
  · exact ⟨rfl, rfl⟩
theorem resp_len {t r s q : Int} (code : Int) : (respE exRL ⟨kindH t, [241], ⟨t, r, s, q⟩, true⟩ code).out.length ≤ 1000 := by
  rw [(resp_out _ _ _ _ _ _ _).1]
  split
  · rename_i h
    have h1 := (ans_some (q := q) h).2
    unfold recB
    have h2 := Tn.escI (Hd.ansL t s q code)
    have h3 := esc_len (Hd.ansL t s q code)
    rw [List.length_append]
    simp
    omega
  · exact Nat.zero_le _
/-- What one record leaves. -/
def FinR (w : World) (L hb : Nat) (t r s q code : Int) (got : Value) (W : World) : Prop := ∃ y', LkM W L exR y' exRL ∧ (∀ b ∈ y'.foot L, w.heap.size ≤ b) ∧ Below w.heap.size w W ∧ OwnB W got (if Hd.ansB t s code = true then recB (Hd.ansL t s q code) else []) ∧ HBx W hb t r s q
theorem FinR.of {w W : World} {L hb : Nat} {t r s q code : Int} {got : Value} {y' : Ly} (h1 : LkM W L exR y' { respE exRL ⟨kindH t, [241], ⟨t, r, s, q⟩, true⟩ code with out := [] }) (h2 : ∀ b ∈ y'.foot L, w.heap.size ≤ b) (h3 : Below w.heap.size w W) (h4 : OwnB W got (respE exRL ⟨kindH t, [241], ⟨t, r, s, q⟩, true⟩ code).out) (h5 : HBx W hb t r s q) : FinR w L hb t r s q code got W := by
  rw [(resp_out _ _ _ _ _ _ _).2] at h1
  rw [(resp_out _ _ _ _ _ _ _).1] at h4
  exact ⟨y', h1, h2, h3, h4, h5⟩
/-- Headers that came in. -/
def HdrsR (w : World) (x : Option Addr) (n : Nat) (hd : Nat → Hdr) : Prop := ∀ i, i < n → ∃ g off, x = some ⟨g, off, none⟩ ∧ w.cell? ⟨g, off + i * 4, none⟩ = some (.int .u8 (hd i).t) ∧ w.cell? ⟨g, off + i * 4 + 1, none⟩ = some (.int .u8 (hd i).r) ∧ w.cell? ⟨g, off + i * 4 + 2, none⟩ = some (.int .u8 (hd i).s) ∧ w.cell? ⟨g, off + i * 4 + 3, none⟩ = some (.int .u16 (hd i).q) ∧ Hd.HFit (hd i).t (hd i).r (hd i).s (hd i).q
section
variable {w : World}
set_option maxRecDepth 100000 in
set_option maxHeartbeats 8000000 in
theorem lresp_any (ux : Option Addr) (N uc : Nat) (hd : Nat → Hdr) (hN : N ≤ maxLen) (hu : HdrsR w ux N hd) (vx : Option Addr) (vn vc : Nat) (cs : List Int) (hv : Reads w (.slice vx vn vc) cs) :
    Calls Tryz.prog 5 #[.slice ux N uc, .slice vx vn vc] w fun e w' => e = .returned (.bool true) ∧ Below w.heap.size w w' := by
  have HAW := hid (awake11 w)
  have HLY := hid (fun W x n c (h : Reads W (.slice x n c) [2]) => lay_any (w := W) ⟨#[84]⟩ ⟨#[]⟩ x n c [2] true h (by decide) (by decide))
  rw [ex_cut, ex_cut0, show List.take 8 ([2] : List Int) = [2] from rfl] at HLY
  unfold LayD at HLY
  rw [exR_err] at HLY
  have HTK := hid (fun L c y k W n x cc ps (hl : ps.length ≤ 7000) (h : LkM W L c y k) (hk : LkOK c k) (hp : Reads W (.slice x n cc) ps) ho => callsIn_wide.1 (take_in (w := W) 6 (by omega) (.slice x n cc) ps hl h hk hp ho))
  have HOU := hid (fun L c y k W (h : LkM W L c y k) (hk : LkOK c k) => outE_any (w := W) h hk)
  have HESC := hid (fun W v xs (h : Reads W v xs) (hl : xs.length ≤ 100000) => escape_any (w := W) v xs h hl)
  have HCO : Hid (∀ i, i < vn → ∃ g off, vx = some ⟨g, off, none⟩ ∧ w.cell? ⟨g, off + i, none⟩ = some (.int .u8 (cs.getD i 0)) ∧ 0 ≤ cs.getD i 0 ∧ cs.getD i 0 < 256) := by
    show ∀ i, _
    intro i hi
    rcases reads_cases hv with ⟨x, c, e, _⟩ | ⟨g, o, n, c, e, hn, _, hc⟩
    · simp only [Value.slice.injEq] at e
      omega
    · simp only [Value.slice.injEq] at e
      have hi2 : i < cs.length := by omega
      have hb := hv.1 (cs.getD i 0) (by rw [List.getD_eq_getElem?_getD, List.getElem?_eq_getElem hi2]; exact List.getElem_mem hi2)
      exact ⟨g, o, e.1, hc i hi2, hb.1, hb.2⟩
  have HU := hid hu
  have hN2 : (N : Int) ≤ 9223372036854775807 := by unfold maxLen at hN; omega
  clear hv hu hN
  go_enter Tryz.func5, Tryz.ntmps5
  go_wp2_with fail
  with_reducible refine HAW.out.mono ?_
  rintro e w1 ⟨rfl, hb1⟩
  have HB1 := hid hb1
  clear hb1
  have HLI := hid (own_lit w1 #[.int .u8 2] 1 [2] (by simp) rfl rfl (by omega) _ rfl)
  have HB1' := hid (bal HB1.out (.cells #[.int .u8 2] 5))
  go_wp2_with fail
  with_reducible refine (HLY.out _ _ _ _ HLI.out.reads).mono ?_
  rintro e w2 ⟨p2, v2, z2, rfl, hb2, hl2⟩
  obtain ⟨L, y0, rfl, hlk, hnew⟩ := hl2 (by first | rfl | trivial)
  have HB2 := hid (HB1'.out.trans (hb2.mono HB1'.out.size))
  have HNW2 := hid (show ∀ b ∈ y0.foot L, w.heap.size ≤ b from fun b q => Nat.le_trans HB1'.out.size (hnew b q))
  have HLK2 := hid (show LkM w2 L exR y0 Lk.new from hlk)
  have HOK2 := hid (show LkOK exR Lk.new from newOK (by decide) (by decide) (by simp) (fun x q => by simp at q; subst q; decide) exR_err)
  clear hb2 hl2 hlk hnew HLY HLI HAW
  have hcv := Lib.run_convert_bytes_const (P := Tryz.prog) w2 22 5 #[.int .u8 255, .int .u8 253, .int .u8 40, .int .u8 255, .int .u8 250, .int .u8 40, .int .u8 8, .int .u8 2, .int .u8 255, .int .u8 240, .int .u8 255, .int .u8 250, .int .u8 40, .int .u8 2, .int .u8 4, .int .u8 84, .int .u8 1, .int .u8 76, .int .u8 255, .int .u8 240, .int .u8 255, .int .u8 250, .int .u8 40, .int .u8 3, .int .u8 4, .int .u8 2, .int .u8 255, .int .u8 240] 28 28 Tryz.underlying22 Tryz.underlying5
  have HX2 := hid (show Reads (w2.alloc (.cells #[.int .u8 255, .int .u8 253, .int .u8 40, .int .u8 255, .int .u8 250, .int .u8 40, .int .u8 8, .int .u8 2, .int .u8 255, .int .u8 240, .int .u8 255, .int .u8 250, .int .u8 40, .int .u8 2, .int .u8 4, .int .u8 84, .int .u8 1, .int .u8 76, .int .u8 255, .int .u8 240, .int .u8 255, .int .u8 250, .int .u8 40, .int .u8 3, .int .u8 4, .int .u8 2, .int .u8 255, .int .u8 240] 5 (28, 29))) (.slice (some ⟨w2.heap.size, 0, none⟩) 28 28) helloR from reads_lit w2 (28, 29) helloR 28 rfl (by decide) (by decide))
  have HLK3 := hid (HLK2.out.step (bal (Below.refl _ _) (.cells #[.int .u8 255, .int .u8 253, .int .u8 40, .int .u8 255, .int .u8 250, .int .u8 40, .int .u8 8, .int .u8 2, .int .u8 255, .int .u8 240, .int .u8 255, .int .u8 250, .int .u8 40, .int .u8 2, .int .u8 4, .int .u8 84, .int .u8 1, .int .u8 76, .int .u8 255, .int .u8 240, .int .u8 255, .int .u8 250, .int .u8 40, .int .u8 3, .int .u8 4, .int .u8 2, .int .u8 255, .int .u8 240] 5 (28, 29))))
  have HB3 := hid (bal HB2.out (.cells #[.int .u8 255, .int .u8 253, .int .u8 40, .int .u8 255, .int .u8 250, .int .u8 40, .int .u8 8, .int .u8 2, .int .u8 255, .int .u8 240, .int .u8 255, .int .u8 250, .int .u8 40, .int .u8 2, .int .u8 4, .int .u8 84, .int .u8 1, .int .u8 76, .int .u8 255, .int .u8 240, .int .u8 255, .int .u8 250, .int .u8 40, .int .u8 3, .int .u8 4, .int .u8 2, .int .u8 255, .int .u8 240] 5 (28, 29)))
  have HQ3 := hid (HTK.out L exR y0 Lk.new _ 28 _ _ helloR (by decide) HLK3.out HOK2.out HX2.out (by decide))
  go_wp2_with fail
  with_reducible refine HQ3.out.mono ?_
  rintro e w3 ⟨v3, xs3, k3, y3, es3, rfl, hg, hr, hst, hlk, hok, hmv, -, -, -, -⟩
  obtain ⟨hz, -⟩ := taken_is hg hr
  have hk3 : k3 = exRK := lk_z hz.symm (hst.trans exRS)
  subst hk3
  have HB4 := hid (HB3.out.trans (hmv.toBelow HB3.out.size HNW2.out))
  have HNW4 := hid (show ∀ b ∈ y3.foot L, w.heap.size ≤ b from fun b q => by
    rcases hmv.from' b q with r | r
    · exact HNW2.out b r
    · exact Nat.le_trans HB3.out.size r)
  have HLK4 := hid hlk
  have HOK4 := hid hok
  clear hg hr hst hlk hok hmv hz HLK2 HOK2 HX2 HLK3 HQ3 HB3 HNW2
  go_wp2_with fail
  with_reducible refine (HOU.out L exR y3 exRK w3 HLK4.out HOK4.out).mono ?_
  rintro e w4 ⟨ax, an, ac, rfl, -, hlk, hmv, -⟩
  have HB5 := hid (HB4.out.trans (hmv.toBelow HB4.out.size HNW4.out))
  have HNW5 := hid (show ∀ b ∈ Ly.foot { y3 with ov := .slice none 0 0 } L, w.heap.size ≤ b from fun b q => by
    rcases hmv.from' b q with r | r
    · exact HNW4.out b r
    · exact Nat.le_trans HB4.out.size r)
  have HLK5 := hid (show LkM w4 L exR { y3 with ov := .slice none 0 0 } exRL from hlk)
  have HOK := hid (show LkOK exR exRL from HOK4.out.out [])
  clear hlk hmv HLK4 HOK4 HNW4
  have HMO := hid (mode_any L exR _ exRL w4 HLK5.out)
  rw [show exRL.mode = 2 from exRK_mode] at HMO
  go_wp2_with fail
  with_reducible refine HMO.out.mono ?_
  rintro e w5 ⟨rfl, hb5⟩
  have HB6 := hid (HB5.out.trans (hb5.mono HB5.out.size))
  have HLK6 := hid (HLK5.out.step hb5)
  clear hb5 HMO HLK5 HB5
  go_wp2_with fail
  go_loopw [39] (fun i W => ∃ q : Nat, q ≤ N ∧ q ≤ 10 ∧ i = .int .i64 q ∧ ∃ y, Hid (LkM W L exR y exRL) ∧ Hid (∀ b ∈ y.foot L, w.heap.size ≤ b) ∧ Hid (Below w.heap.size w W)) (fun i _ => N - (RowKit.intOf i).toNat)
  case atStart => exact ⟨0, by omega, by omega, rfl, _, HLK6.out, HNW5.out, HB6.out⟩
  case round =>
    clear HLK6 HNW5 HB6
    obtain ⟨q, hq, hq10, rfl, y, HLK, HNW, HBW⟩ := hrel
    by_cases hqN : q < N
    · have hqi : (q : Int) < N := by omega
      obtain ⟨g, off, rfl, c0, c1, c2, c3, F⟩ := HU.out q hqN
      generalize hd q = hh at c0 c1 c2 c3 F
      obtain ⟨t, r, s, qq⟩ := hh
      dsimp only at c0 c1 c2 c3 F
      have c0 := keepc HBW.out c0
      have c1 := keepc HBW.out c1
      have c2 := keepc HBW.out c2
      have c3 := keepc HBW.out c3
      have hgl := World.block_lt_of_cell? wr _ c0
      have HFT := hid F
      have hqq : 0 ≤ qq ∧ qq < 65536 := ⟨F.q0, F.q1⟩
      obtain ⟨hb, hhb⟩ : ∃ hb, wr.heap.size = hb := ⟨_, rfl⟩
      obtain ⟨W0, hW0⟩ : ∃ W0, wr.alloc (.cells #[.int .u8 t, .int .u8 r, .int .u8 s, .int .u16 qq] 36) = W0 := ⟨_, rfl⟩
      have hb0 : Below wr.heap.size wr W0 := by rw [← hW0]; exact bal (Below.refl _ _) _
      have hbx : HBx W0 wr.heap.size t r s qq := by rw [← hW0]; exact ⟨by simp [go_sem], by simp [go_sem], by simp [go_sem], by simp [go_sem]⟩
      have HHF := hid (show hb ∉ y.foot L from fun f => by have := HLK.out.lt HOK.out hb f; omega)
      have HW0 := hid hW0
      have HB0 := hid hb0
      have HBX0 := hid (show HBx W0 hb t r s qq from hhb ▸ hbx)
      have HLK0 := hid (HLK.out.step hb0)
      have HBW0 := hid (HBW.out.trans (hb0.mono HBW.out.size))
      have HHE := hid hhb
      obtain ⟨z0, z1, z2, z3⟩ := hbx
      have zl := World.block_lt_of_cell? W0 _ z0
      clear hb0 hW0 F hhb
      by_cases h10 : q < 10
      · have h10i : ¬ (10 : Int) ≤ q := by omega
        cases hokH : Hd.okH t s
        · have HBY := hid (show Calls Tryz.prog 21 #[.agg #[.int .u8 t, .int .u8 r, .int .u8 s, .int .u16 qq]] W0 (Hd.BytesE [] 1 W0) from Hd.rbytes_no t r s qq W0 HFT.out hokH)
          go_wp2_with fail
          (try simp only [HW0.out])
          go_wp2_with fail
          with_reducible refine HBY.out.mono ?_
          rintro e w6 ⟨v6, rfl, -, hb6, -⟩
          have HLK1 := hid (HLK0.out.step hb6)
          have HBW1 := hid (HBW0.out.trans (hb6.mono HBW0.out.size))
          clear hb6
          go_wp2
          go_roundw
          case rel => exact ⟨q + 1, by omega, by omega, by go_num, y, HLK1.out, HNW.out, HBW1.out⟩
          case measure => simp [RowKit.intOf]; omega
        · have HBY := hid (show Calls Tryz.prog 21 #[.agg #[.int .u8 t, .int .u8 r, .int .u8 s, .int .u16 qq]] W0 (Hd.BytesE (Hd.hdrL t r s qq) 0 W0) from Hd.rbytes_ok t r s qq W0 HFT.out hokH)
          go_wp2_with fail
          (try simp only [HW0.out])
          go_wp2_with fail
          with_reducible refine HBY.out.mono ?_
          rintro e w3 ⟨v3, rfl, ho3, hb3, hk3⟩
          obtain ⟨bx, bn, bc, rfl⟩ := own_slice ho3
          have HLA := hid (own_lit w3 #[.int .u8 241] 1 [241] (by simp) rfl rfl (by omega) _ rfl)
          have hba : Below W0.heap.size W0 (w3.alloc (.cells #[.int .u8 241] 5)) := bal hb3 _
          have HOA := hid (ho3.step (bal (Below.refl w3.heap.size w3) (.cells #[.int .u8 241] 5)))
          have HBA := hid (HBW0.out.trans (hba.mono HBW0.out.size))
          have HB33 := hid (HBW0.out.trans (hb3.mono HBW0.out.size))
          have HLKA := hid (HLK0.out.step hba)
          have HBXA := hid (HBX0.out.moved (Moved.below hba []) (fun q => by cases q))
          have hzl : hb < W0.heap.size := by rw [← HHE.out]; exact zl
          have HKA := hid (show ∀ b ∈ blkV (.slice bx bn bc), w.heap.size ≤ b from fun b q => Nat.le_trans HBW0.out.size (hk3 b q))
          have HFA := hid (show ∀ b ∈ y.foot L, b ∉ blkV (.slice bx bn bc) from fun b q f => by
            have h1 := hk3 b f
            have h2 := HLK0.out.lt HOK.out b q
            omega)
          have HHK := hid (show hb ∉ blkV (.slice bx bn bc) from fun f => by have h1 := hk3 hb f; omega)
          have HHB := hid (show hb < (w3.alloc (.cells #[.int .u8 241] 5)).heap.size from Nat.lt_of_lt_of_le hzl hba.size)
          clear ho3 hb3 hk3 hba c0 c1 c2 c3 hgl z0 z1 z2 z3 zl hzl HBY
          by_cases hqv : q < vn
          · have hqvi : (q : Int) < vn := by omega
            obtain ⟨vg, vo, rfl, vcell, vb0, vb1⟩ := HCO.out q hqv
            generalize cs.getD q 0 = cv at vcell vb0 vb1
            have vc3 := keepc HB33.out vcell
            have hvl := World.block_lt_of_cell? w3 _ vc3
            obtain ⟨cd, hcd⟩ : ∃ cd, cv % 16 = cd := ⟨_, rfl⟩
            have hcd' : cv.tmod 16 = cd := by rw [Int.tmod_eq_emod_of_nonneg vb0]; exact hcd
            have hcd0 : 0 ≤ cd := by omega
            have hcd1 : cd < 16 := by omega
            go_wp2_with (first
              | (at_builtin; go_loud (refine wpList_append_ob rfl _ _ rfl _ _ (Hd.hdrL t r s qq) [241] rfl HOA.out (by first | rfl | simp [go_sem]) HLA.out.reads (by simp [Hd.hdrL]) ?_; intro x' n' c' w4 ho' hn' hm'; have HO4 := hid ho'; have HB4 := hid (HBA.out.trans (hm'.toBelow HBA.out.size HKA.out)); have HLK4 := hid (HLKA.out.moved hm' HFA.out); have HNB := hid (show hb < w4.heap.size ∧ hb ∉ blkV (.slice bx bn bc) from ⟨Nat.lt_of_lt_of_le HHB.out hm'.size, HHK.out⟩); have HBX4 := hid (HBXA.out.moved hm' HHK.out); have HFN4 := hid (show ∀ b ∈ y.foot L, b < w4.heap.size from fun b q => Nat.lt_of_lt_of_le (HLKA.out.lt HOK.out b q) hm'.size); clear ho' hn' hm'))
              | fail)
            with_reducible refine (HESC.out _ _ _ HO4.out.reads (by simp [Hd.hdrL])).mono ?_
            rintro e w5 ⟨v5, rfl, ho5, hb5, hk5⟩
            obtain ⟨ex, en, ec, rfl⟩ := own_slice ho5
            have HL5 := hid (own_lit w5 #[.int .u8 255, .int .u8 239] 2 [255, 239] (by simp) rfl rfl (by omega) _ rfl)
            have HO5 := hid (ho5.step (bal (Below.refl w5.heap.size w5) (.cells #[.int .u8 255, .int .u8 239] 5)))
            have HB5 := hid (bal (HB4.out.trans (hb5.mono HB4.out.size)) (.cells #[.int .u8 255, .int .u8 239] 5))
            have hb55 : Below w4.heap.size w4 (w5.alloc (.cells #[.int .u8 255, .int .u8 239] 5)) := bal hb5 _
            have HLK5 := hid (HLK4.out.step hb55)
            have HBX5 := hid (HBX4.out.moved (Moved.below hb55 []) (fun q => by cases q))
            have HK5 := hid (show ∀ b ∈ blkV (.slice ex en ec), w4.heap.size ≤ b from hk5)
            have HS5 := hid hb55.size
            clear ho5 hb5 hk5 hb55
            go_wp2_with (first
              | (at_builtin; go_loud (refine wpList_append_ob rfl _ _ rfl _ _ (Tn.escI (Hd.hdrL t r s qq ++ [241])) [255, 239] rfl HO5.out (by first | rfl | simp [go_sem]) HL5.out.reads (by have := esc_len (Hd.hdrL t r s qq ++ [241]); simp [Hd.hdrL] at this ⊢; omega) ?_; intro x' n' c' w6 ho' hn' hm'; have HO6 := hid ho'; have HB6 := hid (HB5.out.trans (hm'.toBelow HB5.out.size (fun b q => Nat.le_trans HB4.out.size (HK5.out b q)))); have HLK6 := hid (HLK5.out.moved hm' (fun b q f => by have h1 := HK5.out b f; have h2 := HFN4.out b q; omega)); have HBX6 := hid (HBX5.out.moved hm' (fun f => by have h1 := HK5.out hb f; have h2 := HNB.out.1; omega)); have HN6 := hid (show hb < w6.heap.size from Nat.lt_of_lt_of_le (Nat.lt_of_lt_of_le HNB.out.1 HS5.out) hm'.size); clear ho' hn' hm'))
              | fail)
            have hpl : (Tn.escI (Hd.hdrL t r s qq ++ [241]) ++ [255, 239]).length ≤ 7000 := by
              have := esc_len (Hd.hdrL t r s qq ++ [241])
              simp [Hd.hdrL] at this ⊢
              omega
            have hob : exRL.out.length + 11000 * (Tn.escI (Hd.hdrL t r s qq ++ [241]) ++ [255, 239]).length ≤ 80000000 := by
              have h0 : exRL.out.length = 0 := rfl
              omega
            with_reducible refine (HTK.out L exR y exRL _ _ _ _ _ hpl HLK6.out HOK.out HO6.out.reads hob).mono ?_
            rintro e w7 ⟨v7, xs7, k7, y7, es7, rfl, hg, hr, hst, hlk, hok, hmv, -, hrow, hnew, hdat⟩
            obtain ⟨hk7, hl7⟩ := rec_told (c := exR) (k := exRL) (t := t) (r := r) (s := s) (q := qq) (p := [241]) exRK_st exRK_mode exRK_rc exRK_lg (by simp) hokH hqq hg hr (hst.trans (by
              rw [show exRL.st = .between from exRK_st]
              exact esc_runS _))
            subst hk7
            obtain ⟨⟨ev7, dv7⟩, rfl⟩ : ∃ z, xs7 = [z] := by
              have := congrArg List.length hl7
              rw [List.length_map] at this
              exact List.length_eq_one_iff.1 this
            have he7 : ev7 = ⟨kindH t, [241], ⟨t, r, s, qq⟩, true⟩ := by simpa using hl7
            subst he7
            obtain ⟨-, ⟨dx, dn, dc, hdv⟩, -⟩ := hdat _ (List.mem_singleton.2 rfl)
            dsimp only at hdv
            subst hdv
            have HB7 := hid (HB6.out.trans (hmv.toBelow HB6.out.size HNW.out))
            have HNW7 := hid (show ∀ b ∈ y7.foot L, w.heap.size ≤ b from fun b q => by
              rcases hmv.from' b q with r | r
              · exact HNW.out b r
              · exact Nat.le_trans HB6.out.size r)
            have HNF := hid (show hb ∉ y.foot L from HHF.out)
            have HBX7 := hid (HBX6.out.moved hmv HNF.out)
            have HNF7 := hid (show hb ∉ y7.foot L from foot_new hmv HN6.out HNF.out)
            have HN7 := hid (show hb < w7.heap.size from Nat.lt_of_lt_of_le HN6.out hmv.size)
            have HLK7 := hid hlk
            obtain ⟨g7, c7, hv7, hcell⟩ : ∃ g c, v7 = .slice (some ⟨g, 0, none⟩) 1 c ∧ ∀ j, j < 7 → w7.cell? ⟨g, j, none⟩ = (evC ⟨kindH t, [241], ⟨t, r, s, qq⟩, true⟩ (.slice dx dn dc))[j]? := by
              rcases hrow.2 with ⟨_, e⟩ | ⟨g, cap, cur, hv, _⟩
              · exact absurd e (by simp)
              · subst hv
                refine ⟨g, cap, rfl, fun j hj => ?_⟩
                have h1 := World.ownsRow.cellAt hrow j (by simpa using hj)
                have h2 := cellsV_at [(⟨kindH t, [241], ⟨t, r, s, qq⟩, true⟩, .slice dx dn dc)] 0 (by simp) j hj
                rw [Nat.zero_mul, Nat.zero_add] at h2
                exact h1.trans h2
            subst hv7
            have u0 : w7.cell? ⟨g7, 0, none⟩ = some (.int .i64 (kindH t)) := hcell 0 (by omega)
            have u1 : w7.cell? ⟨g7, 1, none⟩ = some (.slice dx dn dc) := hcell 1 (by omega)
            have u2 : w7.cell? ⟨g7, 2, none⟩ = some (.int .u8 t) := hcell 2 (by omega)
            have u3 : w7.cell? ⟨g7, 3, none⟩ = some (.int .u8 r) := hcell 3 (by omega)
            have u4 : w7.cell? ⟨g7, 4, none⟩ = some (.int .u8 s) := hcell 4 (by omega)
            have u5 : w7.cell? ⟨g7, 5, none⟩ = some (.int .u16 qq) := hcell 5 (by omega)
            have u6 : w7.cell? ⟨g7, 6, none⟩ = some (.bool true) := hcell 6 (by omega)
            have ul := World.block_lt_of_cell? w7 _ u0
            have HUS := hid (And.intro u0 (And.intro u1 (And.intro u2 (And.intro u3 (And.intro u4 (And.intro u5 (And.intro u6 ul)))))))
            clear hg hr hst hlk hok hmv hrow hnew hdat hl7 hcell u0 u1 u2 u3 u4 u5 u6 ul hpl hob
            go_wp2_with fail
            go_loopw [72, 14] (fun i got W => (i = .int .i64 0 ∧ got = .slice none 0 0 ∧ W = w7) ∨ (i = .int .i64 1 ∧ Hid (FinR w L hb t r s qq cd got W))) (fun i _ _ => 1 - (RowKit.intOf i).toNat)
            case atStart => exact .inl ⟨rfl, rfl, rfl⟩
            case round =>
              rcases hrel with ⟨rfl, rfl, rfl⟩ | ⟨rfl, HF⟩
              · obtain ⟨u0, u1, u2, u3, u4, u5, u6, ul⟩ := HUS.out
                obtain ⟨W8, hW8⟩ : ∃ W8, wr.alloc (.cells #[.int .i64 (kindH t), .slice dx dn dc, .int .u8 t, .int .u8 r, .int .u8 s, .int .u16 qq, .bool true] 38) = W8 := ⟨_, rfl⟩
                have hb8 : Below wr.heap.size wr W8 := by rw [← hW8]; exact bal (Below.refl _ _) _
                have z0 : W8.cell? ⟨wr.heap.size, 0, none⟩ = some (.int .i64 (kindH t)) := by rw [← hW8]; simp [go_sem]
                have z1 : W8.cell? ⟨wr.heap.size, 1, none⟩ = some (.slice dx dn dc) := by rw [← hW8]; simp [go_sem]
                have z2 : W8.cell? ⟨wr.heap.size, 2, none⟩ = some (.int .u8 t) := by rw [← hW8]; simp [go_sem]
                have z3 : W8.cell? ⟨wr.heap.size, 3, none⟩ = some (.int .u8 r) := by rw [← hW8]; simp [go_sem]
                have z4 : W8.cell? ⟨wr.heap.size, 4, none⟩ = some (.int .u8 s) := by rw [← hW8]; simp [go_sem]
                have z5 : W8.cell? ⟨wr.heap.size, 5, none⟩ = some (.int .u16 qq) := by rw [← hW8]; simp [go_sem]
                have z6 : W8.cell? ⟨wr.heap.size, 6, none⟩ = some (.bool true) := by rw [← hW8]; simp [go_sem]
                have zl := World.block_lt_of_cell? W8 _ z0
                have HW8 := hid hW8
                have HB8 := hid hb8
                have HOW := hid (show Calls Tryz.prog 24 #[.agg #[.int .i64 (kindH t), .slice dx dn dc, .int .u8 t, .int .u8 r, .int .u8 s, .int .u16 qq, .bool true]] W8 (fun e w' => e = .returned (.agg #[.int .i64 (kindH t), .slice dx dn dc, .int .u8 t, .int .u8 r, .int .u8 s, .int .u16 qq, .bool true]) ∧ Below W8.heap.size W8 w') from own_ev_any (w := W8) ⟨kindH t, [241], ⟨t, r, s, qq⟩, true⟩ dx dn dc)
                have HRS := hid (fun W (h : LkM W L exR y7 exRL) => (show Calls Tryz.prog 23 #[.pointer (some ⟨L, 0, none⟩), .agg #[.int .i64 (kindH t), .slice dx dn dc, .int .u8 t, .int .u8 r, .int .u8 s, .int .u16 qq, .bool true], .int .i64 cd] W (RespD L exR y7 exRL ⟨kindH t, [241], ⟨t, r, s, qq⟩, true⟩ cd W) from respond_any (w := W) ⟨kindH t, [241], ⟨t, r, s, qq⟩, true⟩ dx dn dc cd h HOK.out HFT.out (show (0 : Nat) ≤ 90000000 by decide)))
                clear hb8 hW8
                go_wp2_with fail
                (try simp only [HW8.out])
                go_wp2_with fail
                with_reducible refine HOW.out.mono ?_
                rintro e w9 ⟨rfl, hb9⟩
                have hb79 := below_t HB8.out hb9
                have HLK9 := hid (HLK7.out.step hb79)
                have HBX9 := hid (HBX7.out.moved (Moved.below hb79 []) (fun q => by cases q))
                have HB9 := hid (HB7.out.trans (hb79.mono HB7.out.size))
                have HN9 := hid (show hb < w9.heap.size from Nat.lt_of_lt_of_le HN7.out hb79.size)
                clear hb9 hb79 z0 z1 z2 z3 z4 z5 z6 zl u0 u1 u2 u3 u4 u5 u6 ul HOW
                go_wp2_with fail
                with_reducible refine (HRS.out _ HLK9.out).mono ?_
                rintro e w10 ⟨y10, rfl, hlk, hmv⟩
                have HLK10 := hid hlk
                have HOK10 := hid (respE_ok HOK.out (X := ⟨kindH t, [241], ⟨t, r, s, qq⟩, true⟩) cd)
                have HBX10 := hid (HBX9.out.moved hmv HNF7.out)
                have HB10 := hid (HB9.out.trans (hmv.toBelow HB9.out.size HNW7.out))
                have HNW10 := hid (show ∀ b ∈ y10.foot L, w.heap.size ≤ b from fun b q => by
                  rcases hmv.from' b q with r | r
                  · exact HNW7.out b r
                  · exact Nat.le_trans HB9.out.size r)
                have HNF10 := hid (foot_new hmv HN9.out HNF7.out)
                have HN10 := hid (show hb < w10.heap.size from Nat.lt_of_lt_of_le HN9.out hmv.size)
                clear hlk hmv HRS
                go_wp2_with fail
                with_reducible refine (HOU.out L exR y10 _ w10 HLK10.out HOK10.out).mono ?_
                rintro e w11 ⟨ox, on, oc, rfl, hoo, hlk, hmv, hof⟩
                have HFIN := hid (And.intro hlk (And.intro (show ∀ b ∈ Ly.foot { y10 with ov := .slice none 0 0 } L, w.heap.size ≤ b from fun b q => by
                  rcases hmv.from' b q with r | r
                  · exact HNW10.out b r
                  · exact Nat.le_trans HB10.out.size r) (HB10.out.trans (hmv.toBelow HB10.out.size HNW10.out))))
                have HOO := hid hoo.reads
                have HOL := hid (resp_len (t := t) (r := r) (s := s) (q := qq) cd)
                have HBX11 := hid (HBX10.out.moved hmv HNF10.out)
                clear hoo hlk hmv hof
                go_wp2_with (first
                  | (at_builtin; go_loud (refine wpList_append_ob rfl _ _ rfl _ _ [] _ rfl (OwnB.nil w11) (by first | rfl | simp [go_sem]) HOO.out (by have := HOL.out; simp at this ⊢; omega) ?_; intro x' n' c' w12 ho' hn' hm'; have HF12 := hid (show FinR w L hb t r s qq cd (.slice x' n' c') w12 from FinR.of (HFIN.out.1.moved hm' (fun _ _ q => by cases q)) HFIN.out.2.1 (HFIN.out.2.2.trans (hm'.toBelow HFIN.out.2.2.size (fun _ q => by cases q))) (by rw [List.nil_append] at ho'; exact ho') (HBX11.out.moved hm' (fun q => by cases q))); clear ho' hn' hm'))
                  | fail)
                go_roundw
                case rel => exact .inr ⟨by go_num, HF12.out⟩
                case measure => simp [RowKit.intOf]
              · obtain ⟨y8, hlk, hnw, hbw, hgo, hbx⟩ := HF.out
                obtain ⟨a0, a1, a2, a3⟩ := hbx
                rw [← HHE.out] at a0 a1 a2 a3
                have al := World.block_lt_of_cell? wr _ a0
                have HLK8 := hid hlk
                have HNW8 := hid hnw
                have HBW8 := hid hbw
                have HGO8 := hid hgo
                obtain ⟨gx, gn, gc, rfl⟩ := own_slice hgo
                have HAN := hid (show Calls Tryz.prog 25 #[.agg #[.int .u8 t, .int .u8 r, .int .u8 s, .int .u16 qq], .int .i64 cd] wr (CloneDone (Hd.ansL t s qq cd) wr) from Hd.ranswer_any t r s qq cd wr HFT.out)
                clear hlk hnw hbw hgo
                go_wp2_with fail
                with_reducible refine HAN.out.mono ?_
                rintro e w9 ⟨v9, rfl, ho9, hb9, hk9⟩
                have HB9 := hid (HBW8.out.trans (hb9.mono HBW8.out.size))
                have HLK9 := hid (HLK8.out.step hb9)
                have HGO9 := hid (HGO8.out.step hb9)
                clear hb9 HAN a0 a1 a2 a3 al
                cases hab : Hd.ansB t s cd
                · have HG := hid (show OwnB w9 (.slice gx gn gc) [] from by have := HGO9.out; rw [hab] at this; exact this)
                  rw [ans_no hab] at ho9
                  obtain ⟨x9, c9, rfl⟩ := own_len ho9 0 rfl
                  have HS := hid (same_true (.slice gx gn gc) (.slice x9 0 c9) [] w9 HG.out.reads ho9.reads)
                  clear ho9 hk9
                  go_wp2_with fail
                  with_reducible refine HS.out.mono ?_
                  rintro e w10 ⟨rfl, rfl⟩
                  go_wp2
                  go_roundw
                  case rel => exact ⟨q + 1, by omega, by omega, by go_num, y8, HLK9.out, HNW8.out, HB9.out⟩
                  case measure => simp [RowKit.intOf]; omega
                · have HG := hid (show OwnB w9 (.slice gx gn gc) (recB (Hd.ansL t s qq cd)) from by have := HGO9.out; rw [hab] at this; exact this)
                  obtain ⟨hne, hle⟩ := ans_some (q := qq) hab
                  obtain ⟨x9, c9, hv9⟩ := own_len ho9 _ rfl
                  subst hv9
                  have hpos : (0 : Int) < ((Hd.ansL t s qq cd).length : Int) := by
                    have := List.length_pos_iff.2 hne
                    omega
                  have HO9 := hid ho9
                  have HAL := hid hle
                  have HK9 := hid (show ∀ b ∈ blkV (.slice x9 (Hd.ansL t s qq cd).length c9), w.heap.size ≤ b from fun b q => Nat.le_trans HBW8.out.size (hk9 b q))
                  obtain ⟨AL, hAL⟩ : ∃ AL, Hd.ansL t s qq cd = AL := ⟨_, rfl⟩
                  rw [hAL] at HG HO9 HAL HK9 hpos ⊢
                  clear ho9 hk9 hne hle hAL
                  go_wp2_with fail
                  with_reducible refine (HESC.out _ _ _ HO9.out.reads (by have := HAL.out; omega)).mono ?_
                  rintro e w10 ⟨v10, rfl, ho10, hb10, hk10⟩
                  obtain ⟨ex2, en2, ec2, rfl⟩ := own_slice ho10
                  have HL10 := hid (own_lit w10 #[.int .u8 255, .int .u8 239] 2 [255, 239] (by simp) rfl rfl (by omega) _ rfl)
                  have hb1010 : Below w9.heap.size w9 (w10.alloc (.cells #[.int .u8 255, .int .u8 239] 5)) := bal hb10 _
                  have HO10 := hid (ho10.step (bal (Below.refl w10.heap.size w10) (.cells #[.int .u8 255, .int .u8 239] 5)))
                  have HB10 := hid (HB9.out.trans (hb1010.mono HB9.out.size))
                  have HLK10 := hid (HLK9.out.step hb1010)
                  have HG10 := hid (HG.out.step hb1010)
                  have HK10 := hid (show ∀ b ∈ blkV (.slice ex2 en2 ec2), w9.heap.size ≤ b from hk10)
                  have HFL9 := hid (HLK9.out.lt HOK.out)
                  have HGL9 := hid (OwnB.lt HG.out)
                  clear ho10 hb10 hk10 hb1010
                  go_wp2_with (first
                    | (at_builtin; go_loud (refine wpList_append_ob rfl _ _ rfl _ _ (Tn.escI AL) [255, 239] rfl HO10.out (by first | rfl | simp [go_sem]) HL10.out.reads (by have h1 := esc_len AL; have h2 := HAL.out; simp; omega) ?_; intro x' n' c' w11 ho' hn' hm'; have HS := hid (same_true (.slice gx gn gc) (.slice x' n' c') (recB AL) w11 (HG10.out.moved hm' (fun b q f => by have h1 := HK10.out b f; have h2 := HGL9.out b q; omega)).reads ho'.reads); have HLK11 := hid (HLK10.out.moved hm' (fun b q f => by have h1 := HK10.out b f; have h2 := HFL9.out b q; omega)); have HB11 := hid (HB10.out.trans (hm'.toBelow HB10.out.size (fun b q => Nat.le_trans HB9.out.size (HK10.out b q)))); clear ho' hn' hm'))
                    | fail)
                  with_reducible refine HS.out.mono ?_
                  rintro e w12 ⟨rfl, rfl⟩
                  go_wp2
                  go_roundw
                  case rel => exact ⟨q + 1, by omega, by omega, by go_num, y8, HLK11.out, HNW8.out, HB11.out⟩
                  case measure => simp [RowKit.intOf]; omega
          · have hqvi : ¬ (q : Int) < vn := by omega
            go_wp2_with (first
              | (at_builtin; go_loud (refine wpList_append_ob rfl _ _ rfl _ _ (Hd.hdrL t r s qq) [241] rfl HOA.out (by first | rfl | simp [go_sem]) HLA.out.reads (by simp [Hd.hdrL]) ?_; intro x' n' c' w4 ho' hn' hm'; have HO4 := hid ho'; have HB4 := hid (HBA.out.trans (hm'.toBelow HBA.out.size HKA.out)); have HLK4 := hid (HLKA.out.moved hm' HFA.out); have HNB := hid (show hb < w4.heap.size ∧ hb ∉ blkV (.slice bx bn bc) from ⟨Nat.lt_of_lt_of_le HHB.out hm'.size, HHK.out⟩); have HBX4 := hid (HBXA.out.moved hm' HHK.out); have HFN4 := hid (show ∀ b ∈ y.foot L, b < w4.heap.size from fun b q => Nat.lt_of_lt_of_le (HLKA.out.lt HOK.out b q) hm'.size); clear ho' hn' hm'))
              | fail)
            with_reducible refine (HESC.out _ _ _ HO4.out.reads (by simp [Hd.hdrL])).mono ?_
            rintro e w5 ⟨v5, rfl, ho5, hb5, hk5⟩
            obtain ⟨ex, en, ec, rfl⟩ := own_slice ho5
            have HL5 := hid (own_lit w5 #[.int .u8 255, .int .u8 239] 2 [255, 239] (by simp) rfl rfl (by omega) _ rfl)
            have HO5 := hid (ho5.step (bal (Below.refl w5.heap.size w5) (.cells #[.int .u8 255, .int .u8 239] 5)))
            have HB5 := hid (bal (HB4.out.trans (hb5.mono HB4.out.size)) (.cells #[.int .u8 255, .int .u8 239] 5))
            have hb55 : Below w4.heap.size w4 (w5.alloc (.cells #[.int .u8 255, .int .u8 239] 5)) := bal hb5 _
            have HLK5 := hid (HLK4.out.step hb55)
            have HBX5 := hid (HBX4.out.moved (Moved.below hb55 []) (fun q => by cases q))
            have HK5 := hid (show ∀ b ∈ blkV (.slice ex en ec), w4.heap.size ≤ b from hk5)
            have HS5 := hid hb55.size
            clear ho5 hb5 hk5 hb55
            go_wp2_with (first
              | (at_builtin; go_loud (refine wpList_append_ob rfl _ _ rfl _ _ (Tn.escI (Hd.hdrL t r s qq ++ [241])) [255, 239] rfl HO5.out (by first | rfl | simp [go_sem]) HL5.out.reads (by have := esc_len (Hd.hdrL t r s qq ++ [241]); simp [Hd.hdrL] at this ⊢; omega) ?_; intro x' n' c' w6 ho' hn' hm'; have HO6 := hid ho'; have HB6 := hid (HB5.out.trans (hm'.toBelow HB5.out.size (fun b q => Nat.le_trans HB4.out.size (HK5.out b q)))); have HLK6 := hid (HLK5.out.moved hm' (fun b q f => by have h1 := HK5.out b f; have h2 := HFN4.out b q; omega)); have HBX6 := hid (HBX5.out.moved hm' (fun f => by have h1 := HK5.out hb f; have h2 := HNB.out.1; omega)); have HN6 := hid (show hb < w6.heap.size from Nat.lt_of_lt_of_le (Nat.lt_of_lt_of_le HNB.out.1 HS5.out) hm'.size); clear ho' hn' hm'))
              | fail)
            have hpl : (Tn.escI (Hd.hdrL t r s qq ++ [241]) ++ [255, 239]).length ≤ 7000 := by
              have := esc_len (Hd.hdrL t r s qq ++ [241])
              simp [Hd.hdrL] at this ⊢
              omega
            have hob : exRL.out.length + 11000 * (Tn.escI (Hd.hdrL t r s qq ++ [241]) ++ [255, 239]).length ≤ 80000000 := by
              have h0 : exRL.out.length = 0 := rfl
              omega
            with_reducible refine (HTK.out L exR y exRL _ _ _ _ _ hpl HLK6.out HOK.out HO6.out.reads hob).mono ?_
            rintro e w7 ⟨v7, xs7, k7, y7, es7, rfl, hg, hr, hst, hlk, hok, hmv, -, hrow, hnew, hdat⟩
            obtain ⟨hk7, hl7⟩ := rec_told (c := exR) (k := exRL) (t := t) (r := r) (s := s) (q := qq) (p := [241]) exRK_st exRK_mode exRK_rc exRK_lg (by simp) hokH hqq hg hr (hst.trans (by
              rw [show exRL.st = .between from exRK_st]
              exact esc_runS _))
            subst hk7
            obtain ⟨⟨ev7, dv7⟩, rfl⟩ : ∃ z, xs7 = [z] := by
              have := congrArg List.length hl7
              rw [List.length_map] at this
              exact List.length_eq_one_iff.1 this
            have he7 : ev7 = ⟨kindH t, [241], ⟨t, r, s, qq⟩, true⟩ := by simpa using hl7
            subst he7
            obtain ⟨-, ⟨dx, dn, dc, hdv⟩, -⟩ := hdat _ (List.mem_singleton.2 rfl)
            dsimp only at hdv
            subst hdv
            have HB7 := hid (HB6.out.trans (hmv.toBelow HB6.out.size HNW.out))
            have HNW7 := hid (show ∀ b ∈ y7.foot L, w.heap.size ≤ b from fun b q => by
              rcases hmv.from' b q with r | r
              · exact HNW.out b r
              · exact Nat.le_trans HB6.out.size r)
            have HNF := hid (show hb ∉ y.foot L from HHF.out)
            have HBX7 := hid (HBX6.out.moved hmv HNF.out)
            have HNF7 := hid (show hb ∉ y7.foot L from foot_new hmv HN6.out HNF.out)
            have HN7 := hid (show hb < w7.heap.size from Nat.lt_of_lt_of_le HN6.out hmv.size)
            have HLK7 := hid hlk
            obtain ⟨g7, c7, hv7, hcell⟩ : ∃ g c, v7 = .slice (some ⟨g, 0, none⟩) 1 c ∧ ∀ j, j < 7 → w7.cell? ⟨g, j, none⟩ = (evC ⟨kindH t, [241], ⟨t, r, s, qq⟩, true⟩ (.slice dx dn dc))[j]? := by
              rcases hrow.2 with ⟨_, e⟩ | ⟨g, cap, cur, hv, _⟩
              · exact absurd e (by simp)
              · subst hv
                refine ⟨g, cap, rfl, fun j hj => ?_⟩
                have h1 := World.ownsRow.cellAt hrow j (by simpa using hj)
                have h2 := cellsV_at [(⟨kindH t, [241], ⟨t, r, s, qq⟩, true⟩, .slice dx dn dc)] 0 (by simp) j hj
                rw [Nat.zero_mul, Nat.zero_add] at h2
                exact h1.trans h2
            subst hv7
            have u0 : w7.cell? ⟨g7, 0, none⟩ = some (.int .i64 (kindH t)) := hcell 0 (by omega)
            have u1 : w7.cell? ⟨g7, 1, none⟩ = some (.slice dx dn dc) := hcell 1 (by omega)
            have u2 : w7.cell? ⟨g7, 2, none⟩ = some (.int .u8 t) := hcell 2 (by omega)
            have u3 : w7.cell? ⟨g7, 3, none⟩ = some (.int .u8 r) := hcell 3 (by omega)
            have u4 : w7.cell? ⟨g7, 4, none⟩ = some (.int .u8 s) := hcell 4 (by omega)
            have u5 : w7.cell? ⟨g7, 5, none⟩ = some (.int .u16 qq) := hcell 5 (by omega)
            have u6 : w7.cell? ⟨g7, 6, none⟩ = some (.bool true) := hcell 6 (by omega)
            have ul := World.block_lt_of_cell? w7 _ u0
            have HUS := hid (And.intro u0 (And.intro u1 (And.intro u2 (And.intro u3 (And.intro u4 (And.intro u5 (And.intro u6 ul)))))))
            clear hg hr hst hlk hok hmv hrow hnew hdat hl7 hcell u0 u1 u2 u3 u4 u5 u6 ul hpl hob
            go_wp2_with fail
            go_loopw [72, 14] (fun i got W => (i = .int .i64 0 ∧ got = .slice none 0 0 ∧ W = w7) ∨ (i = .int .i64 1 ∧ Hid (FinR w L hb t r s qq 0 got W))) (fun i _ _ => 1 - (RowKit.intOf i).toNat)
            case atStart => exact .inl ⟨rfl, rfl, rfl⟩
            case round =>
              rcases hrel with ⟨rfl, rfl, rfl⟩ | ⟨rfl, HF⟩
              · obtain ⟨u0, u1, u2, u3, u4, u5, u6, ul⟩ := HUS.out
                obtain ⟨W8, hW8⟩ : ∃ W8, wr.alloc (.cells #[.int .i64 (kindH t), .slice dx dn dc, .int .u8 t, .int .u8 r, .int .u8 s, .int .u16 qq, .bool true] 38) = W8 := ⟨_, rfl⟩
                have hb8 : Below wr.heap.size wr W8 := by rw [← hW8]; exact bal (Below.refl _ _) _
                have z0 : W8.cell? ⟨wr.heap.size, 0, none⟩ = some (.int .i64 (kindH t)) := by rw [← hW8]; simp [go_sem]
                have z1 : W8.cell? ⟨wr.heap.size, 1, none⟩ = some (.slice dx dn dc) := by rw [← hW8]; simp [go_sem]
                have z2 : W8.cell? ⟨wr.heap.size, 2, none⟩ = some (.int .u8 t) := by rw [← hW8]; simp [go_sem]
                have z3 : W8.cell? ⟨wr.heap.size, 3, none⟩ = some (.int .u8 r) := by rw [← hW8]; simp [go_sem]
                have z4 : W8.cell? ⟨wr.heap.size, 4, none⟩ = some (.int .u8 s) := by rw [← hW8]; simp [go_sem]
                have z5 : W8.cell? ⟨wr.heap.size, 5, none⟩ = some (.int .u16 qq) := by rw [← hW8]; simp [go_sem]
                have z6 : W8.cell? ⟨wr.heap.size, 6, none⟩ = some (.bool true) := by rw [← hW8]; simp [go_sem]
                have zl := World.block_lt_of_cell? W8 _ z0
                have HW8 := hid hW8
                have HB8 := hid hb8
                have HOW := hid (show Calls Tryz.prog 24 #[.agg #[.int .i64 (kindH t), .slice dx dn dc, .int .u8 t, .int .u8 r, .int .u8 s, .int .u16 qq, .bool true]] W8 (fun e w' => e = .returned (.agg #[.int .i64 (kindH t), .slice dx dn dc, .int .u8 t, .int .u8 r, .int .u8 s, .int .u16 qq, .bool true]) ∧ Below W8.heap.size W8 w') from own_ev_any (w := W8) ⟨kindH t, [241], ⟨t, r, s, qq⟩, true⟩ dx dn dc)
                have HRS := hid (fun W (h : LkM W L exR y7 exRL) => (show Calls Tryz.prog 23 #[.pointer (some ⟨L, 0, none⟩), .agg #[.int .i64 (kindH t), .slice dx dn dc, .int .u8 t, .int .u8 r, .int .u8 s, .int .u16 qq, .bool true], .int .i64 0] W (RespD L exR y7 exRL ⟨kindH t, [241], ⟨t, r, s, qq⟩, true⟩ 0 W) from respond_any (w := W) ⟨kindH t, [241], ⟨t, r, s, qq⟩, true⟩ dx dn dc 0 h HOK.out HFT.out (show (0 : Nat) ≤ 90000000 by decide)))
                clear hb8 hW8
                go_wp2_with fail
                (try simp only [HW8.out])
                go_wp2_with fail
                with_reducible refine HOW.out.mono ?_
                rintro e w9 ⟨rfl, hb9⟩
                have hb79 := below_t HB8.out hb9
                have HLK9 := hid (HLK7.out.step hb79)
                have HBX9 := hid (HBX7.out.moved (Moved.below hb79 []) (fun q => by cases q))
                have HB9 := hid (HB7.out.trans (hb79.mono HB7.out.size))
                have HN9 := hid (show hb < w9.heap.size from Nat.lt_of_lt_of_le HN7.out hb79.size)
                clear hb9 hb79 z0 z1 z2 z3 z4 z5 z6 zl u0 u1 u2 u3 u4 u5 u6 ul HOW
                go_wp2_with fail
                with_reducible refine (HRS.out _ HLK9.out).mono ?_
                rintro e w10 ⟨y10, rfl, hlk, hmv⟩
                have HLK10 := hid hlk
                have HOK10 := hid (respE_ok HOK.out (X := ⟨kindH t, [241], ⟨t, r, s, qq⟩, true⟩) 0)
                have HBX10 := hid (HBX9.out.moved hmv HNF7.out)
                have HB10 := hid (HB9.out.trans (hmv.toBelow HB9.out.size HNW7.out))
                have HNW10 := hid (show ∀ b ∈ y10.foot L, w.heap.size ≤ b from fun b q => by
                  rcases hmv.from' b q with r | r
                  · exact HNW7.out b r
                  · exact Nat.le_trans HB9.out.size r)
                have HNF10 := hid (foot_new hmv HN9.out HNF7.out)
                have HN10 := hid (show hb < w10.heap.size from Nat.lt_of_lt_of_le HN9.out hmv.size)
                clear hlk hmv HRS
                go_wp2_with fail
                with_reducible refine (HOU.out L exR y10 _ w10 HLK10.out HOK10.out).mono ?_
                rintro e w11 ⟨ox, on, oc, rfl, hoo, hlk, hmv, hof⟩
                have HFIN := hid (And.intro hlk (And.intro (show ∀ b ∈ Ly.foot { y10 with ov := .slice none 0 0 } L, w.heap.size ≤ b from fun b q => by
                  rcases hmv.from' b q with r | r
                  · exact HNW10.out b r
                  · exact Nat.le_trans HB10.out.size r) (HB10.out.trans (hmv.toBelow HB10.out.size HNW10.out))))
                have HOO := hid hoo.reads
                have HOL := hid (resp_len (t := t) (r := r) (s := s) (q := qq) 0)
                have HBX11 := hid (HBX10.out.moved hmv HNF10.out)
                clear hoo hlk hmv hof
                go_wp2_with (first
                  | (at_builtin; go_loud (refine wpList_append_ob rfl _ _ rfl _ _ [] _ rfl (OwnB.nil w11) (by first | rfl | simp [go_sem]) HOO.out (by have := HOL.out; simp at this ⊢; omega) ?_; intro x' n' c' w12 ho' hn' hm'; have HF12 := hid (show FinR w L hb t r s qq 0 (.slice x' n' c') w12 from FinR.of (HFIN.out.1.moved hm' (fun _ _ q => by cases q)) HFIN.out.2.1 (HFIN.out.2.2.trans (hm'.toBelow HFIN.out.2.2.size (fun _ q => by cases q))) (by rw [List.nil_append] at ho'; exact ho') (HBX11.out.moved hm' (fun q => by cases q))); clear ho' hn' hm'))
                  | fail)
                go_roundw
                case rel => exact .inr ⟨by go_num, HF12.out⟩
                case measure => simp [RowKit.intOf]
              · obtain ⟨y8, hlk, hnw, hbw, hgo, hbx⟩ := HF.out
                obtain ⟨a0, a1, a2, a3⟩ := hbx
                rw [← HHE.out] at a0 a1 a2 a3
                have al := World.block_lt_of_cell? wr _ a0
                have HLK8 := hid hlk
                have HNW8 := hid hnw
                have HBW8 := hid hbw
                have HGO8 := hid hgo
                obtain ⟨gx, gn, gc, rfl⟩ := own_slice hgo
                have HAN := hid (show Calls Tryz.prog 25 #[.agg #[.int .u8 t, .int .u8 r, .int .u8 s, .int .u16 qq], .int .i64 0] wr (CloneDone (Hd.ansL t s qq 0) wr) from Hd.ranswer_any t r s qq 0 wr HFT.out)
                clear hlk hnw hbw hgo
                go_wp2_with fail
                with_reducible refine HAN.out.mono ?_
                rintro e w9 ⟨v9, rfl, ho9, hb9, hk9⟩
                have HB9 := hid (HBW8.out.trans (hb9.mono HBW8.out.size))
                have HLK9 := hid (HLK8.out.step hb9)
                have HGO9 := hid (HGO8.out.step hb9)
                clear hb9 HAN a0 a1 a2 a3 al
                cases hab : Hd.ansB t s 0
                · have HG := hid (show OwnB w9 (.slice gx gn gc) [] from by have := HGO9.out; rw [hab] at this; exact this)
                  rw [ans_no hab] at ho9
                  obtain ⟨x9, c9, rfl⟩ := own_len ho9 0 rfl
                  have HS := hid (same_true (.slice gx gn gc) (.slice x9 0 c9) [] w9 HG.out.reads ho9.reads)
                  clear ho9 hk9
                  go_wp2_with fail
                  with_reducible refine HS.out.mono ?_
                  rintro e w10 ⟨rfl, rfl⟩
                  go_wp2
                  go_roundw
                  case rel => exact ⟨q + 1, by omega, by omega, by go_num, y8, HLK9.out, HNW8.out, HB9.out⟩
                  case measure => simp [RowKit.intOf]; omega
                · have HG := hid (show OwnB w9 (.slice gx gn gc) (recB (Hd.ansL t s qq 0)) from by have := HGO9.out; rw [hab] at this; exact this)
                  obtain ⟨hne, hle⟩ := ans_some (q := qq) hab
                  obtain ⟨x9, c9, hv9⟩ := own_len ho9 _ rfl
                  subst hv9
                  have hpos : (0 : Int) < ((Hd.ansL t s qq 0).length : Int) := by
                    have := List.length_pos_iff.2 hne
                    omega
                  have HO9 := hid ho9
                  have HAL := hid hle
                  have HK9 := hid (show ∀ b ∈ blkV (.slice x9 (Hd.ansL t s qq 0).length c9), w.heap.size ≤ b from fun b q => Nat.le_trans HBW8.out.size (hk9 b q))
                  obtain ⟨AL, hAL⟩ : ∃ AL, Hd.ansL t s qq 0 = AL := ⟨_, rfl⟩
                  rw [hAL] at HG HO9 HAL HK9 hpos ⊢
                  clear ho9 hk9 hne hle hAL
                  go_wp2_with fail
                  with_reducible refine (HESC.out _ _ _ HO9.out.reads (by have := HAL.out; omega)).mono ?_
                  rintro e w10 ⟨v10, rfl, ho10, hb10, hk10⟩
                  obtain ⟨ex2, en2, ec2, rfl⟩ := own_slice ho10
                  have HL10 := hid (own_lit w10 #[.int .u8 255, .int .u8 239] 2 [255, 239] (by simp) rfl rfl (by omega) _ rfl)
                  have hb1010 : Below w9.heap.size w9 (w10.alloc (.cells #[.int .u8 255, .int .u8 239] 5)) := bal hb10 _
                  have HO10 := hid (ho10.step (bal (Below.refl w10.heap.size w10) (.cells #[.int .u8 255, .int .u8 239] 5)))
                  have HB10 := hid (HB9.out.trans (hb1010.mono HB9.out.size))
                  have HLK10 := hid (HLK9.out.step hb1010)
                  have HG10 := hid (HG.out.step hb1010)
                  have HK10 := hid (show ∀ b ∈ blkV (.slice ex2 en2 ec2), w9.heap.size ≤ b from hk10)
                  have HFL9 := hid (HLK9.out.lt HOK.out)
                  have HGL9 := hid (OwnB.lt HG.out)
                  clear ho10 hb10 hk10 hb1010
                  go_wp2_with (first
                    | (at_builtin; go_loud (refine wpList_append_ob rfl _ _ rfl _ _ (Tn.escI AL) [255, 239] rfl HO10.out (by first | rfl | simp [go_sem]) HL10.out.reads (by have h1 := esc_len AL; have h2 := HAL.out; simp; omega) ?_; intro x' n' c' w11 ho' hn' hm'; have HS := hid (same_true (.slice gx gn gc) (.slice x' n' c') (recB AL) w11 (HG10.out.moved hm' (fun b q f => by have h1 := HK10.out b f; have h2 := HGL9.out b q; omega)).reads ho'.reads); have HLK11 := hid (HLK10.out.moved hm' (fun b q f => by have h1 := HK10.out b f; have h2 := HFL9.out b q; omega)); have HB11 := hid (HB10.out.trans (hm'.toBelow HB10.out.size (fun b q => Nat.le_trans HB9.out.size (HK10.out b q)))); clear ho' hn' hm'))
                    | fail)
                  with_reducible refine HS.out.mono ?_
                  rintro e w12 ⟨rfl, rfl⟩
                  go_wp2
                  go_roundw
                  case rel => exact ⟨q + 1, by omega, by omega, by go_num, y8, HLK11.out, HNW8.out, HB11.out⟩
                  case measure => simp [RowKit.intOf]; omega
      · have h10i : (10 : Int) ≤ q := by omega
        go_wp2_with fail
        (try simp only [HW0.out])
        go_wp2
        go_ret
        exact ⟨by simp, HBW0.out⟩
    · obtain rfl : q = N := by omega
      go_wp2
      go_ret
      exact ⟨by simp, HBW.out⟩
end
end Go.Proofs.YtaanpnmgibcemaaGreatDoor
