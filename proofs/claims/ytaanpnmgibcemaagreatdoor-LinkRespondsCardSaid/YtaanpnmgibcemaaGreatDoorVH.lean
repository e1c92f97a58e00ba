/-
  The law's example.
-/
import Derived.Test.YtaanpnmgibcemaaGreatDoorVG
import Derived.Test.YtaanpnmgibcemaaGreatDoorVE
namespace Go.Proofs.YtaanpnmgibcemaaGreatDoor
open Go.RowKit Go.Lib Go.Deep

theorem rises_le {fs : List Int} (h : Ng.risesL fs = true) : ∀ x ∈ fs, x ≤ 4 := fun x hx => by
  obtain ⟨i, hi, e⟩ := List.mem_iff_getElem.1 hx
  have := (of_decide_eq_true h i hi).1
  rw [List.getD_eq_getElem?_getD, List.getElem?_eq_getElem hi] at this
  simp at this
  omega
theorem newOK {T D : ByteArray} {fs : List Int} {b : Bool} (hT : T.size ≤ 1000) (hD : D.size ≤ 1000) (hl : fs.length ≤ 1000) (hf : ∀ x ∈ fs, 0 ≤ x ∧ x < 256) (h : cfErr T D fs = 0) : LkOK (cfOf T D fs b) Lk.new := by
  have hr : Ng.risesL fs = true := by
    unfold cfErr at h
    split at h
    · omega
    · split at h
      · omega
      · rename_i q
        simpa using q
  exact ⟨hT, hD, ⟨hl, fun x hx => ⟨(hf x hx).1, rises_le hr x hx⟩⟩, ⟨Int.le_refl 0, show (0 : Int) ≤ 4 by decide⟩, Nat.zero_le _, ⟨Nat.zero_le _, fun q => by cases q⟩, ⟨Int.le_refl 0, show (0 : Int) ≤ 32767 by decide⟩, trivial⟩
theorem lk_z {k k1 : Lk} (h : k.z = k1) (hs : k.st = .between) : k = k1 := by
  subst h
  obtain ⟨st, ms, es, dev, ag, rc, lg, out, sq⟩ := k
  dsimp only at hs
  subst hs
  rfl
/-- What is told and left, however the stream is read. -/
theorem taken_is {c : Cf} {k k' : Lk} {ps : List Int} {es : List Tn.Ev} {l : List Evt} (hg : Grps k.st ps es) (hr : runC c (fun n k _ => (n, k)) 0 k.z es = (0, k'.z, l)) : (runC c (fun n k _ => (n, k)) 0 k.z (Tn.emit k.st ps)).2.1 = k'.z ∧ mrgE l = mrgE (runC c (fun n k _ => (n, k)) 0 k.z (Tn.emit k.st ps)).2.2 := by
  have h := run_grps (c := c) (f := fun n k _ => (n, k)) (fun _ _ _ => rfl) hg 0 k.z
  rw [hr] at h
  exact ⟨h.2.1.symm, h.mrg⟩
def exC : Cf := cfOf ⟨#[84]⟩ ⟨#[]⟩ [] true
def exK : Lk := { Lk.new with ms := Op.upd (fun _ => 0) 40 1, out := [255, 251, 40] }
theorem ex_one : (runC exC (fun n k _ => (n, k)) 0 Lk.new.z (Tn.emit .between [255, 253, 40])).2.1 = exK := by kernel_rfl
theorem ex_two : (runC exC (fun n k _ => (n, k)) 0 { exK with out := [] }.z (Tn.emit .between [255, 250, 40, 8, 2, 255, 240])).2.1.out = [255, 250, 40, 2, 7, 84, 255, 240] := by kernel_rfl
theorem ex_err : cfErr ⟨#[84]⟩ ⟨#[]⟩ [] = 0 := by kernel_rfl
theorem ex_cut : Ng.cutS ⟨#[84]⟩ 45 = ⟨#[84]⟩ := by kernel_rfl
theorem ex_cut0 : Ng.cutS ⟨#[]⟩ 45 = ⟨#[]⟩ := by kernel_rfl
section
variable {L : Nat} {c : Cf} {y : Ly} {k : Lk} {w : World}
theorem LkM.setOutE {w2 : World} {v' : Value} {out' : List Int} (h : LkM w L c y k) (hk : LkOK c k) (m : Moved w w2 (blkV y.ov) (blkV v')) (ho : OwnB w2 v' out') : LkM (w2.setCell ⟨L, 4, none⟩ v') L c { y with ov := v' } { k with out := out' } ∧ Moved w (w2.setCell ⟨L, 4, none⟩ v') (y.foot L) (Ly.foot { y with ov := v' } L) := by
  have hn : L ∉ blkV v' := fun q => by
    rcases m.from' L q with e | e
    · exact h.ln e
    · have := h.b.lt; omega
  have hb2 : LkB w2 L y k.sq := (m.block L h.b.lt h.ln).trans h.b
  have hb3 : LkB (w2.setCell ⟨L, 4, none⟩ v') L { y with ov := v' } k.sq := Go.heap_setCell_same w2 L 4 _ 84 v' hb2
  refine h.buffer hk (w' := w2.setCell ⟨L, 4, none⟩ v') (sq' := k.sq) ?_ hb3 (ho.moved (Moved.set (S := [L]) (by simp) 4 v') (fun b q e => hn (by rw [← List.mem_singleton.1 e]; exact q))) hn
  refine (m.sub (T := L :: blkV y.ov) (T' := L :: blkV v') (fun b q => List.mem_cons_of_mem _ q) (fun b q => ?_)).trans (Moved.set (by simp) 4 v')
  rcases List.mem_cons.1 q with rfl | q
  · exact .inr (by simp)
  · exact .inl q
/-- What waited was given away: it is no part of the link any more. -/
def OutE (L : Nat) (c : Cf) (y : Ly) (k : Lk) (w : World) (e : Ending) (w' : World) : Prop := ∃ x n cc, e = .returned (.slice x n cc) ∧ OwnB w' (.slice x n cc) k.out ∧ LkM w' L c { y with ov := .slice none 0 0 } { k with out := [] } ∧ Moved w w' (y.foot L) (Ly.foot { y with ov := .slice none 0 0 } L) ∧ ∀ b ∈ blkV (.slice x n cc), b ∈ y.foot L ∧ b ∉ Ly.foot { y with ov := .slice none 0 0 } L
theorem ov_apart (h : LkM w L c y k) {v : Value} (hv : blkV v = []) : ∀ b ∈ blkV y.ov, b ∉ Ly.foot { y with ov := v } L := fun b q f => by
  obtain ⟨lab, s⟩ := h.sep
  have hb := s.ov b q
  rcases mem_foot.1 f with e | e | e | e | e | e | e | e | e | e
  · exact h.ln (e ▸ q)
  · have e' : b ∈ blkV v := e
    rw [hv] at e'
    cases e'
  · have := s.r; rw [← e, hb] at this; cases this
  · have := s.d b e; rw [hb] at this; cases this
  · have := s.m; rw [← e, hb] at this; cases this
  · have := s.e; rw [← e, hb] at this; cases this
  · have := s.sv b e; rw [hb] at this; cases this
  · have := s.av b e; rw [hb] at this; cases this
  · have := s.k; rw [← e, hb] at this; cases this
  · have := s.rd b e; rw [hb] at this; cases this
set_option maxRecDepth 100000 in
theorem outE_any (h : LkM w L c y k) (hk : LkOK c k) : Calls Tryz.prog 14 #[.pointer (some ⟨L, 0, none⟩)] w (OutE L c y k w) := by
  have c4 := h.b.c4
  have f4 := h.b.free 4
  have hL := h.b.lt
  obtain ⟨ox, on, oc, hov⟩ := own_slice h.out
  rw [hov] at c4
  have HX := hid (h.setOutE hk (Moved.refl w _ |> fun m => (⟨m.os, m.tape, m.output, m.size, m.block, fun b q => by cases q⟩ : Moved w w (blkV y.ov) (blkV (.slice none 0 0)))) (OwnB.nil w))
  have HO := hid (show OwnB (w.setCell ⟨L, 4, none⟩ (.slice none 0 0)) (.slice ox on oc) k.out by
    rw [← hov]
    exact h.out.moved (Moved.set (S := [L]) (by simp) 4 _) (fun b q e => h.ln (by rw [← List.mem_singleton.1 e]; exact q)))
  have HK := hid (show ∀ b ∈ blkV (.slice ox on oc), b ∈ y.foot L ∧ b ∉ Ly.foot { y with ov := .slice none 0 0 } L by rw [← hov]; exact fun b q => ⟨mem_foot.2 (.inr (.inl q)), ov_apart h rfl b q⟩)
  clear h hov
  go_enter Tryz.func14, Tryz.ntmps14
  go_wp2
  go_ret
  exact ⟨_, _, _, rfl, HO.out, HX.out.1, HX.out.2, HK.out⟩
end
section
variable {w : World}
set_option maxRecDepth 100000 in
set_option maxHeartbeats 4000000 in
theorem awake11 (w : World) : Calls Tryz.prog 8 #[] w fun e w' => e = .returned (.bool true) ∧ Below w.heap.size w w' := by
  have HLY := hid (lay_any (w := w) ⟨#[84]⟩ ⟨#[]⟩ none 0 0 [] true ⟨fun _ q => (by cases q), .inl ⟨rfl, rfl⟩⟩ (by decide) (by decide))
  rw [ex_cut, ex_cut0, show List.take 8 ([] : List Int) = [] from rfl] at HLY
  have HTK := hid (fun L c y k W n x cc ps (hl : ps.length ≤ 7000) (h : LkM W L c y k) (hk : LkOK c k) (hp : Reads W (.slice x n cc) ps) ho => callsIn_wide.1 (take_in (w := W) 6 (by omega) (.slice x n cc) ps hl h hk hp ho))
  have HOU := hid (fun L c y k W (h : LkM W L c y k) (hk : LkOK c k) => outE_any (w := W) h hk)
  unfold LayD at HLY
  rw [ex_err] at HLY
  go_enter Tryz.func8, Tryz.ntmps8
  go_wp2_with fail
  with_reducible refine HLY.out.mono ?_
  rintro e w1 ⟨p1, v1, z1, rfl, hb1, hl1⟩
  obtain ⟨L, y, rfl, hlk, hnew⟩ := hl1 (by first | rfl | trivial)
  have HB1 := hid hb1
  have HNW := hid hnew
  have HLK := hid hlk
  have HOK := hid (show LkOK exC Lk.new from newOK (by decide) (by decide) (by simp) (fun _ q => by cases q) ex_err)
  clear hb1 hl1 hlk hnew HLY
  have HX1 := hid (own_lit w1 #[.int .u8 255, .int .u8 253, .int .u8 40] 3 [255, 253, 40] (by simp) rfl rfl (by omega) _ rfl)
  have HLK1 := hid (HLK.out.step (bal (Below.refl _ _) (.cells #[.int .u8 255, .int .u8 253, .int .u8 40] 5)))
  have HQ1 := hid (HTK.out L exC y Lk.new _ 3 _ _ [255, 253, 40] (by simp) HLK1.out HOK.out HX1.out.reads (by decide))
  go_wp2_with fail
  with_reducible refine HQ1.out.mono ?_
  rintro e w2 ⟨v2, xs2, k2, y2, es2, rfl, hg, hr, hst, hlk, hok, hmv, ho, -, -, -⟩
  obtain ⟨hz, -⟩ := taken_is hg hr
  have hk2 : k2 = exK := lk_z (hz.symm.trans ex_one) (hst.trans rfl)
  subst hk2
  have HB2 := hid ((bal HB1.out (.cells #[.int .u8 255, .int .u8 253, .int .u8 40] 5)).trans (hmv.toBelow (bal HB1.out (.cells #[.int .u8 255, .int .u8 253, .int .u8 40] 5)).size (fun b q => HNW.out b q)))
  have HN2 := hid (show ∀ b ∈ y2.foot L, w.heap.size ≤ b from fun b q => by
    rcases hmv.from' b q with r | r
    · exact HNW.out b r
    · exact Nat.le_trans (bal HB1.out (.cells #[.int .u8 255, .int .u8 253, .int .u8 40] 5)).size r)
  have HLK2 := hid hlk
  have HOK2 := hid hok
  clear hg hr hst hlk hok hmv ho hz HLK HOK HX1 HLK1 HQ1 HNW
  go_wp2_with fail
  with_reducible refine (HOU.out L exC y2 exK w2 HLK2.out HOK2.out).mono ?_
  rintro e w3 ⟨ax, an, ac, rfl, ha, hlk3, hm3, hab⟩
  have HB3 := hid (HB2.out.trans (hm3.toBelow HB2.out.size HN2.out))
  have HN3 := hid (show ∀ b ∈ Ly.foot { y2 with ov := .slice none 0 0 } L, w.heap.size ≤ b from fun b q => by
    rcases hm3.from' b q with r | r
    · exact HN2.out b r
    · exact Nat.le_trans HB2.out.size r)
  have HLK3 := hid hlk3
  have HOK3 := hid (HOK2.out.out [])
  have HA3 := hid ha
  have HAB := hid hab
  clear ha hlk3 hm3 hab HLK2 HOK2 HN2
  have HX3 := hid (own_lit w3 #[.int .u8 255, .int .u8 250, .int .u8 40, .int .u8 8, .int .u8 2, .int .u8 255, .int .u8 240] 7 [255, 250, 40, 8, 2, 255, 240] (by simp) rfl rfl (by omega) _ rfl)
  have HLK4 := hid (HLK3.out.step (bal (Below.refl _ _) (.cells #[.int .u8 255, .int .u8 250, .int .u8 40, .int .u8 8, .int .u8 2, .int .u8 255, .int .u8 240] 5)))
  have HA4 := hid (HA3.out.step (bal (Below.refl _ _) (.cells #[.int .u8 255, .int .u8 250, .int .u8 40, .int .u8 8, .int .u8 2, .int .u8 255, .int .u8 240] 5)))
  have HQ3 := hid (HTK.out L exC _ _ _ 7 _ _ [255, 250, 40, 8, 2, 255, 240] (by simp) HLK4.out HOK3.out HX3.out.reads (by decide))
  go_wp2_with fail
  with_reducible refine HQ3.out.mono ?_
  rintro e w5 ⟨v5, xs5, k5, y5, es5, rfl, hg, hr, hst, hlk, hok, hmv, ho, -, -, -⟩
  obtain ⟨hz, -⟩ := taken_is hg hr
  have hk5 : k5.out = [255, 250, 40, 2, 7, 84, 255, 240] := by
    have h1 : k5.z.out = k5.out := rfl
    rw [← h1, ← hz]
    exact ex_two
  have HK5 := hid hk5
  have HB5 := hid ((bal HB3.out (.cells #[.int .u8 255, .int .u8 250, .int .u8 40, .int .u8 8, .int .u8 2, .int .u8 255, .int .u8 240] 5)).trans (hmv.toBelow (bal HB3.out (.cells #[.int .u8 255, .int .u8 250, .int .u8 40, .int .u8 8, .int .u8 2, .int .u8 255, .int .u8 240] 5)).size (fun b q => HN3.out b q)))
  have HN5 := hid (show ∀ b ∈ y5.foot L, w.heap.size ≤ b from fun b q => by
    rcases hmv.from' b q with r | r
    · exact HN3.out b r
    · exact Nat.le_trans (bal HB3.out (.cells #[.int .u8 255, .int .u8 250, .int .u8 40, .int .u8 8, .int .u8 2, .int .u8 255, .int .u8 240] 5)).size r)
  have HA5 := hid (HA4.out.moved hmv (fun b q => (HAB.out b q).2))
  have HLK5 := hid hlk
  have HOK5 := hid hok
  clear hg hr hst hlk hok hmv ho hz hk5 HLK3 HOK3 HX3 HLK4 HQ3 HN3 HA3 HA4 HAB
  have HX5 := hid (own_lit w5 #[.int .u8 255, .int .u8 251, .int .u8 40] 3 [255, 251, 40] (by simp) rfl rfl (by omega) _ rfl)
  have HS5 := hid (same_true _ _ [255, 251, 40] _ (HA5.out.reads |> fun h => reads_below h (bal (Below.refl _ _) (.cells #[.int .u8 255, .int .u8 251, .int .u8 40] 5))) HX5.out.reads)
  go_wp2_with fail
  with_reducible refine HS5.out.mono ?_
  rintro e w9 ⟨rfl, rfl⟩
  go_wp2_with fail
  with_reducible refine (HOU.out L exC y5 k5 _ (HLK5.out.step (bal (Below.refl _ _) (.cells #[.int .u8 255, .int .u8 251, .int .u8 40] 5))) HOK5.out).mono ?_
  rintro e w6 ⟨bx, bn, bc, rfl, hb, -, hm6, -⟩
  rw [HK5.out] at hb
  have HB6 := hid ((bal HB5.out (.cells #[.int .u8 255, .int .u8 251, .int .u8 40] 5)).trans (hm6.toBelow (bal HB5.out (.cells #[.int .u8 255, .int .u8 251, .int .u8 40] 5)).size HN5.out))
  have HX6 := hid (own_lit w6 #[.int .u8 255, .int .u8 250, .int .u8 40, .int .u8 2, .int .u8 7, .int .u8 84, .int .u8 255, .int .u8 240] 8 [255, 250, 40, 2, 7, 84, 255, 240] (by simp) rfl rfl (by omega) _ rfl)
  have HS6 := hid (same_true _ _ [255, 250, 40, 2, 7, 84, 255, 240] _ (reads_below hb.reads (bal (Below.refl _ _) (.cells #[.int .u8 255, .int .u8 250, .int .u8 40, .int .u8 2, .int .u8 7, .int .u8 84, .int .u8 255, .int .u8 240] 5))) HX6.out.reads)
  clear hb hm6
  go_wp2_with fail
  with_reducible refine HS6.out.mono ?_
  rintro e w9 ⟨rfl, rfl⟩
  go_wp2
  go_ret
  exact ⟨rfl, bal HB6.out _⟩
end
end Go.Proofs.YtaanpnmgibcemaaGreatDoor
