/-
  What comes of a command.
-/
import Derived.Test.YtaanpnmgibcemaaGreatDoorVh
namespace Go.Proofs.YtaanpnmgibcemaaGreatDoor
open Go.RowKit Go.Lib

section
variable {L : Nat} {c : Cf} {y y' : Ly} {k k' : Lk} {w W1 w2 : World}
/-- What a record was is no part of the link behind it. -/
theorem rd_free (h : LkM w L c y k) : ∀ b ∈ blkV y.rd, b ∉ Ly.foot { y with rd := .slice none 0 0 } L := fun b hb q => by
  obtain ⟨lab, hs⟩ := h.sep
  have hl := hs.rd b hb
  rcases mem_foot.1 q with q | q | q | q | q | q | q | q | q | q
  · rw [q, hs.l] at hl; cases hl
  · rw [hs.ov b q] at hl; cases hl
  · rw [show b = y.R from q, hs.r] at hl; cases hl
  · rw [hs.d b q] at hl; cases hl
  · rw [show b = y.M from q, hs.m] at hl; cases hl
  · rw [show b = y.E from q, hs.e] at hl; cases hl
  · rw [hs.sv b q] at hl; cases hl
  · rw [hs.av b q] at hl; cases hl
  · exact h.mr.n (by rw [← show b = y.K from q]; exact hb)
  · cases q
/-- Data that are given away stay as they are. -/
theorem reads_out {v : Value} {xs : List Int} (h : Reads w2 v xs) {b : Nat} (v0 v1 v2 v3 v4 v5 v6 : Value) (hb : b ∉ blkV v) : Reads (put7 w2 b v0 v1 v2 v3 v4 v5 v6) v xs := reads_moved h (put7_moved w2 b v0 v1 v2 v3 v4 v5 v6) (fun j q e => hb (by rw [← List.mem_singleton.1 e]; exact q))
theorem basicX_any (x : Option Addr) (n cc : Nat) (lg : Bool) (rc : List Int) (w : World) (h : Reads w (.slice x n cc) rc) (_ : rc.length ≤ 100000) : Calls Tryz.prog 94 #[.agg #[.slice x n cc, .bool lg]] w (EvX (evtOf 1 rc lg) (.slice x n cc) w) := by
  refine (basicEvent_any x n cc lg rc w).mono ?_
  rintro e w' ⟨rfl, hb⟩
  cases lg
  · exact ⟨_, rfl, hb, ⟨_, _, _, rfl⟩, reads_below h hb, .inr rfl⟩
  · exact ⟨_, rfl, hb, ⟨_, _, _, rfl⟩, reads_nil _, .inl (fun _ q => by cases q)⟩
set_option maxRecDepth 100000 in
set_option maxHeartbeats 4000000 in
theorem takeCommand_any (v : Int) (h : LkM w L c y k) (hk : LkOK c k) (ob : Int) (ds : List Int) (lg br : Bool) : Calls Tryz.prog 83 #[.pointer (some ⟨L, 0, none⟩), .int .u8 v] w (PrD L c y (procE c k ⟨1, v, ob, ds, lg, br⟩) [] w) := by
  have hb0 := bal (Below.refl w.heap.size w) (.cells #[.int .i64 0, .slice none 0 0, .int .u8 0, .int .u8 0, .int .u8 0, .int .u16 0, .bool false] 56)
  have hx := Box7.new (v0 := .int .i64 0) (v1 := .slice none 0 0) (v2 := .int .u8 0) (v3 := .int .u8 0) (v4 := .int .u8 0) (v5 := .int .u16 0) (v6 := .bool false) w 56
  have HM := hid (mode_any L c y k _ (h.step hb0))
  have HB0 := hid hb0
  have HX := hid hx
  have HH := hid h
  by_cases hv : v = 239
  · subst hv
    rcases mode_cases k.ms k.es with hm | hm | hm
    all_goals change k.mode = _ at hm
    · rw [show procE c k ⟨1, 239, ob, ds, lg, br⟩ = (k, none) by unfold procE; rw [if_neg (fun q => by cases q), if_pos rfl, if_neg (fun q => q.2 hm)]]
      rw [hm] at HM
      clear h hb0 hx hm
      go_enter Tryz.func83, Tryz.ntmps83
      go_wp2_with fail
      with_reducible refine HM.out.mono ?_
      rintro e w1 ⟨rfl, hb1⟩
      have HBW := hid (below_t HB0.out hb1)
      have hbs : w.heap.size < w1.heap.size := Nat.lt_of_lt_of_le (by simp) hb1.size
      have h2 := HH.out.step HBW.out
      have hx2 := HX.out.step hb1
      have HPX := hid (hx2.put (.int .i64 0) (.slice none 0 0) (.int .u8 0) (.int .u8 0) (.int .u8 0) (.int .u16 0) (.bool false))
      have HF := hid (prd_put HH.out hk HBW.out hbs h2 (Moved.refl _ _) (.int .i64 0) (.slice none 0 0) (.int .u8 0) (.int .u8 0) (.int .u8 0) (.int .u16 0) (.bool false))
      obtain ⟨c0, c1, c2, c3, c4, c5, c6, fr⟩ := hx2
      have f0 := fr 0 (by omega)
      have f1 := fr 1 (by omega)
      have f2 := fr 2 (by omega)
      have f3 := fr 3 (by omega)
      have f4 := fr 4 (by omega)
      have f5 := fr 5 (by omega)
      have f6 := fr 6 (by omega)
      clear fr h2 hb1
      go_wp2
      revert HPX HF
      generalize hW : put7 w1 w.heap.size (.int .i64 0) (.slice none 0 0) (.int .u8 0) (.int .u8 0) (.int .u8 0) (.int .u16 0) (.bool false) = Wf
      intro HPX HF
      obtain ⟨k0, k1, k2, k3, k4, k5, k6, -⟩ := HPX.out
      unfold put7 at hW
      rw [hW]
      clear hW
      exact bodyPost_ret (v := .tuple #[evV ⟨0, [], noH, false⟩ (.slice none 0 0), .bool false]) (by simp [results, Tryz.results83, go_sem, k0, k1, k2, k3, k4, k5, k6, evV, noH]) rfl ⟨_, _, _, rfl, HF.out.1, HF.out.2, ⟨_, _, _, rfl⟩, fun x' e => (by cases e), fun b q => (by cases q)⟩
    · rw [show procE c k ⟨1, 239, ob, ds, lg, br⟩ = (k.drop, some (evtOf 1 k.rc k.lg)) by simp only [procE, hm]; rfl]
      rw [hm] at HM
      have HE := hid (fun W (hW : Below w.heap.size w W) => end_any (h.step hW).mr)
      have HRD := hid (rd_free h)
      have HRL := hid (h.mr.rlt hk.rc.2)
      have HKF := hid (show ∀ b ∈ blkV y.rd, b ≠ y.K from fun b q e => h.mr.n (by rw [← e]; exact q))
      have c3 := h.b.c3
      have hL := h.b.lt
      have HRR := hid h.mr.reads
      obtain ⟨rx, rn, rcc, hrd⟩ := h.mr.slice
      have HRI := hid (show ∀ b ∈ blkV y.rd, b ∈ y.foot L from fun b q => mem_foot.2 (by simp [q]))
      rw [hrd] at HE HRD HRR HRL HKF HRI
      have hlen := hk.rc.1
      have HKD := hid (show LkOK c k.drop from ⟨hk.T, hk.D, hk.fs, hk.es, hk.ag, ⟨Nat.zero_le _, fun q => by cases q⟩, hk.sq, hk.st⟩)
      have HCALL := hid (fun W (hW : Reads W (.slice rx rn rcc) k.rc) => basicX_any rx rn rcc k.lg k.rc W hW (by omega))
      generalize evtOf 1 k.rc k.lg = X at HCALL ⊢
      clear h hb0 hx hm hlen
      go_enter Tryz.func83, Tryz.ntmps83
      go_wp2_with fail
      with_reducible refine HM.out.mono ?_
      rintro e w1 ⟨rfl, hb1⟩
      have HBW := hid (below_t HB0.out hb1)
      have hbs : w.heap.size < w1.heap.size := Nat.lt_of_lt_of_le (by simp) hb1.size
      have HX1 := hid (HX.out.step hb1)
      have c31 := keepc HBW.out c3
      have HE1 := hid (HE.out w1 HBW.out)
      clear hb1 HX HE
      go_wp2_with fail
      with_reducible refine HE1.out.mono ?_
      rintro e w2 ⟨rfl, hmk, hmv⟩
      obtain ⟨h2, m2⟩ := (HH.out.step HBW.out).maker hk (hmv.sub (T := y.K :: blkV y.rd) (T' := y.K :: blkV (.slice none 0 0)) (fun b q => by rw [List.mem_singleton.1 q]; simp) (fun b q => .inl q)) hmk (fun b q => by cases q)
      have H2 := hid h2
      have M2 := hid m2
      have HX2 := hid (box_kept HH.out hk HX1.out m2)
      have HC := hid (HCALL.out w2 (reads_moved (reads_below HRR.out HBW.out) hmv (fun b q e => HKF.out b q (List.mem_singleton.1 e))))
      clear hmk hmv h2 m2
      go_wp2_with fail
      with_reducible refine HC.out.mono ?_
      rintro e w3 ⟨dv, rfl, hb3, ⟨da, dn, dc, rfl⟩, hr3, hdv⟩
      unfold evV
      have h3 := H2.out.step hb3
      have m3 := M2.out.trans (Moved.below hb3 _)
      have hx3 := HX2.out.step hb3
      have HPX := hid (hx3.put (.int .i64 X.kind) (.slice da dn dc) (.int .u8 X.hdr.t) (.int .u8 X.hdr.r) (.int .u8 X.hdr.s) (.int .u16 X.hdr.q) (.bool X.headed))
      have HF := hid (prd_put HH.out hk HBW.out hbs h3 m3 (.int .i64 X.kind) (.slice da dn dc) (.int .u8 X.hdr.t) (.int .u8 X.hdr.r) (.int .u8 X.hdr.s) (.int .u16 X.hdr.q) (.bool X.headed))
      have hn : w.heap.size ∉ blkV (.slice da dn dc) := fun q => by
        rcases hdv with f | f
        · have h1 := f _ q
          have h2 : w.heap.size < w2.heap.size := Nat.lt_of_lt_of_le hbs M2.out.size
          omega
        · rw [f] at q
          have := HRL.out _ q
          omega
      have HFR := hid (show ∀ b ∈ blkV (.slice da dn dc), b ∉ Ly.foot { y with rd := .slice none 0 0 } L from fun b q e => by
        rcases hdv with f | f
        · have h1 := f _ q
          have h2 := H2.out.lt HKD.out b e
          omega
        · rw [f] at q
          exact HRD.out b q e)
      have HSR := hid (show ∀ b ∈ blkV (.slice da dn dc), b ∈ ([] : List Nat) ∨ b ∈ y.foot L ∨ w.heap.size ≤ b from fun b q => by
        rcases hdv with f | f
        · have h1 := f b q
          have h2 : w.heap.size < w2.heap.size := Nat.lt_of_lt_of_le hbs M2.out.size
          exact .inr (.inr (by omega))
        · rw [f] at q
          exact .inr (.inl (HRI.out b q)))
      have HRF := hid (reads_out hr3 (.int .i64 X.kind) (.slice da dn dc) (.int .u8 X.hdr.t) (.int .u8 X.hdr.r) (.int .u8 X.hdr.s) (.int .u16 X.hdr.q) (.bool X.headed) hn)
      obtain ⟨c0, c1, c2, cx3, c4, c5, c6, fr⟩ := hx3
      have f0 := fr 0 (by omega)
      have f1 := fr 1 (by omega)
      have f2 := fr 2 (by omega)
      have f3 := fr 3 (by omega)
      have f4 := fr 4 (by omega)
      have f5 := fr 5 (by omega)
      have f6 := fr 6 (by omega)
      clear fr h3 m3 hb3 hn hr3 hdv HCALL
      go_wp2
      revert HPX HF HRF
      generalize hW : put7 w3 w.heap.size (.int .i64 X.kind) (.slice da dn dc) (.int .u8 X.hdr.t) (.int .u8 X.hdr.r) (.int .u8 X.hdr.s) (.int .u16 X.hdr.q) (.bool X.headed) = Wf
      intro HPX HF HRF
      obtain ⟨k0, k1, k2, k3, k4, k5, k6, -⟩ := HPX.out
      unfold put7 at hW
      rw [hW]
      clear hW
      refine bodyPost_ret (v := .tuple #[evV X (.slice da dn dc), .bool true]) (by simp [results, Tryz.results83, go_sem, k0, k1, k2, k3, k4, k5, k6, evV]) rfl ⟨X, _, _, rfl, HF.out.1, HF.out.2, ⟨_, _, _, rfl⟩, fun x' e => ?_, HSR.out⟩
      cases e
      exact ⟨rfl, HRF.out, HFR.out⟩
    · rw [show procE c k ⟨1, 239, ob, ds, lg, br⟩ = (k.drop, some (evtOf 2 k.rc k.lg)) by simp only [procE, hm]; rfl]
      rw [hm] at HM
      have HE := hid (fun W (hW : Below w.heap.size w W) => end_any (h.step hW).mr)
      have HRD := hid (rd_free h)
      have HRL := hid (h.mr.rlt hk.rc.2)
      have HKF := hid (show ∀ b ∈ blkV y.rd, b ≠ y.K from fun b q e => h.mr.n (by rw [← e]; exact q))
      have c3 := h.b.c3
      have hL := h.b.lt
      have HRR := hid h.mr.reads
      obtain ⟨rx, rn, rcc, hrd⟩ := h.mr.slice
      have HRI := hid (show ∀ b ∈ blkV y.rd, b ∈ y.foot L from fun b q => mem_foot.2 (by simp [q]))
      rw [hrd] at HE HRD HRR HRL HKF HRI
      have hlen := hk.rc.1
      have HKD := hid (show LkOK c k.drop from ⟨hk.T, hk.D, hk.fs, hk.es, hk.ag, ⟨Nat.zero_le _, fun q => by cases q⟩, hk.sq, hk.st⟩)
      have HCALL := hid (fun W (hW : Reads W (.slice rx rn rcc) k.rc) => ext_any rx rn rcc k.lg k.rc W hW (by omega))
      generalize evtOf 2 k.rc k.lg = X at HCALL ⊢
      clear h hb0 hx hm hlen
      go_enter Tryz.func83, Tryz.ntmps83
      go_wp2_with fail
      with_reducible refine HM.out.mono ?_
      rintro e w1 ⟨rfl, hb1⟩
      have HBW := hid (below_t HB0.out hb1)
      have hbs : w.heap.size < w1.heap.size := Nat.lt_of_lt_of_le (by simp) hb1.size
      have HX1 := hid (HX.out.step hb1)
      have c31 := keepc HBW.out c3
      have HE1 := hid (HE.out w1 HBW.out)
      clear hb1 HX HE
      go_wp2_with fail
      with_reducible refine HE1.out.mono ?_
      rintro e w2 ⟨rfl, hmk, hmv⟩
      obtain ⟨h2, m2⟩ := (HH.out.step HBW.out).maker hk (hmv.sub (T := y.K :: blkV y.rd) (T' := y.K :: blkV (.slice none 0 0)) (fun b q => by rw [List.mem_singleton.1 q]; simp) (fun b q => .inl q)) hmk (fun b q => by cases q)
      have H2 := hid h2
      have M2 := hid m2
      have HX2 := hid (box_kept HH.out hk HX1.out m2)
      have HC := hid (HCALL.out w2 (reads_moved (reads_below HRR.out HBW.out) hmv (fun b q e => HKF.out b q (List.mem_singleton.1 e))))
      clear hmk hmv h2 m2
      go_wp2_with fail
      with_reducible refine HC.out.mono ?_
      rintro e w3 ⟨dv, rfl, hb3, ⟨da, dn, dc, rfl⟩, hr3, hdv⟩
      unfold evV
      have h3 := H2.out.step hb3
      have m3 := M2.out.trans (Moved.below hb3 _)
      have hx3 := HX2.out.step hb3
      have HPX := hid (hx3.put (.int .i64 X.kind) (.slice da dn dc) (.int .u8 X.hdr.t) (.int .u8 X.hdr.r) (.int .u8 X.hdr.s) (.int .u16 X.hdr.q) (.bool X.headed))
      have HF := hid (prd_put HH.out hk HBW.out hbs h3 m3 (.int .i64 X.kind) (.slice da dn dc) (.int .u8 X.hdr.t) (.int .u8 X.hdr.r) (.int .u8 X.hdr.s) (.int .u16 X.hdr.q) (.bool X.headed))
      have hn : w.heap.size ∉ blkV (.slice da dn dc) := fun q => by
        rcases hdv with f | f
        · have h1 := f _ q
          have h2 : w.heap.size < w2.heap.size := Nat.lt_of_lt_of_le hbs M2.out.size
          omega
        · rw [f] at q
          have := HRL.out _ q
          omega
      have HFR := hid (show ∀ b ∈ blkV (.slice da dn dc), b ∉ Ly.foot { y with rd := .slice none 0 0 } L from fun b q e => by
        rcases hdv with f | f
        · have h1 := f _ q
          have h2 := H2.out.lt HKD.out b e
          omega
        · rw [f] at q
          exact HRD.out b q e)
      have HSR := hid (show ∀ b ∈ blkV (.slice da dn dc), b ∈ ([] : List Nat) ∨ b ∈ y.foot L ∨ w.heap.size ≤ b from fun b q => by
        rcases hdv with f | f
        · have h1 := f b q
          have h2 : w.heap.size < w2.heap.size := Nat.lt_of_lt_of_le hbs M2.out.size
          exact .inr (.inr (by omega))
        · rw [f] at q
          exact .inr (.inl (HRI.out b q)))
      have HRF := hid (reads_out hr3 (.int .i64 X.kind) (.slice da dn dc) (.int .u8 X.hdr.t) (.int .u8 X.hdr.r) (.int .u8 X.hdr.s) (.int .u16 X.hdr.q) (.bool X.headed) hn)
      obtain ⟨c0, c1, c2, cx3, c4, c5, c6, fr⟩ := hx3
      have f0 := fr 0 (by omega)
      have f1 := fr 1 (by omega)
      have f2 := fr 2 (by omega)
      have f3 := fr 3 (by omega)
      have f4 := fr 4 (by omega)
      have f5 := fr 5 (by omega)
      have f6 := fr 6 (by omega)
      clear fr h3 m3 hb3 hn hr3 hdv HCALL
      go_wp2
      revert HPX HF HRF
      generalize hW : put7 w3 w.heap.size (.int .i64 X.kind) (.slice da dn dc) (.int .u8 X.hdr.t) (.int .u8 X.hdr.r) (.int .u8 X.hdr.s) (.int .u16 X.hdr.q) (.bool X.headed) = Wf
      intro HPX HF HRF
      obtain ⟨k0, k1, k2, k3, k4, k5, k6, -⟩ := HPX.out
      unfold put7 at hW
      rw [hW]
      clear hW
      refine bodyPost_ret (v := .tuple #[evV X (.slice da dn dc), .bool true]) (by simp [results, Tryz.results83, go_sem, k0, k1, k2, k3, k4, k5, k6, evV]) rfl ⟨X, _, _, rfl, HF.out.1, HF.out.2, ⟨_, _, _, rfl⟩, fun x' e => ?_, HSR.out⟩
      cases e
      exact ⟨rfl, HRF.out, HFR.out⟩
  · have hv0 : (v != 239) = true := by simpa using hv
    rw [show procE c k ⟨1, v, ob, ds, lg, br⟩ = (k, none) by unfold procE; rw [if_neg (fun q => by cases q), if_pos rfl, if_neg (fun q => hv q.1)]]
    have HN := hid (h.fresh hk (Nat.le_refl _))
    clear h hb0 hx hv HM
    go_enter Tryz.func83, Tryz.ntmps83
    go_wp2
    exact bodyPost_ret (v := .tuple #[evV ⟨0, [], noH, false⟩ (.slice none 0 0), .bool false]) (by simp [results, Tryz.results83, go_sem, evV, noH]) rfl ⟨_, _, y, rfl, HH.out.step HB0.out, Moved.below HB0.out _, ⟨_, _, _, rfl⟩, fun x' e => (by cases e), fun b q => (by cases q)⟩
end
end Go.Proofs.YtaanpnmgibcemaaGreatDoor
