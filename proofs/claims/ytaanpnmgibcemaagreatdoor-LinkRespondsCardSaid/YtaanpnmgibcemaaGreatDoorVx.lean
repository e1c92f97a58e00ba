/-
  A record is sent behind a header: the walk.
-/
import Derived.Test.YtaanpnmgibcemaaGreatDoorVw
namespace Go.Proofs.YtaanpnmgibcemaaGreatDoor
open Go.RowKit Go.Lib

section
variable {L : Nat} {c : Cf} {y : Ly} {k : Lk} {w : World}
theorem LkOK.seq (hk : LkOK c k) : LkOK c k.seqK := by
  unfold Lk.seqK
  split
  · refine ⟨hk.T, hk.D, hk.fs, hk.es, hk.ag, hk.rc, ?_, hk.st⟩
    have := hk.sq
    show 0 ≤ nextN k.sq ∧ nextN k.sq ≤ 32767
    unfold nextN
    split <;> omega
  · exact hk
theorem seqK_out : k.seqK.out = k.out := by
  unfold Lk.seqK
  split <;> rfl
set_option maxRecDepth 100000 in
set_option maxHeartbeats 2000000 in
theorem send_ext (px : Option Addr) (pn pc : Nat) (ps : List Int) (h : LkM w L c y k) (hk : LkOK c k) (hm : k.mode = 2) (hr : Reads w (.slice px pn pc) ps) (ha : ∀ b ∈ blkV (.slice px pn pc), b ∉ y.foot L) (hl : ps.length ≤ 10000) (ho : k.out.length ≤ 90000000) : Calls Tryz.prog 27 #[.pointer (some ⟨L, 0, none⟩), .slice px pn pc] w (SentD L c y { k.seqK with out := k.out ++ recB (Hd.hdrL 0 0 0 k.seqN ++ ps) } 0 w) := by
  have HM := hid (mode_any L c y k w h)
  rw [hm] at HM
  have HH := hid h
  have HK := hid hk
  have HR := hid hr
  have HA := hid ha
  have HL := hid hl
  have HO := hid ho
  have HQ := hid (seqN_fit hk)
  have HF := hid (show Hd.HFit 0 0 0 k.seqN from ⟨by omega, by omega, by omega, by omega, by omega, by omega, HQ.out.1, HQ.out.2⟩)
  clear h hk hr ha hl ho hm
  go_enter Tryz.func27, Tryz.ntmps27
  go_wp2_with fail
  refine HM.out.mono ?_
  rintro e w1 ⟨rfl, hb1⟩
  have HB1 := hid hb1
  clear hb1
  go_wp2_with fail
  refine (nextSeq_any (HH.out.step HB1.out) HK.out).mono ?_
  rintro e w2 ⟨rfl, h2, m2⟩
  have HL2 := hid h2
  have HM2 := hid ((Moved.below HB1.out (y.foot L)).trans m2)
  have HR2 := hid (reads_moved (reads_below HR.out HB1.out) m2 HA.out)
  have HBY := hid (fun W => Hd.hbytes_ok 0 0 0 k.seqN W HF.out rfl)
  have HB2 := hid (Below.refl w2.heap.size w2)
  clear h2 m2
  generalize k.seqN = sq at *
  go_wp2_with fail
  refine (HBY.out _).mono ?_
  rintro e w3 ⟨v, rfl, ho3, hb3, hk3⟩
  obtain ⟨vx, vn, vc, rfl⟩ := own_slice ho3
  have HO3 := hid ho3
  have HB23 := hid (show Below w2.heap.size w2 w3 from below_t (bal (Below.refl _ _) _) hb3)
  have HK3 := hid (show ∀ b ∈ blkV (.slice vx vn vc), w2.heap.size ≤ b from fun b q => Nat.le_trans (by simp) (hk3 b q))
  have HRP := hid (reads_below HR2.out HB23.out)
  clear ho3 hb3 hk3
  go_wp2_with (first
    | (at_builtin; go_loud (refine wpList_append_ob rfl _ _ rfl _ _ (Hd.hdrL 0 0 0 sq) ps rfl HO3.out rfl HRP.out (by have := HL.out; simp [Hd.hdrL]; omega) ?_; intro x' n' c' w4 ho' hn' hm'; have HO4 := hid ho'; have HB24 := hid (HB23.out.trans (hm'.toBelow HB23.out.size HK3.out)); have hrow := reads_row ho'.reads (by simp [Hd.hdrL]); obtain ⟨g, off, cap, he, hx1, hx2, hx3⟩ := hrow; simp only [Value.slice.injEq] at he; obtain ⟨rfl, hvn, rfl⟩ := he; have HRB := hid (recBytes_any ⟨g, off, none⟩ n' c' _ w4 HO4.out.reads (by rw [hn']; have := HL.out; simp [Hd.hdrL]; omega)); clear ho' hn' hm' hx1 hx2 hx3 hvn))
    | fail)
  refine HRB.out.mono ?_
  rintro e w5 ⟨rx, rn, rc, rfl, ho5, hb5, hk5⟩
  have hb25 := below_t HB24.out hb5
  have HS := hid (send_any _ _ (HL2.out.step hb25) HK.out.seq ho5.reads (by
    have h1 := HL.out
    have h2 := HO.out
    rw [seqK_out]
    unfold recB
    rw [List.length_append, Tn.escI_length]
    have := List.count_le_length (a := (255 : Int)) (l := Hd.hdrL 0 0 0 sq ++ ps)
    simp [Hd.hdrL] at this ⊢
    omega))
  have HB25 := hid hb25
  clear ho5 hb5 hk5 hb25
  go_wp2_with fail
  refine HS.out.mono ?_
  rintro e w6 ⟨rfl, hbd⟩
  have HBD := hid hbd
  clear hbd
  go_wp2
  go_ret
  obtain ⟨ov, g1, g2⟩ := HBD.out
  rw [seqK_out] at g1
  exact ⟨_, rfl, g1, HM2.out.trans ((Moved.below HB25.out _).trans g2)⟩
end
end Go.Proofs.YtaanpnmgibcemaaGreatDoor
