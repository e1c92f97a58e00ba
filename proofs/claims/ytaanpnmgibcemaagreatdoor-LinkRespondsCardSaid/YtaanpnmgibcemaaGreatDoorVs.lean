/-
  A link answers a record.
-/
import Derived.Test.YtaanpnmgibcemaaGreatDoorVr
namespace Go.Proofs.YtaanpnmgibcemaaGreatDoor
open Go.RowKit Go.Lib

theorem ans_some {t s q x : Int} (h : Hd.ansB t s x = true) : Hd.ansL t s q x ≠ [] ∧ (Hd.ansL t s q x).length ≤ 100 := by
  by_cases h0 : t = 2 ∨ t = 6
  · rw [(Hd.ans_type (q := q) h0).2] at h
    cases h
  · by_cases h1 : s = 2 ∧ x = 0
    · rw [(Hd.ans_pos (q := q) h0 h1.1 h1.2).1]
      exact ⟨by simp [Hd.rspL], by simp [Hd.rspL]⟩
    · by_cases h2 : (s = 1 ∨ s = 2) ∧ x ≠ 0
      · rw [(Hd.ans_neg (q := q) h0 h2.1 h2.2).1]
        exact ⟨by simp [Hd.rspL], by simp [Hd.rspL]⟩
      · rw [(Hd.ans_none (q := q) h0 h1 h2).2] at h
        cases h
section
variable {L : Nat} {c : Cf} {y : Ly} {k : Lk} {w : World}
/-- A record was answered. -/
def RespD (L : Nat) (c : Cf) (y : Ly) (k : Lk) (X : Evt) (code : Int) (w : World) (e : Ending) (w' : World) : Prop := ∃ y', e = .returned (.bool (respB k X code)) ∧ LkM w' L c y' (respE k X code) ∧ Moved w w' (y.foot L) (y'.foot L)
theorem resp_no (h : LkM w L c y k) {w' : World} (hb : Below w.heap.size w w') {X : Evt} {code : Int} (q : respB k X code = false) : RespD L c y k X code w (.returned (.bool false)) w' :=
  ⟨y, by rw [q], by unfold respE; rw [q]; exact h.step hb, Moved.below hb _⟩
theorem resp_yes {w1 w2 : World} (hb : Below w.heap.size w w1) {X : Evt} {code : Int} (q : respB k X code = true) (h : BufD L c y k (k.out ++ recB (Hd.ansL X.hdr.t X.hdr.s X.hdr.q code)) w1 w2) : RespD L c y k X code w (.returned (.bool true)) w2 := by
  obtain ⟨ov, h1, h2⟩ := h
  refine ⟨_, by rw [q], ?_, (Moved.below hb _).trans h2⟩
  unfold respE
  rw [q]
  exact h1
set_option maxRecDepth 100000 in
theorem respond_nil (X : Evt) (dx : Option Addr) (dn dc : Nat) (u : Value) : Calls Tryz.prog 23 #[.pointer none, evV X (.slice dx dn dc), u] w fun e w' => e = .returned (.bool false) ∧ Below w.heap.size w w' := by
  unfold evV
  go_enter Tryz.func23, Tryz.ntmps23
  go_wp2
  go_ret
  exact ⟨rfl, by first | exact Below.refl _ _ | exact bal (Below.refl _ _) _⟩
set_option maxRecDepth 100000 in
set_option maxHeartbeats 2000000 in
theorem respond_any (X : Evt) (dx : Option Addr) (dn dc : Nat) (code : Int) (h : LkM w L c y k) (hk : LkOK c k) (F : Hd.HFit X.hdr.t X.hdr.r X.hdr.s X.hdr.q) (hl : k.out.length ≤ 90000000) : Calls Tryz.prog 23 #[.pointer (some ⟨L, 0, none⟩), evV X (.slice dx dn dc), .int .i64 code] w (RespD L c y k X code w) := by
  have hb0 : Below w.heap.size w (w.alloc (.cells #[.int .i64 X.kind, .slice dx dn dc, .int .u8 X.hdr.t, .int .u8 X.hdr.r, .int .u8 X.hdr.s, .int .u16 X.hdr.q, .bool X.headed] 56)) := bal (Below.refl _ _) _
  have h1 := h.step hb0
  have HM := hid (mode_any L c y k _ h1)
  have HA := hid (fun W (hb : Below w.heap.size w W) => has2_any (h.step hb) hk)
  have HAN := hid (fun W => show Calls Tryz.prog 45 #[.agg #[.int .u8 X.hdr.t, .int .u8 X.hdr.r, .int .u8 X.hdr.s, .int .u16 X.hdr.q], .int .i64 code] W _ from Hd.answer_any X.hdr.t X.hdr.r X.hdr.s X.hdr.q code W F)
  have HNO := hid (fun W (hb : Below w.heap.size w W) (q : respB k X code = false) => resp_no h hb q)
  have HYES := hid (fun w1 w2 (hb : Below w.heap.size w w1) (q : respB k X code = true) (g : BufD L c y k (k.out ++ recB (Hd.ansL X.hdr.t X.hdr.s X.hdr.q code)) w1 w2) => resp_yes hb q g)
  have HC := hid (fun W (hb : Below w.heap.size w W) => (h.step hb).b.c2)
  have hsend : ∀ W (hb : Below w.heap.size w W) (p : Value) (ps : List Int) (_ : Reads W p ps) (_ : ps.length ≤ 1000), Calls Tryz.prog 46 #[.pointer (some ⟨L, 0, none⟩), p] W fun e w' => e = .returned (.tuple #[]) ∧ BufD L c y k (k.out ++ ps) W w' := fun W hb p ps hr hn => send_any p ps (h.step hb) hk hr (by omega)
  have HS := hid hsend
  have HR := hid (show respB k X code = (X.headed && (k.mode == 2) && k.has && Hd.ansB X.hdr.t X.hdr.s code) from rfl)
  have HZ := hid (show ∀ W, Below (w.alloc (.cells #[.int .i64 X.kind, .slice dx dn dc, .int .u8 X.hdr.t, .int .u8 X.hdr.r, .int .u8 X.hdr.s, .int .u16 X.hdr.q, .bool X.headed] 56)).heap.size (w.alloc (.cells #[.int .i64 X.kind, .slice dx dn dc, .int .u8 X.hdr.t, .int .u8 X.hdr.r, .int .u8 X.hdr.s, .int .u16 X.hdr.q, .bool X.headed] 56)) W → W.cell? ⟨w.heap.size, 2, none⟩ = some (.int .u8 X.hdr.t) ∧ W.cell? ⟨w.heap.size, 3, none⟩ = some (.int .u8 X.hdr.r) ∧ W.cell? ⟨w.heap.size, 4, none⟩ = some (.int .u8 X.hdr.s) ∧ W.cell? ⟨w.heap.size, 5, none⟩ = some (.int .u16 X.hdr.q) from fun W hb => ⟨keepc hb (by simp [go_sem]), keepc hb (by simp [go_sem]), keepc hb (by simp [go_sem]), keepc hb (by simp [go_sem])⟩)
  have HB0 := hid hb0
  have HSM := hid (fun (q : Hd.ansB X.hdr.t X.hdr.s code = true) => ans_some (q := X.hdr.q) q)
  clear h hk F hl hsend hb0 h1
  unfold evV
  cases eh : X.headed
  · rw [eh] at HR
    clear HM HA HAN HS HC HZ
    go_enter Tryz.func23, Tryz.ntmps23
    go_wp2
    go_ret
    exact HNO.out _ (bal (Below.refl _ _) _) (by rw [HR.out]; rfl)
  · rw [eh] at HR HM HZ HB0
    go_enter Tryz.func23, Tryz.ntmps23
    go_wp2_with fail
    refine HM.out.mono ?_
    rintro e w1 ⟨rfl, hb1⟩
    have HB1 := hid (below_t HB0.out hb1)
    have HB01 := hid hb1
    have hlt : w.heap.size < w1.heap.size := World.block_lt_of_cell? w1 _ (HZ.out _ hb1).1
    by_cases em : k.mode = 2
    · rw [em] at HR ⊢
      have c2 := HC.out _ HB1.out
      clear hb1
      go_wp2_with fail
      refine (HA.out _ HB1.out).mono ?_
      rintro e w2 ⟨rfl, rfl⟩
      cases eg : k.has
      · rw [eg] at HR
        go_wp2
        go_ret
        exact HNO.out _ HB1.out (by rw [HR.out]; simp)
      · rw [eg] at HR
        obtain ⟨z2, z3, z4, z5⟩ := HZ.out _ HB01.out
        go_wp2_with fail
        refine (HAN.out _).mono ?_
        rintro e w2 ⟨v, rfl, ho, hb2, hk2⟩
        obtain ⟨vx, vn, vc, rfl⟩ := own_slice ho
        have HO := hid ho
        have HB2 := hid (below_t HB1.out hb2)
        clear ho hb2 hk2 HA HAN HC c2 z2 z3 z4 z5
        cases ea : Hd.ansB X.hdr.t X.hdr.s code
        · rw [ea] at HR
          go_wp2
          go_ret
          exact HNO.out _ HB2.out (by rw [HR.out]; simp)
        · rw [ea] at HR
          obtain ⟨g, off, cap, he, hx1, hx2, hx3⟩ := reads_row HO.out.reads (HSM.out ea).1
          simp only [Value.slice.injEq] at he
          obtain ⟨rfl, hvn, rfl⟩ := he
          have HRB := hid (recBytes_any ⟨g, off, none⟩ vn vc _ _ HO.out.reads (by have := (HSM.out ea).2; omega))
          clear hx1 hx2 hx3 hvn
          go_wp2_with fail
          refine HRB.out.mono ?_
          rintro e w3 ⟨rx, rn, rc, rfl, ho3, hb3, hk3⟩
          have HS3 := hid (HS.out _ (below_t HB2.out hb3) _ _ ho3.reads (by
            have := (HSM.out ea).2
            unfold recB
            rw [List.length_append, Tn.escI_length]
            have := List.count_le_length (a := (255 : Int)) (l := Hd.ansL X.hdr.t X.hdr.s X.hdr.q code)
            simp
            omega))
          have HB3 := hid (below_t HB2.out hb3)
          clear ho3 hb3 hk3 HRB
          go_wp2_with fail
          refine HS3.out.mono ?_
          rintro e w4 ⟨rfl, hbd⟩
          have HBD := hid hbd
          clear hbd
          go_wp2
          go_ret
          exact HYES.out _ _ HB3.out (by rw [HR.out]; rfl) HBD.out
    · have HEM := hid em
      generalize k.mode = md at *
      clear hb1
      go_wp2
      go_ret
      exact HNO.out _ HB1.out (by rw [HR.out]; simp [HEM.out])
end
end Go.Proofs.YtaanpnmgibcemaaGreatDoor
