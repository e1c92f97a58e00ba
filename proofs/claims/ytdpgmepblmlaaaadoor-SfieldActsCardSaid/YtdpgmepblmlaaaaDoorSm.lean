/-
  One act that came in, opened.
-/
import Derived.Test.YtdpgmepblmlaaaaDoorSl
import Derived.Test.YtdpgmepblmlaaaaDoorSc
namespace Go.Proofs.YtdpgmepblmlaaaaDoor
open Go.ChangeShapes Go.WideShapes Go.ChangeAt Go.RowKit Go.Joins Go.Deep

section
variable {H : Type} {enc : TypeId × Value → H} {W : World}
set_option maxRecDepth 100000 in
theorem act_op1 {P : Program} {t tx te : TypeId} {f0 f1 f2 f3 f4 f5 f6 : Field} (hs : P.underlying t = some (.struct #[f0, f1, f2, f3, f4, f5, f6]))
    (o0 : f0.offset = 0) (o1 : f1.offset = 1) (o2 : f2.offset = 2) (o3 : f3.offset = 3) (o4 : f4.offset = 4) (o5 : f5.offset = 5) (o6 : f6.offset = 6)
    (k0 : P.cellsOf f0.type = 1) (k1 : P.cellsOf f1.type = 1) (k2 : P.cellsOf f2.type = 1) (k3 : P.cellsOf f3.type = 1) (k4 : P.cellsOf f4.type = 1) (k5 : P.cellsOf f5.type = 1) (k6 : P.cellsOf f6.type = 1)
    (h0 : P.underlying f0.type = some (.int .i64)) (h1 : P.underlying f1.type = some (.int .i64)) (h2 : P.underlying f2.type = some (.int .i64)) (h3 : P.underlying f3.type = some .bool) (h4 : P.underlying f4.type = some (.int .u8)) (h5 : f5.type = tx) (h6 : f6.type = tx)
    (hx : P.underlying tx = some (.slice te)) (he : P.underlying te = some (.int .u8)) (hce : P.cellsOf te = 1)
    {n : Nat} {cs : List Value} {y : DataW H × List MemPlace} (hcl : cs.length = 7) (ht : DataW.trod enc P W 0 (fun _ => true) true n t cs = some y) :
    ∃ x : AcV, ((Reads W x.cv x.d.codes ∧ Reads W x.rv x.d.rcd) ∧ (0 ≤ x.d.req ∧ x.d.req < 256) ∧ I64 x.d.cmd) ∧ cs = [.int .i64 x.d.kind, .int .i64 x.d.cmd, .int .i64 x.d.mode, .bool x.d.alt, .int .u8 x.d.req, x.cv, x.rv] := by
  obtain ⟨ys, n', _, _, _, hyl, hf⟩ := DataW.trod_struct hs ht
  obtain ⟨u0, u1, u2, u3, u4, u5, u6, rfl⟩ := list7_21 hcl
  obtain ⟨y0, y1, y2, y3, y4, y5, y6, rfl⟩ := list7_21 (show ys.length = 7 from hyl)
  have g0 := hf 0 f0 rfl
  have g1 := hf 1 f1 rfl
  have g2 := hf 2 f2 rfl
  have g3 := hf 3 f3 rfl
  have g4 := hf 4 f4 rfl
  have g5 := hf 5 f5 rfl
  have g6 := hf 6 f6 rfl
  rw [o0, k0] at g0
  rw [o1, k1] at g1
  rw [o2, k2] at g2
  rw [o3, k3] at g3
  rw [o4, k4] at g4
  rw [o5, k5, h5] at g5
  rw [o6, k6, h6] at g6
  obtain ⟨b0, e0, _, w0⟩ := DataW.trod_int h0 (show DataW.trod enc P W 0 (fun _ => true) true n' f0.type [u0] = some y0 from g0)
  obtain ⟨b1, e1, _, w1⟩ := DataW.trod_int h1 (show DataW.trod enc P W 0 (fun _ => true) true n' f1.type [u1] = some y1 from g1)
  obtain ⟨b2, e2, _, w2⟩ := DataW.trod_int h2 (show DataW.trod enc P W 0 (fun _ => true) true n' f2.type [u2] = some y2 from g2)
  obtain ⟨b4, e4, _, w4⟩ := DataW.trod_int h4 (show DataW.trod enc P W 0 (fun _ => true) true n' f4.type [u4] = some y4 from g4)
  obtain ⟨b3, e3, _⟩ := DataW.trod_bool h3 (show DataW.trod enc P W 0 (fun _ => true) true n' f3.type [u3] = some y3 from g3)
  obtain ⟨xs5, hxs5⟩ := reads_op21 hx he hce (show DataW.trod enc P W 0 (fun _ => true) true n' tx [u5] = some y5 from g5)
  obtain ⟨xs6, hxs6⟩ := reads_op21 hx he hce (show DataW.trod enc P W 0 (fun _ => true) true n' tx [u6] = some y6 from g6)
  simp at e0 e1 e2 e3 e4
  subst e0 e1 e2 e3 e4
  exact ⟨⟨⟨b0, b1, b2, b3, b4, xs5, xs6⟩, u5, u6⟩, ⟨⟨hxs5, hxs6⟩, by have := bounds_u8 w4; exact ⟨by dsimp only; omega, by dsimp only; omega⟩, by have := bounds_i64 w1; exact ⟨by dsimp only; omega, by dsimp only; omega⟩⟩, rfl⟩
set_option maxRecDepth 100000 in
/-- An act that came in. -/
theorem open_act21 {r : Reach} {b0 : Nat} {v : Value} {d : DataW H} {p : List MemPlace} (hv : Value.okWide Tryd.prog W r b0 41 v) (h : DataW.Trod enc Tryd.prog W 0 (fun _ => true) true 41 v d p) : ∃ x : AcV, v = acV x.d x.cv x.rv ∧ (Reads W x.cv x.d.codes ∧ Reads W x.rv x.d.rcd) ∧ (0 ≤ x.d.req ∧ x.d.req < 256) ∧ I64 x.d.cmd := by
  obtain ⟨cs, rfl, hsz⟩ := okWide_struct Tryd.underlying41 hv
  rw [show Tryd.prog.cellsOf 41 = 7 by kernel_rfl] at hsz
  obtain ⟨fuel, hf⟩ := h
  obtain ⟨x, hx, e⟩ := act_op1 (tx := 22) Tryd.underlying41 (by kernel_rfl) (by kernel_rfl) (by kernel_rfl) (by kernel_rfl) (by kernel_rfl) (by kernel_rfl) (by kernel_rfl) (by kernel_rfl) (by kernel_rfl) (by kernel_rfl) (by kernel_rfl) (by kernel_rfl) (by kernel_rfl) (by kernel_rfl) (by kernel_rfl) (by kernel_rfl) (by kernel_rfl) (by kernel_rfl) (by kernel_rfl) rfl rfl Tryd.underlying22 Tryd.underlying5 (by kernel_rfl) (show cs.toList.length = 7 by simpa using hsz) hf
  refine ⟨x, ?_, hx⟩
  unfold acV
  congr 1
  apply Array.ext'
  rw [show cs.toList = _ from e]
theorem sfieldActs_arg (v : Value) (x : AcV) (w : World) (h : v = acV x.d x.cv x.rv ∧ (Reads w x.cv x.d.codes ∧ Reads w x.rv x.d.rcd) ∧ (0 ≤ x.d.req ∧ x.d.req < 256) ∧ I64 x.d.cmd) (hN : Cods w ∧ Knd w) : Calls Tryd.prog 4 #[v] w fun e w' => e = .returned (.bool true) ∧ Below w.heap.size w w' := by
  rw [h.1]
  exact sfieldActs_walk x.d x.cv x.rv w h.2.1.1 h.2.1.2 h.2.2.1 h.2.2.2 hN.1 hN.2
theorem both_of_laid {W : World} (h : laidMetH Tryd.prog laidK W) : Cods W ∧ Knd W := ⟨cods_of_laidK h, kinds_of_laid h⟩
end
end Go.Proofs.YtdpgmepblmlaaaaDoor
