/-
  A script that came in, opened: each of its steps' five cells.
-/
import Derived.Test.YtdpfjbpfafekfaaRows
import Derived.Test.YtdpfjbpfafekfaaOh
import Derived.WalkKit
import Derived.ProofKit
import Derived.OpenShut
import Derived.Carry
import Derived.Lib.SmallJoins
import Derived.Deep.Slices
namespace Go.Proofs.Ytdpfjbpfafekfaa
open Go.ChangeShapes Go.WideShapes Go.ChangeAt Go.RowKit Go.Joins Go.Deep

theorem own : ownKnob Try.prog.godebug = none := by kernel_rfl
theorem laidOut : laidOutB Try.prog = true := by kernel_rfl
theorem byte_nat {a : Int} (h : (Lit.int .u8 a).wf = true) : ∃ n : Nat, n < 256 ∧ a = (n : Int) := by
  have := bounds_u8 h
  exact ⟨a.toNat, by omega, by omega⟩
theorem list5 {α : Type} {l : List α} (h : l.length = 5) : ∃ a b c d e, l = [a, b, c, d, e] := by
  match l, h with
  | [a, b, c, d, e], _ => exact ⟨a, b, c, d, e, rfl⟩
section
variable {H : Type} {enc : TypeId × Value → H} {W : World}
set_option maxRecDepth 100000 in
/-- One element's five cells. -/
theorem elem_op {P : Program} {t : TypeId} {f0 f1 f2 f3 f4 : Field} (hs : P.underlying t = some (.struct #[f0, f1, f2, f3, f4])) (hone : oneCellFields P #[f0, f1, f2, f3, f4] = true) (hf0 : P.underlying f0.type = some .bool) (hf1 : P.underlying f1.type = some (.int .u8)) (hf2 : P.underlying f2.type = some (.int .u8)) (hf3 : P.underlying f3.type = some (.int .i64)) (hf4 : P.underlying f4.type = some .bool) {n i : Nat} {a : Addr} {cs : List Value} {y : DataW H × List MemPlace} (hc : W.cells? 0 (a.add (i * 5)) 5 = some cs) (ht : DataW.trod enc P W 0 (fun _ => true) true n t cs = some y) :
    ∃ x : OpD, OpFit x ∧ ∀ j, j < 5 → W.cell? (a.add (i * 5 + j)) = (opC x)[j]? := by
  obtain ⟨_, hcl, hat⟩ := World.cells?_some hc
  obtain ⟨ys, n', _, _, _, hyl, hf⟩ := DataW.trod_struct hs ht
  obtain ⟨u0, u1, u2, u3, u4, rfl⟩ := list5 hcl
  obtain ⟨y0, y1, y2, y3, y4, rfl⟩ := list5 (show ys.length = 5 from hyl)
  obtain ⟨o0, k0⟩ := hone_of hone 0 f0 rfl
  obtain ⟨o1, k1⟩ := hone_of hone 1 f1 rfl
  obtain ⟨o2, k2⟩ := hone_of hone 2 f2 rfl
  obtain ⟨o3, k3⟩ := hone_of hone 3 f3 rfl
  obtain ⟨o4, k4⟩ := hone_of hone 4 f4 rfl
  have g0 := hf 0 f0 rfl
  have g1 := hf 1 f1 rfl
  have g2 := hf 2 f2 rfl
  have g3 := hf 3 f3 rfl
  have g4 := hf 4 f4 rfl
  rw [o0, k0] at g0
  rw [o1, k1] at g1
  rw [o2, k2] at g2
  rw [o3, k3] at g3
  rw [o4, k4] at g4
  have f0' : DataW.trod enc P W 0 (fun _ => true) true n' f0.type [u0] = some y0 := g0
  have f1' : DataW.trod enc P W 0 (fun _ => true) true n' f1.type [u1] = some y1 := g1
  have f2' : DataW.trod enc P W 0 (fun _ => true) true n' f2.type [u2] = some y2 := g2
  have f3' : DataW.trod enc P W 0 (fun _ => true) true n' f3.type [u3] = some y3 := g3
  have f4' : DataW.trod enc P W 0 (fun _ => true) true n' f4.type [u4] = some y4 := g4
  obtain ⟨b0, e0, _⟩ := DataW.trod_bool hf0 f0'
  obtain ⟨b1, e1, _, w1⟩ := DataW.trod_int hf1 f1'
  obtain ⟨b2, e2, _, w2⟩ := DataW.trod_int hf2 f2'
  obtain ⟨b3, e3, _, w3⟩ := DataW.trod_int hf3 f3'
  obtain ⟨b4, e4, _⟩ := DataW.trod_bool hf4 f4'
  simp at e0 e1 e2 e3 e4
  subst e0 e1 e2 e3 e4
  obtain ⟨m1, hm1, rfl⟩ := byte_nat w1
  obtain ⟨m2, hm2, rfl⟩ := byte_nat w2
  have h3 := bounds_i64 w3
  refine ⟨⟨b0, m1, m2, b3, b4⟩, ⟨hm1, hm2, by show _ ≤ b3; omega, by show b3 ≤ _; omega⟩, fun j hj => ?_⟩
  have h := hat j (by simpa using hj)
  rw [add_add] at h
  rw [h]
  have : j = 0 ∨ j = 1 ∨ j = 2 ∨ j = 3 ∨ j = 4 := by omega
  rcases this with rfl | rfl | rfl | rfl | rfl <;> rfl
set_option maxRecDepth 100000 in
/-- A script that came in. -/
theorem open_ops {r : Reach} {b0 : Nat} {v : Value} {d : DataW H} {p : List MemPlace} (hv : Value.okWide Try.prog W r b0 23 v) (h : DataW.Trod enc Try.prog W 0 (fun _ => true) true 23 v d p) : ∃ xs, OpsIn W v xs := by
  obtain ⟨x, len, cap, rfl⟩ := okWide_slice Try.underlying23 hv
  obtain ⟨fuel, hf⟩ := h
  rcases open_slice Try.underlying23 hf with ⟨hcs, _⟩ | ⟨a, l, c, m, n, D, Pl, hcs, _, hl, hm, hmm, _, hi⟩
  · simp [Value.cells] at hcs
    obtain ⟨rfl, rfl, rfl⟩ := hcs
    exact ⟨[], fun p hp => (by cases hp), .inl ⟨none, 0, rfl, rfl⟩⟩
  · simp [Value.cells] at hcs
    obtain ⟨rfl, rfl, rfl⟩ := hcs
    have hmc : m = cap := by simpa using hmm
    rw [show Try.prog.cellsOf 32 = 5 by kernel_rfl] at hi
    have key : ∀ i, ∃ x : OpD, i < len → OpFit x ∧ ∀ j, j < 5 → W.cell? (a.add (i * 5 + j)) = (opC x)[j]? := fun i => by
      by_cases hlt : i < len
      · obtain ⟨cs', hc, ht⟩ := hi i (by omega)
        obtain ⟨x, hx⟩ := elem_op Try.underlying32 (by kernel_rfl) Try.underlying4 Try.underlying5 Try.underlying5 Try.underlying3 Try.underlying4 hc ht
        exact ⟨x, fun _ => hx⟩
      · exact ⟨⟨false, 0, 0, 0, false⟩, fun h => absurd h hlt⟩
    obtain ⟨f, hf⟩ := Classical.axiomOfChoice key
    have hlen : ((List.range len).map f).length = len := by simp
    refine ⟨(List.range len).map f, fun q hq => ?_, ?_⟩
    · obtain ⟨i, hi', rfl⟩ := List.mem_map.1 hq
      exact (hf i (List.mem_range.1 hi')).1
    · by_cases h0 : len = 0
      · subst h0
        exact .inl ⟨some a, cap, rfl, rfl⟩
      · have c0 := (hf 0 (by omega)).2 0 (by omega)
        obtain ⟨g, off, spot⟩ := a
        have c0' : W.cell? ((⟨g, off, spot⟩ : Addr).add (0 * 5 + 0)) = some (.bool (f 0).hear) := c0
        obtain rfl : spot = none := by simpa [Addr.add] using World.cell?_spot c0'
        refine .inr ⟨g, off, len, cap, rfl, hlen.symm, by omega, fun i hi' j hj => ?_⟩
        have hi2 : i < len := by rw [hlen] at hi'; exact hi'
        have := (hf i hi2).2 j hj
        rw [addr_add] at this
        rw [Nat.add_assoc, this]
        simp
end
end Go.Proofs.Ytdpfjbpfafekfaa
