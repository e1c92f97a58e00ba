/-
  Names and scripts that came in, opened.
-/
import Derived.Test.YtadoiplfglaonabRows
import Derived.Test.YtadoiplfglaonabPlw
import Derived.WalkKit
import Derived.ProofKit
import Derived.OpenShut
import Derived.Carry
import Derived.Lib.SmallJoins
import Derived.Deep.Slices
import Derived.SliceStrings
namespace Go.Proofs.Ytadoiplfglaonab
open Go.ChangeShapes Go.WideShapes Go.ChangeAt Go.RowKit Go.Joins Go.Deep

theorem own : ownKnob Try.prog.godebug = none := by kernel_rfl
theorem laidOut : laidOutB Try.prog = true := by kernel_rfl
theorem byte_nat {a : Int} (h : (Lit.int .u8 a).wf = true) : ∃ n : Nat, n < 256 ∧ a = (n : Int) := by
  have := bounds_u8 h
  exact ⟨a.toNat, by omega, by omega⟩
theorem list3 {α : Type} {l : List α} (h : l.length = 3) : ∃ a b c, l = [a, b, c] := by
  match l, h with
  | [a, b, c], _ => exact ⟨a, b, c, rfl⟩
theorem addr_addT (g off j : Nat) : (⟨g, off, none⟩ : Addr).add j = ⟨g, off + j, none⟩ := by unfold Addr.add; split <;> simp_all
section
variable {H : Type} {enc : TypeId × Value → H} {W : World}
theorem open_strs {r : Reach} {b0 : Nat} {v : Value} {d : DataW H} {p : List MemPlace} (hv : Value.okWide Try.prog W r b0 22 v) (h : DataW.Trod enc Try.prog W 0 (fun _ => true) true 22 v d p) : ∃ zs, SRead W v zs := by
  obtain ⟨x, len, cap, rfl⟩ := okWide_slice Try.underlying22 hv
  obtain ⟨fuel, hf⟩ := h
  rcases open_strings Try.underlying22 Try.underlying9 (by kernel_rfl) hf with ⟨hcs, _⟩ | ⟨a, l, c, ss, hcs, _, hl, hm, hz, _, hcell, hsz⟩
  · simp [Value.cells] at hcs
    obtain ⟨rfl, rfl, rfl⟩ := hcs
    exact ⟨[], none, 0, rfl, by simp, fun i hi => absurd hi (Nat.not_lt_zero i)⟩
  · simp [Value.cells] at hcs
    obtain ⟨rfl, rfl, rfl⟩ := hcs
    have hzl : ss.length = cap := by simpa using hz
    have ht : (ss.take len).length = len := by rw [List.length_take]; omega
    refine ⟨ss.take len, some a, cap, by rw [ht], by omega, fun i hi => ?_⟩
    rw [ht] at hi
    have c0 := hcell i (by omega)
    obtain ⟨g, off, spot⟩ := a
    have cz := hcell 0 (by omega)
    obtain rfl : spot = none := by simpa [Addr.add] using World.cell?_spot cz
    rw [addr_addT] at c0
    have e : (ss.take len).getD i ByteArray.empty = ss.getD i ByteArray.empty := by simp [List.getD, hi]
    refine ⟨g, off, rfl, by rw [e]; exact c0, ?_⟩
    rw [e, List.getD, List.getElem?_eq_getElem (show i < ss.length by omega)]
    exact hsz _ (List.getElem_mem _)
set_option maxRecDepth 100000 in
/-- One step's three cells. -/
theorem elem_op {P : Program} {t : TypeId} {f0 f1 f2 : Field} (hs : P.underlying t = some (.struct #[f0, f1, f2])) (hone : oneCellFields P #[f0, f1, f2] = true) (hf0 : P.underlying f0.type = some (.int .u8)) (hf1 : P.underlying f1.type = some .string) (hf2 : P.underlying f2.type = some (.int .u64)) {n i : Nat} {a : Addr} {cs : List Value} {y : DataW H × List MemPlace} (hc : W.cells? 0 (a.add (i * 3)) 3 = some cs) (ht : DataW.trod enc P W 0 (fun _ => true) true n t cs = some y) :
    ∃ (m : Nat) (s : ByteArray) (k : Int), m < 256 ∧ s.size ≤ maxLen ∧ 0 ≤ k ∧ k < 18446744073709551616 ∧ W.cell? (a.add (i * 3)) = some (.int .u8 m) ∧ W.cell? (a.add (i * 3 + 1)) = some (.string s) ∧ W.cell? (a.add (i * 3 + 2)) = some (.int .u64 k) := by
  obtain ⟨_, hcl, hat⟩ := World.cells?_some hc
  obtain ⟨ys, n', _, _, _, hyl, hf⟩ := DataW.trod_struct hs ht
  obtain ⟨u0, u1, u2, rfl⟩ := list3 hcl
  obtain ⟨y0, y1, y2, rfl⟩ := list3 (show ys.length = 3 from hyl)
  obtain ⟨o0, k0⟩ := hone_of hone 0 f0 rfl
  obtain ⟨o1, k1⟩ := hone_of hone 1 f1 rfl
  obtain ⟨o2, k2⟩ := hone_of hone 2 f2 rfl
  have g0 := hf 0 f0 rfl
  have g1 := hf 1 f1 rfl
  have g2 := hf 2 f2 rfl
  rw [o0, k0] at g0
  rw [o1, k1] at g1
  rw [o2, k2] at g2
  have f0' : DataW.trod enc P W 0 (fun _ => true) true n' f0.type [u0] = some y0 := g0
  have f1' : DataW.trod enc P W 0 (fun _ => true) true n' f1.type [u1] = some y1 := g1
  have f2' : DataW.trod enc P W 0 (fun _ => true) true n' f2.type [u2] = some y2 := g2
  obtain ⟨b0, e0, _, w0⟩ := DataW.trod_int hf0 f0'
  obtain ⟨b1, e1, _, w1⟩ := DataW.trod_string hf1 f1'
  obtain ⟨b2, e2, _, w2⟩ := DataW.trod_int hf2 f2'
  simp at e0 e1 e2
  subst e0 e1 e2
  obtain ⟨m0, hm0, rfl⟩ := byte_nat w0
  have h2 := bounds_u64 w2
  have q0 := hat 0 (by decide)
  have q1 := hat 1 (by decide)
  have q2 := hat 2 (by decide)
  rw [add_add] at q0 q1 q2
  exact ⟨m0, b1, b2, hm0, w1, by omega, by omega, q0, q1, q2⟩
set_option maxRecDepth 100000 in
theorem open_scr {r : Reach} {b0 : Nat} {v : Value} {d : DataW H} {p : List MemPlace} (hv : Value.okWide Try.prog W r b0 23 v) (h : DataW.Trod enc Try.prog W 0 (fun _ => true) true 23 v d p) : ScrIn W v := by
  obtain ⟨x, len, cap, rfl⟩ := okWide_slice Try.underlying23 hv
  obtain ⟨fuel, hf⟩ := h
  rcases open_slice Try.underlying23 hf with ⟨hcs, _⟩ | ⟨a, l, c, m, n, D, Pl, hcs, _, hl, hm, hmm, _, hi⟩
  · simp [Value.cells] at hcs
    obtain ⟨rfl, rfl, rfl⟩ := hcs
    exact ⟨none, 0, 0, rfl, by simp, fun i hi => absurd hi (Nat.not_lt_zero i)⟩
  · simp [Value.cells] at hcs
    obtain ⟨rfl, rfl, rfl⟩ := hcs
    have hmc : m = cap := by simpa using hmm
    rw [show Try.prog.cellsOf 35 = 3 by kernel_rfl] at hi
    refine ⟨some a, len, cap, rfl, by omega, fun i hlt => ?_⟩
    obtain ⟨cs', hc, ht⟩ := hi i (by omega)
    obtain ⟨q, s, k, h1, h2, h3, h4, c0, c1, c2⟩ := elem_op Try.underlying35 (by kernel_rfl) Try.underlying5 Try.underlying9 Try.underlying33 hc ht
    obtain ⟨g, off, spot⟩ := a
    obtain ⟨cz, hcz, htz⟩ := hi 0 (by omega)
    obtain ⟨qz, sz, kz, _, _, _, _, cz0, _⟩ := elem_op Try.underlying35 (by kernel_rfl) Try.underlying5 Try.underlying9 Try.underlying33 hcz htz
    obtain rfl : spot = none := by simpa [Addr.add] using World.cell?_spot cz0
    rw [addr_addT] at c0 c1 c2
    exact ⟨g, off, q, s, k, rfl, h1, h2, h3, h4, c0, c1, c2⟩
end
end Go.Proofs.Ytadoiplfglaonab
