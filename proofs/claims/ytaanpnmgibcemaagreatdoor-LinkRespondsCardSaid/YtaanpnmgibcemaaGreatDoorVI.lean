/-
  What came in, opened: a config, rows of bytes.
-/
import Derived.Test.YtaanpnmgibcemaaGreatDoorRows
import Derived.Test.YtaanpnmgibcemaaGreatDoorVH
import Derived.WalkKit
import Derived.ProofKit
import Derived.OpenShut
import Derived.Carry
import Derived.Lib.SmallJoins
import Derived.Deep.Slices
namespace Go.Proofs.YtaanpnmgibcemaaGreatDoor
open Go.ChangeShapes Go.WideShapes Go.ChangeAt Go.RowKit Go.Joins Go.Deep

/-- Rows of bytes. -/
def RowsIn (w : World) (v : Value) : Prop := (∃ x c, v = .slice x 0 c) ∨ ∃ g off n cap, v = .slice (some ⟨g, off, none⟩) n cap ∧ n ≤ maxLen ∧ ∀ i, i < n → ∃ u zs, w.cell? ⟨g, off + i, none⟩ = some u ∧ Reads w u zs
theorem own : ownKnob Tryz.prog.godebug = none := by kernel_rfl
theorem laidOut : laidOutB Tryz.prog = true := by kernel_rfl
theorem byte_nat {a : Int} (h : (Lit.int .u8 a).wf = true) : ∃ n : Nat, n < 256 ∧ a = (n : Int) := by
  have := bounds_u8 h
  exact ⟨a.toNat, by omega, by omega⟩
theorem list3 {α : Type} {l : List α} (h : l.length = 3) : ∃ a b c, l = [a, b, c] := by
  match l, h with
  | [a, b, c], _ => exact ⟨a, b, c, rfl⟩
section
variable {H : Type} {enc : TypeId × Value → H} {W : World}
set_option maxRecDepth 100000 in
/-- Bytes that came in. -/
theorem reads_trod {n : Nat} {u : Value} {y : DataW H × List MemPlace} (h : DataW.trod enc Tryz.prog W 0 (fun _ => true) true n 22 [u] = some y) : ∃ zs, Reads W u zs := by
  rcases open_ints Tryz.underlying22 Tryz.underlying5 (by kernel_rfl) h with ⟨hcs, _⟩ | ⟨a, l, c, zs, hcs, _, hl, hm, hz, _, hcell, hwz⟩
  · simp at hcs
    subst hcs
    exact ⟨[], reads_nil W⟩
  · simp at hcs
    subst hcs
    have hzl : zs.length = c := by simpa using hz
    exact ⟨zs.take l, reads_of_row W a l c zs hl hm hzl hcell (fun n hn => by have := bounds_u8 (hwz n hn); omega)⟩
/-- A config. -/
def CfgIn (w : World) (v : Value) (q : ByteArray × ByteArray × List Int) : Prop := ∃ x n c, v = .agg #[.string q.1, .string q.2.1, .slice x n c] ∧ Reads w (.slice x n c) q.2.2 ∧ q.1.size ≤ maxLen ∧ q.2.1.size ≤ maxLen
set_option maxRecDepth 100000 in
theorem open_cfg_of {P : Program} {t : TypeId} {f0 f1 f2 : Field} {r : Reach} {b0 : Nat} {v : Value} {d : DataW H} {p : List MemPlace} (hs : P.underlying t = some (.struct #[f0, f1, f2])) (hone : oneCellFields P #[f0, f1, f2] = true) (hC : P.cellsOf t = 3) (hf0 : P.underlying f0.type = some .string) (hf1 : P.underlying f1.type = some .string)
    (hv : Value.okWide P W r b0 t v) (h : DataW.Trod enc P W 0 (fun _ => true) true t v d p) : ∃ (s0 s1 : ByteArray) (u : Value) (n : Nat) (y : DataW H × List MemPlace), v = .agg #[.string s0, .string s1, u] ∧ s0.size ≤ maxLen ∧ s1.size ≤ maxLen ∧ DataW.trod enc P W 0 (fun _ => true) true n f2.type [u] = some y := by
  obtain ⟨cs, rfl, hsz⟩ := okWide_struct hs hv
  rw [hC] at hsz
  obtain ⟨fuel, hf⟩ := h
  obtain ⟨ys, n', _, _, _, hyl, hg⟩ := DataW.trod_struct hs hf
  obtain ⟨u0, u1, u2, hu⟩ := list3 (show cs.toList.length = 3 by rw [Array.length_toList]; exact hsz)
  obtain ⟨y0, y1, y2, rfl⟩ := list3 (show ys.length = 3 from hyl)
  obtain rfl : cs = #[u0, u1, u2] := by
    apply Array.ext'
    rw [hu]
  obtain ⟨o0, k0⟩ := hone_of hone 0 f0 rfl
  obtain ⟨o1, k1⟩ := hone_of hone 1 f1 rfl
  obtain ⟨o2, k2⟩ := hone_of hone 2 f2 rfl
  have g0 := hg 0 f0 rfl
  have g1 := hg 1 f1 rfl
  have g2 := hg 2 f2 rfl
  rw [o0, k0] at g0
  rw [o1, k1] at g1
  rw [o2, k2] at g2
  have f0' : DataW.trod enc P W 0 (fun _ => true) true n' f0.type [u0] = some y0 := g0
  have f1' : DataW.trod enc P W 0 (fun _ => true) true n' f1.type [u1] = some y1 := g1
  have f2' : DataW.trod enc P W 0 (fun _ => true) true n' f2.type [u2] = some y2 := g2
  obtain ⟨s0, e0, _, w0⟩ := DataW.trod_string hf0 f0'
  obtain ⟨s1, e1, _, w1⟩ := DataW.trod_string hf1 f1'
  simp at e0 e1
  subst e0 e1
  exact ⟨s0, s1, u2, n', y2, rfl, w0, w1, f2'⟩
set_option maxRecDepth 100000 in
theorem open_cfg {r : Reach} {b0 : Nat} {v : Value} {d : DataW H} {p : List MemPlace} (hv : Value.okWide Tryz.prog W r b0 24 v) (h : DataW.Trod enc Tryz.prog W 0 (fun _ => true) true 24 v d p) : ∃ q, CfgIn W v q := by
  obtain ⟨s0, s1, u, n, y, rfl, h0, h1, hu⟩ := open_cfg_of Tryz.underlying24 (by kernel_rfl) (by kernel_rfl) Tryz.underlying9 Tryz.underlying9 hv h
  obtain ⟨zs, hz⟩ := reads_trod hu
  obtain ⟨x, m, c, rfl⟩ := Tn.reads_any_slice hz
  exact ⟨(s0, s1, zs), x, m, c, rfl, hz, h0, h1⟩
set_option maxRecDepth 100000 in
/-- Rows of bytes. -/
theorem open_rows {r : Reach} {b0 : Nat} {v : Value} {d : DataW H} {p : List MemPlace} (hv : Value.okWide Tryz.prog W r b0 45 v) (h : DataW.Trod enc Tryz.prog W 0 (fun _ => true) true 45 v d p) : ∃ _q : Unit, RowsIn W v := by
  refine ⟨(), ?_⟩
  obtain ⟨x, len, cap, rfl⟩ := okWide_slice Tryz.underlying45 hv
  obtain ⟨fuel, hf⟩ := h
  rcases open_slice Tryz.underlying45 hf with ⟨hcs, _⟩ | ⟨a, l, c, m, n, D, Pl, hcs, _, hl, hm, hmm, _, hi⟩
  · simp [Value.cells] at hcs
    obtain ⟨rfl, rfl, rfl⟩ := hcs
    exact .inl ⟨none, 0, rfl⟩
  · simp [Value.cells] at hcs
    obtain ⟨rfl, rfl, rfl⟩ := hcs
    have hmc : m = cap := by simpa using hmm
    rw [show Tryz.prog.cellsOf 22 = 1 by kernel_rfl] at hi
    have key : ∀ i, i < len → ∃ u zs, W.cell? (a.add i) = some u ∧ Reads W u zs := fun i hlt => by
      obtain ⟨cs', hc, ht⟩ := hi i (by omega)
      obtain ⟨_, hcl, hat⟩ := World.cells?_some hc
      obtain ⟨u, rfl⟩ := List.length_eq_one_iff.1 hcl
      obtain ⟨zs, hz⟩ := reads_trod ht
      have := hat 0 (by simp)
      rw [add_add] at this
      refine ⟨u, zs, ?_, hz⟩
      simpa using this
    by_cases h0 : len = 0
    · subst h0
      exact .inl ⟨some a, cap, rfl⟩
    · obtain ⟨u0, zs0, c0, _⟩ := key 0 (by omega)
      obtain ⟨g, off, spot⟩ := a
      obtain rfl : spot = none := by simpa [Addr.add] using World.cell?_spot c0
      refine .inr ⟨g, off, len, cap, rfl, by omega, fun i hlt => ?_⟩
      obtain ⟨u, zs, cu, hz⟩ := key i hlt
      rw [addr_add] at cu
      exact ⟨u, zs, cu, hz⟩
end
end Go.Proofs.YtaanpnmgibcemaaGreatDoor
