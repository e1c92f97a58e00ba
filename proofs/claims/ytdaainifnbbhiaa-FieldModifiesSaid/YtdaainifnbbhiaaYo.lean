/-
  Acts that came in, opened; how they are read.
-/
import Derived.Test.YtdaainifnbbhiaaRows
import Derived.Test.YtdaainifnbbhiaaYn
import Derived.WalkKit
import Derived.ProofKit
import Derived.OpenShut
import Derived.Carry
import Derived.Lib.SmallJoins
import Derived.Deep.Slices
namespace Go.Proofs.Ytdaainifnbbhiaa
open Go.ChangeShapes Go.WideShapes Go.ChangeAt Go.RowKit Go.Joins Go.Deep

theorem own : ownKnob Try.prog.godebug = none := by kernel_rfl
theorem laidOut : laidOutB Try.prog = true := by kernel_rfl
theorem byte_nat {a : Int} (h : (Lit.int .u8 a).wf = true) : ∃ n : Nat, n < 256 ∧ a = (n : Int) := by
  have := bounds_u8 h
  exact ⟨a.toNat, by omega, by omega⟩
theorem byte_u8 {a : Int} (h : (Lit.int .u8 a).wf = true) : U8 a := by
  have := bounds_u8 h
  exact ⟨by omega, by omega⟩
theorem list6 {α : Type} {l : List α} (h : l.length = 6) : ∃ a b c d e f, l = [a, b, c, d, e, f] := by
  match l, h with
  | [a, b, c, d, e, f], _ => exact ⟨a, b, c, d, e, f, rfl⟩
theorem list11 {α : Type} {l : List α} (h : l.length = 11) : ∃ a0 a1 a2 a3 a4 a5 a6 a7 a8 a9 a10, l = [a0, a1, a2, a3, a4, a5, a6, a7, a8, a9, a10] := by
  match l, h with
  | [a0, a1, a2, a3, a4, a5, a6, a7, a8, a9, a10], _ => exact ⟨a0, a1, a2, a3, a4, a5, a6, a7, a8, a9, a10, rfl⟩
theorem addr_addS (g off j : Nat) : (⟨g, off, none⟩ : Addr).add j = ⟨g, off + j, none⟩ := by unfold Addr.add; split <;> simp_all
def act0 : ActD := ⟨0, 0, false, 0, cel0, .slice none 0 0, []⟩
/-- Acts that lie below B. -/
structure ActsIn (B : Nat) (w : World) (v : Value) (ac : List ActD) : Prop where
  fit : ∀ i, i < ac.length → (ac.getD i act0).Fit B w
  len : ac.length ≤ 9223372036854775807
  sl : ∃ x c, v = .slice x ac.length c
  at_ : ∀ x c, v = .slice x ac.length c → ∀ i, i < ac.length → ∃ g o, x = some ⟨g, o, none⟩ ∧ g < B ∧ ∀ j, j < 11 → w.cell? ⟨g, o + i * 11 + j, none⟩ = (ac.getD i act0).cs[j]?
theorem ActsIn.below {B : Nat} {A C : World} {v : Value} {ac : List ActD} (h : ActsIn B A v ac) (hb : Below B A C) : ActsIn B C v ac :=
  ⟨fun i hi => (h.fit i hi).below hb, h.len, h.sl, fun x c e i hi => by
    obtain ⟨g, o, e1, e2, e3⟩ := h.at_ x c e i hi
    refine ⟨g, o, e1, e2, fun j hj => ?_⟩
    rw [← e3 j hj]
    exact hb.cell (p := ⟨g, o + i * 11 + j, none⟩) e2⟩
section
variable {H : Type} {enc : TypeId × Value → H} {W : World}
theorem cel_op {P : Program} {t : TypeId} {f0 f1 f2 f3 f4 f5 : Field} (hs : P.underlying t = some (.struct #[f0, f1, f2, f3, f4, f5])) (hone : oneCellFields P #[f0, f1, f2, f3, f4, f5] = true) (h0 : P.underlying f0.type = some (.int .u8)) (h1 : P.underlying f1.type = some .bool) (h2 : P.underlying f2.type = some (.int .u8)) (h3 : P.underlying f3.type = some (.int .u8)) (h4 : P.underlying f4.type = some (.int .u8)) (h5 : P.underlying f5.type = some (.int .u8)) {n : Nat} {cs : List Value} (hcl : cs.length = 6) {y : DataW H × List MemPlace} (ht : DataW.trod enc P W 0 (fun _ => true) true n t cs = some y) :
    ∃ c : Cel, c.OK ∧ cs = c.cs := by
  obtain ⟨ys, n', _, _, _, hyl, hf⟩ := DataW.trod_struct hs ht
  obtain ⟨u0, u1, u2, u3, u4, u5, rfl⟩ := list6 hcl
  obtain ⟨y0, y1, y2, y3, y4, y5, rfl⟩ := list6 (show ys.length = 6 from hyl)
  obtain ⟨o0, k0⟩ := hone_of hone 0 f0 rfl
  obtain ⟨o1, k1⟩ := hone_of hone 1 f1 rfl
  obtain ⟨o2, k2⟩ := hone_of hone 2 f2 rfl
  obtain ⟨o3, k3⟩ := hone_of hone 3 f3 rfl
  obtain ⟨o4, k4⟩ := hone_of hone 4 f4 rfl
  obtain ⟨o5, k5⟩ := hone_of hone 5 f5 rfl
  have g0 := hf 0 f0 rfl
  have g1 := hf 1 f1 rfl
  have g2 := hf 2 f2 rfl
  have g3 := hf 3 f3 rfl
  have g4 := hf 4 f4 rfl
  have g5 := hf 5 f5 rfl
  rw [o0, k0] at g0
  rw [o1, k1] at g1
  rw [o2, k2] at g2
  rw [o3, k3] at g3
  rw [o4, k4] at g4
  rw [o5, k5] at g5
  obtain ⟨b0, e0, _, w0⟩ := DataW.trod_int h0 (show DataW.trod enc P W 0 (fun _ => true) true n' f0.type [u0] = some y0 from g0)
  obtain ⟨b1, e1, _⟩ := DataW.trod_bool h1 (show DataW.trod enc P W 0 (fun _ => true) true n' f1.type [u1] = some y1 from g1)
  obtain ⟨b2, e2, _, w2⟩ := DataW.trod_int h2 (show DataW.trod enc P W 0 (fun _ => true) true n' f2.type [u2] = some y2 from g2)
  obtain ⟨b3, e3, _, w3⟩ := DataW.trod_int h3 (show DataW.trod enc P W 0 (fun _ => true) true n' f3.type [u3] = some y3 from g3)
  obtain ⟨b4, e4, _, w4⟩ := DataW.trod_int h4 (show DataW.trod enc P W 0 (fun _ => true) true n' f4.type [u4] = some y4 from g4)
  obtain ⟨b5, e5, _, w5⟩ := DataW.trod_int h5 (show DataW.trod enc P W 0 (fun _ => true) true n' f5.type [u5] = some y5 from g5)
  simp at e0 e1 e2 e3 e4 e5
  subst e0 e1 e2 e3 e4 e5
  exact ⟨⟨b0, b1, b2, b3, b4, b5⟩, ⟨byte_u8 w0, byte_u8 w2, byte_u8 w3, byte_u8 w4, byte_u8 w5⟩, rfl⟩
theorem tx_op {P : Program} {t e : TypeId} (ht : P.underlying t = some (.slice e)) (he : P.underlying e = some (.int .u8)) (hc : P.cellsOf e = 1) {n : Nat} {u : Value} {y : DataW H × List MemPlace} (h : DataW.trod enc P W 0 (fun _ => true) true n t [u] = some y) : ∃ xs, TxIn W.heap.size W u xs := by
  rcases open_ints ht he hc h with ⟨hcs, _⟩ | ⟨a, len, cap, zs, hcs, _, hl, hm, hz, _, hcell, hwz⟩
  · simp at hcs
    subst hcs
    exact ⟨[], fun x hx => (by cases hx), by simp, ⟨_, _, rfl⟩, fun x c _ i hi => absurd hi (Nat.not_lt_zero i)⟩
  · simp at hcs
    subst hcs
    have hzl : zs.length = cap := by simpa using hz
    have hm' : cap ≤ 9223372036854775807 := hm
    have hlen : (zs.take len).length = len := by rw [List.length_take]; omega
    refine ⟨zs.take len, fun x hx => byte_u8 (hwz x (List.mem_of_mem_take hx)), by omega, ⟨some a, cap, by rw [hlen]⟩, fun x c hx i hi => ?_⟩
    rw [hlen] at hi hx
    injection hx with hx1 hx2 hx3
    have c0 := hcell i (by omega)
    obtain ⟨g, off, spot⟩ := a
    have cz := hcell 0 (by omega)
    obtain rfl : spot = none := by simpa [Addr.add] using World.cell?_spot cz
    rw [addr_addS] at c0
    refine ⟨g, off, hx1.symm, World.block_lt_of_cell? W _ c0, ?_⟩
    rw [c0]
    simp [List.getD, hi]
set_option maxRecDepth 100000 in
/-- One act's eleven cells. -/
theorem act_op {P : Program} {t tc tx te : TypeId} {f0 f1 f2 f3 f4 f5 c0 c1 c2 c3 c4 c5 : Field} (hs : P.underlying t = some (.struct #[f0, f1, f2, f3, f4, f5])) (o0 : f0.offset = 0) (o1 : f1.offset = 1) (o2 : f2.offset = 2) (o3 : f3.offset = 3) (o4 : f4.offset = 4) (o5 : f5.offset = 10) (k0 : P.cellsOf f0.type = 1) (k1 : P.cellsOf f1.type = 1) (k2 : P.cellsOf f2.type = 1) (k3 : P.cellsOf f3.type = 1) (k4 : P.cellsOf f4.type = 6) (k5 : P.cellsOf f5.type = 1) (h0 : P.underlying f0.type = some (.int .u8)) (h1 : P.underlying f1.type = some (.int .i64)) (h2 : P.underlying f2.type = some .bool) (h3 : P.underlying f3.type = some (.int .u8)) (h4 : f4.type = tc) (h5 : f5.type = tx)
    (hsc : P.underlying tc = some (.struct #[c0, c1, c2, c3, c4, c5])) (hone : oneCellFields P #[c0, c1, c2, c3, c4, c5] = true) (q0 : P.underlying c0.type = some (.int .u8)) (q1 : P.underlying c1.type = some .bool) (q2 : P.underlying c2.type = some (.int .u8)) (q3 : P.underlying c3.type = some (.int .u8)) (q4 : P.underlying c4.type = some (.int .u8)) (q5 : P.underlying c5.type = some (.int .u8))
    (hx : P.underlying tx = some (.slice te)) (he : P.underlying te = some (.int .u8)) (hce : P.cellsOf te = 1)
    {n i : Nat} {a : Addr} {cs : List Value} {y : DataW H × List MemPlace} (hc : W.cells? 0 (a.add (i * 11)) 11 = some cs) (ht : DataW.trod enc P W 0 (fun _ => true) true n t cs = some y) :
    ∃ x : ActD, x.Fit W.heap.size W ∧ ∀ j, j < 11 → W.cell? (a.add (i * 11 + j)) = x.cs[j]? := by
  obtain ⟨_, hcl, hat⟩ := World.cells?_some hc
  obtain ⟨ys, n', _, _, _, hyl, hf⟩ := DataW.trod_struct hs ht
  obtain ⟨u0, u1, u2, u3, u4, u5, u6, u7, u8, u9, u10, rfl⟩ := list11 hcl
  obtain ⟨y0, y1, y2, y3, y4, y5, rfl⟩ := list6 (show ys.length = 6 from hyl)
  have g0 := hf 0 f0 rfl
  have g1 := hf 1 f1 rfl
  have g2 := hf 2 f2 rfl
  have g3 := hf 3 f3 rfl
  have g4 := hf 4 f4 rfl
  have g5 := hf 5 f5 rfl
  rw [o0, k0] at g0
  rw [o1, k1] at g1
  rw [o2, k2] at g2
  rw [o3, k3] at g3
  rw [o4, k4, h4] at g4
  rw [o5, k5, h5] at g5
  obtain ⟨b0, e0, _, w0⟩ := DataW.trod_int h0 (show DataW.trod enc P W 0 (fun _ => true) true n' f0.type [u0] = some y0 from g0)
  obtain ⟨b1, e1, _, w1⟩ := DataW.trod_int h1 (show DataW.trod enc P W 0 (fun _ => true) true n' f1.type [u1] = some y1 from g1)
  obtain ⟨b2, e2, _⟩ := DataW.trod_bool h2 (show DataW.trod enc P W 0 (fun _ => true) true n' f2.type [u2] = some y2 from g2)
  obtain ⟨b3, e3, _, w3⟩ := DataW.trod_int h3 (show DataW.trod enc P W 0 (fun _ => true) true n' f3.type [u3] = some y3 from g3)
  obtain ⟨c, hcok, e4⟩ := cel_op hsc hone q0 q1 q2 q3 q4 q5 (cs := [u4, u5, u6, u7, u8, u9]) rfl (show DataW.trod enc P W 0 (fun _ => true) true n' tc [u4, u5, u6, u7, u8, u9] = some y4 from g4)
  obtain ⟨xs, hxs⟩ := tx_op hx he hce (show DataW.trod enc P W 0 (fun _ => true) true n' tx [u10] = some y5 from g5)
  simp at e0 e1 e2 e3
  subst e0 e1 e2 e3
  simp only [Cel.cs, List.cons.injEq, and_true] at e4
  obtain ⟨rfl, rfl, rfl, rfl, rfl, rfl⟩ := e4
  obtain ⟨m, hm, rfl⟩ := byte_nat w0
  have hi := bounds_i64 w1
  refine ⟨⟨m, b1, b2, b3, c, u10, xs⟩, ⟨hm, ⟨by show _ ≤ b1; omega, by show b1 ≤ _; omega⟩, byte_u8 w3, hcok, hxs⟩, fun j hj => ?_⟩
  have h := hat j (by simpa using hj)
  rw [add_add] at h
  rw [h]
  have : j = 0 ∨ j = 1 ∨ j = 2 ∨ j = 3 ∨ j = 4 ∨ j = 5 ∨ j = 6 ∨ j = 7 ∨ j = 8 ∨ j = 9 ∨ j = 10 := by omega
  rcases this with rfl | rfl | rfl | rfl | rfl | rfl | rfl | rfl | rfl | rfl | rfl <;> rfl
set_option maxRecDepth 100000 in
/-- Acts that came in. -/
theorem open_acts {r : Reach} {b0 : Nat} {v : Value} {d : DataW H} {p : List MemPlace} (hv : Value.okWide Try.prog W r b0 22 v) (h : DataW.Trod enc Try.prog W 0 (fun _ => true) true 22 v d p) : ∃ ac, ActsIn W.heap.size W v ac := by
  obtain ⟨x, len, cap, rfl⟩ := okWide_slice Try.underlying22 hv
  obtain ⟨fuel, hf⟩ := h
  rcases open_slice Try.underlying22 hf with ⟨hcs, _⟩ | ⟨a, l, c, m, n, D, Pl, hcs, _, hl, hm, hmm, _, hi⟩
  · simp [Value.cells] at hcs
    obtain ⟨rfl, rfl, rfl⟩ := hcs
    exact ⟨[], fun i hi => absurd hi (Nat.not_lt_zero i), by simp, ⟨_, _, rfl⟩, fun x c _ i hi => absurd hi (Nat.not_lt_zero i)⟩
  · simp [Value.cells] at hcs
    obtain ⟨rfl, rfl, rfl⟩ := hcs
    have hmc : m = cap := by simpa using hmm
    rw [show Try.prog.cellsOf 34 = 11 by kernel_rfl] at hi
    have key : ∀ i, ∃ x : ActD, i < len → x.Fit W.heap.size W ∧ ∀ j, j < 11 → W.cell? (a.add (i * 11 + j)) = x.cs[j]? := fun i => by
      by_cases hlt : i < len
      · obtain ⟨cs', hc, ht⟩ := hi i (by omega)
        obtain ⟨x, hx⟩ := act_op (tc := 31) (tx := 32) Try.underlying34 (by kernel_rfl) (by kernel_rfl) (by kernel_rfl) (by kernel_rfl) (by kernel_rfl) (by kernel_rfl) (by kernel_rfl) (by kernel_rfl) (by kernel_rfl) (by kernel_rfl) (by kernel_rfl) (by kernel_rfl) (by kernel_rfl) (by kernel_rfl) (by kernel_rfl) (by kernel_rfl) rfl rfl
          Try.underlying31 (by kernel_rfl) (by kernel_rfl) (by kernel_rfl) (by kernel_rfl) (by kernel_rfl) (by kernel_rfl) (by kernel_rfl) Try.underlying32 (by kernel_rfl) (by kernel_rfl) hc ht
        exact ⟨x, fun _ => hx⟩
      · exact ⟨act0, fun h => absurd h hlt⟩
    obtain ⟨f, hf⟩ := Classical.axiomOfChoice key
    have hlen : ((List.range len).map f).length = len := by simp
    have hget : ∀ i, i < len → ((List.range len).map f).getD i act0 = f i := fun i hi => by simp [List.getD, hi]
    have hm' : cap ≤ 9223372036854775807 := hm
    refine ⟨(List.range len).map f, fun i hi' => ?_, by omega, ⟨some a, cap, by rw [hlen]⟩, fun x c hx i hi' => ?_⟩
    · rw [hlen] at hi'
      rw [hget i hi']
      exact (hf i hi').1
    · rw [hlen] at hi' hx
      injection hx with hx1 hx2 hx3
      rw [hget i hi']
      have hh := (hf i hi').2
      have c0 := hh 0 (by omega)
      obtain ⟨g, off, spot⟩ := a
      have cz : W.cell? ((⟨g, off, spot⟩ : Addr).add (0 * 11 + 0)) = some (.int .u8 (f 0).k) := (hf 0 (by omega)).2 0 (by omega)
      obtain rfl : spot = none := by simpa [Addr.add] using World.cell?_spot cz
      have c1 : W.cell? ((⟨g, off, none⟩ : Addr).add (i * 11 + 0)) = some (.int .u8 (f i).k) := c0
      rw [addr_addS] at c1
      refine ⟨g, off, hx1.symm, World.block_lt_of_cell? W _ c1, fun j hj => ?_⟩
      have c2 := hh j hj
      rw [addr_addS] at c2
      rw [Nat.add_assoc]
      exact c2
end
end Go.Proofs.Ytdaainifnbbhiaa
