/-
  Sayings that came in, opened: each one's five cells.
-/
import Derived.Test.YtdpfjbpfafekfaaOo
namespace Go.Proofs.Ytdpfjbpfafekfaa
open Go.ChangeShapes Go.WideShapes Go.ChangeAt Go.RowKit Go.Joins Go.Deep

/-- A saying: who, does he ask, of which side, of which option, on or off. -/
structure SayS where
  who : Nat
  ask : Bool
  side : Nat
  opt : Nat
  on : Bool
def sayC (x : SayS) : List Value := [.int .u8 x.who, .bool x.ask, .int .u8 x.side, .int .u8 x.opt, .bool x.on]
def SayFit (x : SayS) : Prop := x.who < 256 ∧ x.side < 256 ∧ x.opt < 256
def SaysIn (w : World) (v : Value) (xs : List SayS) : Prop := (∀ x ∈ xs, SayFit x) ∧ ((∃ x c, v = .slice x 0 c ∧ xs = []) ∨ ∃ g off n cap, v = .slice (some ⟨g, off, none⟩) n cap ∧ n = xs.length ∧ n ≤ maxLen ∧ ∀ i (h : i < xs.length) j, j < 5 → w.cell? ⟨g, off + i * 5 + j, none⟩ = (sayC xs[i])[j]?)
section
variable {H : Type} {enc : TypeId × Value → H} {W : World}
set_option maxRecDepth 100000 in
/-- One element's five cells. -/
theorem elem_say {P : Program} {t : TypeId} {f0 f1 f2 f3 f4 : Field} (hs : P.underlying t = some (.struct #[f0, f1, f2, f3, f4])) (hone : oneCellFields P #[f0, f1, f2, f3, f4] = true) (hf0 : P.underlying f0.type = some (.int .u8)) (hf1 : P.underlying f1.type = some .bool) (hf2 : P.underlying f2.type = some (.int .u8)) (hf3 : P.underlying f3.type = some (.int .u8)) (hf4 : P.underlying f4.type = some .bool) {n i : Nat} {a : Addr} {cs : List Value} {y : DataW H × List MemPlace} (hc : W.cells? 0 (a.add (i * 5)) 5 = some cs) (ht : DataW.trod enc P W 0 (fun _ => true) true n t cs = some y) :
    ∃ x : SayS, SayFit x ∧ ∀ j, j < 5 → W.cell? (a.add (i * 5 + j)) = (sayC x)[j]? := by
  obtain ⟨_, hcl, hat⟩ := World.cells?_some hc
  obtain ⟨ys, n', _, _, _, hyl, hf⟩ := DataW.trod_struct hs ht
  obtain ⟨u0, u1, u2, u3, u4, rfl⟩ := list5 hcl
  obtain ⟨y0, y1, y2, y3, y4, rfl⟩ := list5 (show ys.length = 5 from hyl)
  obtain ⟨o0, k0⟩ := hone_of hone 0 f0 rfl
  obtain ⟨o1, k1⟩ := hone_of hone 1 f1 rfl
  obtain ⟨o2, k2⟩ := hone_of hone 2 f2 rfl
  obtain ⟨o3, k3⟩ := hone_of hone 3 f3 rfl
  obtain ⟨o4, k4⟩ := hone_of hone 4 f4 rfl
  have g0 := hf 0 f0 rfl
  have g1 := hf 1 f1 rfl
  have g2 := hf 2 f2 rfl
  have g3 := hf 3 f3 rfl
  have g4 := hf 4 f4 rfl
  rw [o0, k0] at g0
  rw [o1, k1] at g1
  rw [o2, k2] at g2
  rw [o3, k3] at g3
  rw [o4, k4] at g4
  have f0' : DataW.trod enc P W 0 (fun _ => true) true n' f0.type [u0] = some y0 := g0
  have f1' : DataW.trod enc P W 0 (fun _ => true) true n' f1.type [u1] = some y1 := g1
  have f2' : DataW.trod enc P W 0 (fun _ => true) true n' f2.type [u2] = some y2 := g2
  have f3' : DataW.trod enc P W 0 (fun _ => true) true n' f3.type [u3] = some y3 := g3
  have f4' : DataW.trod enc P W 0 (fun _ => true) true n' f4.type [u4] = some y4 := g4
  obtain ⟨b0, e0, _, w0⟩ := DataW.trod_int hf0 f0'
  obtain ⟨b1, e1, _⟩ := DataW.trod_bool hf1 f1'
  obtain ⟨b2, e2, _, w2⟩ := DataW.trod_int hf2 f2'
  obtain ⟨b3, e3, _, w3⟩ := DataW.trod_int hf3 f3'
  obtain ⟨b4, e4, _⟩ := DataW.trod_bool hf4 f4'
  simp at e0 e1 e2 e3 e4
  subst e0 e1 e2 e3 e4
  obtain ⟨m0, hm0, rfl⟩ := byte_nat w0
  obtain ⟨m2, hm2, rfl⟩ := byte_nat w2
  obtain ⟨m3, hm3, rfl⟩ := byte_nat w3
  refine ⟨⟨m0, b1, m2, m3, b4⟩, ⟨hm0, hm2, hm3⟩, fun j hj => ?_⟩
  have h := hat j (by simpa using hj)
  rw [add_add] at h
  rw [h]
  have : j = 0 ∨ j = 1 ∨ j = 2 ∨ j = 3 ∨ j = 4 := by omega
  rcases this with rfl | rfl | rfl | rfl | rfl <;> rfl
set_option maxRecDepth 100000 in
/-- Sayings that came in. -/
theorem open_says {r : Reach} {b0 : Nat} {v : Value} {d : DataW H} {p : List MemPlace} (hv : Value.okWide Try.prog W r b0 55 v) (h : DataW.Trod enc Try.prog W 0 (fun _ => true) true 55 v d p) : ∃ xs, SaysIn W v xs := by
  obtain ⟨x, len, cap, rfl⟩ := okWide_slice Try.underlying55 hv
  obtain ⟨fuel, hf⟩ := h
  rcases open_slice Try.underlying55 hf with ⟨hcs, _⟩ | ⟨a, l, c, m, n, D, Pl, hcs, _, hl, hm, hmm, _, hi⟩
  · simp [Value.cells] at hcs
    obtain ⟨rfl, rfl, rfl⟩ := hcs
    exact ⟨[], fun p hp => (by cases hp), .inl ⟨none, 0, rfl, rfl⟩⟩
  · simp [Value.cells] at hcs
    obtain ⟨rfl, rfl, rfl⟩ := hcs
    have hmc : m = cap := by simpa using hmm
    rw [show Try.prog.cellsOf 62 = 5 by kernel_rfl] at hi
    have key : ∀ i, ∃ x : SayS, i < len → SayFit x ∧ ∀ j, j < 5 → W.cell? (a.add (i * 5 + j)) = (sayC x)[j]? := fun i => by
      by_cases hlt : i < len
      · obtain ⟨cs', hc, ht⟩ := hi i (by omega)
        obtain ⟨x, hx⟩ := elem_say Try.underlying62 (by kernel_rfl) Try.underlying5 Try.underlying4 Try.underlying5 Try.underlying5 Try.underlying4 hc ht
        exact ⟨x, fun _ => hx⟩
      · exact ⟨⟨0, false, 0, 0, false⟩, fun h => absurd h hlt⟩
    obtain ⟨f, hf⟩ := Classical.axiomOfChoice key
    have hlen : ((List.range len).map f).length = len := by simp
    refine ⟨(List.range len).map f, fun q hq => ?_, ?_⟩
    · obtain ⟨i, hi', rfl⟩ := List.mem_map.1 hq
      exact (hf i (List.mem_range.1 hi')).1
    · by_cases h0 : len = 0
      · subst h0
        exact .inl ⟨some a, cap, rfl, rfl⟩
      · have c0 := (hf 0 (by omega)).2 0 (by omega)
        obtain ⟨g, off, spot⟩ := a
        have c0' : W.cell? ((⟨g, off, spot⟩ : Addr).add (0 * 5 + 0)) = some (.int .u8 (f 0).who) := c0
        obtain rfl : spot = none := by simpa [Addr.add] using World.cell?_spot c0'
        refine .inr ⟨g, off, len, cap, rfl, hlen.symm, by omega, fun i hi' j hj => ?_⟩
        have hi2 : i < len := by rw [hlen] at hi'; exact hi'
        have := (hf i hi2).2 j hj
        rw [addr_add] at this
        rw [Nat.add_assoc, this]
        simp
end
end Go.Proofs.Ytdpfjbpfafekfaa
