/-
  Acts that came in, opened.
-/
import Derived.Test.YtdpgmepblmlaaaaDoorSb
import Derived.WalkKit
import Derived.ProofKit
import Derived.OpenShut
import Derived.Carry
import Derived.Lib.SmallJoins
namespace Go.Proofs.YtdpgmepblmlaaaaDoor
open Go.ChangeShapes Go.WideShapes Go.ChangeAt Go.RowKit Go.Joins Go.Deep

section
variable {H : Type} {enc : TypeId × Value → H} {W : World}
theorem add_add21 (a : Addr) (i j : Nat) : (a.add i).add j = a.add (i + j) := by
  unfold Addr.add
  by_cases hi : i = 0
  · subst hi; simp
  · by_cases hj : j = 0
    · subst hj; simp [hi]
    · simp [hi, hj, Nat.add_assoc]
theorem list7_21 {α : Type} {l : List α} (h : l.length = 7) : ∃ a b c d e f g, l = [a, b, c, d, e, f, g] := by
  rcases l with _ | ⟨a, _ | ⟨b, _ | ⟨c, _ | ⟨d, _ | ⟨e, _ | ⟨f, _ | ⟨g, _ | ⟨k, l⟩⟩⟩⟩⟩⟩⟩⟩ <;> simp at h
  exact ⟨a, b, c, d, e, f, g, rfl⟩
theorem reads_op21 {P : Program} {t e : TypeId} (ht : P.underlying t = some (.slice e)) (he : P.underlying e = some (.int .u8)) (hc : P.cellsOf e = 1) {n : Nat} {u : Value} {y : DataW H × List MemPlace} (h : DataW.trod enc P W 0 (fun _ => true) true n t [u] = some y) : ∃ xs, Reads W u xs := by
  rcases open_ints ht he hc h with ⟨hcs, _⟩ | ⟨a, len, cap, zs, hcs, _, hl, hm, hz, _, hcell, hwz⟩
  · simp at hcs
    subst hcs
    exact ⟨[], reads_nil W⟩
  · simp at hcs
    subst hcs
    have hzl : zs.length = cap := by simpa using hz
    exact ⟨zs.take len, reads_of_row W a len cap zs hl hm hzl hcell (fun n hn => by have := bounds_u8 (hwz n hn); omega)⟩
set_option maxRecDepth 100000 in
theorem act_op {P : Program} {t tx te : TypeId} {f0 f1 f2 f3 f4 f5 f6 : Field} (hs : P.underlying t = some (.struct #[f0, f1, f2, f3, f4, f5, f6]))
    (o0 : f0.offset = 0) (o1 : f1.offset = 1) (o2 : f2.offset = 2) (o3 : f3.offset = 3) (o4 : f4.offset = 4) (o5 : f5.offset = 5) (o6 : f6.offset = 6)
    (k0 : P.cellsOf f0.type = 1) (k1 : P.cellsOf f1.type = 1) (k2 : P.cellsOf f2.type = 1) (k3 : P.cellsOf f3.type = 1) (k4 : P.cellsOf f4.type = 1) (k5 : P.cellsOf f5.type = 1) (k6 : P.cellsOf f6.type = 1)
    (h0 : P.underlying f0.type = some (.int .i64)) (h1 : P.underlying f1.type = some (.int .i64)) (h2 : P.underlying f2.type = some (.int .i64)) (h3 : P.underlying f3.type = some .bool) (h4 : P.underlying f4.type = some (.int .u8)) (h5 : f5.type = tx) (h6 : f6.type = tx)
    (hx : P.underlying tx = some (.slice te)) (he : P.underlying te = some (.int .u8)) (hce : P.cellsOf te = 1)
    {n i : Nat} {a : Addr} {cs : List Value} {y : DataW H × List MemPlace} (hc : W.cells? 0 (a.add (i * 7)) 7 = some cs) (ht : DataW.trod enc P W 0 (fun _ => true) true n t cs = some y) :
    ∃ x : AcV, ((Reads W x.cv x.d.codes ∧ Reads W x.rv x.d.rcd) ∧ (0 ≤ x.d.req ∧ x.d.req < 256) ∧ I64 x.d.cmd) ∧ W.cell? (a.add (i * 7)) = some (.int .i64 x.d.kind) ∧ W.cell? (a.add (i * 7 + 1)) = some (.int .i64 x.d.cmd) ∧ W.cell? (a.add (i * 7 + 2)) = some (.int .i64 x.d.mode) ∧ W.cell? (a.add (i * 7 + 3)) = some (.bool x.d.alt) ∧ W.cell? (a.add (i * 7 + 4)) = some (.int .u8 x.d.req) ∧ W.cell? (a.add (i * 7 + 5)) = some x.cv ∧ W.cell? (a.add (i * 7 + 6)) = some x.rv := by
  obtain ⟨_, hcl, hat⟩ := World.cells?_some hc
  obtain ⟨ys, n', _, _, _, hyl, hf⟩ := DataW.trod_struct hs ht
  obtain ⟨u0, u1, u2, u3, u4, u5, u6, rfl⟩ := list7_21 hcl
  obtain ⟨y0, y1, y2, y3, y4, y5, y6, rfl⟩ := list7_21 (show ys.length = 7 from hyl)
  have g0 := hf 0 f0 rfl
  have g1 := hf 1 f1 rfl
  have g2 := hf 2 f2 rfl
  have g3 := hf 3 f3 rfl
  have g4 := hf 4 f4 rfl
  have g5 := hf 5 f5 rfl
  have g6 := hf 6 f6 rfl
  rw [o0, k0] at g0
  rw [o1, k1] at g1
  rw [o2, k2] at g2
  rw [o3, k3] at g3
  rw [o4, k4] at g4
  rw [o5, k5, h5] at g5
  rw [o6, k6, h6] at g6
  obtain ⟨b0, e0, _, w0⟩ := DataW.trod_int h0 (show DataW.trod enc P W 0 (fun _ => true) true n' f0.type [u0] = some y0 from g0)
  obtain ⟨b1, e1, _, w1⟩ := DataW.trod_int h1 (show DataW.trod enc P W 0 (fun _ => true) true n' f1.type [u1] = some y1 from g1)
  obtain ⟨b2, e2, _, w2⟩ := DataW.trod_int h2 (show DataW.trod enc P W 0 (fun _ => true) true n' f2.type [u2] = some y2 from g2)
  obtain ⟨b4, e4, _, w4⟩ := DataW.trod_int h4 (show DataW.trod enc P W 0 (fun _ => true) true n' f4.type [u4] = some y4 from g4)
  obtain ⟨b3, e3, _⟩ := DataW.trod_bool h3 (show DataW.trod enc P W 0 (fun _ => true) true n' f3.type [u3] = some y3 from g3)
  obtain ⟨xs5, hxs5⟩ := reads_op21 hx he hce (show DataW.trod enc P W 0 (fun _ => true) true n' tx [u5] = some y5 from g5)
  obtain ⟨xs6, hxs6⟩ := reads_op21 hx he hce (show DataW.trod enc P W 0 (fun _ => true) true n' tx [u6] = some y6 from g6)
  simp at e0 e1 e2 e3 e4
  subst e0 e1 e2 e3 e4
  have c0 := hat 0 (by simp)
  have c1 := hat 1 (by simp)
  have c2 := hat 2 (by simp)
  have c3 := hat 3 (by simp)
  have c4 := hat 4 (by simp)
  have c5 := hat 5 (by simp)
  have c6 := hat 6 (by simp)
  rw [add_add21] at c0 c1 c2 c3 c4 c5 c6
  exact ⟨⟨⟨b0, b1, b2, b3, b4, xs5, xs6⟩, u5, u6⟩, ⟨⟨hxs5, hxs6⟩, by have := bounds_u8 w4; exact ⟨by dsimp only; omega, by dsimp only; omega⟩, by have := bounds_i64 w1; exact ⟨by dsimp only; omega, by dsimp only; omega⟩⟩, c0, c1, c2, c3, c4, c5, c6⟩
set_option maxRecDepth 100000 in
/-- Acts that came in. -/
theorem open_acts21 {r : Reach} {b0 : Nat} {v : Value} {d : DataW H} {p : List MemPlace} (hv : Value.okWide Tryd.prog W r b0 48 v) (h' : DataW.Trod enc Tryd.prog W 0 (fun _ => true) true 48 v d p) : ∃ es, ActArg W v es := by
  obtain ⟨x0, len0, cap0, rfl⟩ := okWide_slice Tryd.underlying48 hv
  obtain ⟨fuel, h⟩ := h'
  rcases open_slice Tryd.underlying48 h with ⟨hcs, _⟩ | ⟨a, l, c, m, n, D, Pl, hcs, _, hl, hm, hmm, _, hi⟩
  · simp [Value.cells] at hcs
    obtain ⟨rfl, rfl, rfl⟩ := hcs
    exact ⟨[], ⟨none, 0, rfl, fun i hi => absurd hi (Nat.not_lt_zero i)⟩, fun x hx => (by cases hx), by simp⟩
  · simp [Value.cells] at hcs
    obtain ⟨rfl, rfl, rfl⟩ := hcs
    have hmc : m = cap0 := by simpa using hmm
    rw [show Tryd.prog.cellsOf 41 = 7 by kernel_rfl] at hi
    have key : ∀ i, ∃ x : AcV, i < len0 → ((Reads W x.cv x.d.codes ∧ Reads W x.rv x.d.rcd) ∧ (0 ≤ x.d.req ∧ x.d.req < 256) ∧ I64 x.d.cmd) ∧ W.cell? (a.add (i * 7)) = some (.int .i64 x.d.kind) ∧ W.cell? (a.add (i * 7 + 1)) = some (.int .i64 x.d.cmd) ∧ W.cell? (a.add (i * 7 + 2)) = some (.int .i64 x.d.mode) ∧ W.cell? (a.add (i * 7 + 3)) = some (.bool x.d.alt) ∧ W.cell? (a.add (i * 7 + 4)) = some (.int .u8 x.d.req) ∧ W.cell? (a.add (i * 7 + 5)) = some x.cv ∧ W.cell? (a.add (i * 7 + 6)) = some x.rv := fun i => by
      by_cases hlt : i < len0
      · obtain ⟨cs', hc, ht⟩ := hi i (by omega)
        obtain ⟨x, hx⟩ := act_op (tx := 22) Tryd.underlying41 (by kernel_rfl) (by kernel_rfl) (by kernel_rfl) (by kernel_rfl) (by kernel_rfl) (by kernel_rfl) (by kernel_rfl) (by kernel_rfl) (by kernel_rfl) (by kernel_rfl) (by kernel_rfl) (by kernel_rfl) (by kernel_rfl) (by kernel_rfl) (by kernel_rfl) (by kernel_rfl) (by kernel_rfl) (by kernel_rfl) (by kernel_rfl) rfl rfl Tryd.underlying22 (by kernel_rfl) (by kernel_rfl) hc ht
        exact ⟨x, fun _ => hx⟩
      · exact ⟨⟨acZ, .slice none 0 0, .slice none 0 0⟩, fun h => absurd h hlt⟩
    obtain ⟨f, hf⟩ := Classical.axiomOfChoice key
    have hlen : ((List.range len0).map f).length = len0 := by simp
    have hm' : cap0 ≤ 9223372036854775807 := hm
    refine ⟨(List.range len0).map f, ⟨some a, cap0, by rw [hlen], fun i hi' => ?_⟩, fun x hx => ?_, by omega⟩
    · rw [hlen] at hi'
      have hget : ((List.range len0).map f)[i]'(by rw [hlen]; exact hi') = f i := by simp
      rw [hget]
      obtain ⟨_, c0, c1, c2, c3, c4, c5, c6⟩ := hf i hi'
      obtain ⟨g, off, spot⟩ := a
      have cz := (hf 0 (by omega)).2.1
      obtain rfl : spot = none := by simpa [Addr.add] using World.cell?_spot cz
      rw [addr_add] at c0 c1 c2 c3 c4 c5 c6
      exact ⟨g, off, rfl, c0, by rw [Nat.add_assoc]; exact c1, by rw [Nat.add_assoc]; exact c2, by rw [Nat.add_assoc]; exact c3, by rw [Nat.add_assoc]; exact c4, by rw [Nat.add_assoc]; exact c5, by rw [Nat.add_assoc]; exact c6⟩
    · obtain ⟨i, hi', rfl⟩ := List.mem_map.1 hx
      exact (hf i (List.mem_range.1 hi')).1
end
end Go.Proofs.YtdpgmepblmlaaaaDoor
