/-
  Two ends that talk, in memory.
-/
import Derived.Test.YtdpfjbpfafekfaaPc
import Derived.Test.YtdpfjbpfafekfaaOw
namespace Go.Proofs.Ytdpfjbpfafekfaa
open Go.RowKit Go.Lib

/-- Two ends, the words on their way to each, and how many words were said; nothing of it lies before B. -/
structure Talk (B : Nat) (w : World) (t g0 g1 : Nat) (v0 v1 : Value) (G0 G1 : Nat → Bool) (S0 S1 : Nat → Int) (q0 q1 : List (Nat × Nat)) (n : Int) : Prop where
  c0 : w.cell? ⟨t, 0, none⟩ = some (.pointer (some ⟨g0, 0, none⟩))
  c1 : w.cell? ⟨t, 1, none⟩ = some (.pointer (some ⟨g1, 0, none⟩))
  c2 : w.cell? ⟨t, 2, none⟩ = some v0
  c3 : w.cell? ⟨t, 3, none⟩ = some v1
  c4 : w.cell? ⟨t, 4, none⟩ = some (.int .i64 n)
  fr : ∀ i, i < 5 → w.frozen? ⟨t, i, none⟩ = false
  m0 : Mach w g0 G0 S0
  m1 : Mach w g1 G1 S1
  u0 : Que w v0 q0
  u1 : Que w v1 q1
  a01 : g0 ≠ g1
  at0 : g0 ≠ t
  at1 : g1 ≠ t
  b0 : ∀ k ∈ blkV v0, k ≠ t ∧ k ≠ g0 ∧ k ≠ g1 ∧ B ≤ k
  b1 : ∀ k ∈ blkV v1, k ≠ t ∧ k ≠ g0 ∧ k ≠ g1 ∧ B ≤ k
  b01 : ∀ k ∈ blkV v0, k ∉ blkV v1
  base : B ≤ t ∧ B ≤ g0 ∧ B ≤ g1
section
variable {B : Nat} {w : World} {t g0 g1 : Nat} {v0 v1 : Value} {G0 G1 : Nat → Bool} {S0 S1 : Nat → Int} {q0 q1 : List (Nat × Nat)} {n : Int}
theorem Talk.lt (h : Talk B w t g0 g1 v0 v1 G0 G1 S0 S1 q0 q1 n) : t < w.heap.size := World.block_lt_of_cell? w _ h.c0
theorem frozen_moved {w w' : World} {S S' : List Nat} (m : Moved w w' S S') {a : Addr} (ha : a.block < w.heap.size) (hs : a.block ∉ S) : w'.frozen? a = w.frozen? a := by
  unfold World.frozen?
  rw [m.block _ ha hs]
theorem Talk.step {w' : World} (h : Talk B w t g0 g1 v0 v1 G0 G1 S0 S1 q0 q1 n) (hb : Below w.heap.size w w') : Talk B w' t g0 g1 v0 v1 G0 G1 S0 S1 q0 q1 n :=
  ⟨keepc hb h.c0, keepc hb h.c1, keepc hb h.c2, keepc hb h.c3, keepc hb h.c4, fun i hi => (frozen_moved (Moved.below hb []) (a := ⟨t, i, none⟩) h.lt (fun q => by cases q)).trans (h.fr i hi), h.m0.step hb, h.m1.step hb, h.u0.step hb, h.u1.step hb, h.a01, h.at0, h.at1, h.b0, h.b1, h.b01, h.base⟩
/-- The words on their way to the first end have changed. -/
theorem Talk.put0 {w' : World} {v' : Value} {q' : List (Nat × Nat)} (h : Talk B w t g0 g1 v0 v1 G0 G1 S0 S1 q0 q1 n) (m : Moved w w' (blkV v0) (blkV v')) (u : Que w' v' q') : Talk B (w'.setCell ⟨t, 2, none⟩ v') t g0 g1 v' v1 G0 G1 S0 S1 q' q1 n := by
  have ht : t ∉ blkV v0 := fun q => (h.b0 t q).1 rfl
  have hg0 : g0 ∉ blkV v0 := fun q => (h.b0 g0 q).2.1 rfl
  have hg1 : g1 ∉ blkV v0 := fun q => (h.b0 g1 q).2.2.1 rfl
  have hv : ∀ k ∈ blkV v', k ≠ t ∧ k ≠ g0 ∧ k ≠ g1 ∧ B ≤ k ∧ k ∉ blkV v1 := fun k hk => by
    rcases m.from' k hk with q | q
    · obtain ⟨p1, p2, p3, p4⟩ := h.b0 k q
      exact ⟨p1, p2, p3, p4, h.b01 k q⟩
    · have := h.lt; have := h.m0.lt; have := h.m1.lt; have hb := h.base
      refine ⟨by omega, by omega, by omega, by omega, fun r => ?_⟩
      have := h.u1.lt k r
      omega
  have hs : Moved w' (w'.setCell ⟨t, 2, none⟩ v') [t] [t] := Moved.set (by simp) 2 v'
  have k1 : ∀ k ∈ blkV v1, k ∉ blkV v0 := fun k hk q => h.b01 k q hk
  have other (j : Nat) (hj : j ≠ 2) {u : Value} (c : w.cell? ⟨t, j, none⟩ = some u) : (w'.setCell ⟨t, 2, none⟩ v').cell? ⟨t, j, none⟩ = some u := by
    rw [World.cell?_setCell_other _ _ _ _ (fun q => by injection q; omega)]
    exact cell_moved m c ht
  exact ⟨other 0 (by omega) h.c0, other 1 (by omega) h.c1, World.cell?_setCell_same _ _ _ (cell_moved m h.c2 ht), other 3 (by omega) h.c3, other 4 (by omega) h.c4,
    fun i hi => by rw [World.frozen?_setCell]; exact (frozen_moved m (a := ⟨t, i, none⟩) h.lt ht).trans (h.fr i hi),
    (h.m0.moved m hg0).moved hs (by simpa using h.at0), (h.m1.moved m hg1).moved hs (by simpa using h.at1),
    u.moved hs (fun k hk => by simpa using (hv k hk).1), (h.u1.moved m k1).moved hs (fun k hk => by simpa using (h.b1 k hk).1),
    h.a01, h.at0, h.at1, fun k hk => ⟨(hv k hk).1, (hv k hk).2.1, (hv k hk).2.2.1, (hv k hk).2.2.2.1⟩, h.b1, fun k hk => (hv k hk).2.2.2.2, h.base⟩
/-- The words on their way to the second end have changed. -/
theorem Talk.put1 {w' : World} {v' : Value} {q' : List (Nat × Nat)} (h : Talk B w t g0 g1 v0 v1 G0 G1 S0 S1 q0 q1 n) (m : Moved w w' (blkV v1) (blkV v')) (u : Que w' v' q') : Talk B (w'.setCell ⟨t, 3, none⟩ v') t g0 g1 v0 v' G0 G1 S0 S1 q0 q' n := by
  have ht : t ∉ blkV v1 := fun q => (h.b1 t q).1 rfl
  have hg0 : g0 ∉ blkV v1 := fun q => (h.b1 g0 q).2.1 rfl
  have hg1 : g1 ∉ blkV v1 := fun q => (h.b1 g1 q).2.2.1 rfl
  have hv : ∀ k ∈ blkV v', k ≠ t ∧ k ≠ g0 ∧ k ≠ g1 ∧ B ≤ k ∧ k ∉ blkV v0 := fun k hk => by
    rcases m.from' k hk with q | q
    · obtain ⟨p1, p2, p3, p4⟩ := h.b1 k q
      exact ⟨p1, p2, p3, p4, fun r => h.b01 k r q⟩
    · have := h.lt; have := h.m0.lt; have := h.m1.lt; have hb := h.base
      refine ⟨by omega, by omega, by omega, by omega, fun r => ?_⟩
      have := h.u0.lt k r
      omega
  have hs : Moved w' (w'.setCell ⟨t, 3, none⟩ v') [t] [t] := Moved.set (by simp) 3 v'
  have other (j : Nat) (hj : j ≠ 3) {u : Value} (c : w.cell? ⟨t, j, none⟩ = some u) : (w'.setCell ⟨t, 3, none⟩ v').cell? ⟨t, j, none⟩ = some u := by
    rw [World.cell?_setCell_other _ _ _ _ (fun q => by injection q; omega)]
    exact cell_moved m c ht
  exact ⟨other 0 (by omega) h.c0, other 1 (by omega) h.c1, other 2 (by omega) h.c2, World.cell?_setCell_same _ _ _ (cell_moved m h.c3 ht), other 4 (by omega) h.c4,
    fun i hi => by rw [World.frozen?_setCell]; exact (frozen_moved m (a := ⟨t, i, none⟩) h.lt ht).trans (h.fr i hi),
    (h.m0.moved m hg0).moved hs (by simpa using h.at0), (h.m1.moved m hg1).moved hs (by simpa using h.at1),
    (h.u0.moved m h.b01).moved hs (fun k hk => by simpa using (h.b0 k hk).1), u.moved hs (fun k hk => by simpa using (hv k hk).1),
    h.a01, h.at0, h.at1, h.b0, fun k hk => ⟨(hv k hk).1, (hv k hk).2.1, (hv k hk).2.2.1, (hv k hk).2.2.2.1⟩, fun k hk q => (hv k q).2.2.2.2 hk, h.base⟩
/-- So many words were said. -/
theorem Talk.count (h : Talk B w t g0 g1 v0 v1 G0 G1 S0 S1 q0 q1 n) (n' : Int) : Talk B (w.setCell ⟨t, 4, none⟩ (.int .i64 n')) t g0 g1 v0 v1 G0 G1 S0 S1 q0 q1 n' := by
  have hs : Moved w (w.setCell ⟨t, 4, none⟩ (.int .i64 n')) [t] [t] := Moved.set (by simp) 4 _
  have other (j : Nat) (hj : j ≠ 4) {u : Value} (c : w.cell? ⟨t, j, none⟩ = some u) : (w.setCell ⟨t, 4, none⟩ (.int .i64 n')).cell? ⟨t, j, none⟩ = some u := by
    rw [World.cell?_setCell_other _ _ _ _ (fun q => by injection q; omega)]
    exact c
  exact ⟨other 0 (by omega) h.c0, other 1 (by omega) h.c1, other 2 (by omega) h.c2, other 3 (by omega) h.c3, World.cell?_setCell_same _ _ _ h.c4,
    fun i hi => by rw [World.frozen?_setCell]; exact h.fr i hi,
    h.m0.moved hs (by simpa using h.at0), h.m1.moved hs (by simpa using h.at1),
    h.u0.moved hs (fun k hk => by simpa using (h.b0 k hk).1), h.u1.moved hs (fun k hk => by simpa using (h.b1 k hk).1),
    h.a01, h.at0, h.at1, h.b0, h.b1, h.b01, h.base⟩
/-- The first end's machine has moved. -/
theorem Talk.mach0 {w' : World} {S' : Nat → Int} (h : Talk B w t g0 g1 v0 v1 G0 G1 S0 S1 q0 q1 n) (m : Moved w w' [g0] [g0]) (u : Mach w' g0 G0 S') : Talk B w' t g0 g1 v0 v1 G0 G1 S' S1 q0 q1 n := by
  have ht : t ∉ [g0] := fun q => h.at0 (List.mem_singleton.1 q).symm
  exact ⟨cell_moved m h.c0 ht, cell_moved m h.c1 ht, cell_moved m h.c2 ht, cell_moved m h.c3 ht, cell_moved m h.c4 ht,
    fun i hi => (frozen_moved m (a := ⟨t, i, none⟩) h.lt ht).trans (h.fr i hi), u, h.m1.moved m (by simpa using Ne.symm h.a01),
    h.u0.moved m (fun k hk => by simpa using (h.b0 k hk).2.1), h.u1.moved m (fun k hk => by simpa using (h.b1 k hk).2.1), h.a01, h.at0, h.at1, h.b0, h.b1, h.b01, h.base⟩
/-- The second end's machine has moved. -/
theorem Talk.mach1 {w' : World} {S' : Nat → Int} (h : Talk B w t g0 g1 v0 v1 G0 G1 S0 S1 q0 q1 n) (m : Moved w w' [g1] [g1]) (u : Mach w' g1 G1 S') : Talk B w' t g0 g1 v0 v1 G0 G1 S0 S' q0 q1 n := by
  have ht : t ∉ [g1] := fun q => h.at1 (List.mem_singleton.1 q).symm
  exact ⟨cell_moved m h.c0 ht, cell_moved m h.c1 ht, cell_moved m h.c2 ht, cell_moved m h.c3 ht, cell_moved m h.c4 ht,
    fun i hi => (frozen_moved m (a := ⟨t, i, none⟩) h.lt ht).trans (h.fr i hi), h.m0.moved m (by simpa using h.a01), u,
    h.u0.moved m (fun k hk => by simpa using (h.b0 k hk).2.2.1), h.u1.moved m (fun k hk => by simpa using (h.b1 k hk).2.2.1), h.a01, h.at0, h.at1, h.b0, h.b1, h.b01, h.base⟩
/-- An append of nothing. -/
theorem run_append_none (w : World) {v : Value} {ms : List (Nat × Nat)} (h : Que w v ms) (ty : TypeId) : (Builtin.append_ #[33, 33] ty #[v, .slice none 0 0]).run Try.prog w = .ok v w := by
  obtain ⟨i0, hi, hz0, hz1, hz2⟩ := info_parts info_omsg
  rcases h with ⟨rfl, rfl⟩ | ⟨g, off, cap, cur, rfl, _, _, hnc, _⟩
  · simp [Builtin.append_, run_underlying Try.underlying33, sizeOf, typeInfo, hi, Builtin.lenOf, Builtin.firstCells]
  · simp [Builtin.append_, run_underlying Try.underlying33, sizeOf, typeInfo, hi, Builtin.lenOf, Builtin.firstCells, hnc, storeCells]
end
end Go.Proofs.Ytdpfjbpfafekfaa
