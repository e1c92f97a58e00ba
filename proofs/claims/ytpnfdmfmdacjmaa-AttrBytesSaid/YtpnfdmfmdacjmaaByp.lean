/-
  AttrBytes is proved: for all pairs and all bytes the law answers true and leaves its arguments as they were. No conditions.
-/
import Derived.Test.YtpnfdmfmdacjmaaRows
import Derived.Test.YtpnfdmfmdacjmaaByw
import Derived.WalkKit
import Derived.ProofKit
import Derived.OpenShut
import Derived.Carry
import Derived.Lib.SmallJoins
import Derived.Deep.Slices
namespace Go.Proofs.Ytpnfdmfmdacjmaa
open Go.ChangeShapes Go.WideShapes Go.ChangeAt Go.RowKit Go.Joins Go.Deep

theorem own : ownKnob Try.prog.godebug = none := by kernel_rfl
theorem laidOut : laidOutB Try.prog = true := by kernel_rfl
theorem byte_nat {a : Int} (h : (Lit.int .u8 a).wf = true) : ∃ n : Nat, n < 256 ∧ a = (n : Int) := by
  have := bounds_u8 h
  exact ⟨a.toNat, by omega, by omega⟩
theorem list2 {α : Type} {l : List α} (h : l.length = 2) : ∃ a b, l = [a, b] := by
  match l, h with
  | [a, b], _ => exact ⟨a, b, rfl⟩
section
variable {H : Type} {enc : TypeId × Value → H} {W : World}
set_option maxRecDepth 100000 in
/-- One element's two cells. -/
theorem elem_pair {P : Program} {t : TypeId} {f0 f1 : Field} (hs : P.underlying t = some (.struct #[f0, f1])) (hone : oneCellFields P #[f0, f1] = true) (hf0 : P.underlying f0.type = some (.int .u8)) (hf1 : P.underlying f1.type = some (.int .u8)) {n i : Nat} {a : Addr} {cs : List Value} {y : DataW H × List MemPlace} (hc : W.cells? 0 (a.add (i * 2)) 2 = some cs) (ht : DataW.trod enc P W 0 (fun _ => true) true n t cs = some y) : ∃ p : Nat × Nat, (p.1 < 256 ∧ p.2 < 256) ∧ W.cell? (a.add (i * 2)) = some (.int .u8 p.1) ∧ W.cell? (a.add (i * 2 + 1)) = some (.int .u8 p.2) := by
  obtain ⟨_, hcl, hat⟩ := World.cells?_some hc
  obtain ⟨ys, n', _, _, _, hyl, hf⟩ := DataW.trod_struct hs ht
  obtain ⟨u0, u1, rfl⟩ := list2 hcl
  obtain ⟨y0, y1, rfl⟩ := list2 (show ys.length = 2 from hyl)
  · obtain ⟨o0, k0⟩ := hone_of hone 0 f0 rfl
    obtain ⟨o1, k1⟩ := hone_of hone 1 f1 rfl
    have g0 := hf 0 f0 rfl
    have g1 := hf 1 f1 rfl
    · rw [o0, k0] at g0
      rw [o1, k1] at g1
      have f0' : DataW.trod enc P W 0 (fun _ => true) true n' f0.type [u0] = some y0 := g0
      have f1' : DataW.trod enc P W 0 (fun _ => true) true n' f1.type [u1] = some y1 := g1
      obtain ⟨x, e0, _, wx⟩ := DataW.trod_int hf0 f0'
      obtain ⟨z, e1, _, wz⟩ := DataW.trod_int hf1 f1'
      simp at e0 e1
      subst e0 e1
      obtain ⟨x', hx, rfl⟩ := byte_nat wx
      obtain ⟨z', hz, rfl⟩ := byte_nat wz
      have h0 := hat 0 (by decide)
      have h1 := hat 1 (by decide)
      rw [add_add] at h0 h1
      exact ⟨(x', z'), ⟨hx, hz⟩, h0, h1⟩
set_option maxRecDepth 100000 in
/-- A slice of pairs that came in. -/
theorem open_pairs {r : Reach} {b0 : Nat} {v : Value} {d : DataW H} {p : List MemPlace} (hv : Value.okWide Try.prog W r b0 93 v) (h : DataW.Trod enc Try.prog W 0 (fun _ => true) true 93 v d p) : ∃ ps, ArgP W v ps := by
  obtain ⟨x, len, cap, rfl⟩ := okWide_slice Try.underlying93 hv
  obtain ⟨fuel, hf⟩ := h
  rcases open_slice Try.underlying93 hf with ⟨hcs, _⟩ | ⟨a, l, c, m, n, D, Pl, hcs, _, hl, hm, hmm, _, hi⟩
  · simp [Value.cells] at hcs
    obtain ⟨rfl, rfl, rfl⟩ := hcs
    exact ⟨[], fun p hp => (by cases hp), Nat.zero_le _, .inl ⟨none, 0, rfl, rfl⟩⟩
  · simp [Value.cells] at hcs
    obtain ⟨rfl, rfl, rfl⟩ := hcs
    have hmc : m = cap := by simpa using hmm
    rw [show Try.prog.cellsOf 78 = 2 by kernel_rfl] at hi
    have key : ∀ i, ∃ p : Nat × Nat, i < len → (p.1 < 256 ∧ p.2 < 256) ∧ W.cell? (a.add (i * 2)) = some (.int .u8 p.1) ∧ W.cell? (a.add (i * 2 + 1)) = some (.int .u8 p.2) := fun i => by
      by_cases hlt : i < len
      · obtain ⟨cs', hc, ht⟩ := hi i (by omega)
        obtain ⟨p, hp⟩ := elem_pair Try.underlying78 (by kernel_rfl) Try.underlying5 Try.underlying5 hc ht
        exact ⟨p, fun _ => hp⟩
      · exact ⟨(0, 0), fun h => absurd h hlt⟩
    obtain ⟨f, hf⟩ := Classical.axiomOfChoice key
    have hg : ∀ i, i < len → ((List.range len).map f).getD i (0, 0) = f i := fun i hi => by rw [List.getD, List.getElem?_map, List.getElem?_range hi]; rfl
    have hlen : ((List.range len).map f).length = len := by simp
    refine ⟨(List.range len).map f, fun q hq => ?_, by rw [hlen]; omega, ?_⟩
    · obtain ⟨i, hi', rfl⟩ := List.mem_map.1 hq
      exact (hf i (List.mem_range.1 hi')).1
    · by_cases h0 : len = 0
      · subst h0
        exact .inl ⟨some a, cap, rfl, rfl⟩
      · have c0 := (hf 0 (by omega)).2.1
        obtain ⟨g, off, spot⟩ := a
        obtain rfl : spot = none := by simpa [Addr.add] using World.cell?_spot c0
        refine .inr ⟨g, off, cap, by rw [hlen], fun i hi' => ?_⟩
        rw [hlen] at hi'
        rw [hg i hi']
        have := (hf i hi').2
        rw [addr_add, addr_add] at this
        exact this
end
set_option maxRecDepth 100000 in
set_option maxHeartbeats 2000000 in
theorem attrBytes_lifted (os : Os) (started : os.Started) (H : Type) (enc : TypeId × Value → H) :
    ReturnsInHanded {} Try.checked os 12 .any (Rows.attrBytesSpec.pre6 enc Try.prog Try.f12 Rows.attrBytesRow.domain false) (Rows.attrBytesSpec.post enc Try.prog Try.f12 false true false false) := by
  refine returnsInHanded_of_change (C := Try.checked) own started (by kernel_rfl) Try.func12
    (ChangeSpec.witness6 (enc := enc) (C := Try.checked) false ⟨#[], #[.slice none 0 0, .slice none 0 0], []⟩ 8 (by kernel_rfl) (by kernel_rfl) (by kernel_rfl) (by kernel_rfl)) ?_
  intro W base args ds gs before hval0 hW _ _
  have hval : ∀ (j : Nat) t v, Try.f12.params[j]? = some t → args[j]? = some v → Value.okWide Try.prog W .any base t v := hval0
  have hW' := hW
  obtain ⟨p, q, hA0, hV, rfl, hfz, hnd⟩ := hW
  have hA : DataW.TrodAll enc Try.prog W 0 (fun _ => true) true Try.f12.params.toList args.toList ds p := hA0
  rw [Try.params12] at hA hval
  obtain ⟨v0, vs0, d0, ds0, p0, q0, hargs, rfl, rfl, h0, r0⟩ := trodAll_cons hA
  obtain ⟨v1, vs1, d1, ds1, p1, q1, rfl, rfl, rfl, h1, r1⟩ := trodAll_cons r0
  obtain ⟨rfl, rfl, rfl⟩ := trodAll_nil r1
  obtain rfl : args = #[v0, v1] := by cases args; simp_all
  obtain ⟨rfl, rfl⟩ := trodVars_none hV
  have k0 := h0
  have lt0 : ∀ x ∈ p0, x.block < W.heap.size := by obtain ⟨m, hm⟩ := k0; exact DataW.trod_lt m _ _ _ hm
  obtain ⟨ps0, b0⟩ := open_pairs (hval 0 93 v0 rfl rfl) h0
  have k1 := h1
  have lt1 : ∀ x ∈ p1, x.block < W.heap.size := by obtain ⟨m, hm⟩ := k1; exact DataW.trod_lt m _ _ _ hm
  obtain ⟨zs1, b1⟩ : ∃ zs, Reads W v1 zs := by
    obtain ⟨x, len, cap, rfl⟩ := okWide_slice Try.underlying52 (hval 1 52 v1 rfl rfl)
    obtain ⟨fuel, hf⟩ := h1
    rcases open_ints Try.underlying52 Try.underlying5 (by kernel_rfl) hf with ⟨hcs, _⟩ | ⟨y, l, c, zs, hcs, _, hl, hm, hz, _, hcell, hwz⟩
    · simp [Value.cells] at hcs
      obtain ⟨rfl, rfl, rfl⟩ := hcs
      exact ⟨[], reads_nil W⟩
    · simp [Value.cells] at hcs
      obtain ⟨rfl, rfl, rfl⟩ := hcs
      have hzl : zs.length = cap := by simpa using hz
      exact ⟨zs.take len, reads_of_row W y len cap zs hl hm hzl hcell (fun n hn => by have := bounds_u8 (hwz n hn); omega)⟩
  clear hA0 hval0
  simp only [List.append_nil] at hW'
  refine (attrBytes_true v0 ps0 v1 zs1 W b0 b1).mono fun e W' ⟨he, bel⟩ => ?_
  subst he
  exact ⟨_, rfl, _, _, _, [], _, [], hW', trodAll_mk1 (shut_bool Try.underlying4 _), (trodAll_cons_mk (Below.trod laidOut (by kernel_rfl) (of_decide_eq_true (by kernel_rfl)) k0 bel lt0) (trodAll_cons_mk (Below.trod laidOut (by kernel_rfl) (of_decide_eq_true (by kernel_rfl)) k1 bel lt1) trodAll_mk0)), rfl, bel.frame _, fun h => by cases h⟩

theorem attrBytes_holds : Rows.AttrBytesSaid :=
  OpenClaim.holds_of_wide 12 Try.f12 rfl rfl rfl rfl rfl rfl rfl ⟨rfl, rfl, rfl, rfl, rfl⟩ rfl rfl rfl rfl rfl (by kernel_rfl) Try.func12 (by kernel_rfl)
    (of_decide_eq_true (by kernel_rfl)) (by unfold Func.isWrapper; first | (rw [if_pos (by decide +kernel)]; kernel_rfl) | (rw [if_neg (by decide +kernel)]; exact ⟨rfl, rfl⟩))
    (fun os started H enc _ => attrBytes_lifted os started H enc)
#print axioms attrBytes_holds
end Go.Proofs.Ytpnfdmfmdacjmaa
