/-
  NegoPlays is proved: for every config and script the law answers true and leaves its arguments as they were. No conditions.
-/
import Derived.Test.YtdpfjbpfafekfaaRows
import Derived.Test.YtdpfjbpfafekfaaSc
import Derived.Test.YtdpfjbpfafekfaaNw
import Derived.WalkKit
import Derived.ProofKit
import Derived.OpenShut
import Derived.Carry
import Derived.Lib.SmallJoins
namespace Go.Proofs.Ytdpfjbpfafekfaa
open Go.ChangeShapes Go.WideShapes Go.ChangeAt Go.RowKit Go.Joins Go.Deep

/-- A script that came in. -/
def ScriptIn (w : World) (v : Value) : Prop := (∃ x c, v = .slice x 0 c) ∨ ∃ g off n cap, v = .slice (some ⟨g, off, none⟩) n cap ∧ n ≤ maxLen ∧ ∀ i, i < n → OpRow w g off i
section
variable {H : Type} {enc : TypeId × Value → H} {W : World}
set_option maxRecDepth 100000 in
/-- One step's three cells. -/
theorem elem_op {P : Program} {t : TypeId} {f0 f1 f2 : Field} (hs : P.underlying t = some (.struct #[f0, f1, f2])) (hone : oneCellFields P #[f0, f1, f2] = true) (hf0 : P.underlying f0.type = some .bool) (hf1 : P.underlying f1.type = some (.int .u8)) {n i : Nat} {a : Addr} {cs : List Value} {y : DataW H × List MemPlace} (hc : W.cells? 0 (a.add (i * 3)) 3 = some cs) (ht : DataW.trod enc P W 0 (fun _ => true) true n t cs = some y) :
    ∃ (rs : Bool) (o : Nat) (u : Value) (n' : Nat) (y' : DataW H × List MemPlace), o < 256 ∧ W.cell? (a.add (i * 3)) = some (.bool rs) ∧ W.cell? (a.add (i * 3 + 1)) = some (.int .u8 o) ∧ W.cell? (a.add (i * 3 + 2)) = some u ∧ DataW.trod enc P W 0 (fun _ => true) true n' f2.type [u] = some y' := by
  obtain ⟨_, hcl, hat⟩ := World.cells?_some hc
  obtain ⟨ys, n', _, _, _, hyl, hf⟩ := DataW.trod_struct hs ht
  obtain ⟨u0, u1, u2, rfl⟩ := list3 hcl
  obtain ⟨y0, y1, y2, rfl⟩ := list3 (show ys.length = 3 from hyl)
  obtain ⟨o0, k0⟩ := hone_of hone 0 f0 rfl
  obtain ⟨o1, k1⟩ := hone_of hone 1 f1 rfl
  obtain ⟨o2, k2⟩ := hone_of hone 2 f2 rfl
  have g0 := hf 0 f0 rfl
  have g1 := hf 1 f1 rfl
  have g2 := hf 2 f2 rfl
  rw [o0, k0] at g0
  rw [o1, k1] at g1
  rw [o2, k2] at g2
  have f0' : DataW.trod enc P W 0 (fun _ => true) true n' f0.type [u0] = some y0 := g0
  have f1' : DataW.trod enc P W 0 (fun _ => true) true n' f1.type [u1] = some y1 := g1
  have f2' : DataW.trod enc P W 0 (fun _ => true) true n' f2.type [u2] = some y2 := g2
  obtain ⟨b0, e0, _⟩ := DataW.trod_bool hf0 f0'
  obtain ⟨b1, e1, _, w1⟩ := DataW.trod_int hf1 f1'
  simp at e0 e1
  subst e0 e1
  obtain ⟨m1, hm1, rfl⟩ := byte_nat w1
  have c0 := hat 0 (by simp)
  have c1 := hat 1 (by simp)
  have c2 := hat 2 (by simp)
  rw [add_add] at c0 c1 c2
  exact ⟨b0, m1, u2, n', y2, hm1, c0, c1, c2, f2'⟩
set_option maxRecDepth 100000 in
theorem open_script {r : Reach} {b0 : Nat} {v : Value} {d : DataW H} {p : List MemPlace} (hv : Value.okWide Try.prog W r b0 77 v) (h : DataW.Trod enc Try.prog W 0 (fun _ => true) true 77 v d p) : ∃ _q : Unit, ScriptIn W v := by
  refine ⟨(), ?_⟩
  obtain ⟨x, len, cap, rfl⟩ := okWide_slice Try.underlying77 hv
  obtain ⟨fuel, hf⟩ := h
  rcases open_slice Try.underlying77 hf with ⟨hcs, _⟩ | ⟨a, l, c, m, n, D, Pl, hcs, _, hl, hm, hmm, _, hi⟩
  · simp [Value.cells] at hcs
    obtain ⟨rfl, rfl, rfl⟩ := hcs
    exact .inl ⟨none, 0, rfl⟩
  · simp [Value.cells] at hcs
    obtain ⟨rfl, rfl, rfl⟩ := hcs
    have hmc : m = cap := by simpa using hmm
    rw [show Try.prog.cellsOf 88 = 3 by kernel_rfl] at hi
    have key : ∀ i, i < len → ∃ (rs : Bool) (o : Nat) (u : Value) (zs : List Int), o < 256 ∧ W.cell? (a.add (i * 3)) = some (.bool rs) ∧ W.cell? (a.add (i * 3 + 1)) = some (.int .u8 o) ∧ W.cell? (a.add (i * 3 + 2)) = some u ∧ Reads W u zs := fun i hlt => by
      obtain ⟨cs', hc, ht⟩ := hi i (by omega)
      obtain ⟨rs, o, u, n', y', ho, c0, c1, c2, hu⟩ := elem_op Try.underlying88 (by kernel_rfl) Try.underlying4 Try.underlying5 hc ht
      obtain ⟨zs, hz⟩ := reads_trod hu
      exact ⟨rs, o, u, zs, ho, c0, c1, c2, hz⟩
    by_cases h0 : len = 0
    · subst h0
      exact .inl ⟨some a, cap, rfl⟩
    · obtain ⟨_, _, _, _, _, c0, _⟩ := key 0 (by omega)
      obtain ⟨g, off, spot⟩ := a
      obtain rfl : spot = none := by simpa [Addr.add] using World.cell?_spot c0
      refine .inr ⟨g, off, len, cap, rfl, by omega, fun i hlt => ?_⟩
      obtain ⟨rs, o, u, zs, ho, c0, c1, c2, hz⟩ := key i hlt
      rw [addr_add] at c0 c1 c2
      exact ⟨rs, o, u, zs, ho, c0, c1, c2, hz⟩
end
theorem negoPlays_true (v s : Value) (q : ByteArray × ByteArray × List Int) (w : World) (hc : CfgIn w v q) (hx : ScriptIn w s) : Calls Try.prog 8 #[v, s] w fun e w' => e = .returned (.bool true) ∧ Below w.heap.size w w' := by
  obtain ⟨x, n, c, rfl, hr, h0, h1⟩ := hc
  rcases hx with ⟨x0, c0, rfl⟩ | ⟨g, off, m, cap, rfl, hm, h3⟩
  · exact plays_any q.1 q.2.1 x n c q.2.2 x0 0 0 0 c0 (Nat.zero_le _) w hr h0 h1 (fun h => absurd h (by omega)) (fun i h => absurd h (by omega))
  · exact plays_any q.1 q.2.1 x n c q.2.2 _ g off m cap hm w hr h0 h1 (fun _ => rfl) h3
set_option maxRecDepth 100000 in
set_option maxHeartbeats 2000000 in
theorem negoPlays_lifted (os : Os) (started : os.Started) (H : Type) (enc : TypeId × Value → H) :
    ReturnsInHanded {} Try.checked os 8 .any (Rows.negoPlaysSpec.pre6 enc Try.prog Try.f8 Rows.negoPlaysRow.domain false) (Rows.negoPlaysSpec.post enc Try.prog Try.f8 false true false false) := by
  refine returnsInHanded_of_change (C := Try.checked) own started (by kernel_rfl) Try.func8
    (ChangeSpec.witness6 (enc := enc) (C := Try.checked) false ⟨#[], #[.agg #[.string ⟨#[]⟩, .string ⟨#[]⟩, .slice none 0 0], .slice none 0 0], []⟩ 8 (by kernel_rfl) (by kernel_rfl) (by kernel_rfl) (by kernel_rfl)) ?_
  intro W base args ds gs before hval0 hW _ _
  have hval : ∀ (j : Nat) t v, Try.f8.params[j]? = some t → args[j]? = some v → Value.okWide Try.prog W .any base t v := hval0
  have hW' := hW
  obtain ⟨p, q, hA0, hV, rfl, hfz, hnd⟩ := hW
  have hA : DataW.TrodAll enc Try.prog W 0 (fun _ => true) true Try.f8.params.toList args.toList ds p := hA0
  rw [Try.params8] at hA hval
  obtain ⟨v0, vs0, d0, ds0, p0, q0, hargs, rfl, rfl, h0, r0⟩ := trodAll_cons hA
  obtain ⟨v1, vs1, d1, ds1, p1, q1, rfl, rfl, rfl, h1, r1⟩ := trodAll_cons r0
  obtain ⟨rfl, rfl, rfl⟩ := trodAll_nil r1
  obtain rfl : args = #[v0, v1] := by cases args; simp_all
  obtain ⟨rfl, rfl⟩ := trodVars_none hV
  have k0 := h0
  have lt0 : ∀ x ∈ p0, x.block < W.heap.size := by obtain ⟨m, hm⟩ := k0; exact DataW.trod_lt m _ _ _ hm
  obtain ⟨xs0, b0⟩ := open_cfg (hval 0 76 v0 rfl rfl) h0
  have k1 := h1
  have lt1 : ∀ x ∈ p1, x.block < W.heap.size := by obtain ⟨m, hm⟩ := k1; exact DataW.trod_lt m _ _ _ hm
  obtain ⟨xs1, b1⟩ := open_script (hval 1 77 v1 rfl rfl) h1
  clear hA0 hval0
  simp only [List.append_nil] at hW'
  refine (negoPlays_true v0 v1 xs0 W b0 b1).mono fun e W' ⟨he, bel⟩ => ?_
  subst he
  exact ⟨_, rfl, _, _, _, [], _, [], hW', trodAll_mk1 (shut_bool Try.underlying4 _), (trodAll_cons_mk (Below.trod laidOut (by kernel_rfl) (of_decide_eq_true (by kernel_rfl)) k0 bel lt0) (trodAll_cons_mk (Below.trod laidOut (by kernel_rfl) (of_decide_eq_true (by kernel_rfl)) k1 bel lt1) trodAll_mk0)), rfl, bel.frame _, fun h => by cases h⟩

theorem negoPlays_holds : Rows.NegoPlaysSaid :=
  OpenClaim.holds_of_wide 8 Try.f8 rfl rfl rfl rfl rfl rfl rfl ⟨rfl, rfl, rfl, rfl, rfl⟩ rfl rfl rfl rfl rfl (by kernel_rfl) Try.func8 (by kernel_rfl)
    (of_decide_eq_true (by kernel_rfl)) (by unfold Func.isWrapper; first | (rw [if_pos (by decide +kernel)]; kernel_rfl) | (rw [if_neg (by decide +kernel)]; exact ⟨rfl, rfl⟩))
    (fun os started H enc _ => negoPlays_lifted os started H enc)
#print axioms negoPlays_holds
end Go.Proofs.Ytdpfjbpfafekfaa
