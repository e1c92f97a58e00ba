/-
  AttrMakes is proved: for every two cells the law answers true and leaves its arguments as they were. No conditions.
-/
import Derived.Test.YtpnfdmfmdacjmaaRows
import Derived.Test.YtpnfdmfmdacjmaaMkw
import Derived.WalkKit
import Derived.ProofKit
import Derived.OpenShut
import Derived.Carry
import Derived.Lib.SmallJoins
namespace Go.Proofs.Ytpnfdmfmdacjmaa
open Go.ChangeShapes Go.WideShapes Go.ChangeAt Go.RowKit Go.Joins Go.Deep

theorem own : ownKnob Try.prog.godebug = none := by kernel_rfl
theorem laidOut : laidOutB Try.prog = true := by kernel_rfl
theorem i64_of {a : Int} (h : (Lit.int .i64 a).wf = true) : I64 a := by
  have := bounds_i64 h
  exact ⟨by omega, by omega⟩
theorem byte_nat {a : Int} (h : (Lit.int .u8 a).wf = true) : ∃ n : Nat, n < 256 ∧ a = (n : Int) := by
  have := bounds_u8 h
  exact ⟨a.toNat, by omega, by omega⟩
theorem list6 {l : List Value} (h : l.length = 6) : ∃ a b c d e f, l = [a, b, c, d, e, f] := by
  match l, h with
  | [a, b, c, d, e, f], _ => exact ⟨a, b, c, d, e, f, rfl⟩
section
variable {H : Type} {enc : TypeId × Value → H} {P : Program} {w : World} {base : Nat} {spare : Nat → Bool} {held : Bool}
/-- A struct by value: each field's own reading. -/
theorem agg_fields {r : Reach} {b0 : Nat} {t : TypeId} {fs : Array Field} {v : Value} {d : DataW H} {p : List MemPlace} (hs : P.underlying t = some (.struct fs)) (hone : oneCellFields P fs = true) (k : Nat) (hn : fs.size = k) (hC : P.cellsOf t = k)
    (hv : Value.okWide P w r b0 t v) (h : DataW.Trod enc P w base spare held t v d p) :
    ∃ cs : Array Value, v = .agg cs ∧ cs.size = k ∧ ∀ (j : Nat) (f : Field), fs[j]? = some f → ∃ (u : Value) (n : Nat) (y : DataW H × List MemPlace), cs.toList[j]? = some u ∧ DataW.trod enc P w base spare held n f.type [u] = some y := by
  obtain ⟨cs, rfl, hsz⟩ := okWide_struct hs hv
  obtain ⟨fuel, hf⟩ := h
  obtain ⟨xs, n, _, _, _, hlen, hg⟩ := DataW.trod_struct hs hf
  refine ⟨cs, rfl, hsz.trans hC, fun j f hj => ?_⟩
  obtain ⟨ho, hk⟩ := hone_of hone j f hj
  have hjl : j < cs.toList.length := by rw [Array.length_toList, hsz, hC, ← hn]; exact (Array.getElem?_eq_some_iff.1 hj).1
  have hjx : j < xs.length := by rw [hlen]; exact (Array.getElem?_eq_some_iff.1 hj).1
  have h1 := hg j f hj
  rw [ho, hk] at h1
  refine ⟨cs.toList[j], n, xs[j], List.getElem?_eq_getElem hjl, ?_⟩
  rw [List.getElem?_eq_getElem hjx] at h1
  rw [← h1]
  congr 1
  simp only [Value.cells]
  rw [List.drop_eq_getElem_cons hjl]
  rfl
end
set_option maxRecDepth 100000 in
set_option maxHeartbeats 2000000 in
theorem attrMakes_lifted (os : Os) (started : os.Started) (H : Type) (enc : TypeId × Value → H) :
    ReturnsInHanded {} Try.checked os 13 .any (Rows.attrMakesSpec.pre6 enc Try.prog Try.f13 Rows.attrMakesRow.domain false) (Rows.attrMakesSpec.post enc Try.prog Try.f13 false true false false) := by
  refine returnsInHanded_of_change (C := Try.checked) own started (by kernel_rfl) Try.func13
    (ChangeSpec.witness6 (enc := enc) (C := Try.checked) false ⟨#[], #[.agg #[.int .u8 0, .bool false, .int .u8 0, .int .u8 0, .int .u8 0, .int .u8 0], .agg #[.int .u8 0, .bool false, .int .u8 0, .int .u8 0, .int .u8 0, .int .u8 0]], []⟩ 8 (by kernel_rfl) (by kernel_rfl) (by kernel_rfl) (by kernel_rfl)) ?_
  intro W base args ds gs before hval0 hW _ _
  have hval : ∀ (j : Nat) t v, Try.f13.params[j]? = some t → args[j]? = some v → Value.okWide Try.prog W .any base t v := hval0
  have hW' := hW
  obtain ⟨p, q, hA0, hV, rfl, hfz, hnd⟩ := hW
  have hA : DataW.TrodAll enc Try.prog W 0 (fun _ => true) true Try.f13.params.toList args.toList ds p := hA0
  rw [Try.params13] at hA hval
  obtain ⟨v0, vs0, d0, ds0, p0, q0, hargs, rfl, rfl, h0, r0⟩ := trodAll_cons hA
  obtain ⟨v1, vs1, d1, ds1, p1, q1, rfl, rfl, rfl, h1, r1⟩ := trodAll_cons r0
  obtain ⟨rfl, rfl, rfl⟩ := trodAll_nil r1
  obtain rfl : args = #[v0, v1] := by cases args; simp_all
  obtain ⟨rfl, rfl⟩ := trodVars_none hV
  have k0 := h0
  have lt0 : ∀ x ∈ p0, x.block < W.heap.size := by obtain ⟨m, hm⟩ := k0; exact DataW.trod_lt m _ _ _ hm
  obtain ⟨cs0, rfl, sz0, fd0⟩ := agg_fields Try.underlying80 (by kernel_rfl) 6 rfl (by kernel_rfl : Try.prog.cellsOf 80 = 6) (hval 0 80 v0 rfl rfl) h0
  obtain ⟨l0⟩ := cs0
  obtain ⟨c0_0, c0_1, c0_2, c0_3, c0_4, c0_5, rfl⟩ := list6 (show l0.length = 6 from sz0)
  obtain ⟨u0_0, m0_0, y0_0, eu0_0, hy0_0⟩ := fd0 0 _ rfl
  obtain rfl := Option.some.inj eu0_0
  obtain ⟨a0_0, e0_0, rfl, w0_0⟩ := DataW.trod_int Try.underlying5 hy0_0
  simp at e0_0
  subst e0_0
  obtain ⟨n0_0, b0_0, rfl⟩ := byte_nat w0_0
  obtain ⟨u0_1, m0_1, y0_1, eu0_1, hy0_1⟩ := fd0 1 _ rfl
  obtain rfl := Option.some.inj eu0_1
  obtain ⟨a0_1, e0_1, rfl⟩ := DataW.trod_bool Try.underlying4 hy0_1
  simp at e0_1
  subst e0_1
  obtain ⟨u0_2, m0_2, y0_2, eu0_2, hy0_2⟩ := fd0 2 _ rfl
  obtain rfl := Option.some.inj eu0_2
  obtain ⟨a0_2, e0_2, rfl, w0_2⟩ := DataW.trod_int Try.underlying5 hy0_2
  simp at e0_2
  subst e0_2
  obtain ⟨n0_2, b0_2, rfl⟩ := byte_nat w0_2
  obtain ⟨u0_3, m0_3, y0_3, eu0_3, hy0_3⟩ := fd0 3 _ rfl
  obtain rfl := Option.some.inj eu0_3
  obtain ⟨a0_3, e0_3, rfl, w0_3⟩ := DataW.trod_int Try.underlying5 hy0_3
  simp at e0_3
  subst e0_3
  obtain ⟨n0_3, b0_3, rfl⟩ := byte_nat w0_3
  obtain ⟨u0_4, m0_4, y0_4, eu0_4, hy0_4⟩ := fd0 4 _ rfl
  obtain rfl := Option.some.inj eu0_4
  obtain ⟨a0_4, e0_4, rfl, w0_4⟩ := DataW.trod_int Try.underlying5 hy0_4
  simp at e0_4
  subst e0_4
  obtain ⟨n0_4, b0_4, rfl⟩ := byte_nat w0_4
  obtain ⟨u0_5, m0_5, y0_5, eu0_5, hy0_5⟩ := fd0 5 _ rfl
  obtain rfl := Option.some.inj eu0_5
  obtain ⟨a0_5, e0_5, rfl, w0_5⟩ := DataW.trod_int Try.underlying5 hy0_5
  simp at e0_5
  subst e0_5
  obtain ⟨n0_5, b0_5, rfl⟩ := byte_nat w0_5
  have k1 := h1
  have lt1 : ∀ x ∈ p1, x.block < W.heap.size := by obtain ⟨m, hm⟩ := k1; exact DataW.trod_lt m _ _ _ hm
  obtain ⟨cs1, rfl, sz1, fd1⟩ := agg_fields Try.underlying80 (by kernel_rfl) 6 rfl (by kernel_rfl : Try.prog.cellsOf 80 = 6) (hval 1 80 v1 rfl rfl) h1
  obtain ⟨l1⟩ := cs1
  obtain ⟨c1_0, c1_1, c1_2, c1_3, c1_4, c1_5, rfl⟩ := list6 (show l1.length = 6 from sz1)
  obtain ⟨u1_0, m1_0, y1_0, eu1_0, hy1_0⟩ := fd1 0 _ rfl
  obtain rfl := Option.some.inj eu1_0
  obtain ⟨a1_0, e1_0, rfl, w1_0⟩ := DataW.trod_int Try.underlying5 hy1_0
  simp at e1_0
  subst e1_0
  obtain ⟨n1_0, b1_0, rfl⟩ := byte_nat w1_0
  obtain ⟨u1_1, m1_1, y1_1, eu1_1, hy1_1⟩ := fd1 1 _ rfl
  obtain rfl := Option.some.inj eu1_1
  obtain ⟨a1_1, e1_1, rfl⟩ := DataW.trod_bool Try.underlying4 hy1_1
  simp at e1_1
  subst e1_1
  obtain ⟨u1_2, m1_2, y1_2, eu1_2, hy1_2⟩ := fd1 2 _ rfl
  obtain rfl := Option.some.inj eu1_2
  obtain ⟨a1_2, e1_2, rfl, w1_2⟩ := DataW.trod_int Try.underlying5 hy1_2
  simp at e1_2
  subst e1_2
  obtain ⟨n1_2, b1_2, rfl⟩ := byte_nat w1_2
  obtain ⟨u1_3, m1_3, y1_3, eu1_3, hy1_3⟩ := fd1 3 _ rfl
  obtain rfl := Option.some.inj eu1_3
  obtain ⟨a1_3, e1_3, rfl, w1_3⟩ := DataW.trod_int Try.underlying5 hy1_3
  simp at e1_3
  subst e1_3
  obtain ⟨n1_3, b1_3, rfl⟩ := byte_nat w1_3
  obtain ⟨u1_4, m1_4, y1_4, eu1_4, hy1_4⟩ := fd1 4 _ rfl
  obtain rfl := Option.some.inj eu1_4
  obtain ⟨a1_4, e1_4, rfl, w1_4⟩ := DataW.trod_int Try.underlying5 hy1_4
  simp at e1_4
  subst e1_4
  obtain ⟨n1_4, b1_4, rfl⟩ := byte_nat w1_4
  obtain ⟨u1_5, m1_5, y1_5, eu1_5, hy1_5⟩ := fd1 5 _ rfl
  obtain rfl := Option.some.inj eu1_5
  obtain ⟨a1_5, e1_5, rfl, w1_5⟩ := DataW.trod_int Try.underlying5 hy1_5
  simp at e1_5
  subst e1_5
  obtain ⟨n1_5, b1_5, rfl⟩ := byte_nat w1_5
  clear hA0 hval0
  simp only [List.append_nil] at hW'
  refine (attrMakes_true n0_0 n1_2 n1_0 a0_1 a1_1 n0_2 n0_3 n0_4 n0_5 n1_3 n1_4 n1_5 b0_2 b0_3 b0_4 b0_5 b1_3 b1_4 b1_5 W).mono fun e W' ⟨he, bel⟩ => ?_
  subst he
  exact ⟨_, rfl, _, _, _, [], _, [], hW', trodAll_mk1 (shut_bool Try.underlying4 _), (trodAll_cons_mk (Below.trod laidOut (by kernel_rfl) (of_decide_eq_true (by kernel_rfl)) k0 bel lt0) (trodAll_cons_mk (Below.trod laidOut (by kernel_rfl) (of_decide_eq_true (by kernel_rfl)) k1 bel lt1) trodAll_mk0)), rfl, bel.frame _, fun h => by cases h⟩

theorem attrMakes_holds : Rows.AttrMakesSaid :=
  OpenClaim.holds_of_wide 13 Try.f13 rfl rfl rfl rfl rfl rfl rfl ⟨rfl, rfl, rfl, rfl, rfl⟩ rfl rfl rfl rfl rfl (by kernel_rfl) Try.func13 (by kernel_rfl)
    (of_decide_eq_true (by kernel_rfl)) (by unfold Func.isWrapper; first | (rw [if_pos (by decide +kernel)]; kernel_rfl) | (rw [if_neg (by decide +kernel)]; exact ⟨rfl, rfl⟩))
    (fun os started H enc _ => attrMakes_lifted os started H enc)
#print axioms attrMakes_holds
end Go.Proofs.Ytpnfdmfmdacjmaa
