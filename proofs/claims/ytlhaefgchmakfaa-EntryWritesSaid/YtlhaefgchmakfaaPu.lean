/-
  EntryWrites is proved: for any report the law answers true and leaves its argument as it was. No conditions.
-/
import Derived.Test.YtlhaefgchmakfaaRows
import Derived.Test.YtlhaefgchmakfaaPt
import Derived.Test.YtlhaefgchmakfaaPn
import Derived.WalkKit
import Derived.ProofKit
import Derived.OpenShut
import Derived.Carry
import Derived.Lib.SmallJoins
namespace Go.Proofs.Ytlhaefgchmakfaa
open Go.ChangeShapes Go.WideShapes Go.ChangeAt Go.RowKit Go.Joins Go.Deep

section
variable {H : Type} {enc : TypeId × Value → H} {W : World}
theorem add_add20 (a : Addr) (i j : Nat) : (a.add i).add j = a.add (i + j) := by
  unfold Addr.add
  by_cases hi : i = 0
  · subst hi; simp
  · by_cases hj : j = 0
    · subst hj; simp [hi]
    · simp [hi, hj, Nat.add_assoc]
theorem list2_20 {α : Type} {l : List α} (h : l.length = 2) : ∃ a b, l = [a, b] := by
  rcases l with _ | ⟨a, _ | ⟨b, _ | ⟨c, l⟩⟩⟩ <;> simp at h
  exact ⟨a, b, rfl⟩
theorem list4_20 {α : Type} {l : List α} (h : l.length = 4) : ∃ a b c d, l = [a, b, c, d] := by
  rcases l with _ | ⟨a, _ | ⟨b, _ | ⟨c, _ | ⟨d, _ | ⟨e, l⟩⟩⟩⟩⟩ <;> simp at h
  exact ⟨a, b, c, d, rfl⟩
theorem reads_op {P : Program} {t e : TypeId} (ht : P.underlying t = some (.slice e)) (he : P.underlying e = some (.int .u8)) (hc : P.cellsOf e = 1) {n : Nat} {u : Value} {y : DataW H × List MemPlace} (h : DataW.trod enc P W 0 (fun _ => true) true n t [u] = some y) : ∃ xs, Reads W u xs := by
  rcases open_ints ht he hc h with ⟨hcs, _⟩ | ⟨a, len, cap, zs, hcs, _, hl, hm, hz, _, hcell, hwz⟩
  · simp at hcs
    subst hcs
    exact ⟨[], reads_nil W⟩
  · simp at hcs
    subst hcs
    have hzl : zs.length = cap := by simpa using hz
    exact ⟨zs.take len, reads_of_row W a len cap zs hl hm hzl hcell (fun n hn => by have := bounds_u8 (hwz n hn); omega)⟩
set_option maxRecDepth 100000 in
theorem ent_op {P : Program} {t tx te : TypeId} {f0 f1 : Field} (hs : P.underlying t = some (.struct #[f0, f1])) (o0 : f0.offset = 0) (o1 : f1.offset = 1) (k0 : P.cellsOf f0.type = 1) (k1 : P.cellsOf f1.type = 1) (h0 : P.underlying f0.type = some (.int .i64)) (h1 : f1.type = tx) (hx : P.underlying tx = some (.slice te)) (he : P.underlying te = some (.int .u8)) (hce : P.cellsOf te = 1)
    {n i : Nat} {a : Addr} {cs : List Value} {y : DataW H × List MemPlace} (hc : W.cells? 0 (a.add (i * 2)) 2 = some cs) (ht : DataW.trod enc P W 0 (fun _ => true) true n t cs = some y) :
    ∃ x : EnV, Reads W x.tv x.d.text ∧ W.cell? (a.add (i * 2)) = some (.int .i64 x.d.addr) ∧ W.cell? (a.add (i * 2 + 1)) = some x.tv := by
  obtain ⟨_, hcl, hat⟩ := World.cells?_some hc
  obtain ⟨ys, n', _, _, _, hyl, hf⟩ := DataW.trod_struct hs ht
  obtain ⟨u0, u1, rfl⟩ := list2_20 hcl
  obtain ⟨y0, y1, rfl⟩ := list2_20 (show ys.length = 2 from hyl)
  have g0 := hf 0 f0 rfl
  have g1 := hf 1 f1 rfl
  rw [o0, k0] at g0
  rw [o1, k1, h1] at g1
  obtain ⟨b0, e0, _, w0⟩ := DataW.trod_int h0 (show DataW.trod enc P W 0 (fun _ => true) true n' f0.type [u0] = some y0 from g0)
  obtain ⟨xs, hxs⟩ := reads_op hx he hce (show DataW.trod enc P W 0 (fun _ => true) true n' tx [u1] = some y1 from g1)
  simp at e0
  subst e0
  have c0 := hat 0 (by simp)
  have c1 := hat 1 (by simp)
  rw [add_add20] at c0 c1
  exact ⟨⟨⟨b0, xs⟩, u1⟩, hxs, c0, c1⟩
set_option maxRecDepth 100000 in
/-- Entries that came in. -/
theorem open_ents {n : Nat} {u : Value} {y : DataW H × List MemPlace} (h : DataW.trod enc Try.prog W 0 (fun _ => true) true n 60 [u] = some y) : ∃ es, EntArg W u es := by
  rcases open_slice Try.underlying60 h with ⟨hcs, _⟩ | ⟨a, l, c, m, n, D, Pl, hcs, _, hl, hm, hmm, _, hi⟩
  · simp at hcs
    subst hcs
    exact ⟨[], ⟨none, 0, rfl, fun i hi => absurd hi (Nat.not_lt_zero i)⟩, fun x hx => (by cases hx), by simp⟩
  · simp at hcs
    subst hcs
    have hmc : m = c := by simpa using hmm
    rw [show Try.prog.cellsOf 64 = 2 by kernel_rfl] at hi
    have key : ∀ i, ∃ x : EnV, i < l → Reads W x.tv x.d.text ∧ W.cell? (a.add (i * 2)) = some (.int .i64 x.d.addr) ∧ W.cell? (a.add (i * 2 + 1)) = some x.tv := fun i => by
      by_cases hlt : i < l
      · obtain ⟨cs', hc, ht⟩ := hi i (by omega)
        obtain ⟨x, hx⟩ := ent_op (tx := 31) Try.underlying64 (by kernel_rfl) (by kernel_rfl) (by kernel_rfl) (by kernel_rfl) (by kernel_rfl) rfl Try.underlying31 (by kernel_rfl) (by kernel_rfl) hc ht
        exact ⟨x, fun _ => hx⟩
      · exact ⟨⟨⟨0, []⟩, .slice none 0 0⟩, fun h => absurd h hlt⟩
    obtain ⟨f, hf⟩ := Classical.axiomOfChoice key
    have hlen : ((List.range l).map f).length = l := by simp
    have hm' : c ≤ 9223372036854775807 := hm
    refine ⟨(List.range l).map f, ⟨some a, c, by rw [hlen], fun i hi' => ?_⟩, fun x hx => ?_, by omega⟩
    · rw [hlen] at hi'
      have hget : ((List.range l).map f)[i]'(by rw [hlen]; exact hi') = f i := by simp
      rw [hget]
      obtain ⟨_, c0, c1⟩ := hf i hi'
      obtain ⟨g, off, spot⟩ := a
      have cz := (hf 0 (by omega)).2.1
      obtain rfl : spot = none := by simpa [Addr.add] using World.cell?_spot cz
      rw [addr_add] at c0 c1
      exact ⟨g, off, rfl, c0, by rw [Nat.add_assoc]; exact c1⟩
    · obtain ⟨i, hi', rfl⟩ := List.mem_map.1 hx
      exact (hf i (List.mem_range.1 hi')).1
set_option maxRecDepth 100000 in
theorem rep_op {P : Program} {t ts : TypeId} {f0 f1 f2 f3 : Field} (hs : P.underlying t = some (.struct #[f0, f1, f2, f3])) (o0 : f0.offset = 0) (o1 : f1.offset = 1) (o2 : f2.offset = 2) (o3 : f3.offset = 3) (k0 : P.cellsOf f0.type = 1) (k1 : P.cellsOf f1.type = 1) (k2 : P.cellsOf f2.type = 1) (k3 : P.cellsOf f3.type = 1) (h0 : P.underlying f0.type = some (.int .u8)) (h1 : P.underlying f1.type = some .bool) (h2 : P.underlying f2.type = some (.int .i64)) (h3 : f3.type = ts)
    {n : Nat} {cs : List Value} {y : DataW H × List MemPlace} (hcl : cs.length = 4) (ht : DataW.trod enc P W 0 (fun _ => true) true n t cs = some y) :
    ∃ (k : Nat) (b : Bool) (q : Int) (u : Value) (n' : Nat) (z : DataW H × List MemPlace), k < 256 ∧ cs = [.int .u8 k, .bool b, .int .i64 q, u] ∧ DataW.trod enc P W 0 (fun _ => true) true n' ts [u] = some z := by
  obtain ⟨ys, n', _, _, _, hyl, hf⟩ := DataW.trod_struct hs ht
  obtain ⟨u0, u1, u2, u3, rfl⟩ := list4_20 hcl
  obtain ⟨y0, y1, y2, y3, rfl⟩ := list4_20 (show ys.length = 4 from hyl)
  have g0 := hf 0 f0 rfl
  have g1 := hf 1 f1 rfl
  have g2 := hf 2 f2 rfl
  have g3 := hf 3 f3 rfl
  rw [o0, k0] at g0
  rw [o1, k1] at g1
  rw [o2, k2] at g2
  rw [o3, k3, h3] at g3
  obtain ⟨b0, e0, _, w0⟩ := DataW.trod_int h0 (show DataW.trod enc P W 0 (fun _ => true) true n' f0.type [u0] = some y0 from g0)
  obtain ⟨b1, e1, _⟩ := DataW.trod_bool h1 (show DataW.trod enc P W 0 (fun _ => true) true n' f1.type [u1] = some y1 from g1)
  obtain ⟨b2, e2, _, w2⟩ := DataW.trod_int h2 (show DataW.trod enc P W 0 (fun _ => true) true n' f2.type [u2] = some y2 from g2)
  simp at e0 e1 e2
  subst e0 e1 e2
  obtain ⟨m, hm, rfl⟩ := byte_nat w0
  exact ⟨m, b1, b2, u3, n', y3, hm, rfl, g3⟩
set_option maxRecDepth 100000 in
theorem open_rep {r : Reach} {b0 : Nat} {v : Value} {d : DataW H} {p : List MemPlace} (hv : Value.okWide Try.prog W r b0 62 v) (h : DataW.Trod enc Try.prog W 0 (fun _ => true) true 62 v d p) : ∃ (k : Nat) (b : Bool) (q : Int) (u : Value) (es : List EnV), v = .agg #[.int .u8 k, .bool b, .int .i64 q, u] ∧ k < 256 ∧ EntArg W u es := by
  obtain ⟨cs, rfl, hsz⟩ := okWide_struct Try.underlying62 hv
  rw [show Try.prog.cellsOf 62 = 4 by kernel_rfl] at hsz
  obtain ⟨fuel, hf⟩ := h
  obtain ⟨k, b, q, u, n', z, hk, e, hz⟩ := rep_op (ts := 60) Try.underlying62 (by kernel_rfl) (by kernel_rfl) (by kernel_rfl) (by kernel_rfl) (by kernel_rfl) (by kernel_rfl) (by kernel_rfl) (by kernel_rfl) (by kernel_rfl) (by kernel_rfl) (by kernel_rfl) rfl (show cs.toList.length = 4 by rw [Array.length_toList]; exact hsz) (show DataW.trod enc Try.prog W 0 (fun _ => true) true fuel 62 cs.toList = some _ from hf)
  obtain ⟨es, he⟩ := open_ents hz
  refine ⟨k, b, q, u, es, ?_, hk, he⟩
  congr 1
  apply Array.ext'
  rw [e]
end
set_option maxRecDepth 100000 in
set_option maxHeartbeats 2000000 in
theorem entryWrites_lifted (os : Os) (started : os.Started) (H : Type) (enc : TypeId × Value → H) :
    ReturnsInHanded {} Try.checked os 6 .any (Rows.entryWritesSpec.pre6 enc Try.prog Try.f6 Rows.entryWritesRow.domain false) (Rows.entryWritesSpec.post enc Try.prog Try.f6 false true false false) := by
  refine returnsInHanded_of_change (C := Try.checked) own started (by kernel_rfl) Try.func6
    (ChangeSpec.witness6 (enc := enc) (C := Try.checked) false ⟨#[], #[.agg #[.int .u8 0, .bool false, .int .i64 0, .slice none 0 0]], []⟩ 8 (by kernel_rfl) (by kernel_rfl) (by kernel_rfl) (by kernel_rfl)) ?_
  intro W base args ds gs before hval0 hW _ _
  have hval : ∀ (j : Nat) t v, Try.f6.params[j]? = some t → args[j]? = some v → Value.okWide Try.prog W .any base t v := hval0
  have hW' := hW
  obtain ⟨p, q, hA0, hV, rfl, hfz, hnd⟩ := hW
  have hA : DataW.TrodAll enc Try.prog W 0 (fun _ => true) true Try.f6.params.toList args.toList ds p := hA0
  rw [Try.params6] at hA hval
  obtain ⟨v0, vs0, d0, ds0, p0, q0, hargs, rfl, rfl, h0, r0⟩ := trodAll_cons hA
  obtain ⟨rfl, rfl, rfl⟩ := trodAll_nil r0
  obtain rfl : args = #[v0] := by cases args; simp_all
  obtain ⟨rfl, rfl⟩ := trodVars_none hV
  have k0 := h0
  have lt0 : ∀ x ∈ p0, x.block < W.heap.size := by obtain ⟨m, hm⟩ := k0; exact DataW.trod_lt m _ _ _ hm
  obtain ⟨ka, ba, qa, ua, es, rfl, hka, hes⟩ := open_rep (hval 0 62 v0 rfl rfl) h0
  clear hA0 hval0
  simp only [List.append_nil] at hW'
  refine (writes_any ka ba qa ua es W hes ⟨by omega, by omega⟩).mono fun e W' ⟨he, bel⟩ => ?_
  subst he
  exact ⟨_, rfl, _, _, _, [], _, [], hW', trodAll_mk1 (shut_bool Try.underlying4 _), (trodAll_cons_mk (Below.trod laidOut (by kernel_rfl) (of_decide_eq_true (by kernel_rfl)) k0 bel lt0) trodAll_mk0), rfl, bel.frame _, fun h => by cases h⟩

theorem entryWrites_holds : Rows.EntryWritesSaid :=
  OpenClaim.holds_of_wide 6 Try.f6 rfl rfl rfl rfl rfl rfl rfl ⟨rfl, rfl, rfl, rfl, rfl⟩ rfl rfl rfl rfl rfl (by kernel_rfl) Try.func6 (by kernel_rfl)
    (of_decide_eq_true (by kernel_rfl)) (by unfold Func.isWrapper; first | (rw [if_pos (by decide +kernel)]; kernel_rfl) | (rw [if_neg (by decide +kernel)]; exact ⟨rfl, rfl⟩))
    (fun os started H enc _ => entryWrites_lifted os started H enc)
#print axioms entryWrites_holds
end Go.Proofs.Ytlhaefgchmakfaa
