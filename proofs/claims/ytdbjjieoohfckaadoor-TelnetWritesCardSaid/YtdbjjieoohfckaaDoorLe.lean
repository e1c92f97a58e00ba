/-
  TelnetWrites is proved: for every list of events the law answers true and leaves its argument as it was. Conditions: the variables acceptRanges and first hold what the program's text lays, which the card ties.
-/
import Derived.Test.YtdbjjieoohfckaaDoorLd
import Derived.Test.YtdbjjieoohfckaaDoorCards
import Derived.Test.YtdbjjieoohfckaaDoorTie
import Derived.SevenTiedAt
import Derived.Lay
import Derived.LaidSub
import Derived.LaidMore
import Derived.Stop.Joined
import Derived.ProofKit
import Derived.OpenShut
import Derived.ShutString
import Derived.ChangeOld
import Derived.Carry
import Derived.Lib.SmallJoins
import Derived.Deep.Slices
namespace Go.Proofs.YtdbjjieoohfckaaDoor
open Go.ChangeShapes Go.WideShapes Go.ChangeAt Go.WideMaps Go.WideElems Go.RowKit Go.Joins Go.Deep

theorem own : ownKnob Tryd.prog.godebug = none := by kernel_rfl
theorem laidOut : laidOutB Tryd.prog = true := by kernel_rfl
def laidU : List (String × DataW Unit) := [("unicode/utf8.acceptRanges", Rows.laid_unicode_utf8_acceptRanges), ("unicode/utf8.first", Rows.laid_unicode_utf8_first)]
theorem door_utf (os : Os) (args : Array Value) : laidMetH Tryd.prog laidU ((World.laidAll Tryd.prog os laidU).forCall (fun _ _ => 0) ⟨#[], args, []⟩).memory := by
  rw [MakeChecks.laidMetH_plain _ _ _ (by kernel_rfl)]
  exact laidMet_laidAll _ (by kernel_rfl) (by kernel_rfl)
theorem six_list {α : Type} {l : List α} (h : l.length = 6) : ∃ a b c d e f, l = [a, b, c, d, e, f] := by
  match l, h with
  | [a, b, c, d, e, f], _ => exact ⟨a, b, c, d, e, f, rfl⟩
section
variable {H : Type} {enc : TypeId × Value → H} {W : World}
/-- Bytes that a field holds. -/
theorem field_bytes {n : Nat} {u : Value} {y : DataW H × List MemPlace} (hf : DataW.trod enc Tryd.prog W 0 (fun _ => true) true n 24 [u] = some y) : ∃ zs, Reads W u zs := by
  rcases open_ints Tryd.underlying24 Tryd.underlying5 (by kernel_rfl) hf with ⟨hcs, _⟩ | ⟨y, l, c, zs, hcs, _, hl, hm, hz, _, hcell, hwz⟩
  · simp only [List.cons.injEq, and_true] at hcs
    subst hcs
    exact ⟨[], reads_nil W⟩
  · simp only [List.cons.injEq, and_true] at hcs
    subst hcs
    have hzl : zs.length = c := by simpa using hz
    exact ⟨zs.take l, reads_of_row W y l c zs hl hm hzl hcell (fun n hn => by have := bounds_u8 (hwz n hn); omega)⟩
set_option maxRecDepth 100000 in
/-- One element's six cells. -/
theorem elem_six {n i : Nat} {a : Addr} {cs : List Value} {y : DataW H × List MemPlace} (hc : W.cells? 0 (a.add (i * 6)) 6 = some cs) (ht : DataW.trod enc Tryd.prog W 0 (fun _ => true) true n 27 cs = some y) :
    ∃ (x : Ev × Value), (∀ j, j < 6 → W.cell? (a.add (i * 6 + j)) = (evC x.1 x.2)[j]?) ∧ Reads W x.2 x.1.data ∧ (0 ≤ x.1.verb ∧ x.1.verb < 256) ∧ (0 ≤ x.1.opt ∧ x.1.opt < 256) := by
  obtain ⟨_, hcl, hat⟩ := World.cells?_some hc
  obtain ⟨ys, n', _, _, _, hyl, hf⟩ := DataW.trod_struct Tryd.underlying27 ht
  obtain ⟨u0, u1, u2, u3, u4, u5, rfl⟩ := six_list hcl
  obtain ⟨y0, y1, y2, y3, y4, y5, rfl⟩ := six_list (show ys.length = 6 from hyl)
  have hone : oneCellFields Tryd.prog #[{ name := "Kind", type := 3, offset := 0, embedded := false, tag := "", pkgPath := "", byteOffset := 0 }, { name := "Verb", type := 5, offset := 1, embedded := false, tag := "", pkgPath := "", byteOffset := 8 }, { name := "Option", type := 5, offset := 2, embedded := false, tag := "", pkgPath := "", byteOffset := 9 }, { name := "Data", type := 24, offset := 3, embedded := false, tag := "", pkgPath := "", byteOffset := 16 }, { name := "Long", type := 4, offset := 4, embedded := false, tag := "", pkgPath := "", byteOffset := 40 }, { name := "Broken", type := 4, offset := 5, embedded := false, tag := "", pkgPath := "", byteOffset := 41 }] = true := by kernel_rfl
  obtain ⟨o0, k0⟩ := hone_of hone 0 _ rfl
  obtain ⟨o1, k1⟩ := hone_of hone 1 _ rfl
  obtain ⟨o2, k2⟩ := hone_of hone 2 _ rfl
  obtain ⟨o3, k3⟩ := hone_of hone 3 _ rfl
  obtain ⟨o4, k4⟩ := hone_of hone 4 _ rfl
  obtain ⟨o5, k5⟩ := hone_of hone 5 _ rfl
  have g0 := hf 0 _ rfl
  have g1 := hf 1 _ rfl
  have g2 := hf 2 _ rfl
  have g3 := hf 3 _ rfl
  have g4 := hf 4 _ rfl
  have g5 := hf 5 _ rfl
  rw [o0, k0] at g0
  rw [o1, k1] at g1
  rw [o2, k2] at g2
  rw [o3, k3] at g3
  rw [o4, k4] at g4
  rw [o5, k5] at g5
  have f0 : DataW.trod enc Tryd.prog W 0 (fun _ => true) true n' 3 [u0] = some y0 := g0
  have f1 : DataW.trod enc Tryd.prog W 0 (fun _ => true) true n' 5 [u1] = some y1 := g1
  have f2 : DataW.trod enc Tryd.prog W 0 (fun _ => true) true n' 5 [u2] = some y2 := g2
  have f3 : DataW.trod enc Tryd.prog W 0 (fun _ => true) true n' 24 [u3] = some y3 := g3
  have f4 : DataW.trod enc Tryd.prog W 0 (fun _ => true) true n' 4 [u4] = some y4 := g4
  have f5 : DataW.trod enc Tryd.prog W 0 (fun _ => true) true n' 4 [u5] = some y5 := g5
  obtain ⟨x0, e0, _, _⟩ := DataW.trod_int Tryd.underlying3 f0
  obtain ⟨x1, e1, _, w1⟩ := DataW.trod_int Tryd.underlying5 f1
  obtain ⟨x2, e2, _, w2⟩ := DataW.trod_int Tryd.underlying5 f2
  obtain ⟨zs, hz⟩ := field_bytes f3
  obtain ⟨x4, e4, _⟩ := DataW.trod_bool Tryd.underlying4 f4
  obtain ⟨x5, e5, _⟩ := DataW.trod_bool Tryd.underlying4 f5
  simp at e0 e1 e2 e4 e5
  subst e0 e1 e2 e4 e5
  have b1 := bounds_u8 w1
  have b2 := bounds_u8 w2
  refine ⟨(⟨x0, x1, x2, zs, x4, x5⟩, u3), fun j hj => ?_, hz, ⟨by show 0 ≤ x1; omega, by show x1 < 256; omega⟩, ⟨by show 0 ≤ x2; omega, by show x2 < 256; omega⟩⟩
  have h := hat j hj
  rw [add_add] at h
  rw [h]
  rfl
set_option maxRecDepth 100000 in
/-- A slice of events that came in. -/
theorem open_evs {r : Reach} {b0 : Nat} {v : Value} {d : DataW H} {p : List MemPlace} (hv : Value.okWide Tryd.prog W r b0 22 v) (h : DataW.Trod enc Tryd.prog W 0 (fun _ => true) true 22 v d p) : ∃ xs, EvsX W v xs ∧ ∀ x ∈ xs, (0 ≤ x.1.verb ∧ x.1.verb < 256) ∧ (0 ≤ x.1.opt ∧ x.1.opt < 256) := by
  obtain ⟨x, len, cap, rfl⟩ := okWide_slice Tryd.underlying22 hv
  obtain ⟨fuel, hf⟩ := h
  rcases open_slice Tryd.underlying22 hf with ⟨hcs, _⟩ | ⟨a, l, c, m, n, D, Pl, hcs, _, hl, hm, hmm, _, hi⟩
  · simp [Value.cells] at hcs
    obtain ⟨rfl, rfl, rfl⟩ := hcs
    exact ⟨[], ⟨none, 0, rfl, fun i hi => absurd hi (Nat.not_lt_zero i)⟩, fun x hx => by cases hx⟩
  · simp [Value.cells] at hcs
    obtain ⟨rfl, rfl, rfl⟩ := hcs
    have hmc : m = cap := by simpa using hmm
    rw [show Tryd.prog.cellsOf 27 = 6 by kernel_rfl] at hi
    have key : ∀ i, ∃ q : Ev × Value, i < len → (∀ j, j < 6 → W.cell? (a.add (i * 6 + j)) = (evC q.1 q.2)[j]?) ∧ Reads W q.2 q.1.data ∧ (0 ≤ q.1.verb ∧ q.1.verb < 256) ∧ (0 ≤ q.1.opt ∧ q.1.opt < 256) := fun i => by
      by_cases hlt : i < len
      · obtain ⟨cs', hc, ht⟩ := hi i (by omega)
        obtain ⟨q, hq⟩ := elem_six hc ht
        exact ⟨q, fun _ => hq⟩
      · exact ⟨(dat [], .bool false), fun h => absurd h hlt⟩
    obtain ⟨f, hf⟩ := Classical.axiomOfChoice key
    have hlen : ((List.range len).map f).length = len := by simp
    refine ⟨(List.range len).map f, ⟨some a, cap, by rw [hlen], fun i hi' => ?_⟩, fun x hx => by
      obtain ⟨i, hi', rfl⟩ := List.mem_map.1 hx
      exact (hf i (List.mem_range.1 hi')).2.2⟩
    rw [hlen] at hi'
    have hg : ((List.range len).map f)[i]'(by rw [hlen]; exact hi') = f i := by simp
    have c0 := (hf 0 (by omega)).1 0 (by omega)
    obtain ⟨g, off, spot⟩ := a
    obtain rfl : spot = none := by
      have := World.cell?_spot (v := .int .i64 (f 0).1.kind) c0
      simpa [Addr.add] using this
    refine ⟨g, off, rfl, fun j hj => ?_, ?_⟩
    · have := (hf i hi').1 j hj
      rw [addr_add] at this
      rw [hg, Nat.add_assoc]
      exact this
    · rw [hg]; exact (hf i hi').2.1
end
set_option maxRecDepth 100000 in
set_option maxHeartbeats 2000000 in
theorem telnetWrites_lifted (os : Os) (started : os.Started) (H : Type) (enc : TypeId × Value → H) :
    ReturnsInHanded {} Tryd.checked os 3 .any (fun w args => (Rows.telnetWritesSpec.pre enc Tryd.prog Tryd.f3 [] false w args ∧ laidMetH Tryd.prog laidU w) ∧ sizedMet enc Tryd.prog Tryd.f3 (OpenSpec.ofChange Rows.telnetWritesSpec) false w args)
      (Rows.telnetWritesSpec.post enc Tryd.prog Tryd.f3 false true false false) := by
  refine returnsInHanded_of_change_and (C := Tryd.checked) (X := fun w _ => laidMetH Tryd.prog laidU w) (fun _ _ _ hh h => h.of_heap hh) own started (by kernel_rfl) Tryd.func3
    (ChangeSpec.witness_shaped (enc := enc) (C := Tryd.checked) (os := os) (X := fun w _ => laidMetH Tryd.prog laidU w) false (World.laidAll Tryd.prog os laidU) #[.slice none 0 0] 8 (World.laidAll_os _ _ _) (World.shaped_of_ZipB (by kernel_rfl) (by kernel_rfl)) (by kernel_rfl) (by kernel_rfl) (by kernel_rfl) (door_utf os _)) ?_
  intro W base args ds gs before hval0 hW _ _ hL _
  have hval : ∀ (j : Nat) t v, Tryd.f3.params[j]? = some t → args[j]? = some v → Value.okWide Tryd.prog W .any base t v := hval0
  have hW' := hW
  obtain ⟨p, q, hA0, hV, rfl, hfz, hnd⟩ := hW
  have hA : DataW.TrodAll enc Tryd.prog W 0 (fun _ => true) true Tryd.f3.params.toList args.toList ds p := hA0
  rw [Tryd.params3] at hA hval
  obtain ⟨v0, vs0, d0, ds0, p0, q0, hargs, rfl, rfl, h0, r0⟩ := trodAll_cons hA
  obtain ⟨rfl, rfl, rfl⟩ := trodAll_nil r0
  obtain rfl : args = #[v0] := by cases args; simp_all
  obtain ⟨rfl, rfl⟩ := trodVars_none hV
  have k0 := h0
  have lt0 : ∀ x ∈ p0, x.block < W.heap.size := by obtain ⟨m, hm⟩ := k0; exact DataW.trod_lt m _ _ _ hm
  obtain ⟨zs0, b0, bd0⟩ := open_evs (hval 0 22 v0 rfl rfl) h0
  clear hA0 hval0
  simp only [List.append_nil] at hW'
  refine (telnetWrites_true v0 zs0 W b0 bd0).mono fun e W' ⟨he, bel⟩ => ?_
  subst he
  exact ⟨_, rfl, _, _, _, [], _, [], hW', trodAll_mk1 (shut_bool Tryd.underlying4 _), (trodAll_cons_mk (Below.trod laidOut (by kernel_rfl) (of_decide_eq_true (by kernel_rfl)) k0 bel lt0) trodAll_mk0), rfl, bel.frame _, fun h => by cases h⟩

theorem telnetWrites_holds : Rows.TelnetWritesSaid :=
  OpenClaim.holds_of_wide 3 Tryd.f3 rfl rfl rfl rfl rfl rfl rfl ⟨rfl, rfl, rfl, rfl, rfl⟩ rfl rfl rfl rfl rfl (by kernel_rfl) Tryd.func3 (by kernel_rfl)
    (of_decide_eq_true (by kernel_rfl)) (by unfold Func.isWrapper; first | (rw [if_pos (by decide +kernel)]; kernel_rfl) | (rw [if_neg (by decide +kernel)]; exact ⟨rfl, rfl⟩))
    (fun os started H enc _ => telnetWrites_lifted os started H enc)

theorem telnetWrites_card : Rows.TelnetWritesCardSaid :=
  Claim7.holds_tied_plain_at .later [] [.data, .pinned] true (true, "347c964050482cf84bdb9e6d21be196d663bea3fa8dbf7dbbfc120b60afe36f4") false
    telnetWrites_holds (fun _ h => by cases h) (by kernel_rfl) (fun _ h => by cases h) telnetWrites_row_tie rfl ⟨rfl, rfl⟩ (by kernel_rfl) rfl
    (fun f fn hf hfn => by
      obtain rfl : f = 3 := Option.some.inj ((show Tryd.prog.funcNamed "vitrine/vitrinelaw06.TelnetWrites" = some 3 by kernel_rfl).symm.trans hf) |>.symm
      obtain rfl : fn = Tryd.f3 := (Option.some.inj (Tryd.func3.symm.trans hfn)).symm
      exact ⟨by kernel_rfl, fun j t ht => by
        rw [Tryd.params3] at ht
        have hm : t ∈ [22] := by simpa using Array.mem_of_getElem? ht
        have hall : ([22].all fun u => !Tryd.prog.wantsStandIn u) = true := by kernel_rfl
        exact (show Tryd.prog.wantsStandIn t = false by simpa using List.all_eq_true.1 hall t hm)⟩)
    (by kernel_rfl)
#print axioms telnetWrites_card
end Go.Proofs.YtdbjjieoohfckaaDoor
