/-
  LinkResponds is proved: for all headers and codes the law answers true and leaves its arguments as they were. Conditions: the variables acceptRanges and first hold what the program's text lays, which the card ties.
-/
import Derived.Test.YtaanpnmgibcemaaGreatDoorVP
import Derived.Test.YtaanpnmgibcemaaGreatDoorVI
import Derived.Test.YtaanpnmgibcemaaGreatDoorCards
import Derived.Test.YtaanpnmgibcemaaGreatDoorTie
import Derived.SevenTiedAt
import Derived.Lay
import Derived.LaidSub
import Derived.LaidMore
import Derived.Stop.Joined
import Derived.ProofKit
import Derived.OpenShut
import Derived.ShutString
import Derived.ChangeOld
import Derived.Carry
import Derived.Lib.SmallJoins
import Derived.Deep.Slices
namespace Go.Proofs.YtaanpnmgibcemaaGreatDoor
open Go.ChangeShapes Go.WideShapes Go.ChangeAt Go.WideMaps Go.WideElems Go.RowKit Go.Joins Go.Deep

def laidU : List (String × DataW Unit) := [("unicode/utf8.acceptRanges", Rows.laid_unicode_utf8_acceptRanges), ("unicode/utf8.first", Rows.laid_unicode_utf8_first)]
theorem door_utf (os : Os) (args : Array Value) : laidMetH Tryz.prog laidU ((World.laidAll Tryz.prog os laidU).forCall (fun _ _ => 0) ⟨#[], args, []⟩).memory := by
  rw [MakeChecks.laidMetH_plain _ _ _ (by kernel_rfl)]
  exact laidMet_laidAll _ (by kernel_rfl) (by kernel_rfl)
/-- Headers that came in lie so. -/
def HdrIn (w : World) (v : Value) : Prop := ∃ x n c, ∃ hd : Nat → Hdr, v = .slice x n c ∧ n ≤ maxLen ∧ HdrsR w x n hd
theorem hlist4 {α : Type} {l : List α} (h : l.length = 4) : ∃ a b c d, l = [a, b, c, d] := by
  match l, h with
  | [a, b, c, d], _ => exact ⟨a, b, c, d, rfl⟩
section
variable {H : Type} {enc : TypeId × Value → H} {W : World}
set_option maxRecDepth 100000 in
theorem hdr_op {P : Program} {t : TypeId} {f0 f1 f2 f3 : Field} (hs : P.underlying t = some (.struct #[f0, f1, f2, f3])) (hone : oneCellFields P #[f0, f1, f2, f3] = true) (hf0 : P.underlying f0.type = some (.int .u8)) (hf1 : P.underlying f1.type = some (.int .u8)) (hf2 : P.underlying f2.type = some (.int .u8)) (hf3 : P.underlying f3.type = some (.int .u16)) {n i : Nat} {a : Addr} {cs : List Value} {y : DataW H × List MemPlace} (hc : W.cells? 0 (a.add (i * 4)) 4 = some cs) (ht : DataW.trod enc P W 0 (fun _ => true) true n t cs = some y) :
    ∃ x : Hdr, Hd.HFit x.t x.r x.s x.q ∧ ∀ j, j < 4 → W.cell? (a.add (i * 4 + j)) = [Value.int .u8 x.t, .int .u8 x.r, .int .u8 x.s, .int .u16 x.q][j]? := by
  obtain ⟨_, hcl, hat⟩ := World.cells?_some hc
  obtain ⟨ys, n', _, _, _, hyl, hf⟩ := DataW.trod_struct hs ht
  obtain ⟨u0, u1, u2, u3, rfl⟩ := hlist4 hcl
  obtain ⟨y0, y1, y2, y3, rfl⟩ := hlist4 (show ys.length = 4 from hyl)
  obtain ⟨o0, k0⟩ := hone_of hone 0 f0 rfl
  obtain ⟨o1, k1⟩ := hone_of hone 1 f1 rfl
  obtain ⟨o2, k2⟩ := hone_of hone 2 f2 rfl
  obtain ⟨o3, k3⟩ := hone_of hone 3 f3 rfl
  have g0 := hf 0 f0 rfl
  have g1 := hf 1 f1 rfl
  have g2 := hf 2 f2 rfl
  have g3 := hf 3 f3 rfl
  rw [o0, k0] at g0
  rw [o1, k1] at g1
  rw [o2, k2] at g2
  rw [o3, k3] at g3
  obtain ⟨b0, e0, _, w0⟩ := DataW.trod_int hf0 (show DataW.trod enc P W 0 (fun _ => true) true n' f0.type [u0] = some y0 from g0)
  obtain ⟨b1, e1, _, w1⟩ := DataW.trod_int hf1 (show DataW.trod enc P W 0 (fun _ => true) true n' f1.type [u1] = some y1 from g1)
  obtain ⟨b2, e2, _, w2⟩ := DataW.trod_int hf2 (show DataW.trod enc P W 0 (fun _ => true) true n' f2.type [u2] = some y2 from g2)
  obtain ⟨b3, e3, _, w3⟩ := DataW.trod_int hf3 (show DataW.trod enc P W 0 (fun _ => true) true n' f3.type [u3] = some y3 from g3)
  simp at e0 e1 e2 e3
  subst e0 e1 e2 e3
  have h0 := bounds_u8 w0
  have h1 := bounds_u8 w1
  have h2 := bounds_u8 w2
  have h3 := bounds_u16 w3
  refine ⟨⟨b0, b1, b2, b3⟩, ⟨by show 0 ≤ b0; omega, by show b0 < 256; omega, by show 0 ≤ b1; omega, by show b1 < 256; omega, by show 0 ≤ b2; omega, by show b2 < 256; omega, by show 0 ≤ b3; omega, by show b3 < 65536; omega⟩, fun j hj => ?_⟩
  have h := hat j (by simpa using hj)
  rw [add_add] at h
  rw [h]
set_option maxRecDepth 100000 in
theorem open_hdrs {r : Reach} {b0 : Nat} {v : Value} {d : DataW H} {p : List MemPlace} (hv : Value.okWide Tryz.prog W r b0 48 v) (h : DataW.Trod enc Tryz.prog W 0 (fun _ => true) true 48 v d p) : HdrIn W v := by
  obtain ⟨x, len, cap, rfl⟩ := okWide_slice Tryz.underlying48 hv
  obtain ⟨fuel, hf⟩ := h
  rcases open_slice Tryz.underlying48 hf with ⟨hcs, _⟩ | ⟨a, l, c, m, n, D, Pl, hcs, _, hl, hm, hmm, _, hi⟩
  · simp [Value.cells] at hcs
    obtain ⟨rfl, rfl, rfl⟩ := hcs
    exact ⟨_, _, _, fun _ => noH, rfl, Nat.zero_le _, fun i hi => absurd hi (Nat.not_lt_zero i)⟩
  · simp [Value.cells] at hcs
    obtain ⟨rfl, rfl, rfl⟩ := hcs
    have hmc : m = cap := by simpa using hmm
    rw [show Tryz.prog.cellsOf 36 = 4 by kernel_rfl] at hi
    have key : ∀ i, ∃ x : Hdr, i < len → Hd.HFit x.t x.r x.s x.q ∧ ∀ j, j < 4 → W.cell? (a.add (i * 4 + j)) = [Value.int .u8 x.t, .int .u8 x.r, .int .u8 x.s, .int .u16 x.q][j]? := fun i => by
      by_cases hlt : i < len
      · obtain ⟨cs', hc, ht⟩ := hi i (by omega)
        obtain ⟨x, hx⟩ := hdr_op Tryz.underlying36 (by kernel_rfl) (by kernel_rfl) (by kernel_rfl) (by kernel_rfl) (by kernel_rfl) hc ht
        exact ⟨x, fun _ => hx⟩
      · exact ⟨noH, fun h => absurd h hlt⟩
    obtain ⟨f, hf⟩ := Classical.axiomOfChoice key
    have hm' : cap ≤ maxLen := hm
    refine ⟨_, _, _, f, rfl, by omega, fun i hi' => ?_⟩
    obtain ⟨hfit, hh⟩ := hf i hi'
    have c0 := hh 0 (by omega)
    obtain ⟨g, off, spot⟩ := a
    have cz : W.cell? ((⟨g, off, spot⟩ : Addr).add (0 * 4 + 0)) = some (.int .u8 (f 0).t) := (hf 0 (by omega)).2 0 (by omega)
    obtain rfl : spot = none := by simpa [Addr.add] using World.cell?_spot cz
    have d0 := hh 0 (by omega)
    have d1 := hh 1 (by omega)
    have d2 := hh 2 (by omega)
    have d3 := hh 3 (by omega)
    rw [addr_add] at d0 d1 d2 d3
    rw [← Nat.add_assoc] at d0 d1 d2 d3
    exact ⟨g, off, rfl, d0, d1, d2, d3, hfit⟩
end
theorem lresp_in {w : World} (v : Value) (hv : HdrIn w v) (u : Value) (cs : List Int) (hu : Reads w u cs) : Calls Tryz.prog 5 #[v, u] w fun e w' => e = .returned (.bool true) ∧ Below w.heap.size w w' := by
  obtain ⟨x, n, c, hd, rfl, hn, hr⟩ := hv
  obtain ⟨ux, un, uc, rfl⟩ := Tn.reads_any_slice hu
  exact lresp_any x n c hd hn hr ux un uc cs hu
set_option maxRecDepth 100000 in
set_option maxHeartbeats 2000000 in
theorem linkResponds_lifted (os : Os) (started : os.Started) (H : Type) (enc : TypeId × Value → H) :
    ReturnsInHanded {} Tryz.checked os 5 .any (fun w args => (Rows.linkRespondsSpec.pre enc Tryz.prog Tryz.f5 [] false w args ∧ laidMetH Tryz.prog laidU w) ∧ sizedMet enc Tryz.prog Tryz.f5 (OpenSpec.ofChange Rows.linkRespondsSpec) false w args)
      (Rows.linkRespondsSpec.post enc Tryz.prog Tryz.f5 false true false false) := by
  refine returnsInHanded_of_change_and (C := Tryz.checked) (X := fun w _ => laidMetH Tryz.prog laidU w) (fun _ _ _ hh h => h.of_heap hh) own started (by kernel_rfl) Tryz.func5
    (ChangeSpec.witness_shaped (enc := enc) (C := Tryz.checked) (os := os) (X := fun w _ => laidMetH Tryz.prog laidU w) false (World.laidAll Tryz.prog os laidU) #[.slice none 0 0, .slice none 0 0] 8 (World.laidAll_os _ _ _) (World.shaped_of_ZipB (by kernel_rfl) (by kernel_rfl)) (by kernel_rfl) (by kernel_rfl) (by kernel_rfl) (door_utf os _)) ?_
  intro W base args ds gs before hval0 hW _ _ hL _
  have hval : ∀ (j : Nat) t v, Tryz.f5.params[j]? = some t → args[j]? = some v → Value.okWide Tryz.prog W .any base t v := hval0
  have hW' := hW
  obtain ⟨p, q, hA0, hV, rfl, hfz, hnd⟩ := hW
  have hA : DataW.TrodAll enc Tryz.prog W 0 (fun _ => true) true Tryz.f5.params.toList args.toList ds p := hA0
  rw [Tryz.params5] at hA hval
  obtain ⟨v0, vs0, d0, ds0, p0, q0, hargs, rfl, rfl, h0, r0⟩ := trodAll_cons hA
  obtain ⟨v1, vs1, d1, ds1, p1, q1, rfl, rfl, rfl, h1, r1⟩ := trodAll_cons r0
  obtain ⟨rfl, rfl, rfl⟩ := trodAll_nil r1
  obtain rfl : args = #[v0, v1] := by cases args; simp_all
  obtain ⟨rfl, rfl⟩ := trodVars_none hV
  have k0 := h0
  have lt0 : ∀ x ∈ p0, x.block < W.heap.size := by obtain ⟨m, hm⟩ := k0; exact DataW.trod_lt m _ _ _ hm
  have hb0 := open_hdrs (hval 0 48 v0 rfl rfl) h0
  have k1 := h1
  have lt1 : ∀ x ∈ p1, x.block < W.heap.size := by obtain ⟨m, hm⟩ := k1; exact DataW.trod_lt m _ _ _ hm
  obtain ⟨zs1, b1⟩ : ∃ zs, Reads W v1 zs := by
    obtain ⟨fuel, hf⟩ := h1
    obtain ⟨x, len, cap, rfl⟩ := okWide_slice Tryz.underlying22 (hval 1 22 v1 rfl rfl)
    obtain ⟨zs, hz⟩ := reads_trod (show DataW.trod enc Tryz.prog W 0 (fun _ => true) true fuel 22 [.slice x len cap] = some _ from hf)
    exact ⟨zs, hz⟩
  clear hA0 hval0
  simp only [List.append_nil] at hW'
  refine (lresp_in v0 hb0 v1 zs1 b1).mono fun e W' ⟨he, bel⟩ => ?_
  subst he
  exact ⟨_, rfl, _, _, _, [], _, [], hW', trodAll_mk1 (shut_bool Tryz.underlying4 _), (trodAll_cons_mk (Below.trod laidOut (by kernel_rfl) (of_decide_eq_true (by kernel_rfl)) k0 bel lt0) (trodAll_cons_mk (Below.trod laidOut (by kernel_rfl) (of_decide_eq_true (by kernel_rfl)) k1 bel lt1) trodAll_mk0)), rfl, bel.frame _, fun h => by cases h⟩

theorem linkResponds_holds : Rows.LinkRespondsSaid :=
  OpenClaim.holds_of_wide 5 Tryz.f5 rfl rfl rfl rfl rfl rfl rfl ⟨rfl, rfl, rfl, rfl, rfl⟩ rfl rfl rfl rfl rfl (by kernel_rfl) Tryz.func5 (by kernel_rfl)
    (of_decide_eq_true (by kernel_rfl)) (by unfold Func.isWrapper; first | (rw [if_pos (by decide +kernel)]; kernel_rfl) | (rw [if_neg (by decide +kernel)]; exact ⟨rfl, rfl⟩))
    (fun os started H enc _ => linkResponds_lifted os started H enc)

theorem linkResponds_card : Rows.LinkRespondsCardSaid :=
  Claim7.holds_tied_plain_at .later [] [.data, .pinned] true (true, "ef8c177c5cb695a0b92bdd6095168a02dd487326861e7cdb904f595f7f48872c") false
    linkResponds_holds (fun _ h => by cases h) (by kernel_rfl) (fun _ h => by cases h) linkResponds_row_tie rfl ⟨rfl, rfl⟩ (by kernel_rfl) rfl
    (fun f fn hf hfn => by
      obtain rfl : f = 5 := Option.some.inj ((show Tryz.prog.funcNamed "vitrine/vitrinelaw11.LinkResponds" = some 5 by kernel_rfl).symm.trans hf) |>.symm
      obtain rfl : fn = Tryz.f5 := (Option.some.inj (Tryz.func5.symm.trans hfn)).symm
      exact ⟨by kernel_rfl, fun j t ht => by
        rw [Tryz.params5] at ht
        have hm : t ∈ [48, 22] := by simpa using Array.mem_of_getElem? ht
        have hall : ([48, 22].all fun u => !Tryz.prog.wantsStandIn u) = true := by kernel_rfl
        exact (show Tryz.prog.wantsStandIn t = false by simpa using List.all_eq_true.1 hall t hm)⟩)
    (by kernel_rfl)
#print axioms linkResponds_card
end Go.Proofs.YtaanpnmgibcemaaGreatDoor
