/-
  LinkNil: a nil link tells nothing; the law's walk.
-/
import Derived.Test.YtaanpnmgibcemaaGreatDoorVH
namespace Go.Proofs.YtaanpnmgibcemaaGreatDoor
open Go.RowKit Go.Lib Go.Deep Go.Shelf
attribute [local go_sem] Oper.semAt_some

theorem below_put {B : Nat} {A W : World} {l : Nat} {o' : Obj} (h : Below B A W) (hl : B ≤ l) : Below B A (W.putObj l o') :=
  ⟨h.os, h.tape, h.output, by have := h.size; simpa using this, fun k hk => (World.putObj_heap_other (by omega)).trans (h.block k hk)⟩
section
variable {w : World}
set_option maxRecDepth 100000 in
set_option maxHeartbeats 4000000 in
theorem take_nil_in (n : Nat) (hn : 6 ≤ n) (p : Value) (ps : List Int) (hl : ps.length ≤ 7000) (hp : Reads w p ps) :
    CallsIn Fence.wide n Tryz.prog 20 #[.pointer none, p] w fun e w' => ∃ x c, e = .returned (.slice x 0 c) ∧ Below w.heap.size w w' := by
  have h1n : 1 ≤ n := by omega
  obtain ⟨x0, n0, c0, rfl⟩ := Tn.reads_any_slice hp
  have HP := hid hp
  clear hp
  refine callsIn_of_wp_marks Tryz.func20 rfl trivial ?_ rfl
  simp only [Tryz.ntmps20, List.size_toArray, List.length_cons, List.length_nil, Nat.reduceAdd, Nat.reduceSub, Array.replicate_succ, Array.replicate_zero, List.push_toArray, List.append_toArray, List.nil_append, List.cons_append]
  gi_wp2
  refine ⟨trivial, ?_⟩
  obtain ⟨W0, hW0⟩ : ∃ W0, w.alloc (.cells #[.slice none 0 0] 31) = W0 := ⟨_, rfl⟩
  rw [hW0]
  have hb0 : Below w.heap.size w W0 := by rw [← hW0]; exact bal (Below.refl _ _) _
  have o0 : W0.heap[w.heap.size]? = some (.cells #[.slice none 0 0] 31 (0, 0)) := by rw [← hW0]; exact World.alloc_heap_new w _
  have z0 : W0.heap.size = w.heap.size + 1 := by rw [← hW0]; simp
  refine (callsIn_wide.2 (takeSeq_any none _ ps W0 (reads_below HP.out hb0) (by omega))).mono ?_
  rintro e w2 ⟨b1, b2, xx, nn, dd, rfl, c1, c2, ho2, hb2, hl1, hl2, hl3⟩
  have HB2 := hid (below_t hb0 hb2)
  have HS2 := hid (show w.heap.size < w2.heap.size by have := hb2.size; omega)
  have HOB := hid ((hb2.block w.heap.size (by omega)).trans o0)
  have HC1 := hid c1
  clear hb0 o0 z0 hb2 c1 c2 ho2 hl1 hl2 hl3 hW0
  gi_wp2
  refine rangeFunc_jointB (n := n) (w := w2) rfl h1n (gf := 64) (lb := #[.pointer (some ⟨b1, 0, none⟩), .pointer (some ⟨b2, 0, none⟩)]) rfl trivial (enters_of Tryz.func64 (by kernel_rfl) rfl)
    (encs := fun (_ : Unit) => #[undef]) (fun _ => rfl) (Pre := fun _ _ => False) (J := fun _ _ => False) (Jx := fun _ _ _ => False)
    (Dn := fun W => Below w2.heap.size w2 W) (St := fun _ _ => False)
    ?hJ ?hJx ?hDn ?hSt (fun _ _ _ => False) ?hAx ?assign ?body ?iter ?done ?stop
  case hJ => exact fun _ _ _ _ _ _ _ _ h => h
  case hJx => exact fun _ _ _ _ _ _ _ _ _ h => h
  case hDn => exact fun W l o o' hm ho hc h => below_put h hm
  case hSt => exact fun _ _ _ _ _ _ _ _ h => h
  case hAx => exact fun _ _ _ _ _ _ _ _ _ h => h
  case iter =>
    intro o1 o2 hc1 hc2
    have hbb : Below w2.heap.size w2 ((w2.alloc o1).alloc o2) := bal (bal (Below.refl _ _) _) _
    exact take_nil_tells (n - 1) b1 b2 _ (keepc hbb HC1.out) hbb
  case assign => exact fun _ _ _ _ f => f.elim
  case body => exact fun _ _ _ _ f => f.elim
  case done =>
    rintro D W hD hdn hK
    have HK1 := hid hK
    have ob := (hdn.block _ HS2.out).trans HOB.out
    obtain ⟨hc1, -⟩ := box_cell ob
    have hl1 := World.block_lt_of_cell? W _ hc1
    have HF := hid (below_put (o' := .deferred none) (HB2.out.trans (hdn.mono HB2.out.size)) (Nat.le_trans HB2.out.size hD))
    clear hdn hK ob
    gi_wp2
    refine ⟨by simp, .inl ⟨_, _, rfl, run_takeDeferred HK1.out, ?_⟩⟩
    exact ⟨.slice none 0 0, by simp [results, Tryz.f20, go_sem], ⟨none, 0, rfl⟩, HF.out⟩
  case stop => exact fun _ _ _ _ f => f.elim
set_option maxRecDepth 100000 in
set_option maxHeartbeats 4000000 in
theorem lnil_any (p : Value) (ps : List Int) (hp : Reads w p ps) : Calls Tryz.prog 6 #[p] w fun e w' => e = .returned (.bool true) ∧ Below w.heap.size w w' := by
  have HAW := hid (awake11 w)
  have HCT := hid (fun W v xs (h : Reads W v xs) => (show Calls Tryz.prog 9 #[v, .int .i64 50] W (RowDone (xs.take 50) W) from cut_any v 50 (by decide) xs W h))
  have HTK := hid (fun W v xs (h : Reads W v xs) (hl : xs.length ≤ 7000) => callsIn_wide.1 (take_nil_in (w := W) 6 (by omega) v xs hl h))
  have HSAY := hid (fun W v => say_nil (w := W) v)
  have HSND := hid (fun W v => send_nil (w := W) v)
  have HRSP := hid (fun W => (show Calls Tryz.prog 23 #[.pointer none, .agg #[.int .i64 0, .slice none 0 0, .int .u8 0, .int .u8 0, .int .u8 0, .int .u16 0, .bool false], .int .i64 0] W (fun e w' => e = .returned (.bool false) ∧ Below W.heap.size W w') from respond_nil (w := W) ⟨0, [], noH, false⟩ none 0 0 (.int .i64 0)))
  have HOUT := hid (fun W => out_nil (w := W))
  have HMOD := hid (fun W => mode_nil W)
  have HEND := hid (fun W => end_nil (w := W))
  have HOPT := hid (fun W => options_nil (w := W))
  have HWAI := hid (fun W => waiting_link_nil (w := W))
  have HP := hid hp
  clear hp
  go_enter Tryz.func6, Tryz.ntmps6
  go_wp2_with fail
  with_reducible refine HAW.out.mono ?_
  rintro e w1 ⟨rfl, hb1⟩
  have HB1 := hid hb1
  clear hb1
  go_wp2_with fail
  with_reducible refine (HCT.out _ _ _ (reads_below HP.out HB1.out)).mono ?_
  rintro e w2 ⟨v2, rfl, hr2, hb2, -, -⟩
  have HB2 := hid (below_t HB1.out hb2)
  have HR2 := hid hr2
  have hl : (ps.take 50).length ≤ 50 := by rw [List.length_take]; omega
  obtain ⟨x2, n2, c2, rfl⟩ := Tn.reads_any_slice hr2
  clear hb2 hr2
  go_wp2_with fail
  with_reducible refine (HSAY.out _ _).mono ?_
  rintro e w9 ⟨rfl, rfl⟩
  go_wp2_with fail
  with_reducible refine (HTK.out _ _ _ HR2.out (by omega)).mono ?_
  rintro e w3 ⟨x3, c3, rfl, hb3⟩
  have HB3 := hid (below_t HB2.out hb3)
  clear hb3
  go_wp2_with fail
  with_reducible refine (HSND.out _ _).mono ?_
  rintro e w9 ⟨rfl, rfl⟩
  go_wp2_with fail
  with_reducible refine (HRSP.out _).mono ?_
  rintro e w4 ⟨rfl, hb4⟩
  have HB4 := hid (below_t HB3.out hb4)
  clear hb4
  go_wp2_with fail
  with_reducible refine (HOUT.out _).mono ?_
  rintro e w9 ⟨rfl, rfl⟩
  go_wp2_with fail
  with_reducible refine (HMOD.out _).mono ?_
  rintro e w5 ⟨rfl, hb5⟩
  have HB5 := hid (below_t HB4.out hb5)
  clear hb5
  go_wp2_with fail
  with_reducible refine (HEND.out _).mono ?_
  rintro e w9 ⟨rfl, rfl⟩
  go_wp2_with fail
  with_reducible refine (HOPT.out _).mono ?_
  rintro e w9 ⟨rfl, rfl⟩
  go_wp2_with fail
  with_reducible refine (HWAI.out _).mono ?_
  rintro e w9 ⟨rfl, rfl⟩
  go_wp2
  go_ret
  exact ⟨by simp, HB5.out⟩
end
end Go.Proofs.YtaanpnmgibcemaaGreatDoor
