/-
  page.New: a page's number.
-/
import Derived.Test.YtdpgmepblmlaaaaDoorTh
import Derived.RangeFuncFrom
import Derived.RangeFuncNested
import Derived.RangeFuncBound
import Derived.RangeFuncCalls
import Derived.RangeFuncLeaves
import Derived.Shelf.Abstract
import Derived.Shelf.RegionOpen
import Derived.OwnWalkIn
import Derived.TacticsInMore
import Derived.LoopNIn
import Derived.LoopIn
namespace Go.Proofs.YtdpgmepblmlaaaaDoor
open Go.RowKit Go.Lib Go.Shelf
attribute [local go_sem] Oper.semAt_some

def pagesL : List Int := [37, 273, 297, 500, 1047, 1140]
/-- The variable 'numbers' as the program lays it. -/
def Numbers (w : World) : Prop := 2 < w.heap.size ∧ ∀ j, j < 6 → w.cell? ⟨2, j, none⟩ = some (.int .i64 (pagesL.getD j 0))
theorem Numbers.below {w w' : World} {B : Nat} (h : Numbers w) (hB : 2 < B) (hb : Below B w w') : Numbers w' := ⟨Nat.lt_of_lt_of_le h.1 hb.size, fun j hj => (hb.cell (p := ⟨2, j, none⟩) hB).trans (h.2 j hj)⟩

theorem info3 : (Tryd.prog.info? 3).map (·.size) = some 1 := by kernel_rfl
theorem index_nums (k : Nat) (hk : k < 6) (w : World) : (Instr.index 154 (.agg #[.int .i64 37, .int .i64 273, .int .i64 297, .int .i64 500, .int .i64 1047, .int .i64 1140]) (.int .i64 k)).run Tryd.prog w = .ok (.int .i64 (pagesL.getD k 0)) w := by
  obtain ⟨i, hi, hs⟩ := Option.map_eq_some_iff.1 info3
  have h : k = 0 ∨ k = 1 ∨ k = 2 ∨ k = 3 ∨ k = 4 ∨ k = 5 := by omega
  rcases h with rfl | rfl | rfl | rfl | rfl | rfl <;> simp [Instr.index, asIntOf, run_underlying Tryd.underlying154, sizeOf, typeInfo, hi, hs, part, isAgg, run_underlying Tryd.underlying3, pagesL]

set_option maxRecDepth 100000 in
set_option maxHeartbeats 2000000 in
theorem numbers_stops (F : Fence) (n : Nat) (h64 : F.fn 85) (hro : F.round = none) (hn : 1 ≤ n) (n0 : Nat) (w : World) (hN : Numbers w) :
    SeqStopsK F n Tryd.prog 85 #[] (fun x : Int => #[.int .i64 x]) (Below n0) (fun xs => xs = pagesL) (fun pre => ∃ k, pre = pagesL.take k) 6 w := fun l J Jx W hW _ _ hY h0 => by
  have hN' : Numbers W := hN.below hN.1 hW
  have c0 := hN'.2 0 (by omega)
  have c1 := hN'.2 1 (by omega)
  have c2 := hN'.2 2 (by omega)
  have c3 := hN'.2 3 (by omega)
  have c4 := hN'.2 4 (by omega)
  have c5 := hN'.2 5 (by omega)
  simp only [pagesL, List.getD_cons_zero, List.getD_cons_succ] at c0 c1 c2 c3 c4 c5
  clear hN hN' hW
  refine callsIn_of_wp Tryd.func85 rfl h64 ?_ hro
  simp only [Tryd.ntmps85, List.size_toArray, List.length_cons, List.length_nil, Nat.reduceAdd, Nat.reduceSub, Array.replicate_succ, Array.replicate_zero, List.push_toArray, List.append_toArray, List.nil_append, List.cons_append]
  gi_wp2
  gi_loopw [5] (fun i wr => ∃ k : Nat, k ≤ 6 ∧ i = .int .i64 k ∧ Hid (J (pagesL.take k) wr)) (fun i _ => 6 - (RowKit.intOf i).toNat)
  case atStart => exact ⟨0, by omega, rfl, h0⟩
  case round =>
    obtain ⟨k, hk, rfl, HJ⟩ := hrel
    by_cases hlt : k < 6
    · have hix := index_nums k hlt wr
      obtain ⟨f1, t1, a1, b1, hy, hR⟩ := hY (pagesL.take k) (pagesL.getD k 0) wr HJ.out (by simp [pagesL]; omega)
      have htk : pagesL.take k ++ [pagesL.getD k 0] = pagesL.take (k + 1) := by
        rw [List.take_succ_eq_append_getElem (show k < pagesL.length from hlt)]
        simp [List.getD, show k < pagesL.length from hlt]
      rw [htk] at hR
      obtain ⟨x, hx⟩ : ∃ x, x = pagesL.getD k 0 := ⟨_, rfl⟩
      rw [← hx] at hix hy
      have HR := hid hR
      clear htk hx hR hY h0
      gi_wp2
      refine HR.out.mono ?_
      rintro e W1 (⟨rfl, hJ1, _⟩ | ⟨rfl, hx1⟩)
      · have HJ1 := hid hJ1
        clear hJ1
        gi_wp2
        go_roundw
        case rel => exact ⟨k + 1, by omega, by go_num, HJ1⟩
        case measure => simp [RowKit.intOf]; omega
      · have HX1 := hid hx1
        clear hx1
        gi_wp2
        refine bodyPost_ret (results_none rfl _ _ _) rfl ?_
        exact ⟨⟨_, rfl⟩, .inr ⟨_, ⟨k + 1, rfl⟩, HX1.out⟩⟩
    · obtain rfl : k = 6 := by omega
      gi_wp2
      go_end0
      exact ⟨⟨_, rfl⟩, .inl ⟨_, rfl, HJ.out⟩⟩

theorem cell_new_l (w : World) (v : Value) (t : TypeId) : (w.alloc (.cells #[v] t)).cell? ⟨w.heap.size, 0, none⟩ = some v ∧ (w.alloc (.cells #[v] t)).frozen? ⟨w.heap.size, 0, none⟩ = false := ⟨by simp [go_sem], by simp [go_sem]⟩
theorem cell_later_l {w : World} {b : Nat} {v : Value} (o : Obj) (h : w.cell? ⟨b, 0, none⟩ = some v ∧ w.frozen? ⟨b, 0, none⟩ = false) : (w.alloc o).cell? ⟨b, 0, none⟩ = some v ∧ (w.alloc o).frozen? ⟨b, 0, none⟩ = false := by
  have hb := World.block_lt_of_cell? w _ h.1
  exact ⟨by rw [World.cell?_alloc_past _ _ _ hb]; exact h.1, by rw [World.frozen?_alloc_past _ _ _ hb]; exact h.2⟩
theorem numbers36 (w : World) : Calls Tryd.prog 78 #[] w fun e w' => e = .returned (.func (.func 85) #[] #[]) ∧ w = w' := by
  go_enter Tryd.func78, Tryd.ntmps78
  go_wp2
  go_ret
  exact ⟨rfl, rfl⟩

/-- A page in a block: its number. -/
def Fresh (w : World) (b : Nat) (num : Int) : Prop := w.cell? ⟨b, 0, none⟩ = some (.int .i64 num)
theorem zc_size : Tryd.zeroCells146.size = 261 := by kernel_rfl
theorem fresh_kept {A B : World} {b : Nat} {num : Int} {row : Option Nat} (h : Fresh A b num) (hg : A.grownBy B row) (hr : ∀ r, row = some r → ∃ o : Obj, A.heap[r]? = some o ∧ o.isCells = false) : Fresh B b num := cell_kept h hg hr
theorem page_cell (V : World) (x : Int) (b : Nat) (hb : b = V.heap.size) : Fresh (V.alloc (.cells (Tryd.zeroCells146.setIfInBounds 0 (.int .i64 x)) 146)) b x := by
  subst hb
  have hz : 0 < Tryd.zeroCells146.size := by rw [zc_size]; decide
  have e := heap_alloc_new V (.cells (Tryd.zeroCells146.setIfInBounds 0 (.int .i64 x)) 146)
  generalize Tryd.zeroCells146 = zc at *
  unfold Fresh World.cell?
  dsimp only
  rw [e]
  simp [hz]
set_option maxRecDepth 100000 in
set_option maxHeartbeats 4000000 in
theorem new_in (n : Nat) (hn : 3 ≤ n) (num : Int) (w : World) (hN : Numbers w) :
    CallsIn Fence.wide n Tryd.prog 60 #[.int .i64 num] w fun e W' =>
      ((num ∉ pagesL ∧ e = .returned (.tuple #[.pointer none, .int .i64 5])) ∨ (num ∈ pagesL ∧ ∃ b, e = .returned (.tuple #[.pointer (some ⟨b, 0, none⟩), .int .i64 0]) ∧ w.heap.size ≤ b ∧ Fresh W' b num)) ∧ Below w.heap.size w W' := by
  have h1 : 1 ≤ n := by omega
  refine callsIn_of_wp_marks Tryd.func60 rfl trivial ?_ rfl
  simp only [Tryd.ntmps60, List.size_toArray, List.length_cons, List.length_nil, Nat.reduceAdd, Nat.reduceSub, Array.replicate_succ, Array.replicate_zero, List.push_toArray, List.append_toArray, List.nil_append, List.cons_append]
  gi_wp2_with (refine ⟨trivial, ?_⟩; gi_at_call 78; refine (callsIn_wide.2 (numbers36 _)).mono ?_; rintro e w' ⟨rfl, rfl⟩)
  have c0 := cell_new_l w (.int .i64 num) 3
  have c1 := cell_new_l (w.alloc (.cells #[.int .i64 num] 3)) (.pointer none) 71
  have c2 := cell_new_l ((w.alloc (.cells #[.int .i64 num] 3)).alloc (.cells #[.pointer none] 71)) (.int .i64 0) 31
  simp only [World.size_alloc] at c1 c2
  have d0 := cell_later_l (.cells #[.int .i64 0] 31) (cell_later_l (.cells #[.pointer none] 71) c0)
  have d1 := cell_later_l (.cells #[.int .i64 0] 31) c1
  have hB0 : Below w.heap.size w (((w.alloc (.cells #[.int .i64 num] 3)).alloc (.cells #[.pointer none] 71)).alloc (.cells #[.int .i64 0] 31)) := (((Below.refl _ w).alloc (Nat.le_refl _) _).alloc (by simp) _).alloc (by simp; omega) _
  have hN0 : Numbers (((w.alloc (.cells #[.int .i64 num] 3)).alloc (.cells #[.pointer none] 71)).alloc (.cells #[.int .i64 0] 31)) := hN.below hN.1 hB0
  have hst := numbers_stops Fence.wide (n - 1) trivial rfl (by omega) w.heap.size _ hN0
  have HST := hid hst
  have HB0 := hid hB0
  have HCS := hid (And.intro d0 (And.intro d1 c2))
  clear hN hN0 hst hB0 d0 d1 c2 c0 c1
  refine wpIn_rangeFunc_ownF rfl h1 (gf := 85) (lb := #[]) rfl trivial (enters_of Tryd.func85 (by kernel_rfl) rfl)
    HST.out belowK_t (belowK_b (by simp; omega)) (Below.refl _ _) (fun _ => rfl)
    (fun pre W => ((∀ y ∈ pre, y ≠ num) ∧ W.cell? ⟨w.heap.size, 0, none⟩ = some (.int .i64 num) ∧ W.cell? ⟨w.heap.size + 1, 0, none⟩ = some (.pointer none) ∧ W.frozen? ⟨w.heap.size + 1, 0, none⟩ = false ∧ W.cell? ⟨w.heap.size + 1 + 1, 0, none⟩ = some (.int .i64 0) ∧ W.frozen? ⟨w.heap.size + 1 + 1, 0, none⟩ = false) ∧ Below w.heap.size w W)
    (fun c pre W => (c = .ret ∧ num ∈ pre ∧ ∃ b, w.heap.size ≤ b ∧ Fresh W b num ∧ W.cell? ⟨w.heap.size + 1, 0, none⟩ = some (.pointer (some ⟨b, 0, none⟩)) ∧ W.cell? ⟨w.heap.size + 1 + 1, 0, none⟩ = some (.int .i64 0)) ∧ Below w.heap.size w W)
    (OwnFrom.and (Own.from (fun s A B row hs hg hr => ⟨hs.1, cell_kept hs.2.1 hg hr, cell_kept hs.2.2.1 hg hr, (frozen_kept hs.2.2.1 hg hr).trans hs.2.2.2.1, cell_kept hs.2.2.2.2.1 hg hr, (frozen_kept hs.2.2.2.2.1 hg hr).trans hs.2.2.2.2.2⟩) _) (ownFrom_below (Nat.le_refl _) (by simp; omega)))
    (fun c => OwnFrom.and (Own.from (fun s A B row hs hg hr => by obtain ⟨h1, h2, b, h3, h4, h5, h6⟩ := hs; exact ⟨h1, h2, b, h3, fresh_kept h4 hg hr, cell_kept h5 hg hr, cell_kept h6 hg hr⟩) _) (ownFrom_below (Nat.le_refl _) (by simp; omega)))
    ⟨⟨by simp, HCS.out.1.1, HCS.out.2.1.1, HCS.out.2.1.2, HCS.out.2.2.1, HCS.out.2.2.2⟩, HB0.out⟩
    (fun x => { tmps := #[.int .i64 num, .pointer (some ⟨w.heap.size, 0, none⟩), .pointer (some ⟨w.heap.size + 1, 0, none⟩), .pointer (some ⟨w.heap.size + 1 + 1, 0, none⟩), .int .i64 x, .func (.func 85) #[] #[], .int .i64 x, undef, undef, undef, undef, undef, undef], defers := [] }) ?assign ?body ?done ?stop
  case assign =>
    intro l x W K hK
    gi_wp2
    exact hK
  case body =>
    rintro l pre x W ⟨⟨hp, h0, hr, hrf, he, hef⟩, hB⟩ _
    have HB := hid hB
    have HPR := hid hp
    clear hB hp HST HB0 HCS
    by_cases hx : x = num
    · subst hx
      have hl1 : w.heap.size + 1 < W.heap.size := World.block_lt_of_cell? W _ hr
      have hl2 : w.heap.size + 1 + 1 < W.heap.size := World.block_lt_of_cell? W _ he
      have hrA : ∀ o, (W.alloc o).cell? ⟨w.heap.size + 1, 0, none⟩ = some (.pointer none) := fun o => by rw [World.cell?_alloc_past _ _ _ hl1]; exact hr
      have hrfA : ∀ o, (W.alloc o).frozen? ⟨w.heap.size + 1, 0, none⟩ = false := fun o => by rw [World.frozen?_alloc_past _ _ _ hl1]; exact hrf
      have heA : ∀ o, (W.alloc o).cell? ⟨w.heap.size + 1 + 1, 0, none⟩ = some (.int .i64 0) := fun o => by rw [World.cell?_alloc_past _ _ _ hl2]; exact he
      have hefA : ∀ o, (W.alloc o).frozen? ⟨w.heap.size + 1 + 1, 0, none⟩ = false := fun o => by rw [World.frozen?_alloc_past _ _ _ hl2]; exact hef
      gi_wp2
      refine ⟨((KeepsOthers.setCell _ _ _).trans (KeepsOthers.setCell _ _ _)).trans (KeepsOthers.alloc _ _), ⟨rfl, by simp, W.heap.size, by omega, ?_, ?_, ?_⟩, ((HB.out.setCell (p := ⟨w.heap.size + 1, 0, none⟩) (by simp) _).setCell (p := ⟨w.heap.size + 1 + 1, 0, none⟩) (by simp; omega) _).alloc (by simp [World.setCell]; omega) _⟩
      · exact page_cell _ _ _ (by simp [World.setCell])
      · rw [World.cell?_alloc_past _ _ _ (by simp [World.setCell]; omega), World.cell?_setCell_other _ _ _ _ (by simp)]
        exact World.cell?_setCell_same' _ _ _ (by rw [hr]; rfl)
      · rw [World.cell?_alloc_past _ _ _ (by simp [World.setCell]; omega)]
        refine World.cell?_setCell_same' _ _ _ ?_
        rw [World.cell?_setCell_other _ _ _ _ (by simp), he]
        rfl
    · have hx' : (x == num) = false := by simpa using hx
      gi_wp2
      exact ⟨KeepsOthers.refl _, Below.refl _ _, ⟨fun y hy => (List.mem_append.1 hy).elim (HPR.out y) (fun e => by simp at e; subst e; exact hx), h0, hr, hrf, he, hef⟩, HB.out⟩
  case done =>
    rintro D ys W hD rfl ⟨⟨hne, _, hr, hrf, he, hef⟩, hB⟩ hK
    have HNE := hid hne
    have HB := hid hB
    have HK := hid hK
    clear hne hB hK HST HB0 HCS
    gi_wp2
    have hK1 := (KeepsOthers.setCell W ⟨w.heap.size + 1, 0, none⟩ (.pointer none)).same D _ HK.out rfl
    have hK' := (KeepsOthers.setCell _ ⟨w.heap.size + 1 + 1, 0, none⟩ (.int .i64 5)).same D _ hK1 rfl
    refine ⟨by simp, .inl ⟨_, _, rfl, run_takeDeferred hK', ?_⟩⟩
    have e1 : ((W.setCell ⟨w.heap.size + 1, 0, none⟩ (.pointer none)).setCell ⟨w.heap.size + 1 + 1, 0, none⟩ (.int .i64 5)).cell? ⟨w.heap.size + 1, 0, none⟩ = some (.pointer none) := by
      rw [World.cell?_setCell_other _ _ _ _ (by simp)]
      exact World.cell?_setCell_same' _ _ _ (by rw [hr]; rfl)
    have e2 : ((W.setCell ⟨w.heap.size + 1, 0, none⟩ (.pointer none)).setCell ⟨w.heap.size + 1 + 1, 0, none⟩ (.int .i64 5)).cell? ⟨w.heap.size + 1 + 1, 0, none⟩ = some (.int .i64 5) := by
      refine World.cell?_setCell_same' _ _ _ ?_
      rw [World.cell?_setCell_other _ _ _ _ (by simp), he]
      rfl
    have f1 := cell_kept e1 (grownBy_putObj' _ D (.deferred none)) (fun r e => by cases e; exact ⟨_, hK', rfl⟩)
    have f2 := cell_kept e2 (grownBy_putObj' _ D (.deferred none)) (fun r e => by cases e; exact ⟨_, hK', rfl⟩)
    refine ⟨.tuple #[.pointer none, .int .i64 5], ?_, .inl ⟨fun h => HNE.out num h rfl, rfl⟩, ((HB.out.setCell (p := ⟨w.heap.size + 1, 0, none⟩) (by simp) _).setCell (p := ⟨w.heap.size + 1 + 1, 0, none⟩) (by simp; omega) _).trans (belowK_b (w := w) (Nat.le_refl _) _ D _ _ (by simp at hD; omega) hK' rfl rfl)⟩
    simp [results, Tryd.f60, go_sem, f1, f2]
  case stop =>
    rintro D c pre W hD hpre ⟨⟨rfl, hin, b, hb, hF, hr, he⟩, hB⟩ hK
    have HB := hid hB
    have HK := hid hK
    have HF := hid hF
    clear hB hK HST HB0 HCS hF
    gi_wp2
    refine ⟨by simp, .inl ⟨_, _, rfl, run_takeDeferred HK.out, ?_⟩⟩
    have f1 := cell_kept hr (grownBy_putObj' _ D (.deferred none)) (fun r e => by cases e; exact ⟨_, HK.out, rfl⟩)
    have f2 := cell_kept he (grownBy_putObj' _ D (.deferred none)) (fun r e => by cases e; exact ⟨_, HK.out, rfl⟩)
    have f3 := fresh_kept HF.out (grownBy_putObj' _ D (.deferred none)) (fun r e => by cases e; exact ⟨_, HK.out, rfl⟩)
    have hm : num ∈ pagesL := by
      obtain ⟨k, rfl⟩ := hpre
      exact List.mem_of_mem_take hin
    refine ⟨.tuple #[.pointer (some ⟨b, 0, none⟩), .int .i64 0], ?_, .inr ⟨hm, b, rfl, hb, f3⟩, HB.out.trans (belowK_b (w := w) (Nat.le_refl _) _ D _ _ (by simp at hD; omega) HK.out rfl rfl)⟩
    simp [results, Tryd.f60, go_sem, f1, f2]

theorem new_none (num : Int) (hm : num ∉ pagesL) (w : World) (hN : Numbers w) : Calls Tryd.prog 60 #[.int .i64 num] w fun e W' => e = .returned (.tuple #[.pointer none, .int .i64 5]) ∧ Below w.heap.size w W' :=
  (callsIn_wide.1 (new_in 3 (Nat.le_refl _) num w hN)).mono fun e W' ⟨h, hB⟩ => by
    rcases h with ⟨_, he⟩ | ⟨h, _⟩
    · exact ⟨he, hB⟩
    · exact absurd h hm
/-- New of a page that there is. -/
theorem new_page (num : Int) (hm : num ∈ pagesL) (w : World) (hN : Numbers w) : Calls Tryd.prog 60 #[.int .i64 num] w fun e W' => ∃ b, e = .returned (.tuple #[.pointer (some ⟨b, 0, none⟩), .int .i64 0]) ∧ Fresh W' b num ∧ Below w.heap.size w W' :=
  (callsIn_wide.1 (new_in 3 (Nat.le_refl _) num w hN)).mono fun e W' ⟨h, hB⟩ => by
    rcases h with ⟨h, _⟩ | ⟨_, b, he, hb, hF⟩
    · exact absurd hm h
    · exact ⟨b, he, hF, hB⟩
theorem pages_bd {num : Int} (hm : num ∈ pagesL) : 0 ≤ num ∧ num < 65536 := by
  unfold pagesL at hm
  simp only [List.mem_cons, List.not_mem_nil, or_false] at hm
  omega
theorem Numbers.go {w w' : World} (h : Numbers w) (hb : Below w.heap.size w w') : Numbers w' := h.below h.1 hb
set_option maxRecDepth 100000 in
set_option maxHeartbeats 4000000 in
theorem awake22 (w : World) (hN : Numbers w) : Calls Tryd.prog 34 #[] w fun e w' => e = .returned (.bool true) ∧ Below w.heap.size w w' := by
  have HNP := hid (new_page 37 (by decide) w hN)
  have HAL := hid (fun b W (h : Fresh W b 37) => all_of 5 27 132 37 (.inr (.inr (.inr ⟨rfl, rfl, rfl⟩))) (.pointer (some ⟨b, 0, none⟩)) W ⟨⟨by decide, by decide⟩, .inr ⟨b, rfl, h⟩⟩)
  have HLEN := hid (show (ansF codesL 27 132 37).length = 119 from by decide +kernel)
  have HTK := hid (show (ansF codesL 27 132 37).take 12 = [136, 0, 11, 129, 128, 128, 129, 133, 134, 135, 136, 166] from by decide +kernel)
  generalize ansF codesL 27 132 37 = AN at HAL HLEN HTK
  clear hN
  go_enter Tryd.func34, Tryd.ntmps34
  go_wp2_with fail
  with_reducible refine HNP.out.mono ?_
  rintro e w1 ⟨b, rfl, hF, hb1⟩
  have HA := hid (HAL.out b w1 hF)
  have HB1 := hid hb1
  clear hF hb1 HNP
  go_wp2_with fail
  with_reducible refine HA.out.mono ?_
  rintro e w2 ⟨v, rfl, h2⟩
  have HB2 := hid (below_t HB1.out h2.bel)
  have hrd := h2.own.reads
  obtain ⟨x, cp, rfl⟩ := h2.len 119 HLEN.out
  obtain ⟨g, o, rfl, -, hcp, hcm⟩ := reads_at hrd 0 (by rw [HLEN.out]; decide)
  rw [HLEN.out] at hcp
  have hT := reads_take hrd HLEN.out 12 (by decide)
  rw [HTK.out] at hT
  have hal : Below w2.heap.size w2 (w2.alloc (.cells #[.int .u8 136, .int .u8 0, .int .u8 11, .int .u8 129, .int .u8 128, .int .u8 128, .int .u8 129, .int .u8 133, .int .u8 134, .int .u8 135, .int .u8 136, .int .u8 166] 5)) := bal (Below.refl _ _) _
  have HSM := hid (same_true (.slice (some ⟨g, o, none⟩) 12 cp) (.slice (some ⟨w2.heap.size, 0, none⟩) 12 12) [136, 0, 11, 129, 128, 128, 129, 133, 134, 135, 136, 166] _ (reads_below hT hal) (own_lit w2 #[.int .u8 136, .int .u8 0, .int .u8 11, .int .u8 129, .int .u8 128, .int .u8 128, .int .u8 129, .int .u8 133, .int .u8 134, .int .u8 135, .int .u8 136, .int .u8 166] 12 [136, 0, 11, 129, 128, 128, 129, 133, 134, 135, 136, 166] (by decide) rfl rfl (by omega) w2.heap.size rfl).reads)
  have HB3 := hid (below_t HB2.out hal)
  have hc12 : (12 : Nat) ≤ cp := by omega
  have hi12 : (12 : Int) ≤ cp := by omega
  clear h2 hrd hT hal HA
  go_wp2_with fail
  with_reducible refine HSM.out.mono ?_
  rintro e w4 ⟨rfl, rfl⟩
  go_wp2
  go_ret
  exact ⟨rfl, HB3.out⟩
end Go.Proofs.YtdpgmepblmlaaaaDoor
