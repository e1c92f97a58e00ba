/-
  The tables of a page are built: the signs in their array, the codes in their map.
-/
import Derived.Test.YtadoiplfglaonaaDoorProg
import Derived.Test.YtadoiplfglaonaaDoorChange
import Derived.Deep.MidRow
import Derived.WalkKit
import Derived.RegionTactic
import Derived.BigRegion
import Derived.Deep.QuietTactic
import Derived.BigQuiet
import Derived.Lib.Hide
import Derived.WalkSmall
import Derived.Maps.OwnSet
namespace Go.Proofs.YtadoiplfglaonaaDoor
open Go.RowKit Go.Lib

/-- Nothing that lay has turned but block b. -/
structure But (b : Nat) (w w' : World) : Prop where
  os : w'.os = w.os
  tape : w'.tape = w.tape
  output : w'.output = w.output
  size : w.heap.size ≤ w'.heap.size
  block : ∀ k, k < w.heap.size → k ≠ b → w'.heap[k]? = w.heap[k]?
theorem But.refl (b : Nat) (w : World) : But b w w := ⟨rfl, rfl, rfl, Nat.le_refl _, fun _ _ _ => rfl⟩
theorem But.trans {b : Nat} {w1 w2 w3 : World} (h : But b w1 w2) (k : But b w2 w3) : But b w1 w3 :=
  ⟨k.os.trans h.os, k.tape.trans h.tape, k.output.trans h.output, Nat.le_trans h.size k.size, fun i hi hb => (k.block i (Nat.lt_of_lt_of_le hi h.size) hb).trans (h.block i hi hb)⟩
theorem But.below {b : Nat} {w1 w2 w3 : World} (h : But b w1 w2) (k : Below w2.heap.size w2 w3) : But b w1 w3 :=
  h.trans ⟨k.os, k.tape, k.output, k.size, fun i hi _ => k.block i hi⟩
theorem But.drew {b : Nat} {w1 w2 : World} (h : But b w1 w2) : But b w1 w2.drew := ⟨h.os, h.tape, h.output, h.size, h.block⟩
theorem But.alloc {b : Nat} {w1 w2 : World} (h : But b w1 w2) (o : Obj) : But b w1 (w2.alloc o) := h.below ((Below.refl _ _).alloc (Nat.le_refl _) o)
theorem But.setCell {b : Nat} {w1 w2 : World} (h : But b w1 w2) {p : Addr} (hp : p.block = b) (u : Value) : But b w1 (w2.setCell p u) :=
  h.trans ⟨rfl, rfl, rfl, by simp [World.setCell], fun k _ hk => Below.heap_setCell _ _ _ _ (by rw [hp]; exact hk)⟩
theorem But.grown {b : Nat} {w1 w2 w3 : World} {m : Nat} (h : But b w1 w2) (hg : w2.grownBy w3 (some m)) (hm : w1.heap.size ≤ m) : But b w1 w3 :=
  ⟨hg.os.trans h.os, hg.tape.trans h.tape, hg.output.trans h.output, Nat.le_trans h.size hg.size, fun k hk hb => (hg.block k (Nat.lt_of_lt_of_le hk h.size) (by simp; omega)).trans (h.block k hk hb)⟩
theorem But.to {b : Nat} {w1 w2 : World} (h : But b w1 w2) {B : Nat} (hB : B ≤ b) (hw : B ≤ w1.heap.size) : Below B w1 w2 := ⟨h.os, h.tape, h.output, h.size, fun k hk => h.block k (by omega) (by omega)⟩

/-- A page's cells. -/
def pageCells (num d st se : Int) (S : List Int) (cv : Value) : Array Value := (.int .i64 num :: .int .u32 d :: .int .i32 st :: .int .u32 se :: (S.map (Value.int .i32) ++ [cv])).toArray

/-- A page in block b. -/
structure PageIn (w : World) (b : Nat) (num d st se : Int) (S : List Int) (cv : Value) : Prop where
  block : w.heap[b]? = some (.cells (pageCells num d st se S cv) 89 (0, 0))
  size : S.length = 256

section
variable {w : World} {b : Nat} {num d st se : Int} {S : List Int} {cv : Value}
theorem PageIn.number (h : PageIn w b num d st se S cv) : w.cell? ⟨b, 0, none⟩ = some (.int .i64 num) := by simp [World.cell?, h.block, pageCells]
theorem PageIn.done (h : PageIn w b num d st se S cv) : w.cell? ⟨b, 1, none⟩ = some (.int .u32 d) := by simp [World.cell?, h.block, pageCells]
theorem PageIn.state (h : PageIn w b num d st se S cv) : w.cell? ⟨b, 2, none⟩ = some (.int .i32 st) := by simp [World.cell?, h.block, pageCells]
theorem PageIn.sema (h : PageIn w b num d st se S cv) : w.cell? ⟨b, 3, none⟩ = some (.int .u32 se) := by simp [World.cell?, h.block, pageCells]
theorem PageIn.sign (h : PageIn w b num d st se S cv) {k : Nat} (hk : k < 256) : w.cell? ⟨b, 4 + k, none⟩ = some (.int .i32 (S.getD k 0)) := by
  have hk' : k < S.length := by rw [h.size]; exact hk
  simp [World.cell?, h.block, pageCells, show 4 + k = k + 1 + 1 + 1 + 1 by omega, List.getElem?_append, hk']
theorem PageIn.codes (h : PageIn w b num d st se S cv) : w.cell? ⟨b, 260, none⟩ = some cv := by
  simp [World.cell?, h.block, pageCells, h.size]
theorem PageIn.frozen (h : PageIn w b num d st se S cv) (j : Nat) : w.frozen? ⟨b, j, none⟩ = false := by simp [World.frozen?, h.block]
theorem PageIn.lt (h : PageIn w b num d st se S cv) : b < w.heap.size := (Array.getElem?_eq_some_iff.1 h.block).1
theorem PageIn.range (h : PageIn w b num d st se S cv) : w.rangeAt b 4 (S.map (Value.int .i32)) := fun j v hv => by
  obtain ⟨hj, e⟩ := List.getElem?_eq_some_iff.1 hv
  have hj' : j < S.length := by simpa using hj
  rw [h.sign (by rw [← h.size]; exact hj'), ← e]
  simp [List.getD, hj']
theorem PageIn.of_heap {w' : World} (h : PageIn w b num d st se S cv) (e : w'.heap[b]? = w.heap[b]?) : PageIn w' b num d st se S cv := ⟨e.trans h.block, h.size⟩
theorem PageIn.alloc (h : PageIn w b num d st se S cv) (o : Obj) : PageIn (w.alloc o) b num d st se S cv := h.of_heap (Below.heap_alloc _ _ _ h.lt)
theorem PageIn.putSign (h : PageIn w b num d st se S cv) {k : Nat} (hk : k < 256) (v : Int) : PageIn (w.setCell ⟨b, 4 + k, none⟩ (.int .i32 v)) b num d st se (S.set k v) cv := by
  refine ⟨?_, by rw [List.length_set]; exact h.size⟩
  rw [heap_setCell_same w b (4 + k) _ 89 _ h.block]
  have hk' : k < S.length := by rw [h.size]; exact hk
  congr 2
  simp only [pageCells, List.setIfInBounds_toArray, show 4 + k = k + 1 + 1 + 1 + 1 by omega, List.set_cons_succ]
  rw [List.set_append_left _ _ (by simpa using hk'), List.map_set]
theorem PageIn.putCodes (h : PageIn w b num d st se S cv) (v : Value) : PageIn (w.setCell ⟨b, 260, none⟩ v) b num d st se S v := by
  refine ⟨?_, h.size⟩
  rw [heap_setCell_same w b 260 _ 89 _ h.block]
  congr 2
  simp only [pageCells, List.setIfInBounds_toArray, List.set_cons_succ]
  rw [List.set_append_right _ _ (by simp [h.size])]
  simp [h.size]
theorem PageIn.putDone (h : PageIn w b num d st se S cv) (v : Int) : PageIn (w.setCell ⟨b, 1, none⟩ (.int .u32 v)) b num v st se S cv := by
  refine ⟨?_, h.size⟩
  rw [heap_setCell_same w b 1 _ 89 _ h.block]
  simp [pageCells]
theorem PageIn.putState (h : PageIn w b num d st se S cv) (v : Int) : PageIn (w.setCell ⟨b, 2, none⟩ (.int .i32 v)) b num d v se S cv := by
  refine ⟨?_, h.size⟩
  rw [heap_setCell_same w b 2 _ 89 _ h.block]
  simp [pageCells]
end

theorem base_byte (s : ByteArray) (hs : s.data.toList = baseU) (k : Nat) (hk : k < s.size) : wrap32 ((s[k].toNat : Nat) : Int) = baseL.getD k 0 := by
  have hk' : k < baseU.length := by rw [← hs]; simpa using hk
  have e : baseL.getD k 0 = ((s[k].toNat : Nat) : Int) := by
    unfold baseL
    rw [List.getD, List.getElem?_map, List.getElem?_eq_getElem hk']
    simp only [Option.map_some, Option.getD_some]
    congr 2
    have : baseU[k] = s.data.toList[k]'(by simpa using hk) := by simp [hs]
    rw [this]
    rfl
  rw [e]
  have := s[k].toNat_lt
  unfold wrap32
  omega
theorem take_drop_set (L S : List Int) (k : Nat) (hk : k < L.length) (hl : S.length = L.length) : (L.take k ++ S.drop k).set k (L.getD k 0) = L.take (k + 1) ++ S.drop (k + 1) := by
  have hk2 : k < S.length := by omega
  have e : L.getD k 0 = L[k] := by simp [List.getD, hk]
  rw [e, List.set_append_right _ _ (by simp; omega), List.length_take, Nat.min_eq_left (by omega), Nat.sub_self, List.drop_eq_getElem_cons hk2, List.set_cons_zero, List.take_succ_eq_append_getElem hk, List.append_assoc]
  rfl
theorem PageIn.step1 {w : World} {b : Nat} {num d st se : Int} {S : List Int} {cv : Value} {k : Nat} (h : PageIn w b num d st se (baseL.take k ++ S.drop k) cv) (hS : S.length = 256) (hk : k < 256) (s : ByteArray) (hs : s.data.toList = baseU) (hks : k < s.size) :
    PageIn (w.setCell ⟨b, 4 + k, none⟩ (.int .i32 (wrap32 ((s[k].toNat : Nat) : Int)))) b num d st se (baseL.take (k + 1) ++ S.drop (k + 1)) cv := by
  rw [base_byte s hs k hks, ← take_drop_set baseL S k (by rw [baseL_length]; exact hk) (by rw [baseL_length]; exact hS)]
  exact h.putSign hk _

/-- The map behind the first k codes. -/
def mapD (S : List Int) : Nat → DataW Unit
  | 0 => .map []
  | k + 1 => (mapD S k).put (.int .i32 (S.getD k 0)) (.lit (.int .u8 k))

/-- The page is built. -/
def Built (b : Nat) (num d st se : Int) (w : World) (e : Ending) (w' : World) : Prop := e = .returned (.tuple #[]) ∧ ∃ m, PageIn w' b num d st se (signsL num) (.map (some m)) ∧ w'.ownsMap (H := Unit) Tryd.prog 21 (plainElem Tryd.prog 5) m 256 (mapD (signsL num) 256) ∧ But b w w' ∧ b < m ∧ w.heap.size ≤ m
theorem info21 : (Tryd.prog.info? 21).map (·.size) = some 1 := by kernel_rfl
theorem index_86 (l : List Int) (k : Nat) (hk : k < 256) (hl : l.length = 256) (w : World) : (Instr.index 86 (.agg (l.map (Value.int .i32)).toArray) (.int .i64 k)).run Tryd.prog w = .ok (.int .i32 (l.getD k 0)) w := by
  obtain ⟨i, hi, hs⟩ := Option.map_eq_some_iff.1 info21
  have h2 : k < l.length := by omega
  simp [Instr.index, asIntOf, run_underlying Tryd.underlying86, sizeOf, typeInfo, hi, hs, part, isAgg, run_underlying Tryd.underlying21, hk, h2]
theorem wf_rune {x : Int} (h0 : 0 ≤ x) (h1 : x ≤ 65535) : (Lit.int .i32 x).wf = true := by
  exact WalkArith.wf_i32 (by omega)
theorem wf_byte {k : Nat} (h : k < 256) : (Lit.int .u8 (k : Int)).wf = true := by
  exact WalkArith.wf_u8 (by omega)
theorem makeMap_256 (w : World) : (Instr.makeMap 87 (some (Value.int IntKind.i64 256))).run Tryd.prog w = .ok (.map (some w.heap.size)) (w.alloc (.map #[] 0)) := by
  simp [Instr.makeMap, go_sem]

set_option maxRecDepth 100000 in
set_option maxHeartbeats 1000000 in
theorem build_walk (b : Nat) (num d st se : Int) (S : List Int) (cv : Value) (w : World) (hP : PageIn w b num d st se S cv) (hnum : num ∈ pagesL) :
    Calls Tryd.prog 56 #[.pointer (some ⟨b, 0, none⟩)] w (Built b num d st se w) := by
  have HP := hid hP
  have HN := hid hnum
  clear hP hnum
  go_enter Tryd.func56, Tryd.ntmps56
  go_wp2
  go_loopw [7] (fun i wr => ∃ k : Nat, k ≤ 256 ∧ i = .int .i64 k ∧ Hid (PageIn wr b num d st se (baseL.take k ++ S.drop k) cv) ∧ Hid (But b w wr) ∧ Hid (wr.heap.size = w.heap.size)) (fun i _ => 256 - (intOf i).toNat)
  case atStart => exact ⟨0, by omega, rfl, HP, But.refl _ _, rfl⟩
  case round =>
    obtain ⟨k, hk, rfl, H1, HB, HZ⟩ := hrel
    by_cases hlt : k < 256
    · have hs := H1.out.sign hlt
      have hf := H1.out.frozen (4 + k)
      go_wp2
      go_region
      all_goals
        go_wp2
        go_roundw
        case rel =>
          refine ⟨k + 1, by omega, by go_num, ?_, (HB.out.setCell (p := ⟨b, 4 + k, none⟩) rfl _).drew, by rw [Hid]; simpa [World.setCell] using HZ.out⟩
          refine PageIn.of_heap (PageIn.step1 H1.out HP.out.size hlt _ ?_ ?_) rfl
          · rfl
          · exact hlt
        case measure => simp [intOf]; omega
    · obtain rfl : k = 256 := by omega
      have hN := H1.out.number
      have HC := hid (changes_any num HN.out wr)
      have HP2 : Hid (PageIn wr b num d st se (signsAt num 0) cv) := by
        have := H1.out
        rw [List.take_of_length_le (by rw [baseL_length]; exact Nat.le_refl _), List.drop_of_length_le (by rw [HP.out.size]; exact Nat.le_refl _), List.append_nil] at this
        exact this
      clear H1
      obtain ⟨L, hL⟩ : ∃ L, L = changesL num := ⟨_, rfl⟩
      have HL := hid hL
      clear hL
      have HC2 : Hid (Calls Tryd.prog 71 #[.int .i64 num] wr fun e w' => ∃ p : Option Addr, e = .returned (.slice p L.length L.length) ∧ Below (wr.heap.size) wr w' ∧ (0 < L.length → p = some ⟨wr.heap.size, 0, none⟩ ∧ w'.heap[wr.heap.size]? = some (.cells (flat L).toArray 104 (0, 0)))) :=
        HC.out.mono fun e w' h => by
          rcases h with ⟨h1, rfl, rfl⟩ | ⟨rfl, rfl⟩
          · rw [HL.out, h1]; exact ⟨none, rfl, Below.refl _ _, fun h => absurd h (by simp)⟩
          · rw [HL.out]; exact ⟨_, rfl, (Below.refl _ _).alloc (Nat.le_refl _) _, fun _ => ⟨rfl, heap_alloc_new wr _⟩⟩
      have hLf : L.length ≤ 25 := by rw [HL.out]; exact changes_few num
      have hbg := HP2.out.lt
      clear HC
      obtain ⟨g0, hg0⟩ : ∃ g0, g0 = wr.heap.size := ⟨_, rfl⟩
      rw [← hg0] at HC2 hbg
      have HG := hid hg0
      clear hg0
      go_wp2_with (go_at_call 71; refine HC2.out.mono ?_; rintro e w1 ⟨p, rfl, hB1, hp⟩; have HB1 := hid hB1; have HPP := hid hp; clear hB1 hp)
      go_loopw [25] (fun i w2 => ∃ k : Nat, k ≤ L.length ∧ i = .int .i64 k ∧ Hid (PageIn w2 b num d st se (signsAt num k) cv) ∧ Hid (But b w w2) ∧ Hid (0 < L.length → w2.heap[g0]? = some (.cells (flat L).toArray 104 (0, 0)))) (fun i _ => L.length - (intOf i).toNat)
      case atStart => exact ⟨0, by omega, rfl, HP2.out.of_heap (HB1.out.block b hbg), HB.out.below (HG.out ▸ HB1.out), fun h => (HPP.out h).2⟩
      case round =>
        clear HP2 HB HC2 HB1 HZ HG hN
        obtain ⟨k, hk2, rfl, H2, HBB, HBK⟩ := hrel
        by_cases hlt2 : k < L.length
        · obtain ⟨⟨c, sg⟩, hcs⟩ : ∃ q, L[k]? = some q := ⟨_, List.getElem?_eq_getElem hlt2⟩
          obtain ⟨rfl, _⟩ := HPP.out (by omega)
          have hfl := flat_at L k c sg hcs
          have hbk := HBK.out (by omega)
          have e0 : wr.cell? ⟨g0, k * 2, none⟩ = some (.int .u8 c) := by rw [cell_of_row _ _ _ _ _ _ hbk]; simpa using hfl.1
          have e1 : wr.cell? ⟨g0, k * 2 + 1, none⟩ = some (.int .i32 sg) := by rw [cell_of_row _ _ _ _ _ _ hbk]; simpa using hfl.2
          obtain ⟨hc0, hc1, hs0, hs1⟩ := changes_ok num k c sg (by rw [← HL.out]; exact hcs)
          have HCS := hid hcs
          have HBK2 := hid hbk
          clear hcs hbk hfl
          obtain ⟨cn, rfl⟩ : ∃ cn : Nat, c = (cn : Int) := ⟨c.toNat, by omega⟩
          have hcn : cn < 256 := by omega
          have hsA : (wr.alloc (.cells #[.int .u8 (cn : Int), .int .i32 sg] 104)).cell? ⟨b, 4 + cn, none⟩ = some (.int .i32 ((signsAt num k).getD cn 0)) := by
            rw [World.cell?_alloc_past _ _ _ H2.out.lt]; exact H2.out.sign hcn
          have hfA : (wr.alloc (.cells #[.int .u8 (cn : Int), .int .i32 sg] 104)).frozen? ⟨b, 4 + cn, none⟩ = false := by
            rw [World.frozen?_alloc_past _ _ _ H2.out.lt]; exact H2.out.frozen _
          go_wp2
          go_region
          all_goals
            go_wp2
            go_roundw
            case rel =>
              refine ⟨k + 1, by omega, by go_num, ?_, ?_, ?_⟩
              · rw [signsAt_succ num k cn sg (by rw [← HL.out]; exact HCS.out)]
                exact PageIn.of_heap ((H2.out.alloc (.cells #[.int .u8 (cn : Int), .int .i32 sg] 104)).putSign hcn sg) rfl
              · exact ((HBB.out.alloc _).setCell (p := ⟨b, 4 + cn, none⟩) rfl _).drew
              · intro h
                exact (Below.heap_setCell _ ⟨b, 4 + cn, none⟩ _ g0 (by simp; omega)).trans ((Below.heap_alloc _ _ _ (Array.getElem?_eq_some_iff.1 HBK2.out).1).trans HBK2.out)
            case measure => simp [intOf]; omega
        · obtain rfl : k = L.length := by omega
          have HS : Hid (PageIn wr b num d st se (signsL num) cv) := by
            have := H2.out
            rw [HL.out] at this
            exact this
          clear H2 HBK HPP
          have hcc := HS.out.codes
          have hcf := HS.out.frozen 260
          have hmm := makeMap_256
          have hbl := HS.out.lt
          have hcA : ∀ o, (wr.alloc o).cell? ⟨b, 260, none⟩ = some cv := fun o => by rw [World.cell?_alloc_past _ _ _ hbl]; exact hcc
          have hfA : ∀ o, (wr.alloc o).frozen? ⟨b, 260, none⟩ = false := fun o => by rw [World.frozen?_alloc_past _ _ _ hbl]; exact hcf
          have HR : Hid (∀ o v, ((wr.setCell ⟨b, 260, none⟩ v).alloc o).rangeAt b 4 ((signsL num).map (Value.int .i32))) := fun o v => World.rangeAt_alloc (HS.out.putCodes v).range o
          have hsl : ((signsL num).map (Value.int .i32)).length = 256 := by rw [List.length_map]; exact HS.out.size
          have HSL := hid hsl
          clear hsl
          go_wp2_with (with_reducible refine wpList_load_mid rfl 86 _ rfl b 4 rfl ((signsL num).map (Value.int .i32)) _ (HR.out _ _) Tryd.underlying86 rfl (by rw [HSL.out]; kernel_rfl) ?_)
          have HBM : Hid (But b w ((wr.setCell ⟨b, 260, none⟩ (.map (some wr.heap.size))).alloc (.map #[] 0))) := (HBB.out.setCell (p := ⟨b, 260, none⟩) rfl _).alloc _
          have HPM : Hid (PageIn ((wr.setCell ⟨b, 260, none⟩ (.map (some wr.heap.size))).alloc (.map #[] 0)) b num d st se (signsL num) (.map (some wr.heap.size))) := (HS.out.putCodes _).alloc _
          have HOM : Hid (((wr.setCell ⟨b, 260, none⟩ (.map (some wr.heap.size))).alloc (.map #[] 0)).ownsMap (H := Unit) Tryd.prog 21 (plainElem Tryd.prog 5) wr.heap.size 0 (mapD (signsL num) 0)) := by
            have := World.ownsMap_made (H := Unit) (wr.setCell ⟨b, 260, none⟩ (.map (some wr.heap.size))) Tryd.prog 21 (plainElem Tryd.prog 5)
            rw [Hid]
            simpa [World.setCell, mapD] using this
          obtain ⟨m, hm⟩ : ∃ m, m = wr.heap.size := ⟨_, rfl⟩
          rw [← hm] at HBM HPM HOM
          have hbm : b < m := by rw [hm]; exact hbl
          have hwm : w.heap.size ≤ m := by rw [hm]; exact HBB.out.size
          have HM := hid hm
          clear hcc hcf hcA hfA hmm hm HBB
          go_loopw [46] (fun i w3 => ∃ k : Nat, k ≤ 256 ∧ i = .int .i64 k ∧ Hid (PageIn w3 b num d st se (signsL num) (.map (some m))) ∧ Hid (But b w w3) ∧ Hid (w3.ownsMap (H := Unit) Tryd.prog 21 (plainElem Tryd.prog 5) m k (mapD (signsL num) k))) (fun i _ => 256 - (intOf i).toNat)
          case atStart => exact ⟨0, by omega, rfl, by rw [← HM.out]; exact HPM, by rw [← HM.out]; exact HBM, by rw [← HM.out]; exact HOM⟩
          case round =>
            clear HBM HPM HOM HR HS HSL hbl
            obtain ⟨k, hk3, rfl, H3, HB3, HO3⟩ := hrel
            have hcd := H3.out.codes
            have HSZ := hid H3.out.size
            by_cases hlt3 : k < 256
            · have hown := HO3.out
              have hix := index_86 (signsL num) k hlt3 HSZ.out wr
              obtain ⟨hx0, hx1⟩ : 0 ≤ (signsL num).getD k 0 ∧ (signsL num).getD k 0 ≤ 65535 := by
                have := List.all_eq_true.1 (signs_ok num HN.out) ((signsL num).getD k 0) (by rw [List.getD, List.getElem?_eq_getElem (show k < (signsL num).length by rw [HSZ.out]; exact hlt3)]; simp)
                simpa using this
              obtain ⟨x, hx⟩ : ∃ x, x = (signsL num).getD k 0 := ⟨_, rfl⟩
              rw [← hx] at hix hx0 hx1
              have HX := hid hx
              have HOW := hid hown
              clear hx hown
              go_wp2_with (at_mapUpdate; refine wpList_mapUpdate_own _ rfl _ _ _ 87 rfl 21 5 (Maps.int_keyed Tryd.underlying21) Tryd.underlying87 _ m k _ rfl HOW.out (by unfold maxLen; omega) _ _ _ rfl rfl (Maps.keyOf_int_mk Tryd.underlying21 (wf_rune hx0 hx1)) _ [] (plainElem_int Tryd.underlying5 (wf_byte hlt3)) ?_; intro w1 hown1 hgrow1)
              go_roundw
              case rel =>
                refine ⟨k + 1, by omega, by go_num, H3.out.of_heap (hgrow1.block b H3.out.lt (by simp; omega)), HB3.out.grown hgrow1 hwm, ?_⟩
                have e : mapD (signsL num) (k + 1) = (mapD (signsL num) k).put (.int .i32 x) (.lit (.int .u8 k)) := by rw [HX.out]; rfl
                rw [e]
                exact hown1
              case measure => simp [intOf]; omega
            · obtain rfl : k = 256 := by omega
              have fin : Built b num d st se w (.returned (.tuple #[])) wr := ⟨rfl, m, H3.out, HO3.out, HB3.out, hbm, hwm⟩
              have FIN := hid fin
              clear fin
              go_wp2
              go_end0
              exact FIN.out
end Go.Proofs.YtadoiplfglaonaaDoor
