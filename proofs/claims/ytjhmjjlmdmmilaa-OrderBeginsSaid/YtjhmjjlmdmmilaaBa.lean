/-
  Bytes in memory: read, copied, cut, cloned, held against one another.
-/
import Derived.Test.YtjhmjjlmdmmilaaProg
import Derived.WalkKit
import Derived.LoopTactic
import Derived.Lib.Hide
import Derived.Below
import Derived.OwnWalk
import Derived.Laws.BytesArg
import Derived.Laws.AppendOwnNone
import Derived.Laws.OwnMore
namespace Go.Proofs.Ytjhmjjlmdmmilaa
open Go.RowKit Go.Lib

/-- A slice of bytes that reads as a list: none, or a row. -/
def Reads (w : World) (v : Value) (xs : List Int) : Prop :=
  (∀ x ∈ xs, 0 ≤ x ∧ x < 256) ∧ ((v = .slice none 0 0 ∧ xs = []) ∨ ∃ a cap, v = .slice (some a) xs.length cap ∧ xs.length ≤ cap ∧ cap ≤ maxLen ∧ ∀ i, i < xs.length → w.cell? (a.add i) = some (.int .u8 (xs.getD i 0)))
theorem reads_nil (w : World) : Reads w (.slice none 0 0) [] := ⟨fun _ h => (by cases h), .inl ⟨rfl, rfl⟩⟩
theorem addr_add (g off j : Nat) : (⟨g, off, none⟩ : Addr).add j = ⟨g, off + j, none⟩ := by unfold Addr.add; split <;> simp_all
theorem reads_conv {w : World} {v : Value} {xs : List Int} (h : Reads w v xs) : (convert 26 9 v).run Try.prog w = .ok (.string (strOfNums xs)) w := by
  rcases h.2 with ⟨rfl, rfl⟩ | ⟨a, cap, rfl, h1, h2, h3⟩
  · exact run_convert_bytes_nil w 26 5 Try.underlying26 Try.underlying5 0 0 9 Try.underlying9
  · have hl : (loadCells a xs.length).run Try.prog w = .ok (xs.map (Value.int .u8)).toArray w := by
      have := run_loadCells_list (P := Try.prog) w a (xs.map (Value.int .u8)) (fun j v hj => by
        rw [List.getElem?_map] at hj
        by_cases hjl : j < xs.length
        · rw [List.getElem?_eq_getElem hjl] at hj
          simp only [Option.map_some, Option.some.injEq] at hj
          rw [h3 j hjl, List.getD, List.getElem?_eq_getElem hjl, ← hj]
          rfl
        · rw [List.getElem?_eq_none (by omega)] at hj
          simp at hj)
      simpa using this
    rw [run_convert_bytes_string w 26 9 5 _ _ cap Try.underlying26 Try.underlying5 Try.underlying9, run_bytesToString w _ _ cap xs hl, foldl_push_bytes]
    simp [strOfNums, ByteArray.empty, ByteArray.emptyWithCapacity]
    rfl
theorem reads_below {w w' : World} {v : Value} {xs : List Int} (h : Reads w v xs) (hb : Below w.heap.size w w') : Reads w' v xs := by
  refine ⟨h.1, ?_⟩
  rcases h.2 with h1 | ⟨a, cap, rfl, h1, h2, h3⟩
  · exact .inl h1
  · refine .inr ⟨a, cap, rfl, h1, h2, fun i hi => ?_⟩
    have hc := h3 i hi
    exact (hb.cell (World.block_lt_of_cell? w _ hc)).trans hc
set_option maxRecDepth 100000 in
theorem same_true (v u : Value) (xs : List Int) (w : World) (hv : Reads w v xs) (hu : Reads w u xs) : Calls Try.prog 16 #[v, u] w fun e w' => e = .returned (.bool true) ∧ w = w' := by
  have e1 := reads_conv hv
  have e2 := reads_conv hu
  generalize strOfNums xs = S at e1 e2
  clear hv hu
  go_enter Try.func16, Try.ntmps16
  go_wp2
  go_ret
  exact ⟨rfl, rfl⟩

theorem info5 : (Try.prog.info? 5).map (fun i => (i.zero, i.size, i.bytes)) = some (some (.int .u8 0), 1, 1) := by kernel_rfl
/-- Bytes of one's own are there. -/
def RowDone (xs : List Int) (w : World) (e : Ending) (w' : World) : Prop := ∃ v, e = .returned v ∧ Reads w' v xs ∧ Below w.heap.size w w' ∧ w'.ownsRow w.heap.size 5 1 v xs.length (xs.map (Value.int .u8)) ∧ v ≠ .slice none 0 0
theorem row_done {xs : List Int} {w w' : World} {v : Value} (hb : ∀ x ∈ xs, 0 ≤ x ∧ x < 256) (h : w'.ownsRow w.heap.size 5 1 v xs.length (xs.map (Value.int .u8))) (hn : v ≠ .slice none 0 0) (hw : Below w.heap.size w w') : RowDone xs w (.returned v) w' := by
  refine ⟨v, rfl, ⟨hb, ?_⟩, hw, h, hn⟩
  rcases h.2 with ⟨e, _⟩ | ⟨g, cap, cur, rfl, hg, hh, h1, h2, h3, h4⟩
  · exact absurd e hn
  · refine .inr ⟨⟨g, 0, none⟩, cap, rfl, h1, h2, fun i hi => ?_⟩
    rw [addr_add, Nat.zero_add, World.ownsRow.cellAt h i (by omega), List.getElem?_map, List.getD, List.getElem?_eq_getElem hi]
    rfl
set_option maxRecDepth 100000 in
theorem copy_any (v : Value) (xs : List Int) (w : World) (h : Reads w v xs) (hlen : xs.length ≤ 140737488355328) : Calls Try.prog 14 #[v] w (RowDone xs w) := by
  obtain ⟨hb, ⟨rfl, rfl⟩ | ⟨a, cap, rfl, hlc, hcm, hcell⟩⟩ := h
  · obtain ⟨i0, hi, hz0, hz1, hz2⟩ := info_parts info5
    have HB := hid hb
    clear hb
    go_enter Try.func14, Try.ntmps14
    go_wp2_with (first
      | (at_builtin; refine wpList_append_own_none rfl _ _ 26 rfl w.heap.size 5 i0 1 Try.underlying26 hi _ 0 [] rfl (World.ownsRow_lit _ #[] 0 (Nat.le_refl _) (Nat.zero_le _) rfl) rfl ?_))
    go_ret
    exact row_done HB.out (World.ownsRow_lit _ #[] 0 (Nat.le_refl _) (Nat.zero_le _) rfl) (by simp) ((Below.refl _ _).alloc (Nat.le_refl _) _)
  · obtain ⟨i0, hi, hz0, hz1, hz2⟩ := info_parts info5
    have HB := hid hb
    have HC : Hid (∀ j u, (xs.map (Value.int .u8))[j]? = some u → (w.alloc (.cells #[] 5)).cell? (a.add j) = some u) := fun j u hu => by
      rw [List.getElem?_map] at hu
      by_cases hj : j < xs.length
      · have hc := hcell j hj
        rw [List.getElem?_eq_getElem hj] at hu
        simp only [Option.map_some, Option.some.injEq] at hu
        rw [List.getD, List.getElem?_eq_getElem hj] at hc
        rw [← hu]
        exact (World.cell?_of_block (Below.heap_alloc _ _ _ (World.block_lt_of_cell? w _ hc))).trans hc
      · rw [List.getElem?_eq_none (by omega)] at hu
        simp at hu
    have HM : Hid (0 + xs.length ≤ maxLen) := by show _ ≤ _; omega
    have HL : Hid ((0 + xs.length) * 1 ≤ 140737488355328) := by show _ ≤ _; omega
    have HLL : Hid ((xs.map (Value.int .u8)).length = xs.length * 1) := by show _ = _; rw [List.length_map]; omega
    clear hcell hb hlc hcm hlen
    obtain ⟨L, hL⟩ : ∃ L, L = xs.length := ⟨_, rfl⟩
    rw [← hL] at HM HL HLL ⊢
    have HLE := hid hL
    clear hL
    go_enter Try.func14, Try.ntmps14
    go_wp2_with (first
      | (at_builtin; refine wpList_append_own _ rfl _ _ 26 rfl w.heap.size 5 i0 (.int .u8 0) 1 1 Try.underlying26 hi hz0 hz1 hz2 rfl (by decide) _ 0 [] rfl (World.ownsRow_lit _ #[] 0 (Nat.le_refl _) (Nat.zero_le _) rfl) a L cap (xs.map (Value.int .u8)) rfl HLL.out HC.out (ints_oneCell .u8 _) HM.out HL.out (by simp) ?_; intro v1 w1 hown1 hgrow1 hnil1; have HO := hid hown1; have HG := hid hgrow1; have HNL := hid hnil1; clear hown1 hgrow1 hnil1))
    go_ret
    refine row_done HB.out ?_ (fun hh => by have := (HNL.out.1 hh).1; cases this) (((Below.refl _ _).alloc (Nat.le_refl _) _).grown HG.out (by simp) (fun k hk => by have e : w.heap.size = k := Option.some.inj hk; omega))
    have := HO.out
    rw [Nat.zero_add, List.nil_append] at this
    rw [← HLE.out]
    exact this
theorem reads_take {w : World} {a : Addr} {len cap : Nat} {xs : List Int} (h : Reads w (.slice (some a) len cap) xs) (hl : xs.length = len) (k : Nat) (hk : k ≤ len) : Reads w (.slice (some a) k cap) (xs.take k) := by
  refine ⟨fun x hx => h.1 x (List.mem_of_mem_take hx), ?_⟩
  rcases h.2 with ⟨e, _⟩ | ⟨a', cap', e, h1, h2, h3⟩
  · cases e
  · cases e
    have hlen : (xs.take k).length = k := by rw [List.length_take]; omega
    refine .inr ⟨a, cap, by rw [hlen], by omega, h2, fun i hi => ?_⟩
    rw [hlen] at hi
    rw [h3 i (by omega), List.getD, List.getD, List.getElem?_take, if_pos hi]
set_option maxRecDepth 100000 in
theorem cut_any (v : Value) (m : Nat) (hm : m ≤ 1000000) (xs : List Int) (w : World) (h : Reads w v xs) : Calls Try.prog 10 #[v, .int .i64 m] w (RowDone (xs.take m) w) := by
  by_cases hl : xs.length ≤ m
  · have HC := hid (copy_any v xs w h (by omega))
    rw [List.take_of_length_le hl]
    obtain ⟨hb, ⟨rfl, rfl⟩ | ⟨a, cap, rfl, hlc, hcm, hcell⟩⟩ := h
    all_goals
      first | clear hcell hlc hcm hb | clear hb
      go_enter Try.func10, Try.ntmps10
      go_wp2_with fail
      with_reducible refine HC.out.mono ?_
      rintro e w1 ⟨v, rfl, h1⟩
      have H1 := hid h1
      clear h1
      go_wp2
      go_ret
      exact ⟨_, rfl, H1.out⟩
  · obtain ⟨hb, ⟨rfl, rfl⟩ | ⟨a, cap, rfl, hlc, hcm, hcell⟩⟩ := h
    · exact absurd (Nat.zero_le _) hl
    · have HC := hid (copy_any _ (xs.take m) w (reads_take ⟨hb, .inr ⟨a, cap, rfl, hlc, hcm, hcell⟩⟩ rfl m (by omega)) (by rw [List.length_take]; omega))
      have hl' : m < xs.length := by omega
      have hmc : m ≤ cap := by omega
      clear hcell hb hl hlc
      go_enter Try.func10, Try.ntmps10
      go_wp2_with fail
      with_reducible refine HC.out.mono ?_
      rintro e w1 ⟨v, rfl, h1⟩
      have H1 := hid h1
      clear h1
      go_wp2
      go_ret
      exact ⟨_, rfl, H1.out⟩
theorem reads_of_row (w : World) (y : Addr) (len cap : Nat) (zs : List Int) (hl : len ≤ cap) (hm : cap ≤ maxLen) (hz : zs.length = cap) (hcell : ∀ i, i < zs.length → w.cell? (y.add i) = some (.int .u8 (zs.getD i 0))) (hb : ∀ n ∈ zs, 0 ≤ n ∧ n < 256) : Reads w (.slice (some y) len cap) (zs.take len) := by
  have hlen : (zs.take len).length = len := by rw [List.length_take]; omega
  refine ⟨fun x hx => hb x (List.mem_of_mem_take hx), .inr ⟨y, cap, by rw [hlen], by omega, hm, fun i hi => ?_⟩⟩
  rw [hlen] at hi
  rw [hcell i (by omega), List.getD, List.getD, List.getElem?_take, if_pos hi]
end Go.Proofs.Ytjhmjjlmdmmilaa
