/-
  Bytes in memory: read, copied, cut, cloned, held against one another.
  What is owned, block by block: footprints; appends that tell which block they end in.
  Bytes of one's own: what is known of them, and what leaves them whole.
-/
import Derived.Test.YtlhaefgchmakfaaFa
import Derived.WalkKit
import Derived.LoopTactic
import Derived.Lib.Hide
import Derived.Below
import Derived.OwnWalk
import Derived.Laws.BytesArg
import Derived.Laws.AppendOwnNone
import Derived.Laws.OwnMore
import Derived.Deep.Onto
namespace Go.Proofs.Ytlhaefgchmakfaa
open Go.RowKit Go.Lib

/-- Bytes of one's own are there. -/
def RowDone (xs : List Int) (w : World) (e : Ending) (w' : World) : Prop := ∃ v, e = .returned v ∧ Reads w' v xs ∧ Below w.heap.size w w' ∧ w'.ownsRow w.heap.size 5 1 v xs.length (xs.map (Value.int .u8)) ∧ v ≠ .slice none 0 0
theorem row_done {xs : List Int} {w w' : World} {v : Value} (hb : ∀ x ∈ xs, 0 ≤ x ∧ x < 256) (h : w'.ownsRow w.heap.size 5 1 v xs.length (xs.map (Value.int .u8))) (hn : v ≠ .slice none 0 0) (hw : Below w.heap.size w w') : RowDone xs w (.returned v) w' := by
  refine ⟨v, rfl, ⟨hb, ?_⟩, hw, h, hn⟩
  rcases h.2 with ⟨e, _⟩ | ⟨g, cap, cur, rfl, hg, hh, h1, h2, h3, h4⟩
  · exact absurd e hn
  · refine .inr ⟨⟨g, 0, none⟩, cap, rfl, h1, h2, fun i hi => ?_⟩
    rw [addr_add, Nat.zero_add, World.ownsRow.cellAt h i (by omega), List.getElem?_map, List.getD, List.getElem?_eq_getElem hi]
    rfl
set_option maxRecDepth 100000 in
theorem copy_any_o (v : Value) (xs : List Int) (w : World) (h : Reads w v xs) (hlen : xs.length ≤ 140737488355328) : Calls Try.prog 56 #[v] w (RowDone xs w) := by
  obtain ⟨hb, ⟨rfl, rfl⟩ | ⟨a, cap, rfl, hlc, hcm, hcell⟩⟩ := h
  · obtain ⟨i0, hi, hz0, hz1, hz2⟩ := info_parts info5
    have HB := hid hb
    clear hb
    go_enter Try.func56, Try.ntmps56
    go_wp2_with (first
      | (at_builtin; refine wpList_append_own_none rfl _ _ 31 rfl w.heap.size 5 i0 1 Try.underlying31 hi _ 0 [] rfl (World.ownsRow_lit _ #[] 0 (Nat.le_refl _) (Nat.zero_le _) rfl) rfl ?_))
    go_ret
    exact row_done HB.out (World.ownsRow_lit _ #[] 0 (Nat.le_refl _) (Nat.zero_le _) rfl) (by simp) ((Below.refl _ _).alloc (Nat.le_refl _) _)
  · obtain ⟨i0, hi, hz0, hz1, hz2⟩ := info_parts info5
    have HB := hid hb
    have HC : Hid (∀ j u, (xs.map (Value.int .u8))[j]? = some u → (w.alloc (.cells #[] 5)).cell? (a.add j) = some u) := fun j u hu => by
      rw [List.getElem?_map] at hu
      by_cases hj : j < xs.length
      · have hc := hcell j hj
        rw [List.getElem?_eq_getElem hj] at hu
        simp only [Option.map_some, Option.some.injEq] at hu
        rw [List.getD, List.getElem?_eq_getElem hj] at hc
        rw [← hu]
        exact (World.cell?_of_block (Below.heap_alloc _ _ _ (World.block_lt_of_cell? w _ hc))).trans hc
      · rw [List.getElem?_eq_none (by omega)] at hu
        simp at hu
    have HM : Hid (0 + xs.length ≤ maxLen) := by show _ ≤ _; omega
    have HL : Hid ((0 + xs.length) * 1 ≤ 140737488355328) := by show _ ≤ _; omega
    have HLL : Hid ((xs.map (Value.int .u8)).length = xs.length * 1) := by show _ = _; rw [List.length_map]; omega
    clear hcell hb hlc hcm hlen
    obtain ⟨L, hL⟩ : ∃ L, L = xs.length := ⟨_, rfl⟩
    rw [← hL] at HM HL HLL ⊢
    have HLE := hid hL
    clear hL
    go_enter Try.func56, Try.ntmps56
    go_wp2_with (first
      | (at_builtin; refine wpList_append_own _ rfl _ _ 31 rfl w.heap.size 5 i0 (.int .u8 0) 1 1 Try.underlying31 hi hz0 hz1 hz2 rfl (by decide) _ 0 [] rfl (World.ownsRow_lit _ #[] 0 (Nat.le_refl _) (Nat.zero_le _) rfl) a L cap (xs.map (Value.int .u8)) rfl HLL.out HC.out (ints_oneCell .u8 _) HM.out HL.out (by simp) ?_; intro v1 w1 hown1 hgrow1 hnil1; have HO := hid hown1; have HG := hid hgrow1; have HNL := hid hnil1; clear hown1 hgrow1 hnil1))
    go_ret
    refine row_done HB.out ?_ (fun hh => by have := (HNL.out.1 hh).1; cases this) (((Below.refl _ _).alloc (Nat.le_refl _) _).grown HG.out (by simp) (fun k hk => by have e : w.heap.size = k := Option.some.inj hk; omega))
    have := HO.out
    rw [Nat.zero_add, List.nil_append] at this
    rw [← HLE.out]
    exact this
set_option maxRecDepth 100000 in
theorem cut_any (v : Value) (m : Nat) (hm : m ≤ 1000000) (xs : List Int) (w : World) (h : Reads w v xs) : Calls Try.prog 26 #[v, .int .i64 m] w (RowDone (xs.take m) w) := by
  by_cases hl : xs.length ≤ m
  · have HC := hid (copy_any_o v xs w h (by omega))
    rw [List.take_of_length_le hl]
    obtain ⟨hb, ⟨rfl, rfl⟩ | ⟨a, cap, rfl, hlc, hcm, hcell⟩⟩ := h
    all_goals
      first | clear hcell hlc hcm hb | clear hb
      go_enter Try.func26, Try.ntmps26
      go_wp2_with fail
      with_reducible refine HC.out.mono ?_
      rintro e w1 ⟨v, rfl, h1⟩
      have H1 := hid h1
      clear h1
      go_wp2
      go_ret
      exact ⟨_, rfl, H1.out⟩
  · obtain ⟨hb, ⟨rfl, rfl⟩ | ⟨a, cap, rfl, hlc, hcm, hcell⟩⟩ := h
    · exact absurd (Nat.zero_le _) hl
    · have HC := hid (copy_any_o _ (xs.take m) w (reads_take ⟨hb, .inr ⟨a, cap, rfl, hlc, hcm, hcell⟩⟩ rfl m (by omega)) (by rw [List.length_take]; omega))
      have hl' : m < xs.length := by omega
      have hmc : m ≤ cap := by omega
      clear hcell hb hl hlc
      go_enter Try.func26, Try.ntmps26
      go_wp2_with fail
      with_reducible refine HC.out.mono ?_
      rintro e w1 ⟨v, rfl, h1⟩
      have H1 := hid h1
      clear h1
      go_wp2
      go_ret
      exact ⟨_, rfl, H1.out⟩
end Go.Proofs.Ytlhaefgchmakfaa
namespace Go.Proofs.Ytlhaefgchmakfaa
open Go.RowKit Go.Lib

section
variable {P : Program} (w : World)
end
end Go.Proofs.Ytlhaefgchmakfaa
namespace Go.Proofs.Ytlhaefgchmakfaa
open Go.RowKit Go.Lib


/-- Bytes of one's own are the result. -/
def OwnDone (xs : List Int) (w : World) (e : Ending) (w' : World) : Prop := ∃ v, e = .returned v ∧ OwnB w' v xs ∧ Below w.heap.size w w' ∧ ∀ k ∈ blkV v, w.heap.size ≤ k
theorem rcopy_own (v : Value) (xs : List Int) (w : World) (h : Reads w v xs) (hlen : xs.length ≤ 140737488355328) : Calls Try.prog 56 #[v] w (OwnDone xs w) :=
  (copy_any_o v xs w h hlen).mono fun _ _ ⟨v', he, hr, hb, ho, _⟩ => ⟨v', he, ⟨hr.1, ho.mono (Nat.zero_le _)⟩, hb, fun k hk => (ho.lt k (mem_blkV.1 hk)).1⟩
theorem rcut_own (v : Value) (m : Nat) (hm : m ≤ 1000000) (xs : List Int) (w : World) (h : Reads w v xs) : Calls Try.prog 26 #[v, .int .i64 m] w (OwnDone (xs.take m) w) :=
  (cut_any v m hm xs w h).mono fun _ _ ⟨v', he, hr, hb, ho, _⟩ => ⟨v', he, ⟨hr.1, ho.mono (Nat.zero_le _)⟩, hb, fun k hk => (ho.lt k (mem_blkV.1 hk)).1⟩
end Go.Proofs.Ytlhaefgchmakfaa
