/-
  The reference's Copy and Cut of bytes: a row of one's own, of at most so many.
-/
import Derived.Test.YtadoiplfglaonaaDoorOfw
import Derived.OwnWalk
import Derived.Laws.AppendOwnNone
namespace Go.Proofs.YtadoiplfglaonaaDoor
open Go.RowKit Go.Lib Go.Shelf

theorem info5 : (Tryd.prog.info? 5).map (fun i => (i.zero, i.size, i.bytes)) = some (some (.int .u8 0), 1, 1) := by kernel_rfl
/-- Bytes that came in: none, or a row. -/
def InRow (w : World) (a : Option Addr) (len cap : Nat) (zs : List Int) : Prop :=
  len ≤ zs.length ∧ len ≤ cap ∧ cap ≤ maxLen ∧ ((a = none ∧ len = 0 ∧ cap = 0) ∨ ∃ x, a = some x ∧ ∀ i, i < len → w.cell? (x.add i) = some (.int .u8 (zs.getD i 0)))
/-- A row of one's own. -/
def OwnRow (B : Nat) (w : World) (v : Value) (zs : List Int) : Prop :=
  ∃ g cap, v = .slice (some ⟨g, 0, none⟩) zs.length cap ∧ B ≤ g ∧ g < w.heap.size ∧ ∀ i, i < zs.length → w.cell? ⟨g, i, none⟩ = some (.int .u8 (zs.getD i 0))
theorem ownRow_of {B : Nat} {w : World} {v : Value} {zs : List Int} (h : w.ownsRow B 5 1 v zs.length (zs.map (Value.int .u8))) (hn : v ≠ .slice none 0 0) : OwnRow B w v zs := by
  have hl := h.lt
  rcases h.2 with ⟨e, _⟩ | ⟨g, cap, cur, rfl, hg, hh, h1, h2, h3, h4⟩
  · exact absurd e hn
  · refine ⟨g, cap, rfl, hg, (hl g rfl).2, fun i hi => ?_⟩
    rw [World.ownsRow.cellAt h i (by omega), List.getElem?_map, List.getD, List.getElem?_eq_getElem hi]
    rfl
/-- A row of one's own is there. -/
def RowDone (zs : List Int) (w : World) (e : Ending) (w' : World) : Prop := ∃ v, e = .returned v ∧ OwnRow w.heap.size w' v zs ∧ Below w.heap.size w w'

set_option maxRecDepth 100000 in
theorem copy_any (a : Option Addr) (len cap : Nat) (zs : List Int) (w : World) (h : InRow w a len cap zs) (h300 : len ≤ 300) : Calls Tryd.prog 23 #[.slice a len cap] w (RowDone (zs.take len) w) := by
  obtain ⟨hz, hlc, hcm, ⟨rfl, rfl, rfl⟩ | ⟨x, rfl, hcell⟩⟩ := h
  · obtain ⟨i0, hi, hz0, hz1, hz2⟩ := info_parts info5
    go_enter Tryd.func23, Tryd.ntmps23
    go_wp2_with (first
      | (at_builtin; refine wpList_append_own_none rfl _ _ 34 rfl w.heap.size 5 i0 1 Tryd.underlying34 hi _ 0 [] rfl (World.ownsRow_lit _ #[] 0 (Nat.le_refl _) (Nat.zero_le _) rfl) rfl ?_))
    go_ret
    exact ⟨_, rfl, ownRow_of (World.ownsRow_lit _ #[] 0 (Nat.le_refl _) (Nat.zero_le _) rfl) (by simp), (Below.refl _ _).alloc (Nat.le_refl _) _⟩
  · obtain ⟨i0, hi, hz0, hz1, hz2⟩ := info_parts info5
    have hlen : (zs.take len).length = len := by simp; omega
    have HL := hid hlen
    have HC : Hid (∀ j u, ((zs.take len).map (Value.int .u8))[j]? = some u → (w.alloc (.cells #[] 5)).cell? (x.add j) = some u) := fun j u hu => by
      rw [List.getElem?_map, List.getElem?_take] at hu
      by_cases hj : j < len
      · have hc := hcell j hj
        rw [if_pos hj, List.getElem?_eq_getElem (by omega)] at hu
        simp only [Option.map_some, Option.some.injEq] at hu
        rw [List.getD, List.getElem?_eq_getElem (by omega)] at hc
        rw [← hu]
        refine (World.cell?_of_block (Below.heap_alloc _ _ _ (World.block_lt_of_cell? w _ hc))).trans hc
      · rw [if_neg hj] at hu
        simp at hu
    clear hcell hlen
    have HLL : Hid (((zs.take len).map (Value.int .u8)).length = len * 1) := by show _ = _; rw [List.length_map, HL.out]; omega
    have HM : Hid (0 + len ≤ maxLen) := by show _ ≤ _; omega
    clear hz hlc hcm
    go_enter Tryd.func23, Tryd.ntmps23
    go_wp2_with (first
      | (at_builtin; refine wpList_append_own _ rfl _ _ 34 rfl w.heap.size 5 i0 (.int .u8 0) 1 1 Tryd.underlying34 hi hz0 hz1 hz2 rfl (by decide) _ 0 [] rfl (World.ownsRow_lit _ #[] 0 (Nat.le_refl _) (Nat.zero_le _) rfl) x len cap ((zs.take len).map (Value.int .u8)) rfl HLL.out HC.out (ints_oneCell .u8 _) HM.out (by omega) (by simp) ?_; intro v1 w1 hown1 hgrow1 hnil1; have HO := hid hown1; have HG := hid hgrow1; have HNL := hid hnil1; clear hown1 hgrow1 hnil1))
    go_ret
    refine ⟨_, rfl, ownRow_of ?_ (fun hh => by have := (HNL.out.1 hh).1; cases this), ((Below.refl _ _).alloc (Nat.le_refl _) _).grown HG.out (by simp) (fun k hk => by have e : w.heap.size = k := Option.some.inj hk; omega)⟩
    have := HO.out
    rw [Nat.zero_add, List.nil_append] at this
    rw [HL.out]
    exact this

set_option maxRecDepth 100000 in
theorem cut_any (a : Option Addr) (len cap : Nat) (zs : List Int) (w : World) (h : InRow w a len cap zs) : Calls Tryd.prog 22 #[.slice a len cap, .int .i64 300] w (RowDone (zs.take (min len 300)) w) := by
  by_cases hl : len ≤ 300
  · have HC := hid (copy_any a len cap zs w h hl)
    rw [Nat.min_eq_left hl]
    clear h
    go_enter Tryd.func22, Tryd.ntmps22
    go_wp2_with fail
    with_reducible refine HC.out.mono ?_
    rintro e w1 ⟨v, rfl, h1, h2⟩
    have H1 := hid h1
    have H2 := hid h2
    clear h1 h2
    go_wp2
    go_ret
    exact ⟨_, rfl, H1.out, H2.out⟩
  · obtain ⟨hz, hlc, hcm, ⟨rfl, rfl, rfl⟩ | ⟨x, rfl, hcell⟩⟩ := h
    · omega
    · have hc : 300 ≤ cap := by omega
      have HC := hid (copy_any (some x) 300 cap zs w ⟨by omega, hc, hcm, .inr ⟨x, rfl, fun i hi => hcell i (by omega)⟩⟩ (Nat.le_refl _))
      rw [Nat.min_eq_right (by omega)]
      have hl' : 300 < len := by omega
      clear hcell hz
      go_enter Tryd.func22, Tryd.ntmps22
      go_wp2_with fail
      with_reducible refine HC.out.mono ?_
      rintro e w1 ⟨v, rfl, h1, h2⟩
      have H1 := hid h1
      have H2 := hid h2
      clear h1 h2
      go_wp2
      go_ret
      exact ⟨_, rfl, H1.out, H2.out⟩
end Go.Proofs.YtadoiplfglaonaaDoor
