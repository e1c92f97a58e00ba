/-
  Bytes in memory: read, copied, cut, cloned, held against one another.
  What is owned, block by block: footprints; appends that tell which block they end in.
  Bytes of one's own: what is known of them, and what leaves them whole.
  bytes.Clone and Flip, over bytes of one's own.
-/
import Derived.Test.YtdpgmepblmlaaaaDoorFa
import Derived.WalkKit
import Derived.LoopTactic
import Derived.Lib.Hide
import Derived.Below
import Derived.OwnWalk
import Derived.Laws.BytesArg
import Derived.Laws.AppendOwnNone
import Derived.Laws.OwnMore
import Derived.Deep.Onto
import Derived.Lib.LazyBuf
namespace Go.Proofs.YtdpgmepblmlaaaaDoor
open Go.RowKit Go.Lib

/-- Bytes of one's own are there. -/
def RowDone (xs : List Int) (w : World) (e : Ending) (w' : World) : Prop := ∃ v, e = .returned v ∧ Reads w' v xs ∧ Below w.heap.size w w' ∧ w'.ownsRow w.heap.size 5 1 v xs.length (xs.map (Value.int .u8)) ∧ v ≠ .slice none 0 0
theorem row_done {xs : List Int} {w w' : World} {v : Value} (hb : ∀ x ∈ xs, 0 ≤ x ∧ x < 256) (h : w'.ownsRow w.heap.size 5 1 v xs.length (xs.map (Value.int .u8))) (hn : v ≠ .slice none 0 0) (hw : Below w.heap.size w w') : RowDone xs w (.returned v) w' := by
  refine ⟨v, rfl, ⟨hb, ?_⟩, hw, h, hn⟩
  rcases h.2 with ⟨e, _⟩ | ⟨g, cap, cur, rfl, hg, hh, h1, h2, h3, h4⟩
  · exact absurd e hn
  · refine .inr ⟨⟨g, 0, none⟩, cap, rfl, h1, h2, fun i hi => ?_⟩
    rw [addr_add, Nat.zero_add, World.ownsRow.cellAt h i (by omega), List.getElem?_map, List.getD, List.getElem?_eq_getElem hi]
    rfl
set_option maxRecDepth 100000 in
theorem copy_any (v : Value) (xs : List Int) (w : World) (h : Reads w v xs) (hlen : xs.length ≤ 140737488355328) : Calls Tryd.prog 12 #[v] w (RowDone xs w) := by
  obtain ⟨hb, ⟨rfl, rfl⟩ | ⟨a, cap, rfl, hlc, hcm, hcell⟩⟩ := h
  · obtain ⟨i0, hi, hz0, hz1, hz2⟩ := info_parts info5
    have HB := hid hb
    clear hb
    go_enter Tryd.func12, Tryd.ntmps12
    go_wp2_with (first
      | (at_builtin; refine wpList_append_own_none rfl _ _ 22 rfl w.heap.size 5 i0 1 Tryd.underlying22 hi _ 0 [] rfl (World.ownsRow_lit _ #[] 0 (Nat.le_refl _) (Nat.zero_le _) rfl) rfl ?_))
    go_ret
    exact row_done HB.out (World.ownsRow_lit _ #[] 0 (Nat.le_refl _) (Nat.zero_le _) rfl) (by simp) ((Below.refl _ _).alloc (Nat.le_refl _) _)
  · obtain ⟨i0, hi, hz0, hz1, hz2⟩ := info_parts info5
    have HB := hid hb
    have HC : Hid (∀ j u, (xs.map (Value.int .u8))[j]? = some u → (w.alloc (.cells #[] 5)).cell? (a.add j) = some u) := fun j u hu => by
      rw [List.getElem?_map] at hu
      by_cases hj : j < xs.length
      · have hc := hcell j hj
        rw [List.getElem?_eq_getElem hj] at hu
        simp only [Option.map_some, Option.some.injEq] at hu
        rw [List.getD, List.getElem?_eq_getElem hj] at hc
        rw [← hu]
        exact (World.cell?_of_block (Below.heap_alloc _ _ _ (World.block_lt_of_cell? w _ hc))).trans hc
      · rw [List.getElem?_eq_none (by omega)] at hu
        simp at hu
    have HM : Hid (0 + xs.length ≤ maxLen) := by show _ ≤ _; omega
    have HL : Hid ((0 + xs.length) * 1 ≤ 140737488355328) := by show _ ≤ _; omega
    have HLL : Hid ((xs.map (Value.int .u8)).length = xs.length * 1) := by show _ = _; rw [List.length_map]; omega
    clear hcell hb hlc hcm hlen
    obtain ⟨L, hL⟩ : ∃ L, L = xs.length := ⟨_, rfl⟩
    rw [← hL] at HM HL HLL ⊢
    have HLE := hid hL
    clear hL
    go_enter Tryd.func12, Tryd.ntmps12
    go_wp2_with (first
      | (at_builtin; refine wpList_append_own _ rfl _ _ 22 rfl w.heap.size 5 i0 (.int .u8 0) 1 1 Tryd.underlying22 hi hz0 hz1 hz2 rfl (by decide) _ 0 [] rfl (World.ownsRow_lit _ #[] 0 (Nat.le_refl _) (Nat.zero_le _) rfl) a L cap (xs.map (Value.int .u8)) rfl HLL.out HC.out (ints_oneCell .u8 _) HM.out HL.out (by simp) ?_; intro v1 w1 hown1 hgrow1 hnil1; have HO := hid hown1; have HG := hid hgrow1; have HNL := hid hnil1; clear hown1 hgrow1 hnil1))
    go_ret
    refine row_done HB.out ?_ (fun hh => by have := (HNL.out.1 hh).1; cases this) (((Below.refl _ _).alloc (Nat.le_refl _) _).grown HG.out (by simp) (fun k hk => by have e : w.heap.size = k := Option.some.inj hk; omega))
    have := HO.out
    rw [Nat.zero_add, List.nil_append] at this
    rw [← HLE.out]
    exact this
set_option maxRecDepth 100000 in
theorem cut_any (v : Value) (m : Nat) (hm : m ≤ 1000000) (xs : List Int) (w : World) (h : Reads w v xs) : Calls Tryd.prog 11 #[v, .int .i64 m] w (RowDone (xs.take m) w) := by
  by_cases hl : xs.length ≤ m
  · have HC := hid (copy_any v xs w h (by omega))
    rw [List.take_of_length_le hl]
    obtain ⟨hb, ⟨rfl, rfl⟩ | ⟨a, cap, rfl, hlc, hcm, hcell⟩⟩ := h
    all_goals
      first | clear hcell hlc hcm hb | clear hb
      go_enter Tryd.func11, Tryd.ntmps11
      go_wp2_with fail
      with_reducible refine HC.out.mono ?_
      rintro e w1 ⟨v, rfl, h1⟩
      have H1 := hid h1
      clear h1
      go_wp2
      go_ret
      exact ⟨_, rfl, H1.out⟩
  · obtain ⟨hb, ⟨rfl, rfl⟩ | ⟨a, cap, rfl, hlc, hcm, hcell⟩⟩ := h
    · exact absurd (Nat.zero_le _) hl
    · have HC := hid (copy_any _ (xs.take m) w (reads_take ⟨hb, .inr ⟨a, cap, rfl, hlc, hcm, hcell⟩⟩ rfl m (by omega)) (by rw [List.length_take]; omega))
      have hl' : m < xs.length := by omega
      have hmc : m ≤ cap := by omega
      clear hcell hb hl hlc
      go_enter Tryd.func11, Tryd.ntmps11
      go_wp2_with fail
      with_reducible refine HC.out.mono ?_
      rintro e w1 ⟨v, rfl, h1⟩
      have H1 := hid h1
      clear h1
      go_wp2
      go_ret
      exact ⟨_, rfl, H1.out⟩
end Go.Proofs.YtdpgmepblmlaaaaDoor
namespace Go.Proofs.YtdpgmepblmlaaaaDoor
open Go.RowKit Go.Lib

end Go.Proofs.YtdpgmepblmlaaaaDoor
namespace Go.Proofs.YtdpgmepblmlaaaaDoor
open Go.RowKit Go.Lib


/-- Bytes of one's own are the result. -/
def OwnDone (xs : List Int) (w : World) (e : Ending) (w' : World) : Prop := ∃ v, e = .returned v ∧ OwnB w' v xs ∧ Below w.heap.size w w' ∧ ∀ k ∈ blkV v, w.heap.size ≤ k
theorem rcopy_own (v : Value) (xs : List Int) (w : World) (h : Reads w v xs) (hlen : xs.length ≤ 140737488355328) : Calls Tryd.prog 12 #[v] w (OwnDone xs w) :=
  (copy_any v xs w h hlen).mono fun _ _ ⟨v', he, hr, hb, ho, _⟩ => ⟨v', he, ⟨hr.1, ho.mono (Nat.zero_le _)⟩, hb, fun k hk => (ho.lt k (mem_blkV.1 hk)).1⟩
theorem rcut_own (v : Value) (m : Nat) (hm : m ≤ 1000000) (xs : List Int) (w : World) (h : Reads w v xs) : Calls Tryd.prog 11 #[v, .int .i64 m] w (OwnDone (xs.take m) w) :=
  (cut_any v m hm xs w h).mono fun _ _ ⟨v', he, hr, hb, ho, _⟩ => ⟨v', he, ⟨hr.1, ho.mono (Nat.zero_le _)⟩, hb, fun k hk => (ho.lt k (mem_blkV.1 hk)).1⟩
end Go.Proofs.YtdpgmepblmlaaaaDoor
namespace Go.Proofs.YtdpgmepblmlaaaaDoor
open Go.RowKit Go.Lib

/-- A copy is there. -/
def CloneDone (xs : List Int) (w : World) (e : Ending) (w' : World) : Prop := ∃ v, e = .returned v ∧ OwnB w' v xs ∧ Below w.heap.size w w' ∧ ∀ k ∈ blkV v, w.heap.size ≤ k
set_option maxRecDepth 100000 in
theorem clone_any (v : Value) (xs : List Int) (w : World) (h : Reads w v xs) (hlen : xs.length ≤ 140737488355328) : Calls Tryd.prog 68 #[v] w (CloneDone xs w) := by
  obtain ⟨hb, ⟨rfl, rfl⟩ | ⟨a, cap, rfl, hlc, hcm, hcell⟩⟩ := h
  · clear hb hlen
    have hnil := fun w' => run_eql_slice_nil (P := Tryd.prog) w' 22 5 none 0 0 Tryd.underlying22
    go_enter Tryd.func68, Tryd.ntmps68
    go_wp2
    go_ret
    exact ⟨_, rfl, OwnB.nil w, Below.refl _ _, fun k hk => by cases hk⟩
  · obtain ⟨i0, hi, hz0, hz1, hz2⟩ := info_parts info5
    have HB := hid hb
    have HC := hid (reads_src (reads_below ⟨hb, .inr ⟨a, cap, rfl, hlc, hcm, hcell⟩⟩ ((Below.refl w.heap.size w).alloc (Nat.le_refl _) (.cells #[] 5)))).2
    have HM : Hid (0 + xs.length ≤ maxLen) := by show _ ≤ _; omega
    have HL : Hid ((0 + xs.length) * 1 ≤ 140737488355328) := by show _ ≤ _; omega
    have HLL : Hid ((xs.map (Value.int .u8)).length = xs.length * 1) := by show _ = _; rw [List.length_map]; omega
    clear hcell hb hlc hcm hlen
    obtain ⟨L, hL⟩ : ∃ L, L = xs.length := ⟨_, rfl⟩
    rw [← hL] at HM HL HLL ⊢
    have HLE := hid hL
    clear hL
    have hnil := fun w' => run_eql_slice_nil (P := Tryd.prog) w' 22 5 (some a) L cap Tryd.underlying22
    go_enter Tryd.func68, Tryd.ntmps68
    go_wp2_with (first
      | (at_builtin; refine wpList_append_own _ rfl _ _ 22 rfl w.heap.size 5 i0 (.int .u8 0) 1 1 Tryd.underlying22 hi hz0 hz1 hz2 rfl (by decide) _ 0 [] rfl (World.ownsRow_lit _ #[] 0 (Nat.le_refl _) (Nat.zero_le _) rfl) a L cap (xs.map (Value.int .u8)) rfl HLL.out HC.out (ints_oneCell .u8 _) HM.out HL.out (by simp) ?_; intro v1 w1 hown1 hgrow1 hnil1; have HO := hid hown1; have HG := hid hgrow1; have HNL := hid hnil1; clear hown1 hgrow1 hnil1))
    go_ret
    refine ⟨_, rfl, ⟨HB.out, ?_⟩, ((Below.refl _ _).alloc (Nat.le_refl _) _).grown HG.out (by simp) (fun k hk => by have e : w.heap.size = k := Option.some.inj hk; omega), fun k hk => (HO.out.lt k (mem_blkV.1 hk)).1⟩
    have := HO.out
    rw [Nat.zero_add, List.nil_append] at this
    rw [← HLE.out]
    exact this.mono (Nat.zero_le _)
set_option maxRecDepth 100000 in
set_option maxHeartbeats 2000000 in
theorem flip_any (v : Value) (zs : List Int) (w : World) (h : w.ownsRow 0 5 1 v zs.length (zs.map (Value.int .u8))) (hl : zs.length ≤ 1000000) : Calls Tryd.prog 21 #[v] w fun e w' => e = .returned (.tuple #[]) ∧ Moved w w' (blkV v) (blkV v) := by
  obtain ⟨n, hn⟩ : ∃ n, n = zs.length := ⟨_, rfl⟩
  rw [← hn] at h hl
  rcases h.2 with ⟨rfl, e⟩ | ⟨g, cap, cur, rfl, hg, hh, h1, h2, h3, h4⟩
  · clear h hn
    subst e
    go_enter Tryd.func21, Tryd.ntmps21
    go_wp2
    go_loopw [5] (fun i w' => i = .int .i64 0 ∧ w' = w) (fun _ _ => 0)
    case atStart => exact ⟨rfl, rfl⟩
    case round =>
      obtain ⟨rfl, rfl⟩ := hrel
      go_wp2
      go_end0
      exact ⟨rfl, Moved.refl _ _⟩
  · have HO := hid (show ∃ ys : List Int, ys.length = n ∧ w.ownsRow 0 5 1 (.slice (some ⟨g, 0, none⟩) n cap) n (ys.map (Value.int .u8)) from ⟨zs, hn.symm, h⟩)
    clear h hn hg hh h1 h2 h3 h4
    go_enter Tryd.func21, Tryd.ntmps21
    go_wp2
    go_loopw [5] (fun i w' => ∃ k : Nat, k ≤ n ∧ i = .int .i64 k ∧ Hid (∃ ys : List Int, ys.length = n ∧ w'.ownsRow 0 5 1 (.slice (some ⟨g, 0, none⟩) n cap) n (ys.map (Value.int .u8))) ∧ Hid (Moved w w' (blkV (.slice (some ⟨g, 0, none⟩) n cap)) (blkV (.slice (some ⟨g, 0, none⟩) n cap)))) (fun i _ => n - (intOf i).toNat)
    case atStart => exact ⟨0, Nat.zero_le _, rfl, HO.out, Moved.refl _ _⟩
    case round =>
      obtain ⟨k, hk, rfl, HY, HM⟩ := hrel
      by_cases hlt : k < n
      · obtain ⟨ys, hyl, hy⟩ := HY.out
        have c0 : wr.cell? ⟨g, k, none⟩ = some (.int .u8 (ys.getD k 0)) := by
          rw [World.ownsRow.cellAt hy k (by omega), List.getElem?_map, List.getD, List.getElem?_eq_getElem (by omega)]
          rfl
        have f0 := World.ownsRow.frozenAt hy k
        have HS : Hid (∀ z : Int, (wr.setCell ⟨g, k, none⟩ (.int .u8 z)).ownsRow 0 5 1 (.slice (some ⟨g, 0, none⟩) n cap) n ((ys.set k z).map (Value.int .u8))) := fun z => by
          have q := (World.ownsRow.stored hy k (.int .u8 z)).1
          rw [List.map_set]
          exact q
        have HL := hid hyl
        have hki : (k : Int) < n := by omega
        clear hy hyl HY
        generalize ys.getD k 0 = y at c0
        go_wp2
        go_roundw
        case rel => exact ⟨k + 1, by omega, by go_num, ⟨ys.set k _, by rw [List.length_set]; exact HL.out, HS.out _⟩, HM.out.trans (Moved.set (by simp [blkV, Value.ownBlock]) _ _)⟩
        case measure => simp [intOf]; omega
      · go_wp2
        go_end0
        exact ⟨rfl, HM.out⟩
end Go.Proofs.YtdpgmepblmlaaaaDoor
