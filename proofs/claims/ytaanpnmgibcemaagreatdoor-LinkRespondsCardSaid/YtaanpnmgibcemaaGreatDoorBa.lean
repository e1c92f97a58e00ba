/-
  Bytes: read, copied, cut, cloned, owned.
-/
import Derived.Test.YtaanpnmgibcemaaGreatDoorProg
import Derived.WalkKit
import Derived.LoopTactic
import Derived.Lib.Hide
import Derived.Below
import Derived.OwnWalk
import Derived.Laws.BytesArg
import Derived.Laws.AppendOwnNone
import Derived.Laws.OwnMore
import Derived.Deep.Onto
import Derived.Lib.LazyBuf
namespace Go.Proofs.YtaanpnmgibcemaaGreatDoor
/-! XBa -/
section
open Go.RowKit Go.Lib
/-- A slice of bytes that reads as a list: none, or a row. -/
def Reads (w : World) (v : Value) (xs : List Int) : Prop :=
  (∀ x ∈ xs, 0 ≤ x ∧ x < 256) ∧ ((v = .slice none 0 0 ∧ xs = []) ∨ ∃ a cap, v = .slice (some a) xs.length cap ∧ xs.length ≤ cap ∧ cap ≤ maxLen ∧ ∀ i, i < xs.length → w.cell? (a.add i) = some (.int .u8 (xs.getD i 0)))
theorem reads_nil (w : World) : Reads w (.slice none 0 0) [] := ⟨fun _ h => (by cases h), .inl ⟨rfl, rfl⟩⟩
theorem addr_add (g off j : Nat) : (⟨g, off, none⟩ : Addr).add j = ⟨g, off + j, none⟩ := by unfold Addr.add; split <;> simp_all
theorem reads_conv {w : World} {v : Value} {xs : List Int} (h : Reads w v xs) : (convert 22 9 v).run Tryz.prog w = .ok (.string (strOfNums xs)) w := by
  rcases h.2 with ⟨rfl, rfl⟩ | ⟨a, cap, rfl, h1, h2, h3⟩
  · exact run_convert_bytes_nil w 22 5 Tryz.underlying22 Tryz.underlying5 0 0 9 Tryz.underlying9
  · have hl : (loadCells a xs.length).run Tryz.prog w = .ok (xs.map (Value.int .u8)).toArray w := by
      have := run_loadCells_list (P := Tryz.prog) w a (xs.map (Value.int .u8)) (fun j v hj => by
        rw [List.getElem?_map] at hj
        by_cases hjl : j < xs.length
        · rw [List.getElem?_eq_getElem hjl] at hj
          simp only [Option.map_some, Option.some.injEq] at hj
          rw [h3 j hjl, List.getD, List.getElem?_eq_getElem hjl, ← hj]
          rfl
        · rw [List.getElem?_eq_none (by omega)] at hj
          simp at hj)
      simpa using this
    rw [run_convert_bytes_string w 22 9 5 _ _ cap Tryz.underlying22 Tryz.underlying5 Tryz.underlying9, run_bytesToString w _ _ cap xs hl, foldl_push_bytes]
    simp [strOfNums, ByteArray.empty, ByteArray.emptyWithCapacity]
    rfl
theorem reads_below {w w' : World} {v : Value} {xs : List Int} (h : Reads w v xs) (hb : Below w.heap.size w w') : Reads w' v xs := by
  refine ⟨h.1, ?_⟩
  rcases h.2 with h1 | ⟨a, cap, rfl, h1, h2, h3⟩
  · exact .inl h1
  · refine .inr ⟨a, cap, rfl, h1, h2, fun i hi => ?_⟩
    have hc := h3 i hi
    exact (hb.cell (World.block_lt_of_cell? w _ hc)).trans hc
set_option maxRecDepth 100000 in
theorem same_true (v u : Value) (xs : List Int) (w : World) (hv : Reads w v xs) (hu : Reads w u xs) : Calls Tryz.prog 13 #[v, u] w fun e w' => e = .returned (.bool true) ∧ w = w' := by
  have e1 := reads_conv hv
  have e2 := reads_conv hu
  generalize strOfNums xs = S at e1 e2
  clear hv hu
  go_enter Tryz.func13, Tryz.ntmps13
  go_wp2
  go_ret
  exact ⟨rfl, rfl⟩
theorem info5 : (Tryz.prog.info? 5).map (fun i => (i.zero, i.size, i.bytes)) = some (some (.int .u8 0), 1, 1) := by kernel_rfl
/-- Bytes of one's own are there. -/
def RowDone (xs : List Int) (w : World) (e : Ending) (w' : World) : Prop := ∃ v, e = .returned v ∧ Reads w' v xs ∧ Below w.heap.size w w' ∧ w'.ownsRow w.heap.size 5 1 v xs.length (xs.map (Value.int .u8)) ∧ v ≠ .slice none 0 0
theorem row_done {xs : List Int} {w w' : World} {v : Value} (hb : ∀ x ∈ xs, 0 ≤ x ∧ x < 256) (h : w'.ownsRow w.heap.size 5 1 v xs.length (xs.map (Value.int .u8))) (hn : v ≠ .slice none 0 0) (hw : Below w.heap.size w w') : RowDone xs w (.returned v) w' := by
  refine ⟨v, rfl, ⟨hb, ?_⟩, hw, h, hn⟩
  rcases h.2 with ⟨e, _⟩ | ⟨g, cap, cur, rfl, hg, hh, h1, h2, h3, h4⟩
  · exact absurd e hn
  · refine .inr ⟨⟨g, 0, none⟩, cap, rfl, h1, h2, fun i hi => ?_⟩
    rw [addr_add, Nat.zero_add, World.ownsRow.cellAt h i (by omega), List.getElem?_map, List.getD, List.getElem?_eq_getElem hi]
    rfl
set_option maxRecDepth 100000 in
theorem copy_any (v : Value) (xs : List Int) (w : World) (h : Reads w v xs) (hlen : xs.length ≤ 140737488355328) : Calls Tryz.prog 30 #[v] w (RowDone xs w) := by
  obtain ⟨hb, ⟨rfl, rfl⟩ | ⟨a, cap, rfl, hlc, hcm, hcell⟩⟩ := h
  · obtain ⟨i0, hi, hz0, hz1, hz2⟩ := info_parts info5
    have HB := hid hb
    clear hb
    go_enter Tryz.func30, Tryz.ntmps30
    go_wp2_with (first
      | (at_builtin; refine wpList_append_own_none rfl _ _ 22 rfl w.heap.size 5 i0 1 Tryz.underlying22 hi _ 0 [] rfl (World.ownsRow_lit _ #[] 0 (Nat.le_refl _) (Nat.zero_le _) rfl) rfl ?_))
    go_ret
    exact row_done HB.out (World.ownsRow_lit _ #[] 0 (Nat.le_refl _) (Nat.zero_le _) rfl) (by simp) ((Below.refl _ _).alloc (Nat.le_refl _) _)
  · obtain ⟨i0, hi, hz0, hz1, hz2⟩ := info_parts info5
    have HB := hid hb
    have HC : Hid (∀ j u, (xs.map (Value.int .u8))[j]? = some u → (w.alloc (.cells #[] 5)).cell? (a.add j) = some u) := fun j u hu => by
      rw [List.getElem?_map] at hu
      by_cases hj : j < xs.length
      · have hc := hcell j hj
        rw [List.getElem?_eq_getElem hj] at hu
        simp only [Option.map_some, Option.some.injEq] at hu
        rw [List.getD, List.getElem?_eq_getElem hj] at hc
        rw [← hu]
        exact (World.cell?_of_block (Below.heap_alloc _ _ _ (World.block_lt_of_cell? w _ hc))).trans hc
      · rw [List.getElem?_eq_none (by omega)] at hu
        simp at hu
    have HM : Hid (0 + xs.length ≤ maxLen) := by show _ ≤ _; omega
    have HL : Hid ((0 + xs.length) * 1 ≤ 140737488355328) := by show _ ≤ _; omega
    have HLL : Hid ((xs.map (Value.int .u8)).length = xs.length * 1) := by show _ = _; rw [List.length_map]; omega
    clear hcell hb hlc hcm hlen
    obtain ⟨L, hL⟩ : ∃ L, L = xs.length := ⟨_, rfl⟩
    rw [← hL] at HM HL HLL ⊢
    have HLE := hid hL
    clear hL
    go_enter Tryz.func30, Tryz.ntmps30
    go_wp2_with (first
      | (at_builtin; refine wpList_append_own _ rfl _ _ 22 rfl w.heap.size 5 i0 (.int .u8 0) 1 1 Tryz.underlying22 hi hz0 hz1 hz2 rfl (by decide) _ 0 [] rfl (World.ownsRow_lit _ #[] 0 (Nat.le_refl _) (Nat.zero_le _) rfl) a L cap (xs.map (Value.int .u8)) rfl HLL.out HC.out (ints_oneCell .u8 _) HM.out HL.out (by simp) ?_; intro v1 w1 hown1 hgrow1 hnil1; have HO := hid hown1; have HG := hid hgrow1; have HNL := hid hnil1; clear hown1 hgrow1 hnil1))
    go_ret
    refine row_done HB.out ?_ (fun hh => by have := (HNL.out.1 hh).1; cases this) (((Below.refl _ _).alloc (Nat.le_refl _) _).grown HG.out (by simp) (fun k hk => by have e : w.heap.size = k := Option.some.inj hk; omega))
    have := HO.out
    rw [Nat.zero_add, List.nil_append] at this
    rw [← HLE.out]
    exact this
theorem reads_take {w : World} {a : Addr} {len cap : Nat} {xs : List Int} (h : Reads w (.slice (some a) len cap) xs) (hl : xs.length = len) (k : Nat) (hk : k ≤ len) : Reads w (.slice (some a) k cap) (xs.take k) := by
  refine ⟨fun x hx => h.1 x (List.mem_of_mem_take hx), ?_⟩
  rcases h.2 with ⟨e, _⟩ | ⟨a', cap', e, h1, h2, h3⟩
  · cases e
  · cases e
    have hlen : (xs.take k).length = k := by rw [List.length_take]; omega
    refine .inr ⟨a, cap, by rw [hlen], by omega, h2, fun i hi => ?_⟩
    rw [hlen] at hi
    rw [h3 i (by omega), List.getD, List.getD, List.getElem?_take, if_pos hi]
set_option maxRecDepth 100000 in
theorem cut_any (v : Value) (m : Nat) (hm : m ≤ 1000000) (xs : List Int) (w : World) (h : Reads w v xs) : Calls Tryz.prog 9 #[v, .int .i64 m] w (RowDone (xs.take m) w) := by
  by_cases hl : xs.length ≤ m
  · have HC := hid (copy_any v xs w h (by omega))
    rw [List.take_of_length_le hl]
    obtain ⟨hb, ⟨rfl, rfl⟩ | ⟨a, cap, rfl, hlc, hcm, hcell⟩⟩ := h
    all_goals
      first | clear hcell hlc hcm hb | clear hb
      go_enter Tryz.func9, Tryz.ntmps9
      go_wp2_with fail
      with_reducible refine HC.out.mono ?_
      rintro e w1 ⟨v, rfl, h1⟩
      have H1 := hid h1
      clear h1
      go_wp2
      go_ret
      exact ⟨_, rfl, H1.out⟩
  · obtain ⟨hb, ⟨rfl, rfl⟩ | ⟨a, cap, rfl, hlc, hcm, hcell⟩⟩ := h
    · exact absurd (Nat.zero_le _) hl
    · have HC := hid (copy_any _ (xs.take m) w (reads_take ⟨hb, .inr ⟨a, cap, rfl, hlc, hcm, hcell⟩⟩ rfl m (by omega)) (by rw [List.length_take]; omega))
      have hl' : m < xs.length := by omega
      have hmc : m ≤ cap := by omega
      clear hcell hb hl hlc
      go_enter Tryz.func9, Tryz.ntmps9
      go_wp2_with fail
      with_reducible refine HC.out.mono ?_
      rintro e w1 ⟨v, rfl, h1⟩
      have H1 := hid h1
      clear h1
      go_wp2
      go_ret
      exact ⟨_, rfl, H1.out⟩
theorem reads_of_row (w : World) (y : Addr) (len cap : Nat) (zs : List Int) (hl : len ≤ cap) (hm : cap ≤ maxLen) (hz : zs.length = cap) (hcell : ∀ i, i < zs.length → w.cell? (y.add i) = some (.int .u8 (zs.getD i 0))) (hb : ∀ n ∈ zs, 0 ≤ n ∧ n < 256) : Reads w (.slice (some y) len cap) (zs.take len) := by
  have hlen : (zs.take len).length = len := by rw [List.length_take]; omega
  refine ⟨fun x hx => hb x (List.mem_of_mem_take hx), .inr ⟨y, cap, by rw [hlen], by omega, hm, fun i hi => ?_⟩⟩
  rw [hlen] at hi
  rw [hcell i (by omega), List.getD, List.getD, List.getElem?_take, if_pos hi]
end
/-! XBb -/
section
open Go.RowKit Go.Lib
/-- A slice's block. -/
def blkV (v : Value) : List Nat := v.ownBlock.toList
theorem blkV_nil : blkV (.slice none 0 0) = [] := rfl
theorem mem_blkV {v : Value} {k : Nat} : k ∈ blkV v ↔ v.ownBlock = some k := by simp [blkV]
/-- Only blocks of S have changed, or are new; what is then owned was, or is new. -/
structure Moved (w w' : World) (S S' : List Nat) : Prop where
  os : w'.os = w.os
  tape : w'.tape = w.tape
  output : w'.output = w.output
  size : w.heap.size ≤ w'.heap.size
  block : ∀ k, k < w.heap.size → k ∉ S → w'.heap[k]? = w.heap[k]?
  from' : ∀ k, k ∈ S' → k ∈ S ∨ w.heap.size ≤ k
theorem Moved.refl (w : World) (S : List Nat) : Moved w w S S := ⟨rfl, rfl, rfl, Nat.le_refl _, fun _ _ _ => rfl, fun _ h => .inl h⟩
theorem Moved.trans {a b c : World} {S T U : List Nat} (h : Moved a b S T) (k : Moved b c T U) : Moved a c S U :=
  ⟨k.os.trans h.os, k.tape.trans h.tape, k.output.trans h.output, Nat.le_trans h.size k.size,
    fun i hi hs => (k.block i (Nat.lt_of_lt_of_le hi h.size) (fun ht => by rcases h.from' i ht with q | q; exact hs q; omega)).trans (h.block i hi hs),
    fun i hi => by
      rcases k.from' i hi with q | q
      · exact h.from' i q
      · exact .inr (Nat.le_trans h.size q)⟩
theorem Moved.below {a b : World} (h : Below a.heap.size a b) (S : List Nat) : Moved a b S S := ⟨h.os, h.tape, h.output, h.size, fun k hk _ => h.block k hk, fun _ h => .inl h⟩
theorem Moved.alloc (a : World) (o : Obj) (S : List Nat) : Moved a (a.alloc o) S S := Moved.below ((Below.refl _ _).alloc (Nat.le_refl _) o) S
theorem Moved.set {a : World} {S : List Nat} {g : Nat} (hg : g ∈ S) (i : Nat) (u : Value) : Moved a (a.setCell ⟨g, i, none⟩ u) S S :=
  ⟨rfl, rfl, rfl, by simp [World.setCell], fun k _ hk => Go.heap_setCell_other a _ k u (fun e => hk (by rw [show k = g from e]; exact hg)), fun _ h => .inl h⟩
theorem Moved.grown {a b : World} {row : Option Nat} (h : a.grownBy b row) {S S' : List Nat} (hr : ∀ k, row = some k → k ∈ S) (hS : ∀ k, k ∈ S' → k ∈ S ∨ a.heap.size ≤ k) : Moved a b S S' :=
  ⟨h.os, h.tape, h.output, h.size, fun k hk hs => h.block k hk (fun e => hs (hr k e.symm)), hS⟩
theorem Moved.sub {a b : World} {S S' T T' : List Nat} (h : Moved a b S S') (h1 : ∀ k ∈ S, k ∈ T) (h2 : ∀ k ∈ T', k ∈ S' ∨ k ∈ T) : Moved a b T T' :=
  ⟨h.os, h.tape, h.output, h.size, fun k hk hs => h.block k hk (fun q => hs (h1 k q)), fun k hk => by
    rcases h2 k hk with q | q
    · rcases h.from' k q with r | r
      · exact .inl (h1 k r)
      · exact .inr r
    · exact .inl q⟩
theorem Moved.toBelow {a b : World} {S S' : List Nat} (h : Moved a b S S') {B : Nat} (hB : B ≤ a.heap.size) (hS : ∀ k ∈ S, B ≤ k) : Below B a b :=
  ⟨h.os, h.tape, h.output, h.size, fun k hk => h.block k (Nat.lt_of_lt_of_le hk hB) (fun q => by have := hS k q; omega)⟩
/-- A row that is no part of it stays. -/
theorem own_moved {w w' : World} {B : Nat} {t : TypeId} {sz n : Nat} {v : Value} {cs : List Value} {S S' : List Nat} (h : w.ownsRow B t sz v n cs) (m : Moved w w' S S') (hk : ∀ k ∈ blkV v, k ∉ S) : w'.ownsRow B t sz v n cs := by
  refine ⟨h.1, ?_⟩
  rcases h.2 with hn | ⟨g, cap, cur, rfl, hb, hgg, rest⟩
  · exact .inl hn
  · refine .inr ⟨g, cap, cur, rfl, hb, ?_, rest⟩
    rw [m.block g (Array.getElem?_eq_some_iff.1 hgg).1 (hk g (by simp [blkV, Value.ownBlock]))]
    exact hgg
theorem own_lt {w : World} {B : Nat} {t : TypeId} {sz n : Nat} {v : Value} {cs : List Value} (h : w.ownsRow B t sz v n cs) : ∀ k ∈ blkV v, k < w.heap.size := fun k hk => (h.lt k (mem_blkV.1 hk)).2
theorem reads_moved {w w' : World} {v : Value} {xs : List Int} {S S' : List Nat} (h : Reads w v xs) (m : Moved w w' S S') (hk : ∀ k ∈ blkV v, k ∉ S) : Reads w' v xs := by
  refine ⟨h.1, ?_⟩
  rcases h.2 with h1 | ⟨a, cap, rfl, h1, h2, h3⟩
  · exact .inl h1
  · refine .inr ⟨a, cap, rfl, h1, h2, fun i hi => ?_⟩
    have hc := h3 i hi
    have hb := World.block_lt_of_cell? w _ hc
    have e : (a.add i).block = a.block := by unfold Addr.add; split <;> rfl
    exact (World.cell?_of_block (m.block _ hb (by rw [e]; exact hk _ (by simp [blkV, Value.ownBlock])))).trans hc
/-- Bytes of one's own. -/
def OwnB (w : World) (v : Value) (xs : List Int) : Prop := (∀ x ∈ xs, 0 ≤ x ∧ x < 256) ∧ w.ownsRow 0 5 1 v xs.length (xs.map (Value.int .u8))
theorem OwnB.nil (w : World) : OwnB w (.slice none 0 0) [] := ⟨fun _ h => (by cases h), World.ownsRow_nil _ _ _ _⟩
theorem OwnB.reads {w : World} {v : Value} {xs : List Int} (h : OwnB w v xs) : Reads w v xs := by
  refine ⟨h.1, ?_⟩
  rcases h.2.2 with ⟨rfl, e⟩ | ⟨g, cap, cur, rfl, hg, hh, h1, h2, h3, h4⟩
  · exact .inl ⟨rfl, List.length_eq_zero_iff.1 e⟩
  · refine .inr ⟨⟨g, 0, none⟩, cap, rfl, h1, h2, fun i hi => ?_⟩
    rw [addr_add, Nat.zero_add, World.ownsRow.cellAt h.2 i (by omega), List.getElem?_map, List.getD, List.getElem?_eq_getElem hi]
    rfl
theorem OwnB.moved {w w' : World} {v : Value} {xs : List Int} {S S' : List Nat} (h : OwnB w v xs) (m : Moved w w' S S') (hk : ∀ k ∈ blkV v, k ∉ S) : OwnB w' v xs := ⟨h.1, own_moved h.2 m hk⟩
section
variable {P : Program} (w : World)
/-- An append onto what is owned, and the block that it ends in. -/
theorem run_append_blk (t ty e : TypeId) (i : TypeInfo) (z : Value) (size bytes : Nat) (ht : P.underlying t = some (.slice e)) (hi : P.info? e = some i) (hz : i.zero = some z)
    (hsize : i.size = size) (hby : i.bytes = bytes) (hzs : z.cells.size = size) (hsz : 0 < size)
    (v : Value) (n : Nat) (xs : List Value) (hown : w.ownsRow 0 e size v n xs)
    (a : Addr) (m c : Nat) (news : List Value) (hl : news.length = m * size) (hnews : ∀ j u, news[j]? = some u → w.cell? (a.add j) = some u) (h1 : ∀ u ∈ news, u.oneCell' = true)
    (h63 : n + m ≤ maxLen) (hbytes : (n + m) * bytes ≤ 140737488355328) :
    ∃ v' w', (Builtin.append_ #[t, t] ty #[v, .slice (some a) m c]).run P w = .ok v' w' ∧ w'.ownsRow 0 e size v' (n + m) (xs ++ news) ∧ w.grownBy w' v.ownBlock ∧
      (v' = .slice none 0 0 ↔ v = .slice none 0 0 ∧ m = 0) ∧ ∀ k ∈ blkV v', k ∈ blkV v ∨ w.heap.size ≤ k := by
  obtain ⟨v', w', hr, h2, h3, h4⟩ := run_append_own (P := P) w 0 t ty e i z size bytes ht hi hz hsize hby hzs hsz v n xs hown a m c news hl hnews h1 h63 hbytes (Nat.zero_le _)
  refine ⟨v', w', hr, h2, h3, h4, ?_⟩
  rcases hown.2 with ⟨rfl, rfl⟩ | ⟨g, cap, cur, rfl, hbg, hg, hnc, hcm, hcs, htake⟩
  · have hx : xs = [] := List.eq_nil_of_length_eq_zero (by simpa using hown.1)
    subst hx
    obtain ⟨v'', w'', hr', h2', -, -⟩ := run_append_own (P := P) w w.heap.size t ty e i z size bytes ht hi hz hsize hby hzs hsz (.slice none 0 0) 0 [] (World.ownsRow_nil _ _ _ _) a m c news hl hnews h1 h63 hbytes (Nat.le_refl _)
    rw [hr] at hr'
    injection hr' with e1 e2
    subst e1 e2
    exact fun k hk => .inr (h2'.lt k (mem_blkV.1 hk)).1
  · subst hsize
    subst hby
    by_cases hroom : n + m ≤ cap
    · have hfit : n * i.size + news.length ≤ cur.size := by rw [hl, hcs, ← Nat.add_mul]; exact Nat.mul_le_mul_right _ hroom
      have hr' := run_append_room (P := P) w t ty e i ht hi g n cap cur hg a m c news hl hnews h1 hroom hfit
      rw [hr] at hr'
      injection hr' with e1 e2
      subst e1
      intro k hk
      exact .inl hk
    · have hsmall : n + m ≤ 9223372036854775807 := by simp only [maxLen] at h63; omega
      have holds : ∀ j u, xs[j]? = some u → w.cell? ((⟨g, 0, none⟩ : Addr).add j) = some u := hown.cells (g := g) rfl
      have hr' := run_append_grow (P := P) w t ty e i z ht hi hz ⟨g, 0, none⟩ n cap xs hown.1 holds a m c news hl hnews (by omega) (by omega) (growslice_fits (by omega) hbytes)
      rw [hr] at hr'
      injection hr' with e1 e2
      subst e1
      intro k hk
      rw [mem_blkV] at hk
      right
      have : w.heap.size = k := by simpa [Value.ownBlock] using hk
      omega
theorem wpList_append_blk {ops : Array Oper} {rest : List Oper} {o : Oper} {a : Act} {Q : Exit → Act → World → Prop} (hgd : o.guard = none) (s x : Operand) (t : TypeId)
    (ho : o.op = .call { callee := .builtin .append, args := #[s, x], argTypes := #[t, t] })
    (e : TypeId) (i : TypeInfo) (z : Value) (size bytes : Nat) (ht : P.underlying t = some (.slice e)) (hi : P.info? e = some i) (hz : i.zero = some z)
    (hsize : i.size = size) (hby : i.bytes = bytes) (hzs : z.cells.size = size) (hsz : 0 < size)
    (v : Value) (n : Nat) (xs : List Value) (hs : a.eval s = v) (hown : w.ownsRow 0 e size v n xs)
    (ad : Addr) (m c : Nat) (news : List Value) (hx : a.eval x = .slice (some ad) m c) (hl : news.length = m * size) (hnews : ∀ j u, news[j]? = some u → w.cell? (ad.add j) = some u) (h1 : ∀ u ∈ news, u.oneCell' = true)
    (h63 : n + m ≤ maxLen) (hbytes : (n + m) * bytes ≤ 140737488355328)
    (h : ∀ v' w', w'.ownsRow 0 e size v' (n + m) (xs ++ news) → w.grownBy w' v.ownBlock → (v' = .slice none 0 0 ↔ v = .slice none 0 0 ∧ m = 0) → (∀ k ∈ blkV v', k ∈ blkV v ∨ w.heap.size ≤ k) → wpList P ops Q rest (a.put o.dst v') w') : wpList P ops Q (o :: rest) a w := by
  refine wpList_plain hgd fun K hK => ?_
  obtain ⟨v', w', hr, h2, h3, h4, h5⟩ := run_append_blk (P := P) w t o.type e i z size bytes ht hi hz hsize hby hzs hsz v n xs hown ad m c news hl hnews h1 h63 hbytes
  unfold Oper.wp execOp
  simp only [ho, resolve, invoke, builtin, Sem.run_bind, Sem.run_pure, Result.andThen_ok, List.map_toArray, List.map_cons, List.map_nil, hs, hx, hr]
  exact hK _ _ (h v' w' h2 h3 h4 h5)
end
end
/-! XBd -/
section
open Go.RowKit Go.Lib
/-- Bytes that came in, as a source. -/
theorem reads_src {w : World} {a : Addr} {n cap : Nat} {xs : List Int} (h : Reads w (.slice (some a) n cap) xs) : n = xs.length ∧ ∀ j u, (xs.map (Value.int .u8))[j]? = some u → w.cell? (a.add j) = some u := by
  rcases h.2 with ⟨e, _⟩ | ⟨a', cap', e, h1, h2, h3⟩
  · cases e
  · cases e
    refine ⟨rfl, fun j u hu => ?_⟩
    rw [List.getElem?_map] at hu
    by_cases hj : j < xs.length
    · have hc := h3 j hj
      rw [List.getElem?_eq_getElem hj] at hu
      simp only [Option.map_some, Option.some.injEq] at hu
      rw [List.getD, List.getElem?_eq_getElem hj] at hc
      rw [← hu]
      exact hc
    · rw [List.getElem?_eq_none (by omega)] at hu
      simp at hu
theorem below_t {a b c : World} (h : Below a.heap.size a b) (k : Below b.heap.size b c) : Below a.heap.size a c := h.trans (k.mono h.size)
theorem keepc {w1 w2 : World} {a : Addr} {v : Value} (hb : Below w1.heap.size w1 w2) (h : w1.cell? a = some v) : w2.cell? a = some v := (hb.cell (World.block_lt_of_cell? w1 _ h)).trans h
theorem bal {a b : World} (h : Below a.heap.size a b) (o : Obj) : Below a.heap.size a (b.alloc o) := h.alloc h.size _
/-- What a call left whole stays. -/
theorem OwnB.step {w w' : World} {v : Value} {xs : List Int} (h : OwnB w v xs) (hb : Below w.heap.size w w') : OwnB w' v xs := h.moved (Moved.below hb []) (fun _ _ q => by cases q)
/-- A row that was just laid. -/
theorem own_lit (w : World) (cs : Array Value) (n : Nat) (xs : List Int) (hb : ∀ x ∈ xs, 0 ≤ x ∧ x < 256) (hc : cs.toList = xs.map (Value.int .u8)) (hn : n = xs.length) (hl : n ≤ 1000) (b : Nat) (hbk : b = w.heap.size) : OwnB (w.alloc (.cells cs 5)) (.slice (some ⟨b, 0, none⟩) n n) xs := by
  subst hbk
  refine ⟨hb, ?_⟩
  have hs : cs.size = n * 1 := by rw [← Array.length_toList, hc, List.length_map]; omega
  have := World.ownsRow_lit (e := 5) (size := 1) (base := 0) w cs n (Nat.zero_le _) (by unfold maxLen; omega) hs
  rw [hc] at this
  rw [← hn]
  exact this
theorem blk_lit (w : World) (b : Nat) (n c : Nat) (h : w.heap.size ≤ b) : ∀ k ∈ blkV (.slice (some ⟨b, 0, none⟩) n c), w.heap.size ≤ k := fun k hk => by
  have : b = k := by simpa [mem_blkV, Value.ownBlock] using hk
  omega
theorem one_src (w : World) (z : Int) (b : Nat) (hb : b = w.heap.size) : ∀ j u, ([.int .u8 z] : List Value)[j]? = some u → (w.alloc (.cells #[.int .u8 z] 5)).cell? ((⟨b, 0, none⟩ : Addr).add j) = some u := fun j u hu => by
  subst hb
  rcases j with _ | j
  · simp at hu
    subst hu
    rw [addr_add]
    simp [go_sem]
  · simp at hu
theorem OwnB.at {w : World} {g cap : Nat} {xs : List Int} (h : OwnB w (.slice (some ⟨g, 0, none⟩) xs.length cap) xs) (i : Nat) (hi : i < xs.length) : w.cell? ⟨g, i, none⟩ = some (.int .u8 (xs.getD i 0)) := by
  rw [World.ownsRow.cellAt h.2 i (by omega), List.getElem?_map, List.getD, List.getElem?_eq_getElem hi]
  rfl
theorem OwnB.slice {w : World} {v : Value} {xs : List Int} (h : OwnB w v xs) (hx : xs ≠ []) : ∃ g cap, v = .slice (some ⟨g, 0, none⟩) xs.length cap ∧ xs.length ≤ cap ∧ cap ≤ maxLen ∧ g < w.heap.size := by
  rcases h.2.2 with ⟨_, e⟩ | ⟨g, cap, cur, rfl, hg, hh, h1, h2, h3, h4⟩
  · exact absurd (List.length_eq_zero_iff.1 e) hx
  · exact ⟨g, cap, rfl, h1, h2, (Array.getElem?_eq_some_iff.1 hh).1⟩
theorem OwnB.stored {w : World} {g cap : Nat} {xs : List Int} (h : OwnB w (.slice (some ⟨g, 0, none⟩) xs.length cap) xs) (i : Nat) (z : Int) (hz : 0 ≤ z ∧ z < 256) : OwnB (w.setCell ⟨g, i, none⟩ (.int .u8 z)) (.slice (some ⟨g, 0, none⟩) xs.length cap) (xs.set i z) := by
  refine ⟨fun x hx => ?_, ?_⟩
  · rcases List.mem_or_eq_of_mem_set hx with h1 | rfl
    · exact h.1 x h1
    · exact hz
  · have q := (World.ownsRow.stored h.2 i (.int .u8 z)).1
    rw [List.map_set, List.length_set]
    exact q
theorem own_slice {w : World} {v : Value} {xs : List Int} (h : OwnB w v xs) : ∃ x n c, v = .slice x n c := by
  rcases h.2.2 with ⟨rfl, _⟩ | ⟨g, cap, cur, rfl, _⟩
  · exact ⟨_, _, _, rfl⟩
  · exact ⟨_, _, _, rfl⟩
theorem own_empty {w : World} {v : Value} (h : OwnB w v []) : ∃ x c, v = .slice x 0 c := by
  rcases h.2.2 with ⟨rfl, _⟩ | ⟨g, cap, cur, rfl, _⟩
  · exact ⟨_, _, rfl⟩
  · exact ⟨_, _, rfl⟩
theorem own_len {w : World} {v : Value} {xs : List Int} (h : OwnB w v xs) (n : Nat) (hn : xs.length = n) : ∃ x c, v = .slice x n c := by
  rcases h.2.2 with ⟨rfl, e⟩ | ⟨g, cap, cur, rfl, _⟩
  · exact ⟨none, 0, by rw [← hn, e]⟩
  · exact ⟨_, _, by rw [← hn]⟩
theorem cell_moved {w w' : World} {S S' : List Nat} (m : Moved w w' S S') {a : Addr} {v : Value} (h : w.cell? a = some v) (hs : a.block ∉ S) : w'.cell? a = some v := (World.cell?_of_block (m.block _ (World.block_lt_of_cell? w _ h) hs)).trans h
theorem OwnB.lt {w : World} {v : Value} {xs : List Int} (h : OwnB w v xs) : ∀ k ∈ blkV v, k < w.heap.size := own_lt h.2
/-- Bytes of one's own are the result. -/
def OwnDone (xs : List Int) (w : World) (e : Ending) (w' : World) : Prop := ∃ v, e = .returned v ∧ OwnB w' v xs ∧ Below w.heap.size w w' ∧ ∀ k ∈ blkV v, w.heap.size ≤ k
theorem rcopy_own (v : Value) (xs : List Int) (w : World) (h : Reads w v xs) (hlen : xs.length ≤ 140737488355328) : Calls Tryz.prog 30 #[v] w (OwnDone xs w) :=
  (copy_any v xs w h hlen).mono fun _ _ ⟨v', he, hr, hb, ho, _⟩ => ⟨v', he, ⟨hr.1, ho.mono (Nat.zero_le _)⟩, hb, fun k hk => (ho.lt k (mem_blkV.1 hk)).1⟩
theorem rcut_own (v : Value) (m : Nat) (hm : m ≤ 1000000) (xs : List Int) (w : World) (h : Reads w v xs) : Calls Tryz.prog 9 #[v, .int .i64 m] w (OwnDone (xs.take m) w) :=
  (cut_any v m hm xs w h).mono fun _ _ ⟨v', he, hr, hb, ho, _⟩ => ⟨v', he, ⟨hr.1, ho.mono (Nat.zero_le _)⟩, hb, fun k hk => (ho.lt k (mem_blkV.1 hk)).1⟩
end
/-! XMd -/
section
open Go.RowKit Go.Lib
/-- A copy is there. -/
def CloneDone (xs : List Int) (w : World) (e : Ending) (w' : World) : Prop := ∃ v, e = .returned v ∧ OwnB w' v xs ∧ Below w.heap.size w w' ∧ ∀ k ∈ blkV v, w.heap.size ≤ k
set_option maxRecDepth 100000 in
theorem clone_any (v : Value) (xs : List Int) (w : World) (h : Reads w v xs) (hlen : xs.length ≤ 140737488355328) : Calls Tryz.prog 63 #[v] w (CloneDone xs w) := by
  obtain ⟨hb, ⟨rfl, rfl⟩ | ⟨a, cap, rfl, hlc, hcm, hcell⟩⟩ := h
  · clear hb hlen
    have hnil := fun w' => run_eql_slice_nil (P := Tryz.prog) w' 22 5 none 0 0 Tryz.underlying22
    go_enter Tryz.func63, Tryz.ntmps63
    go_wp2
    go_ret
    exact ⟨_, rfl, OwnB.nil w, Below.refl _ _, fun k hk => by cases hk⟩
  · obtain ⟨i0, hi, hz0, hz1, hz2⟩ := info_parts info5
    have HB := hid hb
    have HC := hid (reads_src (reads_below ⟨hb, .inr ⟨a, cap, rfl, hlc, hcm, hcell⟩⟩ ((Below.refl w.heap.size w).alloc (Nat.le_refl _) (.cells #[] 5)))).2
    have HM : Hid (0 + xs.length ≤ maxLen) := by show _ ≤ _; omega
    have HL : Hid ((0 + xs.length) * 1 ≤ 140737488355328) := by show _ ≤ _; omega
    have HLL : Hid ((xs.map (Value.int .u8)).length = xs.length * 1) := by show _ = _; rw [List.length_map]; omega
    clear hcell hb hlc hcm hlen
    obtain ⟨L, hL⟩ : ∃ L, L = xs.length := ⟨_, rfl⟩
    rw [← hL] at HM HL HLL ⊢
    have HLE := hid hL
    clear hL
    have hnil := fun w' => run_eql_slice_nil (P := Tryz.prog) w' 22 5 (some a) L cap Tryz.underlying22
    go_enter Tryz.func63, Tryz.ntmps63
    go_wp2_with (first
      | (at_builtin; refine wpList_append_own _ rfl _ _ 22 rfl w.heap.size 5 i0 (.int .u8 0) 1 1 Tryz.underlying22 hi hz0 hz1 hz2 rfl (by decide) _ 0 [] rfl (World.ownsRow_lit _ #[] 0 (Nat.le_refl _) (Nat.zero_le _) rfl) a L cap (xs.map (Value.int .u8)) rfl HLL.out HC.out (ints_oneCell .u8 _) HM.out HL.out (by simp) ?_; intro v1 w1 hown1 hgrow1 hnil1; have HO := hid hown1; have HG := hid hgrow1; have HNL := hid hnil1; clear hown1 hgrow1 hnil1))
    go_ret
    refine ⟨_, rfl, ⟨HB.out, ?_⟩, ((Below.refl _ _).alloc (Nat.le_refl _) _).grown HG.out (by simp) (fun k hk => by have e : w.heap.size = k := Option.some.inj hk; omega), fun k hk => (HO.out.lt k (mem_blkV.1 hk)).1⟩
    have := HO.out
    rw [Nat.zero_add, List.nil_append] at this
    rw [← HLE.out]
    exact this.mono (Nat.zero_le _)
end
/-! XBf -/
section
open Go.RowKit Go.Lib
theorem reads_cases {w : World} {v : Value} {xs : List Int} (h : Reads w v xs) : (∃ x c, v = .slice x 0 c ∧ xs = []) ∨ ∃ g o n c, v = .slice (some ⟨g, o, none⟩) n c ∧ n = xs.length ∧ g < w.heap.size ∧ ∀ i, i < xs.length → w.cell? ⟨g, o + i, none⟩ = some (.int .u8 (xs.getD i 0)) := by
  obtain ⟨hb, ⟨rfl, rfl⟩ | ⟨a, cap, rfl, h1, h2, h3⟩⟩ := h
  · exact .inl ⟨_, _, rfl, rfl⟩
  · by_cases hx : xs = []
    · subst hx
      exact .inl ⟨_, _, rfl, rfl⟩
    · have hp : 0 < xs.length := List.length_pos_iff.2 hx
      have c0 := h3 0 hp
      obtain ⟨g, off, spot⟩ := a
      obtain rfl : spot = none := by simpa [Addr.add] using World.cell?_spot c0
      refine .inr ⟨g, off, _, cap, rfl, rfl, ?_, fun i hi => ?_⟩
      · have := World.block_lt_of_cell? w _ c0
        rw [addr_add] at this
        exact this
      · have := h3 i hi
        rw [addr_add] at this
        exact this
/-- Where a byte is, if it is there. -/
def IndexD (b : Bool) (w : World) (e : Ending) (w' : World) : Prop := ∃ r : Int, e = .returned (.int .i64 r) ∧ ((0 ≤ r ∧ b = true) ∨ (r = -1 ∧ b = false)) ∧ w = w'
theorem any_none {xs : List Int} {o : Int} (h : ∀ i, i < xs.length → xs.getD i 0 ≠ o) : xs.any (fun x => x == o) = false := by
  rw [List.any_eq_false]
  intro x hx
  obtain ⟨i, hi, rfl⟩ := List.mem_iff_getElem.1 hx
  have := h i hi
  rw [List.getD, List.getElem?_eq_getElem hi] at this
  simpa using this
theorem any_some {xs : List Int} {o : Int} (i : Nat) (hi : i < xs.length) (h : xs.getD i 0 = o) : xs.any (fun x => x == o) = true := by
  rw [List.any_eq_true]
  refine ⟨xs[i], List.getElem_mem hi, ?_⟩
  rw [List.getD, List.getElem?_eq_getElem hi] at h
  simpa using h
set_option maxRecDepth 100000 in
set_option maxHeartbeats 1000000 in
theorem index_empty (x : Option Addr) (c o : Nat) (w : World) : Calls Tryz.prog 87 #[.slice x 0 c, .int .u8 o] w (IndexD false w) := by
  go_enter Tryz.func87, Tryz.ntmps87
  go_wp2
  go_loopw [8] (fun i W => i = .int .i64 0 ∧ W = w) (fun _ _ => 0)
  case atStart => exact ⟨rfl, rfl⟩
  case round =>
    obtain ⟨rfl, rfl⟩ := hrel
    go_wp2
    go_ret
    exact ⟨-1, rfl, .inr ⟨rfl, rfl⟩, rfl⟩
set_option maxRecDepth 100000 in
set_option maxHeartbeats 1000000 in
theorem index_row (g off n c : Nat) (xs : List Int) (hn : n = xs.length) (nb : n ≤ 1000000) (o : Nat) (w : World) (hc : ∀ i, i < xs.length → w.cell? ⟨g, off + i, none⟩ = some (.int .u8 (xs.getD i 0))) : Calls Tryz.prog 87 #[.slice (some ⟨g, off, none⟩) n c, .int .u8 o] w (IndexD (xs.any fun x => x == (o : Int)) w) := by
  have HC := hid (fun i (h : i < n) => hc i (hn ▸ h))
  have HN := hid hn
  clear hc hn
  go_enter Tryz.func87, Tryz.ntmps87
  go_wp2
  go_loopw [8] (fun i W => ∃ k : Nat, k ≤ n ∧ i = .int .i64 k ∧ Hid (∀ j, j < k → xs.getD j 0 ≠ (o : Int)) ∧ W = w) (fun i _ => n - (intOf i).toNat)
  case atStart => exact ⟨0, Nat.zero_le _, rfl, fun j hj => by omega, rfl⟩
  case round =>
    obtain ⟨k, hk, rfl, HK, rfl⟩ := hrel
    by_cases hlt : k < n
    · have c0 := HC.out k hlt
      have hki : (k : Int) < n := by omega
      by_cases e : xs.getD k 0 = (o : Int)
      · rw [e] at c0
        have HR : Hid (IndexD (xs.any fun x => x == (o : Int)) wr (.returned (.int .i64 k)) wr) := ⟨k, rfl, .inl ⟨by omega, any_some k (by rw [← HN.out]; exact hlt) e⟩, rfl⟩
        clear e
        go_wp2
        go_ret
        exact HR.out
      · have HR : Hid (∀ j, j < k + 1 → xs.getD j 0 ≠ (o : Int)) := fun j hj => by
          by_cases ej : j = k
          · rw [ej]; exact e
          · exact HK.out j (by omega)
        have e' : ((o : Int) == xs.getD k 0) = false := by simpa using fun h => e h.symm
        generalize xs.getD k 0 = y at c0 e'
        clear e HK
        go_wp2
        go_roundw
        case rel => exact ⟨k + 1, by omega, by go_num, HR.out, trivial⟩
        case measure => simp [intOf]; omega
    · obtain rfl : k = n := by omega
      go_wp2
      go_ret
      exact ⟨-1, rfl, .inr ⟨rfl, any_none (by rw [← HN.out]; exact HK.out)⟩, rfl⟩
theorem index_any (v : Value) (xs : List Int) (o : Nat) (w : World) (h : Reads w v xs) (hl : xs.length ≤ 1000000) : Calls Tryz.prog 87 #[v, .int .u8 o] w (IndexD (xs.any fun x => x == (o : Int)) w) := by
  rcases reads_cases h with ⟨x, c, rfl, rfl⟩ | ⟨g, off, n, c, rfl, hn, hg, hc⟩
  · exact index_empty x c o w
  · exact index_row g off n c xs hn (by omega) o w hc
set_option maxRecDepth 100000 in
set_option maxHeartbeats 1000000 in
theorem contains_any (v : Value) (xs : List Int) (o : Nat) (w : World) (h : Reads w v xs) (hl : xs.length ≤ 1000000) : Calls Tryz.prog 67 #[v, .int .u8 o] w fun e w' => e = .returned (.bool (xs.any fun x => x == (o : Int))) ∧ w = w' := by
  have H := hid (index_any v xs o w h hl)
  have hs : ∃ x n c, v = .slice x n c := by
    rcases h.2 with ⟨rfl, _⟩ | ⟨a, cap, rfl, _⟩
    · exact ⟨_, _, _, rfl⟩
    · exact ⟨_, _, _, rfl⟩
  obtain ⟨x, n, c, rfl⟩ := hs
  clear h
  generalize (xs.any fun x => x == (o : Int)) = b at H ⊢
  go_enter Tryz.func67, Tryz.ntmps67
  go_wp2_with fail
  with_reducible refine H.out.mono ?_
  rintro e w1 ⟨r, rfl, hr, rfl⟩
  rcases hr with ⟨h0, rfl⟩ | ⟨rfl, rfl⟩
  · clear H
    go_wp2
    go_ret
    exact ⟨by first | rfl | simp [h0], rfl⟩
  · clear H
    go_wp2
    go_ret
    exact ⟨rfl, rfl⟩
end
end Go.Proofs.YtaanpnmgibcemaaGreatDoor
