/-
  addData.
-/
import Derived.Test.YtdbjjieoohfckaaDoorMd
namespace Go.Proofs.YtdbjjieoohfckaaDoor
open Go.RowKit Go.Lib

theorem info37 : (Tryd.prog.info? 34).map (fun i => (i.zero, i.size, i.bytes)) = some (some (.agg #[.int .i64 0, .int .u8 0, .int .u8 0, .slice none 0 0, .bool false, .bool false]), 6, 48) := by kernel_rfl
theorem info36 : (Tryd.prog.info? 27).map (fun i => (i.zero, i.size, i.bytes)) = some (some (.agg #[.int .i64 0, .int .u8 0, .int .u8 0, .slice none 0 0, .bool false, .bool false]), 6, 48) := by kernel_rfl
theorem own_one {w : World} {d : Value} {xs : List Int} (h : OwnB w d xs) : d.oneCell' = true := by
  rcases h.2.2 with ⟨rfl, _⟩ | ⟨g, cap, cur, rfl, _⟩ <;> rfl
theorem own_slice {w : World} {d : Value} {xs : List Int} (h : OwnB w d xs) : ∃ x n c, d = .slice x n c := by
  rcases h.2.2 with ⟨rfl, _⟩ | ⟨g, cap, cur, rfl, _⟩ <;> exact ⟨_, _, _, rfl⟩
theorem reads_any_slice {w : World} {d : Value} {xs : List Int} (h : Reads w d xs) : ∃ x n c, d = .slice x n c := by
  rcases h.2 with ⟨rfl, _⟩ | ⟨a, cap, rfl, _⟩ <;> exact ⟨_, _, _, rfl⟩
theorem reads_one {w : World} {d : Value} {xs : List Int} (h : Reads w d xs) : d.oneCell' = true := by
  rcases h.2 with ⟨rfl, _⟩ | ⟨a, cap, rfl, _⟩ <;> rfl
theorem news_six (W : World) (x0 x1 x2 x3 x4 x5 : Value) (t : TypeId) : ∀ j u, [x0, x1, x2, x3, x4, x5][j]? = some u → (W.alloc (.cells #[x0, x1, x2, x3, x4, x5] t)).cell? ((⟨W.heap.size, 0, none⟩ : Addr).add j) = some u := by
  intro j u hu
  rw [addr_add, Nat.zero_add, cell_of_row _ W.heap.size j #[x0, x1, x2, x3, x4, x5] t (0, 0) (heap_alloc_new W _)]
  simpa using hu
/-- What addData leaves. -/
def AddPost (v : Value) (xs : List (Ev × Value)) (es : List Ev) (w : World) (e : Ending) (w' : World) : Prop :=
  ∃ v' xs', e = .returned v' ∧ OwnL w' v' xs' ∧ xs'.map (·.1) = es ∧ Moved w w' (blks v xs) (blks v' xs')
theorem snoc_done {w w1 w3 : World} {v v' : Value} {xs : List (Ev × Value)} {e : Ev} {d : Value} {o : Obj} (h : OwnL w v xs) (hb1 : Below w.heap.size w w1) (hd : OwnB w1 d e.data) (hf : ∀ k ∈ blkV d, w.heap.size ≤ k)
    (hrow : w3.ownsRow 0 34 6 v' (xs.length + 1) (cellsE xs ++ evC e d)) (hg : (w1.alloc o).grownBy w3 v.ownBlock) (hb : ∀ k ∈ blkV v', k ∈ blkV v ∨ (w1.alloc o).heap.size ≤ k) :
    OwnL w3 v' (xs ++ [(e, d)]) ∧ Moved w w3 (blks v xs) (blks v' (xs ++ [(e, d)])) := by
  have m0 : Below w.heap.size w (w1.alloc o) := hb1.alloc hb1.size o
  have m1 : Moved w (w1.alloc o) [] [] := Moved.below m0 []
  have h1 : OwnL (w1.alloc o) v xs := h.moved m1 (fun _ _ q => by cases q)
  have hd1 : OwnB (w1.alloc o) d e.data := hd.moved (Moved.alloc w1 o []) (fun _ _ q => by cases q)
  have r := h1.snoc hd1 (fun k hk q => by have := hf k hk; have := h.lt k q; omega) hrow hg hb
  refine ⟨r.1, ?_⟩
  refine Moved.trans (T := blks v xs ++ blkV d) ⟨m0.os, m0.tape, m0.output, m0.size, fun k hk _ => m0.block k hk, fun k hk => ?_⟩ r.2
  rcases List.mem_append.1 hk with q | q
  · exact .inl q
  · exact .inr (hf k q)
theorem map_snoc (xs : List (Ev × Value)) (e : Ev) (d : Value) : (xs ++ [(e, d)]).map (·.1) = xs.map (·.1) ++ [e] := by simp
set_option maxRecDepth 100000 in
set_option maxHeartbeats 2000000 in
theorem addData_zero (v p : Value) (xs : List (Ev × Value)) (w : World) (h : OwnL w v xs) (hp : Reads w p []) : Calls Tryd.prog 24 #[v, p] w (AddPost v xs (addD (xs.map (·.1)) []) w) := by
  have H : Hid (AddPost v xs (addD (xs.map (·.1)) []) w (.returned v) w) := ⟨v, xs, rfl, h, (addD_nil _).symm, Moved.refl _ _⟩
  obtain ⟨_, ⟨rfl, _⟩ | ⟨a, cap, rfl, _⟩⟩ := hp
  all_goals
    clear h
    go_enter Tryd.func24, Tryd.ntmps24
    go_wp2
    go_ret
    exact H.out
set_option maxRecDepth 100000 in
set_option maxHeartbeats 2000000 in
theorem addData_first (v : Value) (a : Addr) (L cap : Nat) (ps : List Int) (w : World) (h : OwnL w v []) (hp : Reads w (.slice (some a) L cap) ps) (hL : 0 < L) (hb : L ≤ 1000000) : Calls Tryd.prog 24 #[v, .slice (some a) L cap] w (AddPost v [] [dat ps] w) := by
  obtain ⟨i0, hi, hz0, hz1, hz2⟩ := info_parts info37
  have hl : L = ps.length := (reads_src hp).1
  have HCL := hid (clone_any _ ps w hp (by omega))
  have HO := hid h
  have l0 : ((L : Int) == 0) = false := by simp; omega
  clear hl hp
  have hv : ∃ x c, v = .slice x 0 c := by
    rcases h.row.2 with ⟨rfl, _⟩ | ⟨g, c, cur, rfl, _⟩
    · exact ⟨_, _, rfl⟩
    · exact ⟨_, _, rfl⟩
  obtain ⟨x, c, rfl⟩ := hv
  clear h
  go_enter Tryd.func24, Tryd.ntmps24
  go_wp2_with fail
  with_reducible refine HCL.out.mono ?_
  rintro e w1 ⟨d, rfl, hd, hb1, hf⟩
  obtain ⟨xd, nd, cd, rfl⟩ := own_slice hd
  have HD := hid hd
  have HB1 := hid hb1
  have HF := hid hf
  have H1 := own_one hd
  have HRW := hid ((own_moved HO.out.row (Moved.below hb1 []) (fun _ _ q => by cases q)).alloc (.cells #[.int .i64 0, .int .u8 0, .int .u8 0, .slice xd nd cd, .bool false, .bool false] 34))
  clear hd hb1 hf
  go_wp2_with (first
    | (at_builtin; refine wpList_append_blk _ rfl _ _ 25 rfl 34 i0 _ 6 48 Tryd.underlying25 hi hz0 hz1 hz2 rfl (by decide) _ 0 _ rfl HRW.out ⟨w1.heap.size, 0, none⟩ 1 1 (evC (dat ps) (.slice xd nd cd)) rfl rfl (news_six w1 _ _ _ _ _ _ 34) (one_evC _ _ H1) (by unfold maxLen; decide) (by decide) ?_; intro v' w3 ho hg hn hk; have HO3 := hid ho; have HG3 := hid hg; have HK3 := hid hk; clear ho hg hn hk))
  go_ret
  have r := snoc_done (e := dat ps) HO.out HB1.out HD.out HF.out HO3.out HG3.out HK3.out
  exact ⟨_, _, rfl, r.1, rfl, r.2⟩
end Go.Proofs.YtdbjjieoohfckaaDoor
