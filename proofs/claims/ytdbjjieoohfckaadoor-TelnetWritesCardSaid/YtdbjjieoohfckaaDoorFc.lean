/-
  The reader's block; keep and endSub.
-/
import Derived.Test.YtdbjjieoohfckaaDoorFb
namespace Go.Proofs.YtdbjjieoohfckaaDoor
open Go.RowKit Go.Lib

/-- The reader's block. -/
def Rdr (w : World) (R : Nat) (pl vb k o : Int) (d : Value) (lg br : Bool) : Prop :=
  w.heap[R]? = some (.cells #[.int .i64 pl, .int .u8 vb, .int .i64 k, .int .u8 0, .int .u8 o, d, .bool lg, .bool br] 51 (0, 0))
section
variable {w w' : World} {R : Nat} {pl vb k o : Int} {d : Value} {lg br : Bool}
theorem Rdr.lt (h : Rdr w R pl vb k o d lg br) : R < w.heap.size := (Array.getElem?_eq_some_iff.1 h).1
theorem Rdr.free (h : Rdr w R pl vb k o d lg br) (i : Nat) : w.frozen? ⟨R, i, none⟩ = false := frozen_of_row w R i _ 51 h
theorem Rdr.c0 (h : Rdr w R pl vb k o d lg br) : w.cell? ⟨R, 0, none⟩ = some (.int .i64 pl) := cell_of_row w R 0 _ 51 _ h
theorem Rdr.c1 (h : Rdr w R pl vb k o d lg br) : w.cell? ⟨R, 1, none⟩ = some (.int .u8 vb) := cell_of_row w R 1 _ 51 _ h
theorem Rdr.c2 (h : Rdr w R pl vb k o d lg br) : w.cell? ⟨R, 2, none⟩ = some (.int .i64 k) := cell_of_row w R 2 _ 51 _ h
theorem Rdr.c3 (h : Rdr w R pl vb k o d lg br) : w.cell? ⟨R, 3, none⟩ = some (.int .u8 0) := cell_of_row w R 3 _ 51 _ h
theorem Rdr.c4 (h : Rdr w R pl vb k o d lg br) : w.cell? ⟨R, 4, none⟩ = some (.int .u8 o) := cell_of_row w R 4 _ 51 _ h
theorem Rdr.c5 (h : Rdr w R pl vb k o d lg br) : w.cell? ⟨R, 5, none⟩ = some d := cell_of_row w R 5 _ 51 _ h
theorem Rdr.c6 (h : Rdr w R pl vb k o d lg br) : w.cell? ⟨R, 6, none⟩ = some (.bool lg) := cell_of_row w R 6 _ 51 _ h
theorem Rdr.c7 (h : Rdr w R pl vb k o d lg br) : w.cell? ⟨R, 7, none⟩ = some (.bool br) := cell_of_row w R 7 _ 51 _ h
theorem Rdr.moved {S S' : List Nat} (h : Rdr w R pl vb k o d lg br) (m : Moved w w' S S') (hR : R ∉ S) : Rdr w' R pl vb k o d lg br := (m.block R h.lt hR).trans h
theorem Rdr.alloc (h : Rdr w R pl vb k o d lg br) (ob : Obj) : Rdr (w.alloc ob) R pl vb k o d lg br := h.moved (Moved.alloc w ob []) (fun q => by cases q)
theorem Rdr.s0 (h : Rdr w R pl vb k o d lg br) (x : Int) : Rdr (w.setCell ⟨R, 0, none⟩ (.int .i64 x)) R x vb k o d lg br := Go.heap_setCell_same w R 0 _ 51 (.int .i64 x) h
theorem Rdr.s1 (h : Rdr w R pl vb k o d lg br) (x : Int) : Rdr (w.setCell ⟨R, 1, none⟩ (.int .u8 x)) R pl x k o d lg br := Go.heap_setCell_same w R 1 _ 51 (.int .u8 x) h
theorem Rdr.s5 (h : Rdr w R pl vb k o d lg br) (x : Value) : Rdr (w.setCell ⟨R, 5, none⟩ x) R pl vb k o x lg br := Go.heap_setCell_same w R 5 _ 51 x h
theorem Rdr.s6 (h : Rdr w R pl vb k o d lg br) (x : Bool) : Rdr (w.setCell ⟨R, 6, none⟩ (.bool x)) R pl vb k o d x br := Go.heap_setCell_same w R 6 _ 51 (.bool x) h
theorem Rdr.s7 (h : Rdr w R pl vb k o d lg br) (x : Bool) : Rdr (w.setCell ⟨R, 7, none⟩ (.bool x)) R pl vb k o d lg x := Go.heap_setCell_same w R 7 _ 51 (.bool x) h
/-- All of the subnegotiation is stored. -/
def putS (w : World) (R : Nat) (k o : Int) (d : Value) (lg br : Bool) : World :=
  (((((w.setCell ⟨R, 2, none⟩ (.int .i64 k)).setCell ⟨R, 3, none⟩ (.int .u8 0)).setCell ⟨R, 4, none⟩ (.int .u8 o)).setCell ⟨R, 5, none⟩ d).setCell ⟨R, 6, none⟩ (.bool lg)).setCell ⟨R, 7, none⟩ (.bool br)
theorem Rdr.put (h : Rdr w R pl vb k o d lg br) (k' o' : Int) (d' : Value) (lg' br' : Bool) : Rdr (putS w R k' o' d' lg' br') R pl vb k' o' d' lg' br' := by
  have h0 := Go.heap_setCell_same w R 2 _ 51 (.int .i64 k') h
  have h1 := Go.heap_setCell_same _ R 3 _ 51 (.int .u8 0) h0
  have h2 := Go.heap_setCell_same _ R 4 _ 51 (.int .u8 o') h1
  have h3 := Go.heap_setCell_same _ R 5 _ 51 d' h2
  have h4 := Go.heap_setCell_same _ R 6 _ 51 (.bool lg') h3
  have h5 := Go.heap_setCell_same _ R 7 _ 51 (.bool br') h4
  exact h5
end
theorem putS_moved (w : World) (R : Nat) (k o : Int) (d : Value) (lg br : Bool) {S : List Nat} (h : R ∈ S) : Moved w (putS w R k o d lg br) S S :=
  ((((((Moved.set h 2 _).trans (Moved.set h 3 _)).trans (Moved.set h 4 _)).trans (Moved.set h 5 _)).trans (Moved.set h 6 _)).trans (Moved.set h 7 _))
/-- What keep leaves. -/
def KeepPost (R : Nat) (pl vb o : Int) (d : Value) (ds : List Int) (lg : Bool) (b : Int) (w : World) (e : Ending) (w' : World) : Prop :=
  e = .returned (.tuple #[]) ∧ ∃ d' ds' lg', keepS o ds lg b = .sub o ds' lg' ∧ Rdr w' R pl vb 3 o d' lg' false ∧ OwnB w' d' ds' ∧ Moved w w' (R :: blkV d) (R :: blkV d') ∧ R ∉ blkV d'
set_option maxRecDepth 100000 in
set_option maxHeartbeats 2000000 in
theorem keep_any (R : Nat) (pl vb o : Int) (d : Value) (ds : List Int) (lg : Bool) (b : Int) (w : World) (h : Rdr w R pl vb 3 o d lg false) (hd : OwnB w d ds) (hR : R ∉ blkV d) (hb : 0 ≤ b ∧ b < 256) (hl : ds.length ≤ 256) :
    Calls Tryd.prog 29 #[.pointer (some ⟨R, 0, none⟩), .int .u8 b] w (KeepPost R pl vb o d ds lg b w) := by
  obtain ⟨x, c, rfl⟩ := row_slice hd.2
  have HR := hid h
  have HD := hid hd
  have HRN := hid hR
  have HBB := hid hb
  have c5 := h.c5
  have c6 := h.c6
  have f5 := h.free 5
  have f6 := h.free 6
  obtain ⟨n, hn⟩ : ∃ n, n = ds.length := ⟨_, rfl⟩
  rw [← hn] at hl c5
  have HN := hid hn
  rw [← hn]
  by_cases h6 : n = 256
  · have l1 : ((n : Int) == 256) = true := by simp; omega
    have HP : Hid (KeepPost R pl vb o (.slice x n c) ds lg b w (.returned (.tuple #[])) (w.setCell ⟨R, 6, none⟩ (.bool true))) := by
      refine ⟨rfl, .slice x ds.length c, ds, true, ?_, ?_, ?_, ?_, hR⟩
      · rw [keepS, if_pos (by rw [← hn]; exact h6)]
      · exact h.s6 true
      · exact hd.moved (Moved.set (S := [R]) (by simp) 6 _) (fun k hk q => hR (by rw [← List.mem_singleton.1 q]; exact hk))
      · rw [hn]; exact Moved.set (by simp) 6 _
    clear h hd hR hb hn h6
    go_enter Tryd.func29, Tryd.ntmps29
    go_wp2
    go_end0
    exact HP.out
  · obtain ⟨i0, hi, hz0, hz1, hz2⟩ := info_parts info5
    have l1 : ((n : Int) == 256) = false := by simp; omega
    have hl2 : n < 256 := by omega
    have HRW := hid (hd.2.alloc (.cells #[.int .u8 b] 5))
    rw [← hn] at HRW
    have HRA := hid (h.alloc (.cells #[.int .u8 b] 5))
    have HNE := hid (show some R ≠ (Value.slice x n c).ownBlock from fun e => hR (by rw [← hn]; exact mem_blkV.2 e.symm))
    have HSN : Hid (∀ j u, [Value.int .u8 b][j]? = some u → (w.alloc (.cells #[.int .u8 b] 5)).cell? ((⟨w.heap.size, 0, none⟩ : Addr).add j) = some u) := fun j u hu => by
      rw [addr_add, Nat.zero_add, cell_of_row _ w.heap.size j #[.int .u8 b] 5 (0, 0) (heap_alloc_new w _)]
      simpa using hu
    have H1 : Hid (∀ u ∈ [Value.int .u8 b], u.oneCell' = true) := fun u hu => by rw [List.mem_singleton.1 hu]; rfl
    have hlr := h.lt
    clear h hd hR hb hn h6
    go_enter Tryd.func29, Tryd.ntmps29
    go_wp2_with (first
      | (at_builtin; refine wpList_append_blk _ rfl _ _ 24 rfl 5 i0 _ 1 1 Tryd.underlying24 hi hz0 hz1 hz2 rfl (by decide) _ _ _ rfl HRW.out ⟨w.heap.size, 0, none⟩ 1 1 [.int .u8 b] rfl rfl HSN.out H1.out (by unfold maxLen; omega) (by omega) ?_; intro v' w3 ho hg hn hk; obtain ⟨xv, cv, rfl⟩ := row_slice ho; have HR3 := hid (HRA.out.moved (Moved.grown hg (S := blkV (.slice x n c)) (S' := blkV (.slice xv (n + 1) cv)) (fun k hk => mem_blkV.2 hk) hk) (fun q => HNE.out (mem_blkV.1 q).symm)); have c5 := HR3.out.c5; have f5 := HR3.out.free 5; have HO3 := hid ho; have HG3 := hid hg; have HK3 := hid hk; clear ho hg hn hk))
    go_end0
    have hlt := HRA.out.lt
    have hx : R ∉ blkV (.slice xv (n + 1) cv) := fun q => by
      rcases HK3.out R q with r | r
      · exact HRN.out (by rw [← HN.out]; exact r)
      · have := HR3.out.lt; omega
    have hmv : Moved (w.alloc (.cells #[.int .u8 b] 5)) w3 (blkV (.slice x n c)) (blkV (.slice xv (n + 1) cv)) := Moved.grown HG3.out (fun k hk => mem_blkV.2 hk) HK3.out
    have hs : Moved w3 (w3.setCell ⟨R, 5, none⟩ (.slice xv (n + 1) cv)) [R] [R] := Moved.set (by simp) 5 _
    refine ⟨rfl, .slice xv (n + 1) cv, ds ++ [b], lg, ?_, HR3.out.s5 _, ?_, ?_, hx⟩
    · rw [keepS, if_neg (by rw [← HN.out]; omega)]
    · refine ⟨fun y hy => ?_, ?_⟩
      · rcases List.mem_append.1 hy with q | q
        · exact HD.out.1 y q
        · rw [List.mem_singleton.1 q]; exact HBB.out
      · have q := own_moved HO3.out hs (fun k hk q => hx (by rw [← List.mem_singleton.1 q]; exact hk))
        have e1 : (ds ++ [b]).length = n + 1 := by rw [List.length_append, ← HN.out]; rfl
        rw [e1, List.map_append]
        exact q
    · refine ((Moved.alloc w _ (R :: blkV (.slice x n c))).trans (hmv.sub (T := R :: blkV (.slice x n c)) (T' := R :: blkV (.slice xv (n + 1) cv)) (fun k hk => List.mem_cons_of_mem _ hk) (fun k hk => ?_))).trans (hs.sub (fun k hk => ?_) (fun k hk => .inr hk))
      · rcases List.mem_cons.1 hk with q | q
        · exact .inr (by rw [q]; simp)
        · exact .inl q
      · rw [List.mem_singleton.1 hk]; simp
end Go.Proofs.YtdbjjieoohfckaaDoor
