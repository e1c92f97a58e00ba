/-
  A record's maker: more data; a record's bytes.
-/
import Derived.Test.YtaanpnmgibcemaaGreatDoorVd
import Derived.Deep.RegionLaw
import Derived.Deep.AppendLies
namespace Go.Proofs.YtaanpnmgibcemaaGreatDoor
open Go.RowKit Go.Lib

section
variable {P : Program} {ops : Array Oper} {o : Oper} {a : Act} {w : World} {K : Act → World → Prop} {Q : Exit → Act → World → Prop} {E : Prop}
theorem step_append_run (hgd : o.guard = none) (s x : Operand) (t : TypeId) (ho : o.op = .call { callee := .builtin .append, args := #[s, x], argTypes := #[t, t] }) (vs vx v' : Value) (w' : World) (hs : a.eval s = vs) (hx : a.eval x = vx)
    (hr : (Builtin.append_ #[t, t] o.type #[vs, vx]).run P w = .ok v' w') (h : K (a.put o.dst v') w') :
    if Region.wanted o (yielded ops a.tmps) = true then Oper.wp P o a w K Q else E := by
  have hw : Region.wanted o (yielded ops a.tmps) = true := by simp [Region.wanted, hgd]
  rw [if_pos hw]
  unfold Oper.wp execOp
  simp only [ho, resolve, invoke, builtin, Sem.run_bind, Sem.run_pure, Result.andThen_ok, List.map_toArray, List.map_cons, List.map_nil, hs, hx, hr]
  exact h
end
/-- Bytes behind bytes of one's own: the run. -/
theorem run_append_ob {w : World} {v u : Value} {xs ys : List Int} (hown : OwnB w v xs) (hr : Reads w u ys) (hl : xs.length + ys.length ≤ 1000000000) (ty : TypeId) :
    ∃ x' n' c' w', (Builtin.append_ #[22, 22] ty #[v, u]).run Tryz.prog w = .ok (.slice x' n' c') w' ∧ OwnB w' (.slice x' n' c') (xs ++ ys) ∧ n' = xs.length + ys.length ∧ Moved w w' (blkV v) (blkV (.slice x' n' c')) := by
  obtain ⟨i0, hi, hz0, hz1, hz2⟩ := info_parts info5
  have hr' := hr
  rcases hr.2 with ⟨rfl, rfl⟩ | ⟨b, cap, rfl, h1, h2, h3⟩
  · obtain ⟨x', c', rfl⟩ := own_len hown _ rfl
    exact ⟨x', xs.length, c', w, Tn.run_append_none w hown.2 ty, by rw [List.append_nil]; exact hown, by simp, Moved.refl _ _⟩
  · obtain ⟨v', w', hrun, hown', hg, _, hk⟩ := run_append_blk (P := Tryz.prog) w 22 ty 5 i0 (.int .u8 0) 1 1 Tryz.underlying22 hi hz0 hz1 hz2 rfl (by decide) v xs.length _ hown.2 b ys.length cap (ys.map (Value.int .u8)) (by simp) (reads_src hr').2 (ints_oneCell .u8 _) (by unfold maxLen; omega) (by omega)
    have hO : OwnB w' v' (xs ++ ys) := by
      refine ⟨fun z hz => ?_, ?_⟩
      · rcases List.mem_append.1 hz with q | q
        · exact hown.1 z q
        · exact hr'.1 z q
      · rw [List.length_append, List.map_append]
        exact hown'
    obtain ⟨x', c', rfl⟩ := own_len hO _ rfl
    exact ⟨x', _, c', w', hrun, hO, List.length_append, Moved.grown hg (fun k e => mem_blkV.2 e) hk⟩
section
variable {K : Nat} {rd : Value} {rc : List Int} {lg : Bool} {w : World}
/-- More data was added. -/
def AddK (K : Nat) (rd : Value) (x : List Int × Bool) (w : World) (e : Ending) (w' : World) : Prop := e = .returned (.tuple #[]) ∧ ∃ rd', MkM w' K rd' x.1 x.2 ∧ Moved w w' (K :: blkV rd) (K :: blkV rd')
theorem MkM.put {w2 : World} {v' : Value} {rc' : List Int} (h : MkM w K rd rc false) (m : Moved w w2 (blkV rd) (blkV v')) (ho : OwnB w2 v' rc') : MkM (w2.setCell ⟨K, 0, none⟩ v') K v' rc' false ∧ Moved w (w2.setCell ⟨K, 0, none⟩ v') (K :: blkV rd) (K :: blkV v') := by
  have hn : K ∉ blkV v' := fun q => by
    rcases m.from' K q with e | e
    · exact h.n e
    · have := h.lt; omega
  have hb2 : w2.heap[K]? = some (.cells #[rd, .bool false] 127 (0, 0)) := (m.block K h.lt h.n).trans h.b
  refine ⟨⟨Go.heap_setCell_same w2 K 0 _ 127 v' hb2, ho.moved (Moved.set (S := [K]) (by simp) 0 v') (fun b q e => hn (by rw [← List.mem_singleton.1 e]; exact q)), hn⟩, ?_⟩
  refine (m.sub (T := K :: blkV rd) (T' := K :: blkV v') (fun b q => List.mem_cons_of_mem _ q) (fun b q => ?_)).trans (Moved.set (by simp) 0 v')
  rcases List.mem_cons.1 q with rfl | q
  · exact .inr (by simp)
  · exact .inl q
set_option maxRecDepth 100000 in
set_option maxHeartbeats 1000000 in
theorem add_fit (x : Option Addr) (n cc : Nat) (ps : List Int) (h : MkM w K rd rc false) (hp : Reads w (.slice x n cc) ps) (hn : n = ps.length) (hl : rc.length + ps.length ≤ 8192) : Calls Tryz.prog 93 #[.pointer (some ⟨K, 0, none⟩), .slice x n cc] w (AddK K rd (rc ++ ps, false) w) := by
  have c0 := h.c0
  have c1 := h.c1
  have f0 := h.free 0
  have hKl := h.lt
  have ho : OwnB w rd rc := h.r
  obtain ⟨ox, oc, hov⟩ := own_len ho _ rfl
  rw [hov] at c0 ho
  have HO := hid ho
  have HP := hid hp
  have HF := hid (fun x' n' c' w' (m : Moved w w' (blkV (.slice ox rc.length oc)) (blkV (.slice x' n' c'))) (hw : OwnB w' (.slice x' n' c') (rc ++ ps)) => show w'.cell? ⟨K, 0, none⟩ = some (.slice ox rc.length oc) ∧ w'.frozen? ⟨K, 0, none⟩ = false ∧ AddK K rd (rc ++ ps, false) w (.returned (.tuple #[])) (w'.setCell ⟨K, 0, none⟩ (.slice x' n' c')) by
    rw [← hov] at m
    have e : w'.heap[K]? = w.heap[K]? := m.block K h.lt h.n
    have q := h.put m hw
    exact ⟨(World.cell?_of_block e).trans c0, (World.frozen?_of_block e).trans f0, rfl, _, q.1, q.2⟩)
  have hli : (n : Int) ≤ 8192 - rc.length := by omega
  have hlN := hid hl
  have hlm : rc.length ≤ 8192 := by omega
  clear h hp ho hov hl
  generalize hm : rc.length = m at *
  have HM := hid hm
  clear hm
  go_enter Tryz.func93, Tryz.ntmps93
  go_wp2_with (first
    | (at_builtin; refine wpList_append_ob rfl _ _ rfl _ _ rc ps rfl HO.out rfl HP.out (by have h1 := HM.out; have h2 := hlN.out; omega) ?_; intro x' n' c' w' ho' hn' hm'; obtain ⟨c4', f4', hbd⟩ := HF.out _ _ _ _ hm' ho'; have HBD := hid hbd; clear ho' hn' hm' hbd)
    | fail)
  go_end0
  exact HBD.out
set_option maxRecDepth 100000 in
theorem add_over (x : Option Addr) (n cc : Nat) (h : MkM w K rd rc true) : Calls Tryz.prog 93 #[.pointer (some ⟨K, 0, none⟩), .slice x n cc] w (AddK K rd (rc, true) w) := by
  have c1 := h.c1
  have HX := hid (show AddK K rd (rc, true) w (.returned (.tuple #[])) w from ⟨rfl, rd, h, Moved.refl _ _⟩)
  clear h
  go_enter Tryz.func93, Tryz.ntmps93
  go_wp2
  refine bodyPost_ret (results_none rfl _ _ _) rfl ?_
  exact HX.out
theorem from5 (g : Nat) (n cap : Nat) (h5 : 5 ≤ n) (hc : n ≤ cap) : ∀ W, (Instr.sliceAt 22 (.slice (some ⟨g, 0, none⟩) n cap) none (some (.int .i64 5)) (some (.int .i64 5))).run Tryz.prog W = .ok (.slice (some ⟨g, 0, none⟩) 5 5) W := fun W => by
  have h1 : (5 : Int) ≤ cap := by omega
  simp [Instr.sliceAt, go_sem, h1]
set_option maxRecDepth 100000 in
set_option maxHeartbeats 2000000 in
theorem add_long (x : Addr) (n cc : Nat) (ps : List Int) (h : MkM w K rd rc false) (hp : Reads w (.slice (some x) n cc) ps) (hn : n = ps.length) (hc : n ≤ cc) (hpK : K ∉ blkV (.slice (some x) n cc)) (hm : rc.length ≤ 8192) (hl : 8192 < rc.length + ps.length) : Calls Tryz.prog 93 #[.pointer (some ⟨K, 0, none⟩), .slice (some x) n cc] w (AddK K rd ((rc ++ ps).take 5, true) w) := by
  have c0 := h.c0
  have c1 := h.c1
  have f0 := h.free 0
  have f1 := h.free 1
  have hKl := h.lt
  have ho : OwnB w rd rc := h.r
  obtain ⟨ox, oc, hov⟩ := own_len ho _ rfl
  obtain ⟨r, hr⟩ : ∃ r : Nat, rc.length + r = 8192 := ⟨8192 - rc.length, by omega⟩
  have hrn : r ≤ n := by omega
  have hsub : (8192 : Int) - rc.length = r := by omega
  have m1 : Moved w (w.setCell ⟨K, 1, none⟩ (.bool true)).drew [K] [K] := (Moved.set (by simp) 1 (.bool true)).drewR
  have ho1 : OwnB (w.setCell ⟨K, 1, none⟩ (.bool true)).drew rd rc := ho.moved m1 (fun b q e => h.n (by rw [← List.mem_singleton.1 e]; exact q))
  have hp1 : Reads (w.setCell ⟨K, 1, none⟩ (.bool true)).drew (.slice (some x) r cc) (ps.take r) := reads_moved (reads_take hp hn.symm r hrn) m1 (fun b q e => hpK (by rw [← List.mem_singleton.1 e]; exact q))
  have hn1 : ∀ b ∈ blkV rd, b ∉ [K] := fun b q e => h.n (by rw [← List.mem_singleton.1 e]; exact q)
  have hb1 : (w.setCell ⟨K, 1, none⟩ (.bool true)).drew.heap[K]? = some (.cells #[rd, .bool true] 127 (0, 0)) := Go.heap_setCell_same w K 1 _ 127 (.bool true) h.b
  obtain ⟨x', n', c', w2, hrun, hO2, hn2, hM2⟩ := run_append_ob ho1 hp1 (by rw [List.length_take]; omega) 22
  have hlen : (rc ++ ps.take r).length = 8192 := by rw [List.length_append, List.length_take]; omega
  obtain ⟨g, cp, he, hcp, hcm, hgl⟩ := hO2.slice (fun q => by rw [q] at hlen; cases hlen)
  rw [hlen] at he hcp
  rw [he] at hrun hO2 hM2
  have hKg : K ∉ blkV (.slice (some ⟨g, 0, none⟩) 8192 cp) := fun q => by
    rcases hM2.from' K q with e | e
    · exact h.n e
    · simp [World.setCell, World.drew] at e; omega
  have hKne : K ≠ g := fun e => hKg (by simp [mem_blkV, Value.ownBlock, e])
  have hb2 : w2.heap[K]? = some (.cells #[rd, .bool true] 127 (0, 0)) := (hM2.block K (by simpa [World.setCell, World.drew] using hKl) h.n).trans hb1
  have hb3 := Go.heap_setCell_same w2 K 0 _ 127 (.slice (some ⟨g, 0, none⟩) 5 5) hb2
  have htk : (rc ++ ps.take r).take 5 = (rc ++ ps).take 5 := by
    rw [show rc ++ ps.take r = (rc ++ ps).take (rc.length + r) by rw [List.take_length_add_append], List.take_take]
    congr 1
    omega
  have hrd : Reads w2 (.slice (some ⟨g, 0, none⟩) 5 5) ((rc ++ ps).take 5) := by
    have q := reads_take (len := 8192) hO2.reads hlen 5 (by decide)
    rw [htk] at q
    have hl5 : ((rc ++ ps).take 5).length = 5 := by rw [List.length_take, List.length_append]; omega
    refine ⟨q.1, .inr ⟨⟨g, 0, none⟩, 5, by rw [hl5], by rw [hl5]; exact Nat.le_refl _, by unfold maxLen; decide, ?_⟩⟩
    rcases q.2 with ⟨e, _⟩ | ⟨a', cap', e, _, _, q3⟩
    · cases e
    · simp only [Value.slice.injEq, Option.some.injEq] at e
      obtain ⟨rfl, -, -⟩ := e
      exact q3
  have hK5 : K ∉ blkV (.slice (some ⟨g, 0, none⟩) 5 5) := fun q => hKne (by simp [mem_blkV, Value.ownBlock] at q; exact q.symm)
  have HX := hid (show AddK K rd ((rc ++ ps).take 5, true) w (.returned (.tuple #[])) (w2.setCell ⟨K, 0, none⟩ (.slice (some ⟨g, 0, none⟩) 5 5)) from by
    refine ⟨rfl, _, ⟨hb3, ?_, hK5⟩, ?_⟩
    · rw [if_pos rfl]
      exact reads_moved hrd (Moved.set (S := [K]) (by simp) 0 _) (fun b q e => hK5 (by rw [← List.mem_singleton.1 e]; exact q))
    · refine ((m1.sub (T := K :: blkV rd) (T' := K :: blkV rd) (fun b q => by rw [List.mem_singleton.1 q]; simp) (fun b q => .inr q)).trans (hM2.sub (T := K :: blkV rd) (T' := K :: blkV (.slice (some ⟨g, 0, none⟩) 5 5)) (fun b q => List.mem_cons_of_mem _ q) (fun b q => ?_))).trans (Moved.set (by simp) 0 _)
      rcases List.mem_cons.1 q with rfl | q
      · exact .inr (by simp)
      · exact .inl q)
  have c2 : w2.cell? ⟨K, 0, none⟩ = some rd := cell_of_row w2 K 0 _ 127 _ hb2
  have f2 : w2.frozen? ⟨K, 0, none⟩ = false := frozen_of_row w2 K 0 _ 127 hb2
  have hs5 := from5 g 8192 cp (by decide) hcp
  rw [hov] at c0 c2 hrun
  have HRUN := hid hrun
  have hrc : (r : Int) ≤ cc := by omega
  have hr0 : (0 : Int) ≤ r := by omega
  have hln : ¬ ((n : Int) ≤ r) := by omega
  clear h hp ho ho1 hp1 hov hrun hpK hn1 hb1 hO2 hn2 hM2 he hcm hgl hKg hb2 hb3 htk hrd hK5 hlen hKne m1
  generalize hmm : rc.length = m at *
  clear hmm
  go_enter Tryz.func93, Tryz.ntmps93
  go_wp2_with fail
  go_region_law (refine step_append_run (by rfl) _ _ _ (by rfl) _ _ _ _ (by rfl) (by rfl) HRUN.out ?_)
  go_wp2
  go_end0
  exact HX.out
end
/-- Bytes are said. -/
def SaidO (zs : List Int) (w : World) (e : Ending) (w' : World) : Prop := ∃ x n c, e = .returned (.slice x n c) ∧ OwnB w' (.slice x n c) zs ∧ Below w.heap.size w w' ∧ ∀ b ∈ blkV (.slice x n c), w.heap.size ≤ b
set_option maxRecDepth 100000 in
theorem recBytes_any (a : Addr) (n c : Nat) (ps : List Int) (w : World) (hr : Reads w (.slice (some a) n c) ps) (hn : n ≤ 1000000) : Calls Tryz.prog 47 #[.slice (some a) n c] w (SaidO (recB ps) w) := by
  have HE := hid (Tn.escape_any a n c ps w hr hn)
  have hle : (Tn.escI ps).length ≤ 2000000 := by
    rw [Tn.escI_length]
    have : ps.count 255 ≤ ps.length := List.count_le_length
    have := (reads_src hr).1
    omega
  have HLE := hid hle
  clear hr hle
  go_enter Tryz.func47, Tryz.ntmps47
  go_wp2_with fail
  with_reducible refine HE.out.mono ?_
  rintro e w1 ⟨v, rfl, ho, hb, hk⟩
  have HO := hid (ho.step (bal (Below.refl _ _) (.cells #[.int .u8 255, .int .u8 239] 5)))
  have HR2 := hid (Tn.reads_lit w1 (0, 0) [255, 239] 2 rfl (by decide) (by decide))
  have HB := hid hb
  have HK := hid hk
  obtain ⟨x, m, d, rfl⟩ := own_slice ho
  clear ho hb hk HE
  go_wp2_with (first
    | (at_builtin; refine wpList_append_ob rfl _ _ rfl _ _ (Tn.escI ps) [255, 239] rfl HO.out rfl HR2.out (by have := HLE.out; simp; omega) ?_; intro x' n' c' w' ho' hn' hm'; have HO3 := hid ho'; have HM3 := hid hm'; clear ho' hn' hm')
    | fail)
  go_ret
  have h1 : Moved w w' (blkV (.slice x m d)) (blkV (.slice x' n' c')) := (Moved.below (bal HB.out _) _).trans HM3.out
  refine ⟨_, _, _, rfl, HO3.out, ?_, fun b q => ?_⟩
  · exact h1.toBelow (Nat.le_refl _) HK.out
  · rcases HM3.out.from' b q with e | e
    · exact HK.out b e
    · have := HB.out.size; simp at e; omega
end Go.Proofs.YtaanpnmgibcemaaGreatDoor
