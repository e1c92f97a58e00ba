/-
  A link's buffer: bytes are sent, messages, and given away.
-/
import Derived.Test.YtaanpnmgibcemaaGreatDoorVb
namespace Go.Proofs.YtaanpnmgibcemaaGreatDoor
open Go.RowKit Go.Lib

/-- Bytes of one's own, and bytes behind. -/
theorem wpList_append_ob {w : World} {ops : Array Oper} {rest : List Oper} {o : Oper} {a : Act} {Q : Exit → Act → World → Prop} (hgd : o.guard = none) (s x : Operand)
    (ho : o.op = .call { callee := .builtin .append, args := #[s, x], argTypes := #[22, 22] }) (v u : Value) (xs ys : List Int) (hs : a.eval s = v) (hown : OwnB w v xs) (hx : a.eval x = u) (hr : Reads w u ys)
    (hl : xs.length + ys.length ≤ 1000000000) (h : ∀ x' n' c' w', OwnB w' (.slice x' n' c') (xs ++ ys) → n' = xs.length + ys.length → Moved w w' (blkV v) (blkV (.slice x' n' c')) → wpList Tryz.prog ops Q rest (a.put o.dst (.slice x' n' c')) w') : wpList Tryz.prog ops Q (o :: rest) a w := by
  obtain ⟨i0, hi, hz0, hz1, hz2⟩ := info_parts info5
  have hr' := hr
  rcases hr.2 with ⟨rfl, rfl⟩ | ⟨b, cap, rfl, h1, h2, h3⟩
  · refine wpList_append_own_none hgd s x 22 ho 0 5 i0 1 Tryz.underlying22 hi v xs.length _ hs hown.2 hx ?_
    obtain ⟨x', c', e⟩ := own_len hown _ rfl
    subst e
    exact h x' xs.length c' w (by rw [List.append_nil]; exact hown) (by simp) (Moved.refl _ _)
  · refine wpList_append_blk w hgd s x 22 ho 5 i0 (.int .u8 0) 1 1 Tryz.underlying22 hi hz0 hz1 hz2 rfl (by decide) v xs.length _ hs hown.2 b ys.length cap (ys.map (Value.int .u8)) hx (by simp) (reads_src hr').2 (ints_oneCell .u8 _) (by unfold maxLen; omega) (by omega) ?_
    intro v' w' hown' hg _ hk
    have hO : OwnB w' v' (xs ++ ys) := by
      refine ⟨fun z hz => ?_, ?_⟩
      · rcases List.mem_append.1 hz with q | q
        · exact hown.1 z q
        · exact hr'.1 z q
      · rw [List.length_append, List.map_append]
        exact hown'
    obtain ⟨x', c', e⟩ := own_len hO _ rfl
    subst e
    exact h x' _ c' w' hO (List.length_append) (Moved.grown hg (fun k e => mem_blkV.2 e) hk)
section
variable {L : Nat} {c : Cf} {y : Ly} {k : Lk} {w : World}
/-- Something was done to a link's buffer. -/
def BufD (L : Nat) (c : Cf) (y : Ly) (k : Lk) (out' : List Int) (w w' : World) : Prop := ∃ ov', LkM w' L c { y with ov := ov' } { k with out := out' } ∧ Moved w w' (y.foot L) (Ly.foot { y with ov := ov' } L)
theorem LkM.setOut {w2 : World} {v' : Value} {out' : List Int} (h : LkM w L c y k) (hk : LkOK c k) (m : Moved w w2 (blkV y.ov) (blkV v')) (ho : OwnB w2 v' out') : BufD L c y k out' w (w2.setCell ⟨L, 4, none⟩ v') := by
  have hn : L ∉ blkV v' := fun q => by
    rcases m.from' L q with e | e
    · exact h.ln e
    · have := h.b.lt; omega
  have hb2 : LkB w2 L y k.sq := (m.block L h.b.lt h.ln).trans h.b
  have hb3 : LkB (w2.setCell ⟨L, 4, none⟩ v') L { y with ov := v' } k.sq := Go.heap_setCell_same w2 L 4 _ 84 v' hb2
  refine ⟨v', h.buffer hk (w' := w2.setCell ⟨L, 4, none⟩ v') (sq' := k.sq) ?_ hb3 (ho.moved (Moved.set (S := [L]) (by simp) 4 v') (fun b q e => hn (by rw [← List.mem_singleton.1 e]; exact q))) hn⟩
  refine (m.sub (T := L :: blkV y.ov) (T' := L :: blkV v') (fun b q => List.mem_cons_of_mem _ q) (fun b q => ?_)).trans (Moved.set (by simp) 4 v')
  rcases List.mem_cons.1 q with rfl | q
  · exact .inr (by simp)
  · exact .inl q
set_option maxRecDepth 100000 in
theorem send_any (p : Value) (ps : List Int) (h : LkM w L c y k) (hk : LkOK c k) (hr : Reads w p ps) (hl : k.out.length + ps.length ≤ 1000000000) : Calls Tryz.prog 46 #[.pointer (some ⟨L, 0, none⟩), p] w fun e w' => e = .returned (.tuple #[]) ∧ BufD L c y k (k.out ++ ps) w w' := by
  have c4 := h.b.c4
  have f4 := h.b.free 4
  have hL := h.b.lt
  have HH := hid h
  have HR := hid hr
  obtain ⟨px, pn, pc, rfl⟩ := Tn.reads_any_slice hr
  obtain ⟨ox, on, oc, hov⟩ := own_slice h.out
  rw [hov] at c4
  have HO := hid (show OwnB w (.slice ox on oc) k.out by rw [← hov]; exact h.out)
  have HF := hid (fun x' n' c' w' (m : Moved w w' (blkV (.slice ox on oc)) (blkV (.slice x' n' c'))) (ho : OwnB w' (.slice x' n' c') (k.out ++ ps)) => show w'.cell? ⟨L, 4, none⟩ = some (.slice ox on oc) ∧ w'.frozen? ⟨L, 4, none⟩ = false ∧ BufD L c y k (k.out ++ ps) w (w'.setCell ⟨L, 4, none⟩ (.slice x' n' c')) by
    rw [← hov] at m
    have e : w'.heap[L]? = w.heap[L]? := m.block L h.b.lt h.ln
    refine ⟨(World.cell?_of_block e).trans c4, (World.frozen?_of_block e).trans f4, h.setOut hk m ho⟩)
  clear h hr hov
  go_enter Tryz.func46, Tryz.ntmps46
  go_wp2_with (first
    | (at_builtin; refine wpList_append_ob rfl _ _ rfl _ _ k.out ps rfl HO.out rfl HR.out hl ?_; intro x' n' c' w' ho' hn' hm'; obtain ⟨c4', f4', hbd⟩ := HF.out _ _ _ _ hm' ho'; have HBD := hid hbd; clear ho' hn' hm' hbd)
    | fail)
  go_end0
  exact ⟨rfl, HBD.out⟩
set_option maxRecDepth 100000 in
theorem say3_any (v o : Int) (w : World) (hv : 0 ≤ v ∧ v < 256) (ho : 0 ≤ o ∧ o < 256) : Calls Tryz.prog 129 #[.int .u8 v, .int .u8 o] w (OwnDone [255, v, o] w) := by
  go_enter Tryz.func129, Tryz.ntmps129
  go_wp2
  go_ret
  refine ⟨_, rfl, own_lit w #[.int .u8 255, .int .u8 v, .int .u8 o] 3 [255, v, o] ?_ rfl rfl (by omega) w.heap.size rfl, bal (Below.refl _ _) _, blk_lit w w.heap.size 3 3 (Nat.le_refl _)⟩
  intro x hx
  simp only [List.mem_cons, List.not_mem_nil, or_false] at hx
  rcases hx with rfl | rfl | rfl <;> omega
set_option maxRecDepth 100000 in
theorem mbytes_any (v o : Int) (w : World) (hv : 0 ≤ v ∧ v < 256) (ho : 0 ≤ o ∧ o < 256) : Calls Tryz.prog 113 #[.agg #[.int .u8 v, .int .u8 o]] w (OwnDone [255, v, o] w) := by
  have HS := hid (say3_any v o (w.alloc (.cells #[.int .u8 v, .int .u8 o] 191)) hv ho)
  go_enter Tryz.func113, Tryz.ntmps113
  go_wp2_with fail
  with_reducible refine HS.out.mono ?_
  rintro e w1 ⟨u, rfl, ho1, hb1, hk1⟩
  obtain ⟨x, n, cc, rfl⟩ := own_slice ho1
  have HO := hid ho1
  have HB := hid hb1
  have HK := hid hk1
  clear ho1 hb1 hk1
  go_wp2
  go_ret
  exact ⟨_, rfl, HO.out, below_t (bal (Below.refl _ _) _) HB.out, fun b q => Nat.le_trans (by simp) (HK.out b q)⟩
theorem verbN_byte (side say : Int) : 0 ≤ Op.verbN side say ∧ Op.verbN side say < 256 := by
  unfold Op.verbN
  repeat' split
  all_goals omega
set_option maxRecDepth 100000 in
set_option maxHeartbeats 2000000 in
theorem sendMessages_any (m : Value) (side say o : Int) (h : LkM w L c y k) (hk : LkOK c k) (hm : Op.Msg w m side say o) (ho : 0 ≤ o ∧ o < 256) (hl : k.out.length ≤ 100000000) : Calls Tryz.prog 98 #[.pointer (some ⟨L, 0, none⟩), m] w fun e w' => e = .returned (.tuple #[]) ∧ BufD L c y k (k.out ++ sayB side say o) w w' := by
  rcases hm with ⟨hs, rfl⟩ | ⟨hs, b, rfl, m0, m1⟩
  · have HX := hid (show BufD L c y k (k.out ++ sayB side say o) w w from ⟨y.ov, by unfold sayB; rw [if_pos hs, List.append_nil]; exact h, Moved.refl _ _⟩)
    clear h
    go_enter Tryz.func98, Tryz.ntmps98
    go_wp2
    go_loopw [8] (fun i w' => i = .int .i64 0 ∧ w' = w) (fun _ _ => 0)
    case atStart => exact ⟨rfl, rfl⟩
    case round =>
      obtain ⟨rfl, rfl⟩ := hrel
      go_wp2
      go_end0
      exact ⟨rfl, HX.out⟩
  · have hsb : sayB side say o = [255, Op.verbN side say, o] := by unfold sayB; rw [if_neg (by omega)]
    have hv := verbN_byte side say
    rw [hsb]
    clear hsb hs
    generalize Op.verbN side say = v at *
    have hb1 := bal (Below.refl w.heap.size w) (.cells #[.int .u8 v, .int .u8 o] 191)
    have HB := hid (mbytes_any v o (w.alloc (.cells #[.int .u8 v, .int .u8 o] 191)) hv ho)
    have HS := hid (fun (W : World) (p : Value) (hW : Below (w.alloc (.cells #[.int .u8 v, .int .u8 o] 191)).heap.size (w.alloc (.cells #[.int .u8 v, .int .u8 o] 191)) W) (hp : OwnB W p [255, v, o]) => send_any p [255, v, o] (h.step (below_t hb1 hW)) hk hp.reads (by show _ ≤ _; simp; omega))
    have HH := hid h
    have HW1 := hid hb1
    have hL := h.b.lt
    clear h hb1
    go_enter Tryz.func98, Tryz.ntmps98
    go_wp2
    go_loopw [8] (fun i w' => (i = .int .i64 0 ∧ w' = w) ∨ (i = .int .i64 1 ∧ Hid (BufD L c y k (k.out ++ [255, v, o]) w w'))) (fun i _ => 1 - (Lib.intOf i).toNat)
    case atStart => exact .inl ⟨rfl, rfl⟩
    case round =>
      rcases hrel with ⟨rfl, rfl⟩ | ⟨rfl, HD⟩
      · go_wp2_with fail
        with_reducible refine HB.out.mono ?_
        rintro e w2 ⟨u, rfl, ho2, hb2, hk2⟩
        have HS2 := hid (HS.out w2 u hb2 ho2)
        have HB2 := hid hb2
        obtain ⟨ux, un, uc, rfl⟩ := own_slice ho2
        clear hb2 ho2 hk2
        go_wp2_with fail
        with_reducible refine HS2.out.mono ?_
        rintro e w3 ⟨rfl, hbd⟩
        have HD : Hid (BufD L c y k (k.out ++ [255, v, o]) wr w3) := by
          obtain ⟨ov', h1, h2⟩ := hbd
          exact ⟨ov', h1, (Moved.below (below_t HW1.out HB2.out) _).trans h2⟩
        clear hbd
        go_wp2
        go_roundw
        case rel => exact .inr ⟨rfl, HD⟩
        case measure => simp [Lib.intOf]
      · go_wp2
        go_end0
        exact ⟨rfl, HD.out⟩
/-- What waits to go is given away. -/
def OutD (L : Nat) (c : Cf) (y : Ly) (k : Lk) (w : World) (e : Ending) (w' : World) : Prop := ∃ x n cc, e = .returned (.slice x n cc) ∧ OwnB w' (.slice x n cc) k.out ∧ BufD L c y k [] w w' ∧ (∀ b ∈ blkV (.slice x n cc), b ∈ blkV y.ov)
set_option maxRecDepth 100000 in
theorem out_any (h : LkM w L c y k) (hk : LkOK c k) : Calls Tryz.prog 14 #[.pointer (some ⟨L, 0, none⟩)] w (OutD L c y k w) := by
  have c4 := h.b.c4
  have f4 := h.b.free 4
  have hL := h.b.lt
  obtain ⟨ox, on, oc, hov⟩ := own_slice h.out
  rw [hov] at c4
  have HX := hid (show BufD L c y k [] w (w.setCell ⟨L, 4, none⟩ (.slice none 0 0)) from h.setOut hk (Moved.refl w _ |> fun m => ⟨m.os, m.tape, m.output, m.size, m.block, fun b q => by cases q⟩) (OwnB.nil w))
  have HO := hid (show OwnB (w.setCell ⟨L, 4, none⟩ (.slice none 0 0)) (.slice ox on oc) k.out by
    rw [← hov]
    exact h.out.moved (Moved.set (S := [L]) (by simp) 4 _) (fun b q e => h.ln (by rw [← List.mem_singleton.1 e]; exact q)))
  have HK := hid (show ∀ b ∈ blkV (.slice ox on oc), b ∈ blkV y.ov by rw [hov]; exact fun _ q => q)
  clear h hov
  go_enter Tryz.func14, Tryz.ntmps14
  go_wp2
  go_ret
  exact ⟨_, _, _, rfl, HO.out, HX.out, HK.out⟩
theorem out_nil : Calls Tryz.prog 14 #[.pointer none] w fun e w' => e = .returned (.slice none 0 0) ∧ w = w' := by
  go_enter Tryz.func14, Tryz.ntmps14
  go_wp2
  go_ret
  exact ⟨rfl, rfl⟩
end
end Go.Proofs.YtaanpnmgibcemaaGreatDoor
