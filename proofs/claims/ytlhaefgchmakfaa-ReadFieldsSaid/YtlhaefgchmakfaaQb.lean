/-
  What is sent, in memory; an address, a character added to it (modes 0 and 1).
-/
import Derived.Test.YtlhaefgchmakfaaQa
import Derived.Test.YtlhaefgchmakfaaPc
namespace Go.Proofs.Ytlhaefgchmakfaa
open Go.RowKit Go.Lib Go.Deep

theorem append_big {w : World} {v u : Value} {ys xs : List Int} (h : OwnB w v ys) (hu : Reads w u xs) (hn : ys.length + xs.length ≤ 100000000000) (ty : TypeId) :
    ∃ y cap w', (Builtin.append_ #[31, 31] ty #[v, u]).run Try.prog w = .ok (.slice y (ys ++ xs).length cap) w' ∧ OwnB w' (.slice y (ys ++ xs).length cap) (ys ++ xs) ∧ w.grownBy w' v.ownBlock ∧ ∀ k ∈ blkV (.slice y (ys ++ xs).length cap), k ∈ blkV v ∨ w.heap.size ≤ k := by
  rcases hu.2 with ⟨rfl, rfl⟩ | ⟨a, cap, rfl, _, _, _⟩
  · obtain ⟨x, c, rfl⟩ := own_len h ys.length rfl
    rw [List.append_nil]
    exact ⟨x, c, w, run_append_nothing w h.2 ty, h, ⟨rfl, rfl, rfl, Nat.le_refl _, fun _ _ _ => rfl⟩, fun k hk => .inl hk⟩
  · obtain ⟨i0, hi, hz0, hz1, hz2⟩ := info_parts info5
    have hsrc := (reads_src hu).2
    obtain ⟨v', w', h1, h2, h3, _, h5⟩ := run_append_blk (P := Try.prog) w 31 ty 5 i0 (.int .u8 0) 1 1 Try.underlying31 hi hz0 hz1 hz2 rfl (by decide) v ys.length _ h.2 a xs.length cap (xs.map (Value.int .u8)) (by simp) hsrc (ints_onec xs) (by unfold maxLen; omega) (by omega)
    have ho : OwnB w' v' (ys ++ xs) := ⟨fun z hz => (List.mem_append.1 hz).elim (h.1 z) (hu.1 z), by rw [List.map_append, List.length_append]; exact h2⟩
    obtain ⟨y, c, rfl⟩ := own_len ho _ rfl
    exact ⟨y, c, w', h1, ho, h3, h5⟩
theorem wpList_append_big {w : World} {ops : Array Oper} {rest : List Oper} {o : Oper} {a : Act} {Q : Exit → Act → World → Prop} (hgd : o.guard = none) (s x : Operand)
    (ho : o.op = .call { callee := .builtin .append, args := #[s, x], argTypes := #[31, 31] }) (v u : Value) (ys xs zs : List Int) (n : Nat) (hs : a.eval s = v) (hx : a.eval x = u) (h : OwnB w v ys) (hu : Reads w u xs) (hn : ys.length + xs.length ≤ 100000000000) (hz : ys ++ xs = zs) (hl : zs.length = n)
    (hk : ∀ y cap w', OwnB w' (.slice y n cap) zs → w.grownBy w' v.ownBlock → (∀ k ∈ blkV (.slice y n cap), k ∈ blkV v ∨ w.heap.size ≤ k) → wpList Try.prog ops Q rest (a.put o.dst (.slice y n cap)) w') : wpList Try.prog ops Q (o :: rest) a w := by
  subst hz hl
  refine wpList_plain hgd fun K hK => ?_
  obtain ⟨y, cap, w', hr, h2, h3, h4⟩ := append_big h hu hn o.type
  unfold Oper.wp execOp
  simp only [ho, resolve, invoke, builtin, Sem.run_bind, Sem.run_pure, Result.andThen_ok, List.map_toArray, List.map_cons, List.map_nil, hs, hx, hr]
  exact hK _ _ (hk y cap w' h2 h3 h4)
/-- What is sent so far: the block q holds the bytes' slice, the mode, and how the last character looked. -/
structure DtM (w : World) (q : Nat) (v : Value) (bs : List Int) (md : Int) (lk : Cel) : Prop where
  c0 : w.cell? ⟨q, 0, none⟩ = some v
  c1 : w.cell? ⟨q, 1, none⟩ = some (.int .i64 md)
  cl : ∀ i, i < 6 → w.cell? ⟨q, 2 + i, none⟩ = lk.cs[i]?
  fr : ∀ i, i < 8 → w.frozen? ⟨q, i, none⟩ = false
  ow : OwnB w v bs
  ap : ∀ k ∈ blkV v, k ≠ q
theorem DtM.lt {w : World} {q : Nat} {v : Value} {bs : List Int} {md : Int} {lk : Cel} (h : DtM w q v bs md lk) : q < w.heap.size := World.block_lt_of_cell? w _ h.c0
theorem DtM.moved {w w' : World} {q : Nat} {v : Value} {bs : List Int} {md : Int} {lk : Cel} {S S' : List Nat} (h : DtM w q v bs md lk) (m : Moved w w' S S') (hq : q ∉ S) (hv : ∀ k ∈ blkV v, k ∉ S) : DtM w' q v bs md lk :=
  ⟨cell_moved m h.c0 hq, cell_moved m h.c1 hq, fun i hi => (World.cell?_of_block (m.block _ h.lt hq)).trans (h.cl i hi), fun i hi => (World.frozen?_of_block (m.block _ h.lt hq)).trans (h.fr i hi), h.ow.moved m hv, h.ap⟩
theorem DtM.step {w w' : World} {q : Nat} {v : Value} {bs : List Int} {md : Int} {lk : Cel} (h : DtM w q v bs md lk) (hb : Below w.heap.size w w') : DtM w' q v bs md lk :=
  h.moved (Moved.below hb []) (fun q => by cases q) (fun _ _ q => by cases q)
/-- Bytes added and the slice stored. -/
theorem DtM.grow {w w1 : World} {q : Nat} {v : Value} {bs : List Int} {md : Int} {lk : Cel} (h : DtM w q v bs md lk) (v' : Value) (bs' : List Int) (ho : OwnB w1 v' bs') (hg : w.grownBy w1 v.ownBlock) (hb : ∀ k ∈ blkV v', k ∈ blkV v ∨ w.heap.size ≤ k) :
    DtM (w1.setCell ⟨q, 0, none⟩ v') q v' bs' md lk ∧ Moved w (w1.setCell ⟨q, 0, none⟩ v') (q :: blkV v) (q :: blkV v') := by
  have hm : Moved w w1 (blkV v) (blkV v') := Moved.grown hg (fun k hk => mem_blkV.2 hk) hb
  have hqv : q ∉ blkV v := fun e => h.ap q e rfl
  have hap : ∀ k ∈ blkV v', k ≠ q := fun k hk e => by
    rcases hb k hk with r | r
    · exact h.ap k r e
    · have := h.lt; omega
  have c0 := cell_moved hm h.c0 hqv
  have c1 := cell_moved hm h.c1 hqv
  have hfr : ∀ i, i < 8 → w1.frozen? ⟨q, i, none⟩ = false := fun i hi => (World.frozen?_of_block (hm.block _ h.lt hqv)).trans (h.fr i hi)
  have hcl : ∀ i, i < 6 → w1.cell? ⟨q, 2 + i, none⟩ = lk.cs[i]? := fun i hi => (World.cell?_of_block (hm.block _ h.lt hqv)).trans (h.cl i hi)
  have hs : Moved w1 (w1.setCell ⟨q, 0, none⟩ v') [q] [q] := Moved.set (List.mem_singleton_self q) _ _
  refine ⟨⟨World.cell?_setCell_same _ _ _ c0, ?_, fun i hi => ?_, fun i hi => by simp [hfr i hi], ho.moved hs (fun k hk e => hap k hk (List.mem_singleton.1 e)), hap⟩, ?_⟩
  · rw [World.cell?_setCell_other _ _ _ _ (fun e => by injection e; omega)]; exact c1
  · rw [World.cell?_setCell_other _ _ _ _ (fun e => by injection e; omega)]; exact hcl i hi
  · have m1 : Moved w w1 (q :: blkV v) (q :: blkV v') := hm.sub (fun k hk => List.mem_cons_of_mem _ hk) (fun k hk => by
      rcases List.mem_cons.1 hk with rfl | hk
      · exact .inr List.mem_cons_self
      · exact .inl hk)
    exact m1.trans (Moved.set List.mem_cons_self _ _)
/-- More was added to what is sent. -/
def DtD (q : Nat) (v : Value) (bs : List Int) (md : Int) (lk : Cel) (w : World) (e : Ending) (w' : World) : Prop := (∃ u, e = .returned u) ∧ ∃ v', DtM w' q v' bs md lk ∧ Moved w w' (q :: blkV v) (q :: blkV v')
theorem dtd_moved {w w1 w' : World} {q : Nat} {v : Value} {bs : List Int} {md : Int} {lk : Cel} (hb : Below w.heap.size w w1) {e : Ending} (h : DtD q v bs md lk w1 e w') : DtD q v bs md lk w e w' := by
  obtain ⟨h1, v', h2, h3⟩ := h
  exact ⟨h1, v', h2, (Moved.below hb _).trans h3⟩
theorem own_byte0 (w : World) (c : Int) (hc : 0 ≤ c ∧ c < 256) : OwnB (w.alloc (.cells #[.int .u8 c] 5)) (.slice (some ⟨w.heap.size, 0, none⟩) 1 1) [c] :=
  own_lit w #[.int .u8 c] 1 [c] (fun x hx => by rw [List.mem_singleton.1 hx]; exact hc) rfl rfl (by decide) _ rfl
section
variable {q : Nat} {v : Value} {bs : List Int} {md : Int} {lk : Cel}
set_option maxRecDepth 100000 in
set_option maxHeartbeats 2000000 in
theorem addr_add_any (n : Int) (hn : okA n = true) (w : World) (h : DtM w q v bs md lk) (hl : bs.length ≤ 95000000000) : Calls Try.prog 73 #[.pointer (some ⟨q, 0, none⟩), .int .i64 n] w (DtD q v (bs ++ encZ n) md lk w) := by
  have HE := hid (fun W => enc_any n W)
  unfold EncD at HE
  rw [hn, if_pos rfl, if_pos rfl] at HE
  have HD := hid h
  have hlt := h.lt
  obtain ⟨xv, nv, cv, rfl⟩ := own_slice h.ow
  have HSZ := hid (show bs.length + (encZ n).length ≤ 100000000000 by simp [encZ]; omega)
  obtain ⟨N, hN⟩ : ∃ N, (bs ++ encZ n).length = N := ⟨_, rfl⟩
  have HNN := hid hN
  clear h hN hn hl
  go_enter Try.func73, Try.ntmps73
  go_wp2_with fail
  with_reducible refine (HE.out _).mono ?_
  rintro e w1 ⟨u, rfl, ho, -, hb⟩
  obtain ⟨xu, cu, rfl⟩ := own_len ho 2 rfl
  have HU := hid ho.reads
  have HD1 := hid (HD.out.step hb)
  have HB1 := hid hb
  have hc0 := HD1.out.c0
  clear ho hb
  go_wp2_with (first
    | (at_builtin; refine wpList_append_big rfl (.tmp 15) (.tmp 16) rfl (.slice xv nv cv) (.slice xu 2 cu) bs (encZ n) _ N rfl rfl HD1.out.ow HU.out HSZ.out rfl HNN.out ?_; intro y3 c3 w3 h3 g3 k3; have hqv : q ∉ blkV (.slice xv nv cv) := fun e => HD1.out.ap q e rfl; have hm3 := Moved.grown g3 (fun k hk => mem_blkV.2 hk) (fun k hk => k3 k hk); have hq0 := cell_moved hm3 hc0 hqv; have hf0 := (World.frozen?_of_block (hm3.block _ HD1.out.lt hqv)).trans (HD1.out.fr 0 (by omega)); have hl3 := World.block_lt_of_cell? w3 _ hq0; have HG := hid (HD1.out.grow _ _ h3 g3 k3); clear h3 g3 k3 hqv hm3))
  go_end0
  exact dtd_moved HB1.out ⟨⟨_, rfl⟩, _, HG.out.1, HG.out.2⟩
/-- A character's bytes, where display attributes aren't told. -/
def chrB (c : Cel) : List Int := (if c.se = 241 then [8] else []) ++ [if isO c.ch then 63 else c.ch]
def mdcB (c : Cel) : List Int := if c.ch = 0 then [] else chrB c
theorem chrB_len (c : Cel) : (chrB c).length ≤ 2 := by unfold chrB; split <;> simp
theorem mdcB_len (c : Cel) : (mdcB c).length ≤ 2 := by unfold mdcB; split; simp; exact chrB_len c
set_option maxRecDepth 100000 in
set_option maxHeartbeats 2000000 in
theorem begins_sba (n : Int) (hn : okA n = true) (w : World) (h : DtM w q v bs md lk) (hl : bs.length ≤ 90000000000) : Calls Try.prog 77 #[.pointer (some ⟨q, 0, none⟩), .int .i64 n] w (DtD q v (bs ++ 17 :: encZ n) md lk w) := by
  have HAD := hid (fun v' W (hd : DtM W q v' (bs ++ [17]) md lk) => addr_add_any n hn W hd (by simp; omega))
  have hlt := h.lt
  have hc0 := h.c0
  obtain ⟨xv, nv, cv, rfl⟩ := own_slice h.ow
  have HB := hid (bal (Below.refl w.heap.size w) (.cells #[.int .u8 17] 5))
  have HD := hid (h.step HB.out)
  have HU := hid (own_lit w #[.int .u8 17] 1 [17] (by decide) rfl rfl (by decide) _ rfl).reads
  have HSZ := hid (show bs.length + [(17 : Int)].length ≤ 100000000000 by simp; omega)
  obtain ⟨N, hN⟩ : ∃ N, (bs ++ [(17 : Int)]).length = N := ⟨_, rfl⟩
  have HNN := hid hN
  have HE := hid (show bs ++ [17] ++ encZ n = bs ++ 17 :: encZ n by simp)
  clear h hN hn hl
  go_enter Try.func77, Try.ntmps77
  go_wp2_with (at_builtin; refine wpList_append_big rfl (.tmp 8) (.tmp 9) rfl (.slice xv nv cv) (.slice (some ⟨w.heap.size, 0, none⟩) 1 1) _ [17] _ N rfl rfl HD.out.ow HU.out HSZ.out rfl HNN.out ?_; intro y3 c3 w3 h3 g3 k3; have hqv : q ∉ blkV (.slice xv nv cv) := fun e => HD.out.ap q e rfl; have hm3 := Moved.grown g3 (fun k hk => mem_blkV.2 hk) (fun k hk => k3 k hk); have hq3 := cell_moved hm3 HD.out.c0 hqv; have hf3 := (World.frozen?_of_block (hm3.block _ HD.out.lt hqv)).trans (HD.out.fr 0 (by omega)); have hl3 := World.block_lt_of_cell? w3 _ hq3; have HG3 := hid (HD.out.grow _ _ h3 g3 k3); clear h3 g3 k3 hqv hm3)
  generalize w3.setCell ⟨q, 0, none⟩ (.slice y3 N c3) = W4 at HG3 ⊢
  obtain ⟨hd4, hm4⟩ := HG3.out
  have HM4 := hid ((Moved.below HB.out (q :: blkV (.slice xv nv cv))).trans hm4)
  with_reducible refine (HAD.out _ _ hd4).mono ?_
  rintro e w5 ⟨⟨u, rfl⟩, v5, hd5, hm5⟩
  have HF := hid (show DtD q (.slice xv nv cv) (bs ++ 17 :: encZ n) md lk w (.returned (.tuple #[])) w5 from ⟨⟨_, rfl⟩, v5, by rw [← HE.out]; exact hd5, HM4.out.trans hm5⟩)
  clear hd4 hm4 hd5 hm5
  go_wp2
  go_end0
  exact HF.out
set_option maxRecDepth 100000 in
set_option maxHeartbeats 4000000 in
theorem chr_any (c : Cel) (hc : c.OK) (hmd : (md == 2) = false) (w : World) (h : DtM w q v bs md lk) (hl : bs.length ≤ 90000000000) : Calls Try.prog 82 #[.pointer (some ⟨q, 0, none⟩), c.v] w (DtD q v (bs ++ chrB c) md lk w) := by
  obtain ⟨ch, at_, fa, hi, co, se⟩ := c
  have hu := hc.ch
  have HIS := hid (fun W => is_one ch hu W)
  have HD0 := hid h
  have hq := h.lt
  have hqw : ¬(w.heap.size = q) := by omega
  have hvb := h.ow.lt
  obtain ⟨xv, nv, cv, rfl⟩ := own_slice h.ow
  have HB := hid (bal (Below.refl w.heap.size w) (.cells #[.int .u8 ch, .bool at_, .int .u8 fa, .int .u8 hi, .int .u8 co, .int .u8 se] 48))
  have HD := hid (h.step HB.out)
  have HBX := hid (show (w.alloc (.cells #[.int .u8 ch, .bool at_, .int .u8 fa, .int .u8 hi, .int .u8 co, .int .u8 se] 48)).cell? ⟨w.heap.size, 0, none⟩ = some (.int .u8 ch) by simp [go_sem])
  have HQ := hid (show w.heap.size ∉ q :: blkV (.slice xv nv cv) from fun e => by
    rcases List.mem_cons.1 e with e | e
    · omega
    · have := hvb _ e; omega)
  have hc1 := h.c1
  have hc0 := h.c0
  clear h hc hvb
  show Calls Try.prog 82 #[.pointer (some ⟨q, 0, none⟩), .agg #[.int .u8 ch, .bool at_, .int .u8 fa, .int .u8 hi, .int .u8 co, .int .u8 se]] w _
  by_cases hse : se = 241
  · subst hse
    have HB2 := hid (bal HB.out (.cells #[.int .u8 8] 5))
    have HD2 := hid (HD.out.step (bal (Below.refl _ _) (.cells #[.int .u8 8] 5)))
    have HU := hid (own_lit (w.alloc (.cells #[.int .u8 ch, .bool at_, .int .u8 fa, .int .u8 hi, .int .u8 co, .int .u8 241] 48)) #[.int .u8 8] 1 [8] (by decide) rfl rfl (by decide) _ rfl).reads
    rw [show (w.alloc (.cells #[.int .u8 ch, .bool at_, .int .u8 fa, .int .u8 hi, .int .u8 co, .int .u8 241] 48)).heap.size = w.heap.size + 1 by simp] at HU
    have HSZ := hid (show bs.length + [(8 : Int)].length ≤ 100000000000 by simp; omega)
    obtain ⟨N, hN⟩ : ∃ N, (bs ++ [(8 : Int)]).length = N := ⟨_, rfl⟩
    have HNN := hid hN
    have HBX2 := hid (keepc (bal (Below.refl _ _) (.cells #[.int .u8 8] 5)) HBX.out)
    clear hN
    cases hio : isO ch
    · rw [hio] at HIS
      have hE : chrB ⟨ch, at_, fa, hi, co, 241⟩ = [8, ch] := by unfold chrB; rw [hio]; simp
      rw [hE]
      clear hE hio
      have HSZ5 := hid (show (bs ++ [8]).length + [(ch : Int)].length ≤ 100000000000 by simp; omega)
      obtain ⟨N5, hN5⟩ : ∃ N, ((bs ++ [8]) ++ [(ch : Int)]).length = N := ⟨_, rfl⟩
      have HNN5 := hid hN5
      clear hN5
      go_enter Try.func82, Try.ntmps82
      go_wp2_with (first
        | (at_builtin; refine wpList_append_big rfl (.tmp 20) (.tmp 21) rfl (.slice xv nv cv) (.slice (some ⟨w.heap.size + 1, 0, none⟩) 1 1) _ [8] _ N rfl rfl HD2.out.ow HU.out HSZ.out rfl HNN.out ?_; intro y3 c3 w3 h3 g3 k3; have hqv : q ∉ blkV (.slice xv nv cv) := fun e => HD2.out.ap q e rfl; have hm3 := Moved.grown g3 (fun k hk => mem_blkV.2 hk) (fun k hk => k3 k hk); have hq3 := cell_moved hm3 HD2.out.c0 hqv; have hf3 := (World.frozen?_of_block (hm3.block _ HD2.out.lt hqv)).trans (HD2.out.fr 0 (by omega)); have hl3 := World.block_lt_of_cell? w3 _ hq3; have HG3 := hid (HD2.out.grow _ _ h3 g3 k3); have HD4 := hid HG3.out.1; have HM4 := hid ((Moved.below HB2.out (q :: blkV (.slice xv nv cv))).trans HG3.out.2); have hbx3 := cell_moved hm3 HBX2.out (fun e => HQ.out (List.mem_cons_of_mem _ e)); have HB5 := hid (bal (Below.refl (w3.setCell ⟨q, 0, none⟩ (.slice y3 N c3)).heap.size (w3.setCell ⟨q, 0, none⟩ (.slice y3 N c3))) (.cells #[.int .u8 ch] 5)); have HD5 := hid (HD4.out.step HB5.out); have HU5 := hid (own_byte0 (w3.setCell ⟨q, 0, none⟩ (.slice y3 N c3)) ch hu).reads; rw [show (w3.setCell ⟨q, 0, none⟩ (.slice y3 N c3)).heap.size = w3.heap.size by simp] at HU5; clear h3 g3 k3 hqv hm3)
        | (go_at_call 103; (with_reducible refine (HIS.out _).mono ?_); rintro e w7 ⟨rfl, rfl⟩)
        | (at_builtin; refine wpList_append_big rfl (.tmp 33) (.tmp 35) rfl (.slice y3 N c3) (.slice (some ⟨w3.heap.size, 0, none⟩) 1 1) _ [ch] _ N5 rfl rfl HD5.out.ow HU5.out HSZ5.out rfl HNN5.out ?_; intro y6 c6 w6 h6 g6 k6; have hqv : q ∉ blkV (.slice y3 N c3) := fun e => HD5.out.ap q e rfl; have hm6 := Moved.grown g6 (fun k hk => mem_blkV.2 hk) (fun k hk => k6 k hk); have hq6 := cell_moved hm6 HD5.out.c0 hqv; have hf6 := (World.frozen?_of_block (hm6.block _ HD5.out.lt hqv)).trans (HD5.out.fr 0 (by omega)); have hl6 := World.block_lt_of_cell? w6 _ hq6; have HG6 := hid (HD5.out.grow _ _ h6 g6 k6); clear h6 g6 k6 hqv))
      generalize w6.setCell ⟨q, 0, none⟩ (.slice y6 N5 c6) = W8 at HG6 ⊢
      have HF := hid (show DtD q (.slice xv nv cv) (bs ++ [8, ch]) md lk w (.returned (.tuple #[])) W8 from ⟨⟨_, rfl⟩, _, by have q := HG6.out.1; rw [List.append_assoc] at q; exact q, HM4.out.trans ((Moved.below HB5.out _).trans HG6.out.2)⟩)
      go_end0
      exact HF.out
    · rw [hio] at HIS
      have hE : chrB ⟨ch, at_, fa, hi, co, 241⟩ = [8, 63] := by unfold chrB; rw [hio]; simp
      rw [hE]
      clear hE hio
      have HSZ5 := hid (show (bs ++ [8]).length + [(63 : Int)].length ≤ 100000000000 by simp; omega)
      obtain ⟨N5, hN5⟩ : ∃ N, ((bs ++ [8]) ++ [(63 : Int)]).length = N := ⟨_, rfl⟩
      have HNN5 := hid hN5
      clear hN5
      go_enter Try.func82, Try.ntmps82
      go_wp2_with (first
        | (at_builtin; refine wpList_append_big rfl (.tmp 20) (.tmp 21) rfl (.slice xv nv cv) (.slice (some ⟨w.heap.size + 1, 0, none⟩) 1 1) _ [8] _ N rfl rfl HD2.out.ow HU.out HSZ.out rfl HNN.out ?_; intro y3 c3 w3 h3 g3 k3; have hqv : q ∉ blkV (.slice xv nv cv) := fun e => HD2.out.ap q e rfl; have hm3 := Moved.grown g3 (fun k hk => mem_blkV.2 hk) (fun k hk => k3 k hk); have hq3 := cell_moved hm3 HD2.out.c0 hqv; have hf3 := (World.frozen?_of_block (hm3.block _ HD2.out.lt hqv)).trans (HD2.out.fr 0 (by omega)); have hl3 := World.block_lt_of_cell? w3 _ hq3; have HG3 := hid (HD2.out.grow _ _ h3 g3 k3); have HD4 := hid HG3.out.1; have HM4 := hid ((Moved.below HB2.out (q :: blkV (.slice xv nv cv))).trans HG3.out.2); have hbx3 := cell_moved hm3 HBX2.out (fun e => HQ.out (List.mem_cons_of_mem _ e)); have HB5 := hid (bal (Below.refl (w3.setCell ⟨q, 0, none⟩ (.slice y3 N c3)).heap.size (w3.setCell ⟨q, 0, none⟩ (.slice y3 N c3))) (.cells #[.int .u8 63] 5)); have HD5 := hid (HD4.out.step HB5.out); have HU5 := hid (own_byte0 (w3.setCell ⟨q, 0, none⟩ (.slice y3 N c3)) 63 (by decide)).reads; rw [show (w3.setCell ⟨q, 0, none⟩ (.slice y3 N c3)).heap.size = w3.heap.size by simp] at HU5; clear h3 g3 k3 hqv hm3)
        | (go_at_call 103; (with_reducible refine (HIS.out _).mono ?_); rintro e w7 ⟨rfl, rfl⟩)
        | (at_builtin; refine wpList_append_big rfl (.tmp 33) (.tmp 35) rfl (.slice y3 N c3) (.slice (some ⟨w3.heap.size, 0, none⟩) 1 1) _ [63] _ N5 rfl rfl HD5.out.ow HU5.out HSZ5.out rfl HNN5.out ?_; intro y6 c6 w6 h6 g6 k6; have hqv : q ∉ blkV (.slice y3 N c3) := fun e => HD5.out.ap q e rfl; have hm6 := Moved.grown g6 (fun k hk => mem_blkV.2 hk) (fun k hk => k6 k hk); have hq6 := cell_moved hm6 HD5.out.c0 hqv; have hf6 := (World.frozen?_of_block (hm6.block _ HD5.out.lt hqv)).trans (HD5.out.fr 0 (by omega)); have hl6 := World.block_lt_of_cell? w6 _ hq6; have HG6 := hid (HD5.out.grow _ _ h6 g6 k6); clear h6 g6 k6 hqv))
      generalize w6.setCell ⟨q, 0, none⟩ (.slice y6 N5 c6) = W8 at HG6 ⊢
      have HF := hid (show DtD q (.slice xv nv cv) (bs ++ [8, 63]) md lk w (.returned (.tuple #[])) W8 from ⟨⟨_, rfl⟩, _, by have q := HG6.out.1; rw [List.append_assoc] at q; exact q, HM4.out.trans ((Moved.below HB5.out _).trans HG6.out.2)⟩)
      go_end0
      exact HF.out
  · have ese : (se == 241) = false := by simpa using hse
    clear hse
    cases hio : isO ch
    · rw [hio] at HIS
      have hE : chrB ⟨ch, at_, fa, hi, co, se⟩ = [ch] := by unfold chrB; rw [hio]; simp; simpa using ese
      rw [hE]
      clear hE hio
      go_enter Try.func82, Try.ntmps82
      go_wp2_with fail
      have hbx4 := HBX.out
      have HB5 := hid (bal (Below.refl (w.alloc (.cells #[.int .u8 ch, .bool at_, .int .u8 fa, .int .u8 hi, .int .u8 co, .int .u8 se] 48)).heap.size (w.alloc (.cells #[.int .u8 ch, .bool at_, .int .u8 fa, .int .u8 hi, .int .u8 co, .int .u8 se] 48))) (.cells #[.int .u8 ch] 5))
      have HD5 := hid (HD.out.step HB5.out)
      have HU5 := hid (own_byte0 (w.alloc (.cells #[.int .u8 ch, .bool at_, .int .u8 fa, .int .u8 hi, .int .u8 co, .int .u8 se] 48)) ch hu).reads
      rw [show (w.alloc (.cells #[.int .u8 ch, .bool at_, .int .u8 fa, .int .u8 hi, .int .u8 co, .int .u8 se] 48)).heap.size = w.heap.size + 1 by simp] at HU5
      have HSZ5 := hid (show (bs).length + [(ch : Int)].length ≤ 100000000000 by simp; omega)
      obtain ⟨N5, hN5⟩ : ∃ N, ((bs) ++ [(ch : Int)]).length = N := ⟨_, rfl⟩
      have HNN5 := hid hN5
      clear hN5
      go_wp2_with (first
        | (go_at_call 103; (with_reducible refine (HIS.out _).mono ?_); rintro e w7 ⟨rfl, rfl⟩)
        | (at_builtin; refine wpList_append_big rfl (.tmp 33) (.tmp 35) rfl (.slice xv nv cv) (.slice (some ⟨w.heap.size + 1, 0, none⟩) 1 1) _ [ch] _ N5 rfl rfl HD5.out.ow HU5.out HSZ5.out rfl HNN5.out ?_; intro y6 c6 w6 h6 g6 k6; have hqv : q ∉ blkV (.slice xv nv cv) := fun e => HD5.out.ap q e rfl; have hm6 := Moved.grown g6 (fun k hk => mem_blkV.2 hk) (fun k hk => k6 k hk); have hq6 := cell_moved hm6 HD5.out.c0 hqv; have hf6 := (World.frozen?_of_block (hm6.block _ HD5.out.lt hqv)).trans (HD5.out.fr 0 (by omega)); have hl6 := World.block_lt_of_cell? w6 _ hq6; have HG6 := hid (HD5.out.grow _ _ h6 g6 k6); clear h6 g6 k6 hqv))
      generalize w6.setCell ⟨q, 0, none⟩ (.slice y6 N5 c6) = W8 at HG6 ⊢
      have HF := hid (show DtD q (.slice xv nv cv) (bs ++ [ch]) md lk w (.returned (.tuple #[])) W8 from ⟨⟨_, rfl⟩, _, by have q := HG6.out.1; exact q, (Moved.below (below_t HB.out HB5.out) _).trans HG6.out.2⟩)
      clear hq6 hf6 hl6 hm6
      go_end0
      exact HF.out
    · rw [hio] at HIS
      have hE : chrB ⟨ch, at_, fa, hi, co, se⟩ = [63] := by unfold chrB; rw [hio]; simp; simpa using ese
      rw [hE]
      clear hE hio
      go_enter Try.func82, Try.ntmps82
      go_wp2_with fail
      have hbx4 := HBX.out
      have HB5 := hid (bal (Below.refl (w.alloc (.cells #[.int .u8 ch, .bool at_, .int .u8 fa, .int .u8 hi, .int .u8 co, .int .u8 se] 48)).heap.size (w.alloc (.cells #[.int .u8 ch, .bool at_, .int .u8 fa, .int .u8 hi, .int .u8 co, .int .u8 se] 48))) (.cells #[.int .u8 63] 5))
      have HD5 := hid (HD.out.step HB5.out)
      have HU5 := hid (own_byte0 (w.alloc (.cells #[.int .u8 ch, .bool at_, .int .u8 fa, .int .u8 hi, .int .u8 co, .int .u8 se] 48)) 63 (by decide)).reads
      rw [show (w.alloc (.cells #[.int .u8 ch, .bool at_, .int .u8 fa, .int .u8 hi, .int .u8 co, .int .u8 se] 48)).heap.size = w.heap.size + 1 by simp] at HU5
      have HSZ5 := hid (show (bs).length + [(63 : Int)].length ≤ 100000000000 by simp; omega)
      obtain ⟨N5, hN5⟩ : ∃ N, ((bs) ++ [(63 : Int)]).length = N := ⟨_, rfl⟩
      have HNN5 := hid hN5
      clear hN5
      go_wp2_with (first
        | (go_at_call 103; (with_reducible refine (HIS.out _).mono ?_); rintro e w7 ⟨rfl, rfl⟩)
        | (at_builtin; refine wpList_append_big rfl (.tmp 33) (.tmp 35) rfl (.slice xv nv cv) (.slice (some ⟨w.heap.size + 1, 0, none⟩) 1 1) _ [63] _ N5 rfl rfl HD5.out.ow HU5.out HSZ5.out rfl HNN5.out ?_; intro y6 c6 w6 h6 g6 k6; have hqv : q ∉ blkV (.slice xv nv cv) := fun e => HD5.out.ap q e rfl; have hm6 := Moved.grown g6 (fun k hk => mem_blkV.2 hk) (fun k hk => k6 k hk); have hq6 := cell_moved hm6 HD5.out.c0 hqv; have hf6 := (World.frozen?_of_block (hm6.block _ HD5.out.lt hqv)).trans (HD5.out.fr 0 (by omega)); have hl6 := World.block_lt_of_cell? w6 _ hq6; have HG6 := hid (HD5.out.grow _ _ h6 g6 k6); clear h6 g6 k6 hqv))
      generalize w6.setCell ⟨q, 0, none⟩ (.slice y6 N5 c6) = W8 at HG6 ⊢
      have HF := hid (show DtD q (.slice xv nv cv) (bs ++ [63]) md lk w (.returned (.tuple #[])) W8 from ⟨⟨_, rfl⟩, _, by have q := HG6.out.1; exact q, (Moved.below (below_t HB.out HB5.out) _).trans HG6.out.2⟩)
      clear hq6 hf6 hl6 hm6
      go_end0
      exact HF.out
end
end Go.Proofs.Ytlhaefgchmakfaa
