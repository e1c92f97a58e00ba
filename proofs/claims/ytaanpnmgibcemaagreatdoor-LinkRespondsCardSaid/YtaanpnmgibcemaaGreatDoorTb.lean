/-
  telnet: the reader takes a byte, and bytes; merging.
-/
import Derived.Test.YtaanpnmgibcemaaGreatDoorTa
import Derived.Laws.BitsLemmas
namespace Go.Proofs.YtaanpnmgibcemaaGreatDoor.Tn
/-! XFg -/
section
open Go.RowKit Go.Lib
theorem set_ownB {w : World} {R : Nat} {d : Value} {ds : List Int} (h : OwnB w d ds) (hR : R ∉ blkV d) (i : Nat) (u : Value) : OwnB (w.setCell ⟨R, i, none⟩ u) d ds :=
  h.moved (Moved.set (S := [R]) (by simp) i u) (fun k hk q => hR (by rw [← List.mem_singleton.1 q]; exact hk))
/-- A subnegotiation is given away. -/
theorem take_sub {R : Nat} {d v v' : Value} {xs : List (Ev × Value)} {ev : Ev} {w w1 w3 : World} {ob : Obj} (h : OwnL w v xs) (hd : OwnB w d ev.data) (ha : ∀ k ∈ R :: blkV d, k ∉ blks v xs) (ho : R ∉ blkV d) (m1 : Moved w w1 [R] [R]) (hr : RIn w1 R (.slice none 0 0) .between)
    (hrow : w3.ownsRow 0 123 6 v' (xs.length + 1) (cellsE xs ++ evC ev d)) (hg : (w1.alloc ob).grownBy w3 v.ownBlock) (hb : ∀ k ∈ blkV v', k ∈ blkV v ∨ (w1.alloc ob).heap.size ≤ k) :
    Own3 w3 R (.slice none 0 0) .between v' (xs ++ [(ev, d)]) ∧ Moved w w3 (foot R d v xs) (foot R (.slice none 0 0) v' (xs ++ [(ev, d)])) := by
  have hRx : R ∉ blks v xs := ha R (by simp)
  have h1 : OwnL (w1.alloc ob) v xs := (h.moved m1 (fun k hk q => hRx (by rw [← List.mem_singleton.1 q]; exact hk))).moved (Moved.alloc w1 ob []) (fun _ _ q => by cases q)
  have hd1 : OwnB (w1.alloc ob) d ev.data := (hd.moved m1 (fun k hk q => ho (by rw [← List.mem_singleton.1 q]; exact hk))).moved (Moved.alloc w1 ob []) (fun _ _ q => by cases q)
  have hr1 : RIn (w1.alloc ob) R (.slice none 0 0) .between := hr.moved (Moved.alloc w1 ob []) (fun _ _ q => by cases q)
  have r := h1.snoc hd1 (fun k hk => ha k (List.mem_cons_of_mem _ hk)) hrow hg hb
  have hRb : R ∉ blks v xs ++ blkV d := fun q => by
    rcases List.mem_append.1 q with q | q
    · exact hRx q
    · exact ho q
  refine ⟨⟨hr1.moved r.2 (fun k hk => ?_), r.1, fun k hk q => ?_, nil_notin R⟩, ?_⟩
  · have : k = R := by simpa [blkV, Value.ownBlock] using hk
    rw [this]; exact hRb
  · have e : k = R := by simpa [blkV, Value.ownBlock] using hk
    subst e
    rcases r.2.from' k q with q | q
    · exact hRb q
    · have := hr1.lt; omega
  · refine ((m1.trans (Moved.alloc w1 ob [R])).sub (T := foot R d v xs) (T' := foot R d v xs) (fun k hk => ?_) (fun k hk => .inr hk)).trans (r.2.sub (fun k hk => ?_) (fun k hk => ?_))
    · rw [List.mem_singleton.1 hk]; simp [foot]
    · rcases List.mem_append.1 hk with q | q
      · exact List.mem_append.2 (.inr q)
      · exact List.mem_append.2 (.inl (List.mem_cons_of_mem _ q))
    · rcases List.mem_append.1 hk with q | q
      · have e : k = R := by simpa [blkV, Value.ownBlock] using q
        exact .inr (by rw [e]; simp [foot])
      · exact .inl q
theorem take_more {R : Nat} {d d1 v v1 : Value} {xs xs1 : List (Ev × Value)} {ev : Ev} {r : St × List Ev} {w w1 w' : World} {e : Ending} (m : Moved w w1 (foot R d v xs) (foot R d1 v1 xs1)) (hx : xs1.map (·.1) = mstep (xs.map (·.1)) ev) (h : TakePost R d1 v1 xs1 r w1 e w') : TakePost R d v xs (r.1, ev :: r.2) w e w' := by
  obtain ⟨v', xs', d', rfl, h1, h2, h3⟩ := h
  exact ⟨v', xs', d', rfl, h1, by rw [h2, hx]; rfl, m.trans h3⟩
theorem take_one {R : Nat} {d d1 v v1 : Value} {xs xs1 : List (Ev × Value)} {ev : Ev} {st : St} {w w1 : World} (m : Moved w w1 (foot R d v xs) (foot R d1 v1 xs1)) (hx : xs1.map (·.1) = mstep (xs.map (·.1)) ev) (h : Own3 w1 R d1 st v1 xs1) : TakePost R d v xs (st, [ev]) w (.returned v1) w1 :=
  ⟨v1, xs1, d1, rfl, h, hx, m⟩
theorem mstep_snoc {xs : List (Ev × Value)} {ev : Ev} {d : Value} (h : ¬ ev.kind = 0) : (xs ++ [(ev, d)]).map (·.1) = mstep (xs.map (·.1)) ev := by
  rw [map_snoc, mstep_ev _ h]
set_option maxRecDepth 100000 in
set_option maxHeartbeats 2000000 in
theorem inSub_any (R : Nat) (vb o b : Int) (d v : Value) (ds : List Int) (lg : Bool) (xs : List (Ev × Value)) (w : World) (hr : Rdr w R 5 vb 3 o d lg false) (hd : OwnB w d ds) (hl : ds.length ≤ 256) (h : OwnL w v xs) (ha : ∀ k ∈ R :: blkV d, k ∉ blks v xs) (ho : R ∉ blkV d) (hb : 0 ≤ b ∧ b < 256) (hn : xs.length ≤ 999999) (hx : ∀ x ∈ xs, x.1.data.length ≤ 1000000) :
    Calls Tryz.prog 108 #[.pointer (some ⟨R, 0, none⟩), v, .int .u8 b] w (TakePost R d v xs (stepS (.subIac o ds lg) b) w) := by
  have HR := hid hr
  have HD := hid hd
  have HO := hid h
  have HA := hid ha
  have HNO := hid ho
  have c0 := hr.c0
  have f0 := hr.free 0
  have f7 := hr.free 7
  have c7 := hr.c7
  have hlr := hr.lt
  by_cases e1 : b = 255
  · have es : stepS (.subIac o ds lg) b = (keepS o ds lg b, []) := by simp only [stepS, if_pos e1]
    rw [es]
    have HK := hid (keep_any R 4 vb o d ds lg b _ (hr.s0 4) (set_ownB hd ho 0 (.int .i64 4)) ho hb hl)
    have HM := hid (Moved.set (a := w) (S := R :: blkV d) (g := R) (by simp) 0 (.int .i64 4))
    have l1 : ((b : Int) == 255) = true := by simpa using e1
    clear hr hd h ha ho hb es e1
    go_enter Tryz.func108, Tryz.ntmps108
    go_wp2_with fail
    refine HK.out.mono ?_
    rintro e w2 ⟨rfl, d2, ds2, lg2, hk, hr2, hd2, hm2, ho2⟩
    have hl2 : ds2.length ≤ 256 := by
      unfold keepS at hk
      split at hk
      · injection hk with h1 h2 h3
        subst h2
        exact hl
      · injection hk with h1 h2 h3
        subst h2
        rw [List.length_append]
        show ds.length + 1 ≤ 256
        omega
    have HP := hid (take_rdr (st := keepS o ds lg b) HO.out HA.out (HM.out.trans hm2) (by rw [hk]; exact ⟨vb, hr2, hd2, hl2⟩) ho2)
    clear hk hr2 hd2 hm2 ho2 hl2
    go_wp2
    go_ret
    exact HP.out
  · have l1 : ((b : Int) == 255) = false := by simpa using e1
    obtain ⟨x, c, hde⟩ := row_slice hd.2
    obtain ⟨i0, hi, hz0, hz1, hz2⟩ := info_parts info37
    by_cases e2 : b = 240
    · have es : stepS (.subIac o ds lg) b = (.between, [⟨3, 0, o, ds, lg, false⟩]) := by simp only [stepS, if_neg e1, if_pos e2]
      rw [es]
      subst hde
      have HK := hid (endSub_any R 5 vb 3 o x ds.length c lg false w hr)
      have l2 : ((b : Int) == 240) = true := by simpa using e2
      clear hr hd h ha ho hb es e1 e2
      go_enter Tryz.func108, Tryz.ntmps108
      go_wp2_with fail
      refine HK.out.mono ?_
      rintro e w2 ⟨rfl, hr2, hm2⟩
      have HR2 := hid hr2
      have HM2 := hid hm2
      have HRW := hid ((own_moved HO.out.row hm2 (fun k hk q => HA.out R (by simp) (by rw [← List.mem_singleton.1 q]; exact mem_blks.2 (.inl hk)))).alloc (.cells #[.int .i64 3, .int .u8 0, .int .u8 o, .slice x ds.length c, .bool lg, .bool false] 123))
      clear hr2 hm2
      go_wp2_with (first
        | (at_builtin; refine wpList_append_blk _ rfl _ _ 129 rfl 123 i0 _ 6 48 Tryz.underlying129 hi hz0 hz1 hz2 rfl (by decide) _ _ _ rfl HRW.out ⟨w2.heap.size, 0, none⟩ 1 1 (evC ⟨3, 0, o, ds, lg, false⟩ (.slice x ds.length c)) rfl rfl (news_six w2 _ _ _ _ _ _ 123) (one_evC _ _ rfl) (by unfold maxLen; omega) (by omega) ?_; intro v' w3 ho hg hn' hk; have HO3 := hid ho; have HG3 := hid hg; have HK3 := hid hk; clear ho hg hn' hk))
      go_ret
      have r := take_sub (ev := ⟨3, 0, o, ds, lg, false⟩) HO.out HD.out HA.out HNO.out HM2.out ⟨vb, HR2.out, rfl⟩ HO3.out HG3.out HK3.out
      exact take_one r.2 (mstep_snoc (by simp)) r.1
    · have es : stepS (.subIac o ds lg) b = ((iacS b).1, ⟨3, 0, o, ds, lg, true⟩ :: (iacS b).2) := by simp only [stepS, if_neg e1, if_neg e2]
      rw [es]
      subst hde
      have HK := hid (endSub_any R 5 vb 3 o x ds.length c lg true _ (hr.s7 true))
      have HM7 := hid (Moved.set (a := w) (S := [R]) (g := R) (by simp) 7 (.bool true))
      have l2 : ((b : Int) == 240) = false := by simpa using e2
      have HBB := hid hb
      have HX := hid hx
      clear hr hd h ha ho hb es e1 e2 hx
      go_enter Tryz.func108, Tryz.ntmps108
      go_wp2_with fail
      refine HK.out.mono ?_
      rintro e w2 ⟨rfl, hr2, hm2⟩
      have HR2 := hid hr2
      have HM2 := hid (HM7.out.trans hm2)
      have HRW := hid ((own_moved HO.out.row HM2.out (fun k hk q => HA.out R (by simp) (by rw [← List.mem_singleton.1 q]; exact mem_blks.2 (.inl hk)))).alloc (.cells #[.int .i64 3, .int .u8 0, .int .u8 o, .slice x ds.length c, .bool lg, .bool true] 123))
      clear hr2 hm2
      go_wp2_with (first
        | (at_builtin; refine wpList_append_blk _ rfl _ _ 129 rfl 123 i0 _ 6 48 Tryz.underlying129 hi hz0 hz1 hz2 rfl (by decide) _ _ _ rfl HRW.out ⟨w2.heap.size, 0, none⟩ 1 1 (evC ⟨3, 0, o, ds, lg, true⟩ (.slice x ds.length c)) rfl rfl (news_six w2 _ _ _ _ _ _ 123) (one_evC _ _ rfl) (by unfold maxLen; omega) (by omega) ?_; intro v' w3 ho hg hn' hk; have HO3 := hid ho; have HG3 := hid hg; have HK3 := hid hk; clear ho hg hn' hk)
        | fail)
      have r := take_sub (ev := ⟨3, 0, o, ds, lg, true⟩) HO.out HD.out HA.out HNO.out HM2.out ⟨vb, HR2.out, rfl⟩ HO3.out HG3.out HK3.out
      have HZ := hid r
      clear r
      obtain ⟨vb', hrd, -⟩ := HZ.out.1.rdr
      refine (iac_any R 0 vb' b v' (xs ++ [(⟨3, 0, o, ds, lg, true⟩, .slice x ds.length c)]) w3 hrd HZ.out.1.evs (HZ.out.1.apart R (by simp)) HBB.out (by simp; omega) (fun y hy => ?_)).mono ?_
      · rcases List.mem_append.1 hy with q | q
        · exact HX.out y q
        · rw [List.mem_singleton.1 q]; show ds.length ≤ _; omega
      intro e w4 hp
      have HP := hid (take_more HZ.out.2 (mstep_snoc (by simp)) hp)
      clear hp hrd
      obtain ⟨v4, xs4, d4, rfl, hrest⟩ := HP.out
      have HQ := hid hrest
      clear hrest
      go_wp2
      go_ret
      exact ⟨v4, xs4, d4, rfl, HQ.out⟩
end
/-! XFh -/
section
open Go.RowKit Go.Lib
section
variable (R : Nat) (b : Int) (d v : Value) (xs : List (Ev × Value)) (w : World)
set_option maxRecDepth 100000 in
set_option maxHeartbeats 2000000 in
theorem take_between (h : Own3 w R d .between v xs) (hb : 0 ≤ b ∧ b < 256) (hn : xs.length ≤ 999999) (hx : ∀ x ∈ xs, x.1.data.length ≤ 1000000) : Calls Tryz.prog 91 #[.pointer (some ⟨R, 0, none⟩), v, .int .u8 b] w (TakePost R d v xs (stepS .between b) w) := by
  obtain ⟨⟨vb, hr, rfl⟩, he, ha, ho⟩ := h
  have c0 := hr.c0
  have f0 := hr.free 0
  by_cases e1 : b = 255
  · have es : stepS .between b = (.iac, []) := by simp only [stepS, if_pos e1]
    rw [es]
    have HP := hid (take_rdr (st := .iac) (d' := .slice none 0 0) he ha (Moved.set (g := R) (by simp) 0 (.int .i64 1)) ⟨vb, hr.s0 1, rfl⟩ ho)
    have l1 : ((b : Int) == 255) = true := by simpa using e1
    clear hr he ha ho hb es e1
    go_enter Tryz.func91, Tryz.ntmps91
    go_wp2
    go_ret
    exact HP.out
  · have es : stepS .between b = (.between, [dat [b]]) := by simp only [stepS, if_neg e1]
    rw [es]
    have l1 : ((b : Int) == 255) = false := by simpa using e1
    have HA := hid (addData_any v (.slice (some ⟨w.heap.size, 0, none⟩) 1 1) xs [b] (w.alloc (.cells #[.int .u8 b] 5)) (he.moved (Moved.alloc w _ []) (fun _ _ q => by cases q)) (reads_byte w b hb) (by simp) (by omega) hx)
    have HQ := hid (fun e w' h => take_add (e := e) (w' := w') (b := b) (st := .between) ha (Moved.alloc w (.cells #[.int .u8 b] 5) _) ⟨vb, hr.alloc _, rfl⟩ ho h)
    have hl := hr.lt
    clear hr he ha ho hb es e1 hx
    go_enter Tryz.func91, Tryz.ntmps91
    go_wp2_with fail
    refine HA.out.mono ?_
    intro e w2 hp
    obtain ⟨v2, xs2, d2, rfl, hrest⟩ := HQ.out _ _ hp
    have HZ := hid hrest
    clear hrest hp
    go_wp2
    go_ret
    exact ⟨v2, xs2, d2, rfl, HZ.out⟩
set_option maxRecDepth 100000 in
set_option maxHeartbeats 2000000 in
theorem take_iac (h : Own3 w R d .iac v xs) (hb : 0 ≤ b ∧ b < 256) (hn : xs.length ≤ 999999) (hx : ∀ x ∈ xs, x.1.data.length ≤ 1000000) : Calls Tryz.prog 91 #[.pointer (some ⟨R, 0, none⟩), v, .int .u8 b] w (TakePost R d v xs (stepS .iac b) w) := by
  obtain ⟨⟨vb, hr, rfl⟩, he, ha, ho⟩ := h
  have c0 := hr.c0
  have HI := hid (iac_any R 1 vb b v xs w hr he (ha R (by simp)) hb (by omega) hx)
  clear hr he ha ho hb hx
  go_enter Tryz.func91, Tryz.ntmps91
  go_wp2_with fail
  refine HI.out.mono ?_
  rintro e w2 ⟨v2, xs2, d2, rfl, hrest⟩
  have HZ := hid hrest
  clear hrest
  go_wp2
  go_ret
  exact ⟨v2, xs2, d2, rfl, HZ.out⟩
set_option maxRecDepth 100000 in
set_option maxHeartbeats 2000000 in
theorem take_verb (vb : Int) (h : Own3 w R d (.verb vb) v xs) (hn : xs.length ≤ 999999) : Calls Tryz.prog 91 #[.pointer (some ⟨R, 0, none⟩), v, .int .u8 b] w (TakePost R d v xs (stepS (.verb vb) b) w) := by
  obtain ⟨⟨hr, rfl⟩, he, ha, ho⟩ := h
  obtain ⟨i0, hi, hz0, hz1, hz2⟩ := info_parts info37
  have c0 := hr.c0
  have c1 := hr.c1
  have f0 := hr.free 0
  have hl := hr.lt
  have hsz : (w.setCell ⟨R, 0, none⟩ (.int .i64 0)).heap.size = w.heap.size := by simp [World.setCell]
  have HO0 := hid (set_evs he (ha R (by simp)) 0 (.int .i64 0))
  have HRW := hid (HO0.out.row.alloc (.cells #[.int .i64 2, .int .u8 vb, .int .u8 b, .slice none 0 0, .bool false, .bool false] 123))
  have HNS := hid (news_six (w.setCell ⟨R, 0, none⟩ (.int .i64 0)) (.int .i64 2) (.int .u8 vb) (.int .u8 b) (.slice none 0 0) (.bool false) (.bool false) 123)
  rw [hsz] at HNS
  have HAP := hid ha
  have HR0 := hid (hr.s0 0)
  clear hr he ha ho hsz
  go_enter Tryz.func91, Tryz.ntmps91
  go_wp2_with (first
    | (at_builtin; refine wpList_append_blk _ rfl _ _ 129 rfl 123 i0 _ 6 48 Tryz.underlying129 hi hz0 hz1 hz2 rfl (by decide) _ _ _ rfl HRW.out ⟨w.heap.size, 0, none⟩ 1 1 (evC ⟨2, vb, b, [], false, false⟩ (.slice none 0 0)) rfl rfl HNS.out (one_evC _ _ rfl) (by unfold maxLen; omega) (by omega) ?_; intro v' w3 ho hg hn' hk; have HO3 := hid ho; have HG3 := hid hg; have HK3 := hid hk; clear ho hg hn' hk))
  go_ret
  have r := snoc_done (e := ⟨2, vb, b, [], false, false⟩) HO0.out (Below.refl _ _) (OwnB.nil _) (fun k hk => by cases hk) HO3.out HG3.out HK3.out
  exact take_evs HAP.out (Moved.set (g := R) (by simp) 0 (.int .i64 0)) ⟨vb, HR0.out, rfl⟩ (nil_notin R) r.1 r.2 (by rw [map_snoc]; rfl)
set_option maxRecDepth 100000 in
set_option maxHeartbeats 2000000 in
theorem take_sb (h : Own3 w R d .sb v xs) : Calls Tryz.prog 91 #[.pointer (some ⟨R, 0, none⟩), v, .int .u8 b] w (TakePost R d v xs (stepS .sb b) w) := by
  obtain ⟨⟨vb, hr, rfl⟩, he, ha, ho⟩ := h
  have c0 := hr.c0
  have c2 := hr.c2
  have c3 := hr.c3
  have c4 := hr.c4
  have c5 := hr.c5
  have c6 := hr.c6
  have c7 := hr.c7
  have f0 := hr.free 0
  have f2 := hr.free 2
  have f3 := hr.free 3
  have f4 := hr.free 4
  have f5 := hr.free 5
  have f6 := hr.free 6
  have f7 := hr.free 7
  have q := take_rdr (st := .sub b [] false) (d' := .slice none 0 0) he ha ((Moved.set (g := R) (by simp) 0 (.int .i64 4)).trans (putS_moved _ R 3 b (.slice none 0 0) false false (by simp))) ⟨vb, (hr.s0 4).put 3 b (.slice none 0 0) false false, OwnB.nil _, by simp⟩ ho
  unfold putS at q
  have HP := hid q
  clear hr he ha ho q
  go_enter Tryz.func91, Tryz.ntmps91
  go_wp2
  go_ret
  exact HP.out
set_option maxRecDepth 100000 in
set_option maxHeartbeats 2000000 in
theorem take_insub (o : Int) (ds : List Int) (lg : Bool) (h : Own3 w R d (.sub o ds lg) v xs) (hb : 0 ≤ b ∧ b < 256) : Calls Tryz.prog 91 #[.pointer (some ⟨R, 0, none⟩), v, .int .u8 b] w (TakePost R d v xs (stepS (.sub o ds lg) b) w) := by
  obtain ⟨⟨vb, hr, hd, hl⟩, he, ha, ho⟩ := h
  have c0 := hr.c0
  have f0 := hr.free 0
  by_cases e1 : b = 255
  · have es : stepS (.sub o ds lg) b = (.subIac o ds lg, []) := by simp only [stepS, if_pos e1]
    rw [es]
    have HP := hid (take_rdr (st := .subIac o ds lg) he ha (Moved.set (g := R) (by simp) 0 (.int .i64 5)) ⟨vb, hr.s0 5, set_ownB hd ho 0 _, hl⟩ ho)
    have l1 : ((b : Int) == 255) = true := by simpa using e1
    clear hr he ha ho hb es e1 hd
    go_enter Tryz.func91, Tryz.ntmps91
    go_wp2
    go_ret
    exact HP.out
  · have es : stepS (.sub o ds lg) b = (keepS o ds lg b, []) := by simp only [stepS, if_neg e1]
    rw [es]
    have l1 : ((b : Int) == 255) = false := by simpa using e1
    have HK := hid (keep_any R 4 vb o d ds lg b w hr hd ho hb hl)
    have HO := hid he
    have HA := hid ha
    clear hr he ha ho hb es e1 hd
    go_enter Tryz.func91, Tryz.ntmps91
    go_wp2_with fail
    refine HK.out.mono ?_
    rintro e w2 ⟨rfl, d2, ds2, lg2, hk, hr2, hd2, hm2, ho2⟩
    have hl2 : ds2.length ≤ 256 := by
      unfold keepS at hk
      split at hk
      · injection hk with h1 h2 h3
        subst h2
        exact hl
      · injection hk with h1 h2 h3
        subst h2
        rw [List.length_append]
        show ds.length + 1 ≤ 256
        omega
    have HP := hid (take_rdr (st := keepS o ds lg b) HO.out HA.out hm2 (by rw [hk]; exact ⟨vb, hr2, hd2, hl2⟩) ho2)
    clear hk hr2 hd2 hm2 ho2 hl2
    go_wp2
    go_ret
    exact HP.out
set_option maxRecDepth 100000 in
set_option maxHeartbeats 2000000 in
theorem take_subIac (o : Int) (ds : List Int) (lg : Bool) (h : Own3 w R d (.subIac o ds lg) v xs) (hb : 0 ≤ b ∧ b < 256) (hn : xs.length ≤ 999999) (hx : ∀ x ∈ xs, x.1.data.length ≤ 1000000) : Calls Tryz.prog 91 #[.pointer (some ⟨R, 0, none⟩), v, .int .u8 b] w (TakePost R d v xs (stepS (.subIac o ds lg) b) w) := by
  obtain ⟨⟨vb, hr, hd, hl⟩, he, ha, ho⟩ := h
  have c0 := hr.c0
  have HI := hid (inSub_any R vb o b d v ds lg xs w hr hd hl he ha ho hb hn hx)
  clear hr he ha ho hb hx hd
  go_enter Tryz.func91, Tryz.ntmps91
  go_wp2_with fail
  refine HI.out.mono ?_
  rintro e w2 ⟨v2, xs2, d2, rfl, hrest⟩
  have HZ := hid hrest
  clear hrest
  go_wp2
  go_ret
  exact ⟨v2, xs2, d2, rfl, HZ.out⟩
theorem take_any (st : St) (h : Own3 w R d st v xs) (hb : 0 ≤ b ∧ b < 256) (hn : xs.length ≤ 999999) (hx : ∀ x ∈ xs, x.1.data.length ≤ 1000000) : Calls Tryz.prog 91 #[.pointer (some ⟨R, 0, none⟩), v, .int .u8 b] w (TakePost R d v xs (stepS st b) w) := by
  cases st with
  | between => exact take_between R b d v xs w h hb hn hx
  | iac => exact take_iac R b d v xs w h hb hn hx
  | verb vb => exact take_verb R b d v xs w vb h hn
  | sb => exact take_sb R b d v xs w h
  | sub o ds lg => exact take_insub R b d v xs w o ds lg h hb
  | subIac o ds lg => exact take_subIac R b d v xs w o ds lg h hb hn hx
end
end
/-! XFi -/
section
open Go.RowKit Go.Lib
/-- Bytes, nil or not. -/
theorem reads_uni {w : World} {v : Value} {xs : List Int} (h : Reads w v xs) : ∃ x cap, v = .slice x xs.length cap ∧ ∀ i, i < xs.length → ∃ g off, x = some ⟨g, off, none⟩ ∧ w.cell? ⟨g, off + i, none⟩ = some (.int .u8 (xs.getD i 0)) := by
  rcases h.2 with ⟨rfl, rfl⟩ | ⟨a, cap, rfl, h1, h2, h3⟩
  · exact ⟨none, 0, rfl, fun i hi => absurd hi (Nat.not_lt_zero i)⟩
  · refine ⟨some a, cap, rfl, fun i hi => ?_⟩
    have c := h3 i hi
    have c0 := h3 0 (by omega)
    obtain ⟨g, off, spot⟩ := a
    obtain rfl : spot = none := by simpa [Addr.add] using World.cell?_spot c0
    rw [addr_add] at c
    exact ⟨g, off, rfl, c⟩
/-- What Feed leaves. -/
def FeedPost (R : Nat) (d : Value) (st : St) (ps : List Int) (w : World) (e : Ending) (w' : World) : Prop :=
  ∃ v xs d', e = .returned v ∧ Own3 w' R d' (runS st ps) v xs ∧ xs.map (·.1) = mergeL (emit st ps) ∧ Moved w w' (R :: blkV d) (foot R d' v xs)
theorem take_snocI (ps : List Int) (k : Nat) (h : k < ps.length) : ps.take (k + 1) = ps.take k ++ [ps.getD k 0] := by
  rw [List.take_succ_eq_append_getElem h, List.getD, List.getElem?_eq_getElem h]
  rfl
theorem merge_step (st : St) (ps : List Int) (k : Nat) (h : k < ps.length) : mergeL (emit st (ps.take (k + 1))) = (stepS (runS st (ps.take k)) (ps.getD k 0)).2.foldl mstep (mergeL (emit st (ps.take k))) := by
  rw [take_snocI ps k h, emit_snoc, mergeL_append]
theorem run_step (st : St) (ps : List Int) (k : Nat) (h : k < ps.length) : runS st (ps.take (k + 1)) = (stepS (runS st (ps.take k)) (ps.getD k 0)).1 := by
  rw [take_snocI ps k h, runS_snoc]
theorem wt_bound (st : St) (ps : List Int) (k : Nat) (h1 : st.wt ≤ 30000) (h2 : ps.length ≤ 8000) : wt (mergeL (emit st (ps.take k))) ≤ 60000 := by
  have a := wt_merge (emit st (ps.take k))
  have b := wt_emit st (ps.take k)
  have c : (ps.take k).length ≤ 8000 := by rw [List.length_take]; omega
  omega
theorem xs_bound {xs : List (Ev × Value)} {es : List Ev} (h : xs.map (·.1) = es) {n : Nat} (hn : wt es ≤ n) : xs.length ≤ n ∧ ∀ x ∈ xs, x.1.data.length ≤ n := by
  subst h
  have a := wt_length (xs.map (·.1))
  rw [List.length_map] at a
  exact ⟨by omega, fun x hx => by have := wt_mem (l := xs.map (·.1)) (List.mem_map.2 ⟨x, hx, rfl⟩); omega⟩
set_option maxRecDepth 100000 in
set_option maxHeartbeats 2000000 in
theorem feed_any (R : Nat) (d p : Value) (st : St) (ps : List Int) (w : World) (hr : RIn w R d st) (ho : R ∉ blkV d) (hp : Reads w p ps) (hap : ∀ k ∈ blkV p, k ∉ R :: blkV d) (hst : st.wt ≤ 30000) (hps : ps.length ≤ 8000) :
    Calls Tryz.prog 79 #[.pointer (some ⟨R, 0, none⟩), p] w (FeedPost R d st ps w) := by
  have HPB := hid hp.1
  obtain ⟨x, cap, rfl, hc⟩ := reads_uni hp
  have HC := hid hc
  have HAP := hid hap
  have HMS := hid (merge_step st ps)
  have HRS := hid (run_step st ps)
  have HWT := hid (fun k => wt_bound st ps k hst hps)
  have HEND := hid (show ps.take ps.length = ps from List.take_length)
  have HRN := hid hr
  have HON := hid ho
  obtain ⟨n, hn⟩ : ∃ n, n = ps.length := ⟨_, rfl⟩
  have HLN := hid hn
  rw [← hn] at HC HMS HRS HEND hps HAP ⊢
  clear hp hc hap hr ho hn
  go_enter Tryz.func79, Tryz.ntmps79
  go_wp2
  go_loopw [5, 12] (fun l i w' => ∃ (k : Nat) (xs : List (Ev × Value)) (d' : Value), k ≤ n ∧ i = .int .i64 k ∧ Hid (Own3 w' R d' (runS st (ps.take k)) l xs) ∧ Hid (xs.map (·.1) = mergeL (emit st (ps.take k))) ∧ Hid (Moved w w' (R :: blkV d) (foot R d' l xs))) (fun _ i _ => n - (intOf i).toNat)
  case atStart =>
    refine ⟨0, [], d, Nat.zero_le _, rfl, ⟨HRN.out, OwnL.nil w, (fun k hk q => by cases q), HON.out⟩, rfl, ?_⟩
    show Moved w w (R :: blkV d) ((R :: blkV d) ++ [])
    rw [List.append_nil]
    exact Moved.refl _ _
  case round =>
    obtain ⟨k, xs, d', hk, rfl, HO, HX, HM⟩ := hrel
    by_cases hlt : k < n
    · obtain ⟨g, off, rfl, c⟩ := HC.out k hlt
      have hgb := HAP.out g (by simp [blkV, Value.ownBlock])
      have cb := (World.cell?_of_block (HM.out.block g (World.block_lt_of_cell? w _ c) hgb)).trans c
      have hbb : 0 ≤ ps.getD k 0 ∧ ps.getD k 0 < 256 := by
        rw [List.getD, List.getElem?_eq_getElem (by rw [← HLN.out]; exact hlt)]
        exact HPB.out _ (List.getElem_mem _)
      have hxb := xs_bound HX.out (HWT.out k)
      have HT := hid (take_any R (ps.getD k 0) d' u5 xs wr _ HO.out hbb (by omega) (fun y hy => by have := hxb.2 y hy; omega))
      have HS1 := hid (HMS.out k hlt)
      have HS2 := hid (HRS.out k hlt)
      have hki : (k : Int) < n := by omega
      generalize ps.getD k 0 = b at cb HT HS1 HS2
      clear c hgb hbb hxb
      go_wp2_with fail
      refine HT.out.mono ?_
      rintro e w2 ⟨v2, xs2, d2, rfl, h1, h2, h3⟩
      have H1 := hid h1
      have H2 := hid h2
      have H3 := hid h3
      clear h1 h2 h3
      go_wp2
      go_roundw
      case rel =>
        refine ⟨k + 1, xs2, d2, by omega, by go_num, ?_, ?_, HM.out.trans H3.out⟩
        · show Own3 _ _ _ _ _ _
          rw [HS2.out]
          exact H1.out
        · show _ = _
          rw [HS1.out, ← HX.out]
          exact H2.out
      case measure => simp [intOf]; omega
    · have hkn : k = n := by omega
      have HP : Hid (FeedPost R d st ps w (.returned u5) wr) := by
        have q1 := HO.out
        have q2 := HX.out
        rw [hkn, HEND.out] at q1 q2
        exact ⟨_, xs, d', rfl, q1, q2, HM.out⟩
      clear hkn
      go_wp2
      go_ret
      exact HP.out
theorem feed_nil (p : Value) (w : World) : Calls Tryz.prog 79 #[.pointer none, p] w fun e w' => e = .returned (.slice none 0 0) ∧ w = w' := by
  go_enter Tryz.func79, Tryz.ntmps79
  go_wp2
  go_ret
  exact ⟨rfl, rfl⟩
theorem newReader_any (w : World) : Calls Tryz.prog 57 #[] w fun e w' => e = .returned (.pointer (some ⟨w.heap.size, 0, none⟩)) ∧ RIn w' w.heap.size (.slice none 0 0) .between ∧ Below w.heap.size w w' := by
  go_enter Tryz.func57, Tryz.ntmps57
  go_wp2
  go_ret
  exact ⟨rfl, ⟨0, heap_alloc_new w _, rfl⟩, (Below.refl _ _).alloc (Nat.le_refl _) _⟩
theorem waiting_any (R : Nat) (d : Value) (st : St) (w : World) (h : RIn w R d st) : Calls Tryz.prog 39 #[.pointer (some ⟨R, 0, none⟩)] w fun e w' => e = .returned (.bool st.waits) ∧ w = w' := by
  obtain ⟨pl, c0, hpl⟩ : ∃ pl, w.cell? ⟨R, 0, none⟩ = some (.int .i64 pl) ∧ (pl != 0) = st.waits := by
    cases st
    · obtain ⟨vb, hr, _⟩ := h; exact ⟨_, hr.c0, rfl⟩
    · obtain ⟨vb, hr, _⟩ := h; exact ⟨_, hr.c0, rfl⟩
    · exact ⟨_, h.1.c0, rfl⟩
    · obtain ⟨vb, hr, _⟩ := h; exact ⟨_, hr.c0, rfl⟩
    · obtain ⟨vb, hr, _⟩ := h; exact ⟨_, hr.c0, rfl⟩
    · obtain ⟨vb, hr, _⟩ := h; exact ⟨_, hr.c0, rfl⟩
  clear h
  cases hw : st.waits
  all_goals
    rw [hw] at hpl
    clear hw
    go_enter Tryz.func39, Tryz.ntmps39
    go_wp2
    go_ret
    exact ⟨rfl, rfl⟩
theorem waiting_nil (w : World) : Calls Tryz.prog 39 #[.pointer none] w fun e w' => e = .returned (.bool false) ∧ w = w' := by
  go_enter Tryz.func39, Tryz.ntmps39
  go_wp2
  go_ret
  exact ⟨rfl, rfl⟩
end
/-! XGa -/
section
open Go.RowKit Go.Lib
/-- A slice of events, with their data's slices. -/
def EvsX (w : World) (v : Value) (xs : List (Ev × Value)) : Prop :=
  ∃ (x : Option Addr) (cap : Nat), v = .slice x xs.length cap ∧ ∀ i (h : i < xs.length), ∃ g off, x = some ⟨g, off, none⟩ ∧ (∀ j, j < 6 → w.cell? ⟨g, off + i * 6 + j, none⟩ = (evC xs[i].1 xs[i].2)[j]?) ∧ Reads w xs[i].2 xs[i].1.data
theorem row_evs {w : World} {B : Nat} {t : TypeId} {v : Value} {xs : List (Ev × Value)} (h : w.ownsRow B t 6 v xs.length (cellsE xs)) (hd : ∀ x ∈ xs, Reads w x.2 x.1.data) : EvsX w v xs := by
  rcases h.2 with ⟨rfl, e⟩ | ⟨g, cap, cur, rfl, hg, hh, h1, h2, h3, h4⟩
  · have hx : xs = [] := List.length_eq_zero_iff.1 e
    subst hx
    exact ⟨none, 0, rfl, fun i hi => absurd hi (Nat.not_lt_zero i)⟩
  · refine ⟨some ⟨g, 0, none⟩, cap, rfl, fun i hi => ⟨g, 0, rfl, fun j hj => ?_, hd _ (List.getElem_mem hi)⟩⟩
    rw [Nat.zero_add, World.ownsRow.cellAt h _ (by omega), cellsE_at xs i hi j hj]
theorem OwnL.evsX {w : World} {v : Value} {xs : List (Ev × Value)} (h : OwnL w v xs) : EvsX w v xs := row_evs h.row (fun x hx => (h.data x hx).reads)
theorem evsX_below {w w' : World} {v : Value} {xs : List (Ev × Value)} (h : EvsX w v xs) (hb : Below w.heap.size w w') : EvsX w' v xs := by
  obtain ⟨x, cap, rfl, h⟩ := h
  refine ⟨x, cap, rfl, fun i hi => ?_⟩
  obtain ⟨g, off, e, hc, hr⟩ := h i hi
  refine ⟨g, off, e, fun j hj => ?_, reads_below hr hb⟩
  have q := hc j hj
  rw [← q]
  have hs : (evC xs[i].1 xs[i].2)[j]? = some ((evC xs[i].1 xs[i].2)[j]'(by simpa [evC] using hj)) := List.getElem?_eq_getElem _
  exact hb.cell (World.block_lt_of_cell? w ⟨g, off + i * 6 + j, none⟩ (q.trans hs))
/-- One event's cells, in the walk's spelling. -/
structure Six (w : World) (g b : Nat) (e : Ev) (d : Value) : Prop where
  c0 : w.cell? ⟨g, b, none⟩ = some (.int .i64 e.kind)
  c1 : w.cell? ⟨g, b + 1, none⟩ = some (.int .u8 e.verb)
  c2 : w.cell? ⟨g, b + 2, none⟩ = some (.int .u8 e.opt)
  c3 : w.cell? ⟨g, b + 3, none⟩ = some d
  c4 : w.cell? ⟨g, b + 4, none⟩ = some (.bool e.long)
  c5 : w.cell? ⟨g, b + 5, none⟩ = some (.bool e.broken)
theorem six_of {w : World} {g b : Nat} {e : Ev} {d : Value} (h : ∀ j, j < 6 → w.cell? ⟨g, b + j, none⟩ = (evC e d)[j]?) : Six w g b e d := ⟨h 0 (by omega), h 1 (by omega), h 2 (by omega), h 3 (by omega), h 4 (by omega), h 5 (by omega)⟩
theorem Six.below {w w' : World} {g b : Nat} {e : Ev} {d : Value} (h : Six w g b e d) (hb : Below w.heap.size w w') : Six w' g b e d := ⟨keepc hb h.c0, keepc hb h.c1, keepc hb h.c2, keepc hb h.c3, keepc hb h.c4, keepc hb h.c5⟩
theorem Six.blt {w : World} {g b : Nat} {e : Ev} {d : Value} (h : Six w g b e d) : g < w.heap.size := World.block_lt_of_cell? w _ h.c0
theorem map_take (xs : List (Ev × Value)) (k : Nat) (h : k < xs.length) : (xs.take (k + 1)).map (·.1) = (xs.take k).map (·.1) ++ [xs[k].1] := by
  rw [List.take_succ_eq_append_getElem h, List.map_append]; rfl
theorem merge_take (xs : List (Ev × Value)) (k : Nat) (h : k < xs.length) : mergeL ((xs.take (k + 1)).map (·.1)) = mstep (mergeL ((xs.take k).map (·.1))) xs[k].1 := by
  rw [map_take xs k h, mergeL_snoc]
theorem wt_take (xs : List (Ev × Value)) (k : Nat) : wt (mergeL ((xs.take k).map (·.1))) ≤ wt (xs.map (·.1)) := by
  have a := wt_merge ((xs.take k).map (·.1))
  have b : wt (xs.map (·.1)) = wt ((xs.take k).map (·.1)) + wt ((xs.drop k).map (·.1)) := by rw [← wt_append, ← List.map_append, List.take_append_drop]
  omega
/-- What Merge leaves. -/
def MergeDone (es : List Ev) (w : World) (e : Ending) (w' : World) : Prop := ∃ v xs, e = .returned v ∧ OwnL w' v xs ∧ xs.map (·.1) = es ∧ Below w.heap.size w w' ∧ ∀ j ∈ blks v xs, w.heap.size ≤ j
set_option maxRecDepth 100000 in
set_option maxHeartbeats 4000000 in
theorem merge_any (v : Value) (xs : List (Ev × Value)) (w : World) (h : EvsX w v xs) (hw : wt (xs.map (·.1)) ≤ 100000) : Calls Tryz.prog 81 #[v] w (MergeDone (mergeL (xs.map (·.1))) w) := by
  obtain ⟨i0, hi, hz0, hz1, hz2⟩ := info_parts info37
  obtain ⟨x, cap, rfl, hc⟩ := h
  have HC := hid hc
  have HMT := hid (merge_take xs)
  have HWT := hid (fun k => Nat.le_trans (wt_take xs k) hw)
  have hlen : xs.length ≤ 100000 := by have := wt_length (xs.map (·.1)); rw [List.length_map] at this; omega
  have HDL := hid (show ∀ k (h : k < xs.length), xs[k].1.data.length ≤ 100000 from fun k h => by have := wt_mem (l := xs.map (·.1)) (List.mem_map.2 ⟨xs[k], List.getElem_mem h, rfl⟩); omega)
  have HEND := hid (show (xs.take xs.length).map (·.1) = xs.map (·.1) by rw [List.take_length])
  clear hc hw
  obtain ⟨n, hn⟩ : ∃ n, n = xs.length := ⟨_, rfl⟩
  rw [← hn] at hlen ⊢
  have HLN := hid hn
  clear hn
  go_enter Tryz.func81, Tryz.ntmps81
  go_wp2
  go_loopw [3, 8] (fun s i w' => ∃ (k : Nat) (ys : List (Ev × Value)), k ≤ n ∧ i = .int .i64 k ∧ Hid (OwnL w' s ys) ∧ Hid (ys.map (·.1) = mergeL ((xs.take k).map (·.1))) ∧ Hid (∀ j ∈ blks s ys, w.heap.size ≤ j) ∧ Hid (Below w.heap.size w w')) (fun _ i _ => n - (intOf i).toNat)
  case atStart => exact ⟨0, [], Nat.zero_le _, rfl, OwnL.nil w, rfl, (fun j hj => by cases hj), Below.refl _ _⟩
  case round =>
    obtain ⟨k, ys, hk, rfl, HO, HY, HN, HB⟩ := hrel
    by_cases hlt : k < n
    · have hkx : k < xs.length := by rw [← HLN.out]; exact hlt
      obtain ⟨g, off, rfl, h6, hrd⟩ := HC.out k hkx
      have HS := hid (HMT.out k hkx)
      have hdl := HDL.out k hkx
      have hyb := xs_bound HY.out (HWT.out k)
      have HE6 := hid ((six_of h6).below HB.out)
      have HRD := hid (reads_below hrd HB.out)
      have hki : (k : Int) < n := by omega
      clear h6 hrd
      generalize xs[k] = xk at HS hdl HE6 HRD
      obtain ⟨⟨ek, ev, eo, ed, el, eb⟩, dv⟩ := xk
      obtain ⟨xd, nd, cd, hde⟩ := reads_any_slice HRD.out
      dsimp only at hde
      subst hde
      have z0 := HE6.out.c0
      have z1 := HE6.out.c1
      have z2 := HE6.out.c2
      have z3 := HE6.out.c3
      have z4 := HE6.out.c4
      have z5 := HE6.out.c5
      dsimp only at z0 z1 z2 z3 z4 z5 hdl
      by_cases hz : ek = 0
      · subst hz
        have HA := hid (addData_any u3 (.slice xd nd cd) ys ed (wr.alloc (.cells #[.int .i64 0, .int .u8 ev, .int .u8 eo, .slice xd nd cd, .bool el, .bool eb] 123)) (HO.out.moved (Moved.alloc wr _ []) (fun _ _ q => by cases q)) (reads_below HRD.out ((Below.refl _ _).alloc (Nat.le_refl _) _)) (by omega) (by omega) (fun y hy => by have := hyb.2 y hy; omega))
        clear hyb
        go_wp2_with fail
        refine HA.out.mono ?_
        rintro e w2 ⟨v2, xs2, rfl, h1, h2, h3⟩
        have H1 := hid h1
        have H2 := hid h2
        have H3 := hid h3
        clear h1 h2 h3
        go_wp2
        go_roundw
        case rel =>
          refine ⟨k + 1, xs2, by omega, by go_num, H1.out, ?_, ?_, ?_⟩
          · show _ = _
            rw [H2.out, HS.out, HY.out]
            exact (mstep_dat (e := ⟨0, ev, eo, ed, el, eb⟩) _ rfl).symm
          · intro j hj
            rcases H3.out.from' j hj with q | q
            · exact HN.out j q
            · have := HB.out.size; simp at q; omega
          · exact (HB.out.alloc HB.out.size _).trans (H3.out.toBelow (by have := HB.out.size; simp; omega) HN.out)
        case measure => simp [intOf]; omega
      · have kz : (ek == 0) = false := by simpa using hz
        have HCL := hid (clone_any (.slice xd nd cd) ed (wr.alloc (.cells #[.int .i64 ek, .int .u8 ev, .int .u8 eo, .slice xd nd cd, .bool el, .bool eb] 123)) (reads_below HRD.out ((Below.refl _ _).alloc (Nat.le_refl _) _)) (by omega))
        have hyl : ys.length ≤ 100000 := hyb.1
        clear hyb
        go_wp2_with fail
        refine HCL.out.mono ?_
        rintro e w1 ⟨d', rfl, hd, hb1, hf⟩
        obtain ⟨xd', nd', cd', rfl⟩ := own_slice hd
        have hbk : w1.heap[wr.heap.size]? = some (.cells #[.int .i64 ek, .int .u8 ev, .int .u8 eo, .slice xd nd cd, .bool el, .bool eb] 123 (0, 0)) := (hb1.block wr.heap.size (by simp)).trans (heap_alloc_new wr _)
        have y0 := cell_of_row w1 wr.heap.size 0 _ 123 _ hbk
        have y1 := cell_of_row w1 wr.heap.size 1 _ 123 _ hbk
        have y2 := cell_of_row w1 wr.heap.size 2 _ 123 _ hbk
        have y3 := cell_of_row w1 wr.heap.size 3 _ 123 _ hbk
        have y4 := cell_of_row w1 wr.heap.size 4 _ 123 _ hbk
        have y5 := cell_of_row w1 wr.heap.size 5 _ 123 _ hbk
        have yf := frozen_of_row w1 wr.heap.size 3 _ 123 hbk
        simp only [List.getElem?_toArray, List.getElem?_cons_zero, List.getElem?_cons_succ] at y0 y1 y2 y3 y4 y5
        have hlw : wr.heap.size < w1.heap.size := (Array.getElem?_eq_some_iff.1 hbk).1
        have hsz : (w1.setCell ⟨wr.heap.size, 3, none⟩ (.slice xd' nd' cd')).heap.size = w1.heap.size := by simp [World.setCell]
        have HB1 : Hid (Below wr.heap.size wr (w1.setCell ⟨wr.heap.size, 3, none⟩ (.slice xd' nd' cd'))) := (((Below.refl _ _).alloc (Nat.le_refl _) _).trans (hb1.mono (by simp))).setCell (Nat.le_refl _) _
        have hnd : wr.heap.size ∉ blkV (.slice xd' nd' cd') := fun q => by have := hf _ q; simp at this; omega
        have HD : Hid (OwnB (w1.setCell ⟨wr.heap.size, 3, none⟩ (.slice xd' nd' cd')) (.slice xd' nd' cd') ed) := set_ownB hd hnd 3 _
        have HF : Hid (∀ k ∈ blkV (.slice xd' nd' cd'), wr.heap.size ≤ k) := fun k hk => by have := hf k hk; simp at this; omega
        have HRW := hid ((own_moved HO.out.row (Moved.below HB1.out []) (fun _ _ q => by cases q)).alloc (.cells #[.int .i64 ek, .int .u8 ev, .int .u8 eo, .slice xd' nd' cd', .bool el, .bool eb] 123))
        have HNS := hid (news_six (w1.setCell ⟨wr.heap.size, 3, none⟩ (.slice xd' nd' cd')) (.int .i64 ek) (.int .u8 ev) (.int .u8 eo) (.slice xd' nd' cd') (.bool el) (.bool eb) 123)
        rw [hsz] at HNS
        clear hd hb1 hf hbk hnd hsz z0 z1 z2 z3 z4 z5
        go_wp2_with (first
          | (at_builtin; refine wpList_append_blk _ rfl _ _ 129 rfl 123 i0 _ 6 48 Tryz.underlying129 hi hz0 hz1 hz2 rfl (by decide) _ _ _ rfl HRW.out ⟨w1.heap.size, 0, none⟩ 1 1 (evC ⟨ek, ev, eo, ed, el, eb⟩ (.slice xd' nd' cd')) rfl rfl HNS.out (one_evC _ _ rfl) (by unfold maxLen; omega) (by omega) ?_; intro v' w3 ho hg hn' hk'; have HO3 := hid ho; have HG3 := hid hg; have HK3 := hid hk'; clear ho hg hn' hk'))
        have r := snoc_done (e := ⟨ek, ev, eo, ed, el, eb⟩) HO.out HB1.out HD.out HF.out HO3.out HG3.out HK3.out
        have HZ := hid r
        clear r
        go_roundw
        case rel =>
          refine ⟨k + 1, _, by omega, by go_num, HZ.out.1, ?_, ?_, ?_⟩
          · show _ = _
            rw [map_snoc, HS.out, HY.out]
            exact (mstep_ev _ hz).symm
          · intro j hj
            rcases HZ.out.2.from' j hj with q | q
            · exact HN.out j q
            · have := HB.out.size; omega
          · exact HB.out.trans (HZ.out.2.toBelow HB.out.size HN.out)
        case measure => simp [intOf]; omega
    · have hkn : k = n := by omega
      have HP : Hid (MergeDone (mergeL (xs.map (·.1))) w (.returned u3) wr) := by
        have q := HY.out
        rw [hkn, HLN.out, HEND.out] at q
        exact ⟨_, ys, rfl, HO.out, q, HB.out, HN.out⟩
      clear hkn
      go_wp2
      go_ret
      exact HP.out
end
end Go.Proofs.YtaanpnmgibcemaaGreatDoor.Tn
