/-
  takeInSubAfterIAC.
-/
import Derived.Test.YtdbjjieoohfckaaDoorFf
namespace Go.Proofs.YtdbjjieoohfckaaDoor
open Go.RowKit Go.Lib

theorem set_ownB {w : World} {R : Nat} {d : Value} {ds : List Int} (h : OwnB w d ds) (hR : R ∉ blkV d) (i : Nat) (u : Value) : OwnB (w.setCell ⟨R, i, none⟩ u) d ds :=
  h.moved (Moved.set (S := [R]) (by simp) i u) (fun k hk q => hR (by rw [← List.mem_singleton.1 q]; exact hk))
/-- A subnegotiation is given away. -/
theorem take_sub {R : Nat} {d v v' : Value} {xs : List (Ev × Value)} {ev : Ev} {w w1 w3 : World} {ob : Obj} (h : OwnL w v xs) (hd : OwnB w d ev.data) (ha : ∀ k ∈ R :: blkV d, k ∉ blks v xs) (ho : R ∉ blkV d) (m1 : Moved w w1 [R] [R]) (hr : RIn w1 R (.slice none 0 0) .between)
    (hrow : w3.ownsRow 0 34 6 v' (xs.length + 1) (cellsE xs ++ evC ev d)) (hg : (w1.alloc ob).grownBy w3 v.ownBlock) (hb : ∀ k ∈ blkV v', k ∈ blkV v ∨ (w1.alloc ob).heap.size ≤ k) :
    Own3 w3 R (.slice none 0 0) .between v' (xs ++ [(ev, d)]) ∧ Moved w w3 (foot R d v xs) (foot R (.slice none 0 0) v' (xs ++ [(ev, d)])) := by
  have hRx : R ∉ blks v xs := ha R (by simp)
  have h1 : OwnL (w1.alloc ob) v xs := (h.moved m1 (fun k hk q => hRx (by rw [← List.mem_singleton.1 q]; exact hk))).moved (Moved.alloc w1 ob []) (fun _ _ q => by cases q)
  have hd1 : OwnB (w1.alloc ob) d ev.data := (hd.moved m1 (fun k hk q => ho (by rw [← List.mem_singleton.1 q]; exact hk))).moved (Moved.alloc w1 ob []) (fun _ _ q => by cases q)
  have hr1 : RIn (w1.alloc ob) R (.slice none 0 0) .between := hr.moved (Moved.alloc w1 ob []) (fun _ _ q => by cases q)
  have r := h1.snoc hd1 (fun k hk => ha k (List.mem_cons_of_mem _ hk)) hrow hg hb
  have hRb : R ∉ blks v xs ++ blkV d := fun q => by
    rcases List.mem_append.1 q with q | q
    · exact hRx q
    · exact ho q
  refine ⟨⟨hr1.moved r.2 (fun k hk => ?_), r.1, fun k hk q => ?_, nil_notin R⟩, ?_⟩
  · have : k = R := by simpa [blkV, Value.ownBlock] using hk
    rw [this]; exact hRb
  · have e : k = R := by simpa [blkV, Value.ownBlock] using hk
    subst e
    rcases r.2.from' k q with q | q
    · exact hRb q
    · have := hr1.lt; omega
  · refine ((m1.trans (Moved.alloc w1 ob [R])).sub (T := foot R d v xs) (T' := foot R d v xs) (fun k hk => ?_) (fun k hk => .inr hk)).trans (r.2.sub (fun k hk => ?_) (fun k hk => ?_))
    · rw [List.mem_singleton.1 hk]; simp [foot]
    · rcases List.mem_append.1 hk with q | q
      · exact List.mem_append.2 (.inr q)
      · exact List.mem_append.2 (.inl (List.mem_cons_of_mem _ q))
    · rcases List.mem_append.1 hk with q | q
      · have e : k = R := by simpa [blkV, Value.ownBlock] using q
        exact .inr (by rw [e]; simp [foot])
      · exact .inl q
theorem take_more {R : Nat} {d d1 v v1 : Value} {xs xs1 : List (Ev × Value)} {ev : Ev} {r : St × List Ev} {w w1 w' : World} {e : Ending} (m : Moved w w1 (foot R d v xs) (foot R d1 v1 xs1)) (hx : xs1.map (·.1) = mstep (xs.map (·.1)) ev) (h : TakePost R d1 v1 xs1 r w1 e w') : TakePost R d v xs (r.1, ev :: r.2) w e w' := by
  obtain ⟨v', xs', d', rfl, h1, h2, h3⟩ := h
  exact ⟨v', xs', d', rfl, h1, by rw [h2, hx]; rfl, m.trans h3⟩
theorem take_one {R : Nat} {d d1 v v1 : Value} {xs xs1 : List (Ev × Value)} {ev : Ev} {st : St} {w w1 : World} (m : Moved w w1 (foot R d v xs) (foot R d1 v1 xs1)) (hx : xs1.map (·.1) = mstep (xs.map (·.1)) ev) (h : Own3 w1 R d1 st v1 xs1) : TakePost R d v xs (st, [ev]) w (.returned v1) w1 :=
  ⟨v1, xs1, d1, rfl, h, hx, m⟩
theorem mstep_snoc {xs : List (Ev × Value)} {ev : Ev} {d : Value} (h : ¬ ev.kind = 0) : (xs ++ [(ev, d)]).map (·.1) = mstep (xs.map (·.1)) ev := by
  rw [map_snoc, mstep_ev _ h]
set_option maxRecDepth 100000 in
set_option maxHeartbeats 2000000 in
theorem inSub_any (R : Nat) (vb o b : Int) (d v : Value) (ds : List Int) (lg : Bool) (xs : List (Ev × Value)) (w : World) (hr : Rdr w R 5 vb 3 o d lg false) (hd : OwnB w d ds) (hl : ds.length ≤ 256) (h : OwnL w v xs) (ha : ∀ k ∈ R :: blkV d, k ∉ blks v xs) (ho : R ∉ blkV d) (hb : 0 ≤ b ∧ b < 256) (hn : xs.length ≤ 999999) (hx : ∀ x ∈ xs, x.1.data.length ≤ 1000000) :
    Calls Tryd.prog 30 #[.pointer (some ⟨R, 0, none⟩), v, .int .u8 b] w (TakePost R d v xs (stepS (.subIac o ds lg) b) w) := by
  have HR := hid hr
  have HD := hid hd
  have HO := hid h
  have HA := hid ha
  have HNO := hid ho
  have c0 := hr.c0
  have f0 := hr.free 0
  have f7 := hr.free 7
  have c7 := hr.c7
  have hlr := hr.lt
  by_cases e1 : b = 255
  · have es : stepS (.subIac o ds lg) b = (keepS o ds lg b, []) := by simp only [stepS, if_pos e1]
    rw [es]
    have HK := hid (keep_any R 4 vb o d ds lg b _ (hr.s0 4) (set_ownB hd ho 0 (.int .i64 4)) ho hb hl)
    have HM := hid (Moved.set (a := w) (S := R :: blkV d) (g := R) (by simp) 0 (.int .i64 4))
    have l1 : ((b : Int) == 255) = true := by simpa using e1
    clear hr hd h ha ho hb es e1
    go_enter Tryd.func30, Tryd.ntmps30
    go_wp2_with fail
    refine HK.out.mono ?_
    rintro e w2 ⟨rfl, d2, ds2, lg2, hk, hr2, hd2, hm2, ho2⟩
    have hl2 : ds2.length ≤ 256 := by
      unfold keepS at hk
      split at hk
      · injection hk with h1 h2 h3
        subst h2
        exact hl
      · injection hk with h1 h2 h3
        subst h2
        rw [List.length_append]
        show ds.length + 1 ≤ 256
        omega
    have HP := hid (take_rdr (st := keepS o ds lg b) HO.out HA.out (HM.out.trans hm2) (by rw [hk]; exact ⟨vb, hr2, hd2, hl2⟩) ho2)
    clear hk hr2 hd2 hm2 ho2 hl2
    go_wp2
    go_ret
    exact HP.out
  · have l1 : ((b : Int) == 255) = false := by simpa using e1
    obtain ⟨x, c, hde⟩ := row_slice hd.2
    obtain ⟨i0, hi, hz0, hz1, hz2⟩ := info_parts info37
    by_cases e2 : b = 240
    · have es : stepS (.subIac o ds lg) b = (.between, [⟨3, 0, o, ds, lg, false⟩]) := by simp only [stepS, if_neg e1, if_pos e2]
      rw [es]
      subst hde
      have HK := hid (endSub_any R 5 vb 3 o x ds.length c lg false w hr)
      have l2 : ((b : Int) == 240) = true := by simpa using e2
      clear hr hd h ha ho hb es e1 e2
      go_enter Tryd.func30, Tryd.ntmps30
      go_wp2_with fail
      refine HK.out.mono ?_
      rintro e w2 ⟨rfl, hr2, hm2⟩
      have HR2 := hid hr2
      have HM2 := hid hm2
      have HRW := hid ((own_moved HO.out.row hm2 (fun k hk q => HA.out R (by simp) (by rw [← List.mem_singleton.1 q]; exact mem_blks.2 (.inl hk)))).alloc (.cells #[.int .i64 3, .int .u8 0, .int .u8 o, .slice x ds.length c, .bool lg, .bool false] 34))
      clear hr2 hm2
      go_wp2_with (first
        | (at_builtin; refine wpList_append_blk _ rfl _ _ 25 rfl 34 i0 _ 6 48 Tryd.underlying25 hi hz0 hz1 hz2 rfl (by decide) _ _ _ rfl HRW.out ⟨w2.heap.size, 0, none⟩ 1 1 (evC ⟨3, 0, o, ds, lg, false⟩ (.slice x ds.length c)) rfl rfl (news_six w2 _ _ _ _ _ _ 34) (one_evC _ _ rfl) (by unfold maxLen; omega) (by omega) ?_; intro v' w3 ho hg hn' hk; have HO3 := hid ho; have HG3 := hid hg; have HK3 := hid hk; clear ho hg hn' hk))
      go_ret
      have r := take_sub (ev := ⟨3, 0, o, ds, lg, false⟩) HO.out HD.out HA.out HNO.out HM2.out ⟨vb, HR2.out, rfl⟩ HO3.out HG3.out HK3.out
      exact take_one r.2 (mstep_snoc (by simp)) r.1
    · have es : stepS (.subIac o ds lg) b = ((iacS b).1, ⟨3, 0, o, ds, lg, true⟩ :: (iacS b).2) := by simp only [stepS, if_neg e1, if_neg e2]
      rw [es]
      subst hde
      have HK := hid (endSub_any R 5 vb 3 o x ds.length c lg true _ (hr.s7 true))
      have HM7 := hid (Moved.set (a := w) (S := [R]) (g := R) (by simp) 7 (.bool true))
      have l2 : ((b : Int) == 240) = false := by simpa using e2
      have HBB := hid hb
      have HX := hid hx
      clear hr hd h ha ho hb es e1 e2 hx
      go_enter Tryd.func30, Tryd.ntmps30
      go_wp2_with fail
      refine HK.out.mono ?_
      rintro e w2 ⟨rfl, hr2, hm2⟩
      have HR2 := hid hr2
      have HM2 := hid (HM7.out.trans hm2)
      have HRW := hid ((own_moved HO.out.row HM2.out (fun k hk q => HA.out R (by simp) (by rw [← List.mem_singleton.1 q]; exact mem_blks.2 (.inl hk)))).alloc (.cells #[.int .i64 3, .int .u8 0, .int .u8 o, .slice x ds.length c, .bool lg, .bool true] 34))
      clear hr2 hm2
      go_wp2_with (first
        | (at_builtin; refine wpList_append_blk _ rfl _ _ 25 rfl 34 i0 _ 6 48 Tryd.underlying25 hi hz0 hz1 hz2 rfl (by decide) _ _ _ rfl HRW.out ⟨w2.heap.size, 0, none⟩ 1 1 (evC ⟨3, 0, o, ds, lg, true⟩ (.slice x ds.length c)) rfl rfl (news_six w2 _ _ _ _ _ _ 34) (one_evC _ _ rfl) (by unfold maxLen; omega) (by omega) ?_; intro v' w3 ho hg hn' hk; have HO3 := hid ho; have HG3 := hid hg; have HK3 := hid hk; clear ho hg hn' hk)
        | fail)
      have r := take_sub (ev := ⟨3, 0, o, ds, lg, true⟩) HO.out HD.out HA.out HNO.out HM2.out ⟨vb, HR2.out, rfl⟩ HO3.out HG3.out HK3.out
      have HZ := hid r
      clear r
      obtain ⟨vb', hrd, -⟩ := HZ.out.1.rdr
      refine (iac_any R 0 vb' b v' (xs ++ [(⟨3, 0, o, ds, lg, true⟩, .slice x ds.length c)]) w3 hrd HZ.out.1.evs (HZ.out.1.apart R (by simp)) HBB.out (by simp; omega) (fun y hy => ?_)).mono ?_
      · rcases List.mem_append.1 hy with q | q
        · exact HX.out y q
        · rw [List.mem_singleton.1 q]; show ds.length ≤ _; omega
      intro e w4 hp
      have HP := hid (take_more HZ.out.2 (mstep_snoc (by simp)) hp)
      clear hp hrd
      obtain ⟨v4, xs4, d4, rfl, hrest⟩ := HP.out
      have HQ := hid hrest
      clear hrest
      go_wp2
      go_ret
      exact ⟨v4, xs4, d4, rfl, HQ.out⟩
end Go.Proofs.YtdbjjieoohfckaaDoor
