/-
  take.
-/
import Derived.Test.YtdbjjieoohfckaaDoorFg
namespace Go.Proofs.YtdbjjieoohfckaaDoor
open Go.RowKit Go.Lib

section
variable (R : Nat) (b : Int) (d v : Value) (xs : List (Ev × Value)) (w : World)
set_option maxRecDepth 100000 in
set_option maxHeartbeats 2000000 in
theorem take_between (h : Own3 w R d .between v xs) (hb : 0 ≤ b ∧ b < 256) (hn : xs.length ≤ 999999) (hx : ∀ x ∈ xs, x.1.data.length ≤ 1000000) : Calls Tryd.prog 26 #[.pointer (some ⟨R, 0, none⟩), v, .int .u8 b] w (TakePost R d v xs (stepS .between b) w) := by
  obtain ⟨⟨vb, hr, rfl⟩, he, ha, ho⟩ := h
  have c0 := hr.c0
  have f0 := hr.free 0
  by_cases e1 : b = 255
  · have es : stepS .between b = (.iac, []) := by simp only [stepS, if_pos e1]
    rw [es]
    have HP := hid (take_rdr (st := .iac) (d' := .slice none 0 0) he ha (Moved.set (g := R) (by simp) 0 (.int .i64 1)) ⟨vb, hr.s0 1, rfl⟩ ho)
    have l1 : ((b : Int) == 255) = true := by simpa using e1
    clear hr he ha ho hb es e1
    go_enter Tryd.func26, Tryd.ntmps26
    go_wp2
    go_ret
    exact HP.out
  · have es : stepS .between b = (.between, [dat [b]]) := by simp only [stepS, if_neg e1]
    rw [es]
    have l1 : ((b : Int) == 255) = false := by simpa using e1
    have HA := hid (addData_any v (.slice (some ⟨w.heap.size, 0, none⟩) 1 1) xs [b] (w.alloc (.cells #[.int .u8 b] 5)) (he.moved (Moved.alloc w _ []) (fun _ _ q => by cases q)) (reads_byte w b hb) (by simp) (by omega) hx)
    have HQ := hid (fun e w' h => take_add (e := e) (w' := w') (b := b) (st := .between) ha (Moved.alloc w (.cells #[.int .u8 b] 5) _) ⟨vb, hr.alloc _, rfl⟩ ho h)
    have hl := hr.lt
    clear hr he ha ho hb es e1 hx
    go_enter Tryd.func26, Tryd.ntmps26
    go_wp2_with fail
    refine HA.out.mono ?_
    intro e w2 hp
    obtain ⟨v2, xs2, d2, rfl, hrest⟩ := HQ.out _ _ hp
    have HZ := hid hrest
    clear hrest hp
    go_wp2
    go_ret
    exact ⟨v2, xs2, d2, rfl, HZ.out⟩
set_option maxRecDepth 100000 in
set_option maxHeartbeats 2000000 in
theorem take_iac (h : Own3 w R d .iac v xs) (hb : 0 ≤ b ∧ b < 256) (hn : xs.length ≤ 999999) (hx : ∀ x ∈ xs, x.1.data.length ≤ 1000000) : Calls Tryd.prog 26 #[.pointer (some ⟨R, 0, none⟩), v, .int .u8 b] w (TakePost R d v xs (stepS .iac b) w) := by
  obtain ⟨⟨vb, hr, rfl⟩, he, ha, ho⟩ := h
  have c0 := hr.c0
  have HI := hid (iac_any R 1 vb b v xs w hr he (ha R (by simp)) hb (by omega) hx)
  clear hr he ha ho hb hx
  go_enter Tryd.func26, Tryd.ntmps26
  go_wp2_with fail
  refine HI.out.mono ?_
  rintro e w2 ⟨v2, xs2, d2, rfl, hrest⟩
  have HZ := hid hrest
  clear hrest
  go_wp2
  go_ret
  exact ⟨v2, xs2, d2, rfl, HZ.out⟩
set_option maxRecDepth 100000 in
set_option maxHeartbeats 2000000 in
theorem take_verb (vb : Int) (h : Own3 w R d (.verb vb) v xs) (hn : xs.length ≤ 999999) : Calls Tryd.prog 26 #[.pointer (some ⟨R, 0, none⟩), v, .int .u8 b] w (TakePost R d v xs (stepS (.verb vb) b) w) := by
  obtain ⟨⟨hr, rfl⟩, he, ha, ho⟩ := h
  obtain ⟨i0, hi, hz0, hz1, hz2⟩ := info_parts info37
  have c0 := hr.c0
  have c1 := hr.c1
  have f0 := hr.free 0
  have hl := hr.lt
  have hsz : (w.setCell ⟨R, 0, none⟩ (.int .i64 0)).heap.size = w.heap.size := by simp [World.setCell]
  have HO0 := hid (set_evs he (ha R (by simp)) 0 (.int .i64 0))
  have HRW := hid (HO0.out.row.alloc (.cells #[.int .i64 2, .int .u8 vb, .int .u8 b, .slice none 0 0, .bool false, .bool false] 34))
  have HNS := hid (news_six (w.setCell ⟨R, 0, none⟩ (.int .i64 0)) (.int .i64 2) (.int .u8 vb) (.int .u8 b) (.slice none 0 0) (.bool false) (.bool false) 34)
  rw [hsz] at HNS
  have HAP := hid ha
  have HR0 := hid (hr.s0 0)
  clear hr he ha ho hsz
  go_enter Tryd.func26, Tryd.ntmps26
  go_wp2_with (first
    | (at_builtin; refine wpList_append_blk _ rfl _ _ 25 rfl 34 i0 _ 6 48 Tryd.underlying25 hi hz0 hz1 hz2 rfl (by decide) _ _ _ rfl HRW.out ⟨w.heap.size, 0, none⟩ 1 1 (evC ⟨2, vb, b, [], false, false⟩ (.slice none 0 0)) rfl rfl HNS.out (one_evC _ _ rfl) (by unfold maxLen; omega) (by omega) ?_; intro v' w3 ho hg hn' hk; have HO3 := hid ho; have HG3 := hid hg; have HK3 := hid hk; clear ho hg hn' hk))
  go_ret
  have r := snoc_done (e := ⟨2, vb, b, [], false, false⟩) HO0.out (Below.refl _ _) (OwnB.nil _) (fun k hk => by cases hk) HO3.out HG3.out HK3.out
  exact take_evs HAP.out (Moved.set (g := R) (by simp) 0 (.int .i64 0)) ⟨vb, HR0.out, rfl⟩ (nil_notin R) r.1 r.2 (by rw [map_snoc]; rfl)
set_option maxRecDepth 100000 in
set_option maxHeartbeats 2000000 in
theorem take_sb (h : Own3 w R d .sb v xs) : Calls Tryd.prog 26 #[.pointer (some ⟨R, 0, none⟩), v, .int .u8 b] w (TakePost R d v xs (stepS .sb b) w) := by
  obtain ⟨⟨vb, hr, rfl⟩, he, ha, ho⟩ := h
  have c0 := hr.c0
  have c2 := hr.c2
  have c3 := hr.c3
  have c4 := hr.c4
  have c5 := hr.c5
  have c6 := hr.c6
  have c7 := hr.c7
  have f0 := hr.free 0
  have f2 := hr.free 2
  have f3 := hr.free 3
  have f4 := hr.free 4
  have f5 := hr.free 5
  have f6 := hr.free 6
  have f7 := hr.free 7
  have q := take_rdr (st := .sub b [] false) (d' := .slice none 0 0) he ha ((Moved.set (g := R) (by simp) 0 (.int .i64 4)).trans (putS_moved _ R 3 b (.slice none 0 0) false false (by simp))) ⟨vb, (hr.s0 4).put 3 b (.slice none 0 0) false false, OwnB.nil _, by simp⟩ ho
  unfold putS at q
  have HP := hid q
  clear hr he ha ho q
  go_enter Tryd.func26, Tryd.ntmps26
  go_wp2
  go_ret
  exact HP.out
set_option maxRecDepth 100000 in
set_option maxHeartbeats 2000000 in
theorem take_insub (o : Int) (ds : List Int) (lg : Bool) (h : Own3 w R d (.sub o ds lg) v xs) (hb : 0 ≤ b ∧ b < 256) : Calls Tryd.prog 26 #[.pointer (some ⟨R, 0, none⟩), v, .int .u8 b] w (TakePost R d v xs (stepS (.sub o ds lg) b) w) := by
  obtain ⟨⟨vb, hr, hd, hl⟩, he, ha, ho⟩ := h
  have c0 := hr.c0
  have f0 := hr.free 0
  by_cases e1 : b = 255
  · have es : stepS (.sub o ds lg) b = (.subIac o ds lg, []) := by simp only [stepS, if_pos e1]
    rw [es]
    have HP := hid (take_rdr (st := .subIac o ds lg) he ha (Moved.set (g := R) (by simp) 0 (.int .i64 5)) ⟨vb, hr.s0 5, set_ownB hd ho 0 _, hl⟩ ho)
    have l1 : ((b : Int) == 255) = true := by simpa using e1
    clear hr he ha ho hb es e1 hd
    go_enter Tryd.func26, Tryd.ntmps26
    go_wp2
    go_ret
    exact HP.out
  · have es : stepS (.sub o ds lg) b = (keepS o ds lg b, []) := by simp only [stepS, if_neg e1]
    rw [es]
    have l1 : ((b : Int) == 255) = false := by simpa using e1
    have HK := hid (keep_any R 4 vb o d ds lg b w hr hd ho hb hl)
    have HO := hid he
    have HA := hid ha
    clear hr he ha ho hb es e1 hd
    go_enter Tryd.func26, Tryd.ntmps26
    go_wp2_with fail
    refine HK.out.mono ?_
    rintro e w2 ⟨rfl, d2, ds2, lg2, hk, hr2, hd2, hm2, ho2⟩
    have hl2 : ds2.length ≤ 256 := by
      unfold keepS at hk
      split at hk
      · injection hk with h1 h2 h3
        subst h2
        exact hl
      · injection hk with h1 h2 h3
        subst h2
        rw [List.length_append]
        show ds.length + 1 ≤ 256
        omega
    have HP := hid (take_rdr (st := keepS o ds lg b) HO.out HA.out hm2 (by rw [hk]; exact ⟨vb, hr2, hd2, hl2⟩) ho2)
    clear hk hr2 hd2 hm2 ho2 hl2
    go_wp2
    go_ret
    exact HP.out
set_option maxRecDepth 100000 in
set_option maxHeartbeats 2000000 in
theorem take_subIac (o : Int) (ds : List Int) (lg : Bool) (h : Own3 w R d (.subIac o ds lg) v xs) (hb : 0 ≤ b ∧ b < 256) (hn : xs.length ≤ 999999) (hx : ∀ x ∈ xs, x.1.data.length ≤ 1000000) : Calls Tryd.prog 26 #[.pointer (some ⟨R, 0, none⟩), v, .int .u8 b] w (TakePost R d v xs (stepS (.subIac o ds lg) b) w) := by
  obtain ⟨⟨vb, hr, hd, hl⟩, he, ha, ho⟩ := h
  have c0 := hr.c0
  have HI := hid (inSub_any R vb o b d v ds lg xs w hr hd hl he ha ho hb hn hx)
  clear hr he ha ho hb hx hd
  go_enter Tryd.func26, Tryd.ntmps26
  go_wp2_with fail
  refine HI.out.mono ?_
  rintro e w2 ⟨v2, xs2, d2, rfl, hrest⟩
  have HZ := hid hrest
  clear hrest
  go_wp2
  go_ret
  exact ⟨v2, xs2, d2, rfl, HZ.out⟩
theorem take_any (st : St) (h : Own3 w R d st v xs) (hb : 0 ≤ b ∧ b < 256) (hn : xs.length ≤ 999999) (hx : ∀ x ∈ xs, x.1.data.length ≤ 1000000) : Calls Tryd.prog 26 #[.pointer (some ⟨R, 0, none⟩), v, .int .u8 b] w (TakePost R d v xs (stepS st b) w) := by
  cases st with
  | between => exact take_between R b d v xs w h hb hn hx
  | iac => exact take_iac R b d v xs w h hb hn hx
  | verb vb => exact take_verb R b d v xs w vb h hn
  | sb => exact take_sb R b d v xs w h
  | sub o ds lg => exact take_insub R b d v xs w o ds lg h hb
  | subIac o ds lg => exact take_subIac R b d v xs w o ds lg h hb hn hx
end
end Go.Proofs.YtdbjjieoohfckaaDoor
