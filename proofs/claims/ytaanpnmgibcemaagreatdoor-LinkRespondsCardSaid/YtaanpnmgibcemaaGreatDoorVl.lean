/-
  What comes of an element.
-/
import Derived.Test.YtaanpnmgibcemaaGreatDoorVk
namespace Go.Proofs.YtaanpnmgibcemaaGreatDoor
open Go.RowKit Go.Lib

section
variable {L : Nat} {c : Cf} {y y' : Ly} {k k' : Lk} {w W1 w2 : World}
theorem takeSub_any (dx : Option Addr) (dn dc : Nat) (e : Tn.Ev) (h : LkM w L c y k) (hk : LkOK c k) (ho : 0 ≤ e.opt ∧ e.opt < 256) (hd : Ng.RdG w (.slice dx dn dc) e.data) (hdf : ∀ b ∈ blkV (.slice dx dn dc), b ∉ y.foot L) (hdl : e.data.length ≤ 256) (hol : k.out.length ≤ 80000000) : Calls Tryz.prog 85 #[.pointer (some ⟨L, 0, none⟩), .agg #[.int .i64 e.kind, .int .u8 e.verb, .int .u8 e.opt, .slice dx dn dc, .bool e.long, .bool e.broken]] w (MovD L c y (subE c k e) w) := by
  obtain ⟨ek, ev, eo, ed, el, eb⟩ := e
  cases el
  · cases eb
    · cases hon : (k.ms eo.toNat == 1)
      · rw [show subE c k ⟨ek, ev, eo, ed, false, false⟩ = k by unfold subE; rw [if_pos (by simp [hon])]]
        exact takeSub_off dx dn dc ek ev eo h ho hon
      · rw [show subE c k ⟨ek, ev, eo, ed, false, false⟩ = (k.hear c eo ed).refuse by unfold subE; rw [if_neg (by simp [hon])]]
        exact takeSub_on dx dn dc ek ev eo h ed hk ho hon hd hdf hdl hol
    · rw [show subE c k ⟨ek, ev, eo, ed, false, true⟩ = k by unfold subE; rw [if_pos (by simp)]]
      exact takeSub_broken dx dn dc ek ev eo h
  · rw [show subE c k ⟨ek, ev, eo, ed, true, eb⟩ = k by unfold subE; rw [if_pos (by simp)]]
    exact takeSub_long dx dn dc ek ev eo h eb
theorem PrD.more {r : Lk × Option Evt} {e : Ending} {w' : World} (h : PrD L c y r [] w e w') (S : List Nat) : PrD L c y r S w e w' := by
  obtain ⟨x, dv, y1, h1, h2, h3, h4, h5, h6⟩ := h
  exact ⟨x, dv, y1, h1, h2, h3, h4, h5, fun b q => .inr ((h6 b q).resolve_left (fun f => by cases f))⟩
theorem prd_putB {b : Nat} (h : LkM w L c y k) (hk : LkOK c k) (hB : Below w.heap.size w W1) (hb : w.heap.size ≤ b) (hbs : b < W1.heap.size) (h2 : LkM w2 L c y' k') (m : Moved W1 w2 (y.foot L) (y'.foot L)) (v0 v1 v2 v3 v4 v5 v6 : Value) :
    LkM (put7 w2 b v0 v1 v2 v3 v4 v5 v6) L c y' k' ∧ Moved w (put7 w2 b v0 v1 v2 v3 v4 v5 v6) (y.foot L) (y'.foot L) := by
  have hn := foot_new m hbs (h.fresh hk hb)
  refine ⟨h2.moved (put7_moved w2 b v0 v1 v2 v3 v4 v5 v6) (fun j q e => hn (by rw [← List.mem_singleton.1 e]; exact q)), ?_⟩
  exact ((Moved.below hB _).trans m).late7 hb v0 v1 v2 v3 v4 v5 v6
theorem box_keptB {b : Nat} {v0 v1 v2 v3 v4 v5 v6 : Value} (h : LkM w L c y k) (hk : LkOK c k) (hb : w.heap.size ≤ b) (hx : Box7 W1 b v0 v1 v2 v3 v4 v5 v6) (m : Moved W1 w2 (y.foot L) (y'.foot L)) : Box7 w2 b v0 v1 v2 v3 v4 v5 v6 := hx.moved m (h.fresh hk hb)
/-- What lies beside a link lies as it lay. -/
theorem cell_beside {a : Addr} {v : Value} (m : Moved W1 w2 (y.foot L) (y'.foot L)) (ha : a.block ∉ y.foot L) (hc : W1.cell? a = some v) : w2.cell? a = some v := cell_moved m hc ha
set_option maxRecDepth 100000 in
set_option maxHeartbeats 4000000 in
theorem process_0 (dx : Option Addr) (dn dc : Nat) (ev eo : Int) (ed : List Int) (el eb : Bool) (h : LkM w L c y k) (hk : LkOK c k) (hd : Ng.RdG w (.slice dx dn dc) ed) (hdf : ∀ b ∈ blkV (.slice dx dn dc), b ∉ y.foot L) (hdb : ∀ b ∈ blkV (.slice dx dn dc), b < w.heap.size) : Calls Tryz.prog 66 #[.pointer (some ⟨L, 0, none⟩), .agg #[.int .i64 0, .int .u8 ev, .int .u8 eo, .slice dx dn dc, .bool el, .bool eb]] w (PrD L c y (procE c k ⟨0, ev, eo, ed, el, eb⟩) (blkV (.slice dx dn dc)) w) := by
  have hb0 : Below w.heap.size w ((w.alloc (.cells #[.int .i64 0, .int .u8 ev, .int .u8 eo, .slice dx dn dc, .bool el, .bool eb] 123)).alloc (.cells #[.int .i64 0, .slice none 0 0, .int .u8 0, .int .u8 0, .int .u8 0, .int .u16 0, .bool false] 56)) := bal (bal (Below.refl _ _) _) _
  have hx0 : Box7 ((w.alloc (.cells #[.int .i64 0, .int .u8 ev, .int .u8 eo, .slice dx dn dc, .bool el, .bool eb] 123)).alloc (.cells #[.int .i64 0, .slice none 0 0, .int .u8 0, .int .u8 0, .int .u8 0, .int .u16 0, .bool false] 56)) (w.heap.size + 1) (.int .i64 0) (.slice none 0 0) (.int .u8 0) (.int .u8 0) (.int .u8 0) (.int .u16 0) (.bool false) := by
    have := Box7.new (v0 := .int .i64 0) (v1 := .slice none 0 0) (v2 := .int .u8 0) (v3 := .int .u8 0) (v4 := .int .u8 0) (v5 := .int .u16 0) (v6 := .bool false) (w.alloc (.cells #[.int .i64 0, .int .u8 ev, .int .u8 eo, .slice dx dn dc, .bool el, .bool eb] 123)) 56
    rwa [World.size_alloc] at this
  have hbs0 : w.heap.size + 1 < ((w.alloc (.cells #[.int .i64 0, .int .u8 ev, .int .u8 eo, .slice dx dn dc, .bool el, .bool eb] 123)).alloc (.cells #[.int .i64 0, .slice none 0 0, .int .u8 0, .int .u8 0, .int .u8 0, .int .u16 0, .bool false] 56)).heap.size := by simp
  have HC := hid (takeData_any dx dn dc ed (h.step hb0) hk (reads_below hd.reads hb0) hdf ev eo el eb)
  have HH := hid h
  have HB0 := hid hb0
  have HX0 := hid hx0
  have HBS := hid hbs0
  have HDB := hid hdb
  obtain ⟨R, hR⟩ : ∃ R, R = procE c k ⟨0, ev, eo, ed, el, eb⟩ := ⟨_, rfl⟩
  rw [← hR] at HC ⊢
  clear h hb0 hx0 hbs0 hd hdf hdb hR
  go_enter Tryz.func66, Tryz.ntmps66
  go_wp2_with fail
  with_reducible refine HC.out.mono ?_
  rintro e w1 ⟨X, dv, y1, rfl, h1, m1, ⟨da, dn', dc', rfl⟩, hsome, hsrc⟩
  unfold evV
  have hx1 := box_keptB HH.out hk (Nat.le_succ _) HX0.out m1
  have HPX := hid (hx1.put (.int .i64 X.kind) (.slice da dn' dc') (.int .u8 X.hdr.t) (.int .u8 X.hdr.r) (.int .u8 X.hdr.s) (.int .u16 X.hdr.q) (.bool X.headed))
  have HF := hid (prd_putB HH.out hk HB0.out (Nat.le_succ _) HBS.out h1 m1 (.int .i64 X.kind) (.slice da dn' dc') (.int .u8 X.hdr.t) (.int .u8 X.hdr.r) (.int .u8 X.hdr.s) (.int .u16 X.hdr.q) (.bool X.headed))
  have hfo : w.heap.size + 1 ∉ y1.foot L := foot_new m1 HBS.out (HH.out.fresh hk (Nat.le_succ _))
  have HS := hid (show ∀ x', R.2 = some x' → X = x' ∧ Reads (put7 w1 (w.heap.size + 1) (.int .i64 X.kind) (.slice da dn' dc') (.int .u8 X.hdr.t) (.int .u8 X.hdr.r) (.int .u8 X.hdr.s) (.int .u16 X.hdr.q) (.bool X.headed)) (.slice da dn' dc') x'.data ∧ ∀ b ∈ blkV (.slice da dn' dc'), b ∉ y1.foot L from fun x' e => by
    obtain ⟨q1, q2, q3⟩ := hsome x' e
    refine ⟨q1, ?_, q3⟩
    refine reads_out q2 (.int .i64 X.kind) (.slice da dn' dc') (.int .u8 X.hdr.t) (.int .u8 X.hdr.r) (.int .u8 X.hdr.s) (.int .u16 X.hdr.q) (.bool X.headed) (fun hin => ?_)
    rcases hsrc _ hin with q | q | q
    · have := HDB.out _ q; omega
    · exact HH.out.fresh hk (Nat.le_succ _) q
    · have := HBS.out; omega)
  have HSR := hid (show ∀ b ∈ blkV (.slice da dn' dc'), b ∈ blkV (.slice dx dn dc) ∨ b ∈ y.foot L ∨ w.heap.size ≤ b from fun b q => (hsrc b q).imp id (Or.imp id (fun f => Nat.le_trans HB0.out.size f)))
  obtain ⟨c0, c1, c2, c3, c4, c5, c6, fr⟩ := hx1
  have f0 := fr 0 (by omega)
  have f1 := fr 1 (by omega)
  have f2 := fr 2 (by omega)
  have f3 := fr 3 (by omega)
  have f4 := fr 4 (by omega)
  have f5 := fr 5 (by omega)
  have f6 := fr 6 (by omega)
  clear fr h1 m1 hfo hsome hsrc
  go_wp2
  revert HPX HF HS
  generalize hW : put7 w1 (w.heap.size + 1) (.int .i64 X.kind) (.slice da dn' dc') (.int .u8 X.hdr.t) (.int .u8 X.hdr.r) (.int .u8 X.hdr.s) (.int .u16 X.hdr.q) (.bool X.headed) = Wf
  intro HPX HF HS
  obtain ⟨k0, k1, k2, k3, k4, k5, k6, -⟩ := HPX.out
  unfold put7 at hW
  rw [hW]
  clear hW
  exact bodyPost_ret (v := .tuple #[evV X (.slice da dn' dc'), .bool R.2.isSome]) (by simp [results, Tryz.results66, go_sem, k0, k1, k2, k3, k4, k5, k6, evV]) rfl ⟨X, _, y1, rfl, HF.out.1, HF.out.2, ⟨_, _, _, rfl⟩, HS.out, HSR.out⟩
set_option maxRecDepth 100000 in
set_option maxHeartbeats 4000000 in
theorem process_1 (dx : Option Addr) (dn dc : Nat) (ev eo : Int) (ed : List Int) (el eb : Bool) (h : LkM w L c y k) (hk : LkOK c k) (hdb : ∀ b ∈ blkV (.slice dx dn dc), b < w.heap.size) : Calls Tryz.prog 66 #[.pointer (some ⟨L, 0, none⟩), .agg #[.int .i64 1, .int .u8 ev, .int .u8 eo, .slice dx dn dc, .bool el, .bool eb]] w (PrD L c y (procE c k ⟨1, ev, eo, ed, el, eb⟩) (blkV (.slice dx dn dc)) w) := by
  have hb0 : Below w.heap.size w ((w.alloc (.cells #[.int .i64 1, .int .u8 ev, .int .u8 eo, .slice dx dn dc, .bool el, .bool eb] 123)).alloc (.cells #[.int .i64 0, .slice none 0 0, .int .u8 0, .int .u8 0, .int .u8 0, .int .u16 0, .bool false] 56)) := bal (bal (Below.refl _ _) _) _
  have hx0 : Box7 ((w.alloc (.cells #[.int .i64 1, .int .u8 ev, .int .u8 eo, .slice dx dn dc, .bool el, .bool eb] 123)).alloc (.cells #[.int .i64 0, .slice none 0 0, .int .u8 0, .int .u8 0, .int .u8 0, .int .u16 0, .bool false] 56)) (w.heap.size + 1) (.int .i64 0) (.slice none 0 0) (.int .u8 0) (.int .u8 0) (.int .u8 0) (.int .u16 0) (.bool false) := by
    have := Box7.new (v0 := .int .i64 0) (v1 := .slice none 0 0) (v2 := .int .u8 0) (v3 := .int .u8 0) (v4 := .int .u8 0) (v5 := .int .u16 0) (v6 := .bool false) (w.alloc (.cells #[.int .i64 1, .int .u8 ev, .int .u8 eo, .slice dx dn dc, .bool el, .bool eb] 123)) 56
    rwa [World.size_alloc] at this
  have hbs0 : w.heap.size + 1 < ((w.alloc (.cells #[.int .i64 1, .int .u8 ev, .int .u8 eo, .slice dx dn dc, .bool el, .bool eb] 123)).alloc (.cells #[.int .i64 0, .slice none 0 0, .int .u8 0, .int .u8 0, .int .u8 0, .int .u16 0, .bool false] 56)).heap.size := by simp
  have HC := hid ((takeCommand_any ev (h.step hb0) hk eo ed el eb).mono (fun _ _ q => PrD.more q (blkV (.slice dx dn dc))))
  have HH := hid h
  have HB0 := hid hb0
  have HX0 := hid hx0
  have HBS := hid hbs0
  have HDB := hid hdb
  obtain ⟨R, hR⟩ : ∃ R, R = procE c k ⟨1, ev, eo, ed, el, eb⟩ := ⟨_, rfl⟩
  rw [← hR] at HC ⊢
  clear h hb0 hx0 hbs0 hdb hR
  go_enter Tryz.func66, Tryz.ntmps66
  go_wp2_with fail
  with_reducible refine HC.out.mono ?_
  rintro e w1 ⟨X, dv, y1, rfl, h1, m1, ⟨da, dn', dc', rfl⟩, hsome, hsrc⟩
  unfold evV
  have hx1 := box_keptB HH.out hk (Nat.le_succ _) HX0.out m1
  have HPX := hid (hx1.put (.int .i64 X.kind) (.slice da dn' dc') (.int .u8 X.hdr.t) (.int .u8 X.hdr.r) (.int .u8 X.hdr.s) (.int .u16 X.hdr.q) (.bool X.headed))
  have HF := hid (prd_putB HH.out hk HB0.out (Nat.le_succ _) HBS.out h1 m1 (.int .i64 X.kind) (.slice da dn' dc') (.int .u8 X.hdr.t) (.int .u8 X.hdr.r) (.int .u8 X.hdr.s) (.int .u16 X.hdr.q) (.bool X.headed))
  have hfo : w.heap.size + 1 ∉ y1.foot L := foot_new m1 HBS.out (HH.out.fresh hk (Nat.le_succ _))
  have HS := hid (show ∀ x', R.2 = some x' → X = x' ∧ Reads (put7 w1 (w.heap.size + 1) (.int .i64 X.kind) (.slice da dn' dc') (.int .u8 X.hdr.t) (.int .u8 X.hdr.r) (.int .u8 X.hdr.s) (.int .u16 X.hdr.q) (.bool X.headed)) (.slice da dn' dc') x'.data ∧ ∀ b ∈ blkV (.slice da dn' dc'), b ∉ y1.foot L from fun x' e => by
    obtain ⟨q1, q2, q3⟩ := hsome x' e
    refine ⟨q1, ?_, q3⟩
    refine reads_out q2 (.int .i64 X.kind) (.slice da dn' dc') (.int .u8 X.hdr.t) (.int .u8 X.hdr.r) (.int .u8 X.hdr.s) (.int .u16 X.hdr.q) (.bool X.headed) (fun hin => ?_)
    rcases hsrc _ hin with q | q | q
    · have := HDB.out _ q; omega
    · exact HH.out.fresh hk (Nat.le_succ _) q
    · have := HBS.out; omega)
  have HSR := hid (show ∀ b ∈ blkV (.slice da dn' dc'), b ∈ blkV (.slice dx dn dc) ∨ b ∈ y.foot L ∨ w.heap.size ≤ b from fun b q => (hsrc b q).imp id (Or.imp id (fun f => Nat.le_trans HB0.out.size f)))
  obtain ⟨c0, c1, c2, c3, c4, c5, c6, fr⟩ := hx1
  have f0 := fr 0 (by omega)
  have f1 := fr 1 (by omega)
  have f2 := fr 2 (by omega)
  have f3 := fr 3 (by omega)
  have f4 := fr 4 (by omega)
  have f5 := fr 5 (by omega)
  have f6 := fr 6 (by omega)
  clear fr h1 m1 hfo hsome hsrc
  go_wp2
  revert HPX HF HS
  generalize hW : put7 w1 (w.heap.size + 1) (.int .i64 X.kind) (.slice da dn' dc') (.int .u8 X.hdr.t) (.int .u8 X.hdr.r) (.int .u8 X.hdr.s) (.int .u16 X.hdr.q) (.bool X.headed) = Wf
  intro HPX HF HS
  obtain ⟨k0, k1, k2, k3, k4, k5, k6, -⟩ := HPX.out
  unfold put7 at hW
  rw [hW]
  clear hW
  exact bodyPost_ret (v := .tuple #[evV X (.slice da dn' dc'), .bool R.2.isSome]) (by simp [results, Tryz.results66, go_sem, k0, k1, k2, k3, k4, k5, k6, evV]) rfl ⟨X, _, y1, rfl, HF.out.1, HF.out.2, ⟨_, _, _, rfl⟩, HS.out, HSR.out⟩
theorem LkOK.refuse (hk : LkOK c k) : LkOK c k.refuse := by
  unfold Lk.refuse
  repeat' split
  all_goals first | exact hk | exact hk.step _ _ _ _
theorem LkOK.sub (hk : LkOK c k) (e : Tn.Ev) : LkOK c (subE c k e) := by
  unfold subE
  split
  · exact hk
  · exact (hk.hear e.opt e.data).refuse
theorem LkOK.opt (hk : LkOK c k) (v o : Nat) : LkOK c (optE c k v o) := by
  unfold optE
  dsimp only
  split
  · exact hk.step _ _ _ _
  · exact (hk.step _ _ _ _).reset
theorem LkOK.drop (hk : LkOK c k) : LkOK c k.drop := ⟨hk.T, hk.D, hk.fs, hk.es, hk.ag, ⟨Nat.zero_le _, fun q => by cases q⟩, hk.sq, hk.st⟩
theorem LkOK.dropIf (hk : LkOK c k) (m : Int) : LkOK c (dropIf m k) := by
  unfold Go.Proofs.YtaanpnmgibcemaaGreatDoor.dropIf
  split
  · exact hk
  · exact hk.drop
set_option maxRecDepth 100000 in
set_option maxHeartbeats 4000000 in
theorem process_2 (dx : Option Addr) (dn dc : Nat) (ev eo : Int) (ed : List Int) (el eb : Bool) (h : LkM w L c y k) (hk : LkOK c k) (hv : 0 ≤ ev ∧ Op.isVerb ev.toNat) (ho : 0 ≤ eo ∧ eo < 256) (hol : k.out.length ≤ 80000000) : Calls Tryz.prog 66 #[.pointer (some ⟨L, 0, none⟩), .agg #[.int .i64 2, .int .u8 ev, .int .u8 eo, .slice dx dn dc, .bool el, .bool eb]] w (PrD L c y (procE c k ⟨2, ev, eo, ed, el, eb⟩) (blkV (.slice dx dn dc)) w) := by
  have hopt : ∀ W, Below w.heap.size w W → Calls Tryz.prog 84 #[.pointer (some ⟨L, 0, none⟩), .int .u8 ev, .int .u8 eo] W (MovD L c y (optE c k ev.toNat eo.toNat) W) := fun W hW => by
    have := takeOption_any ev.toNat eo.toNat hv.2 (by omega) (h.step hW) hk (by omega)
    rwa [Int.toNat_of_nonneg hv.1, Int.toNat_of_nonneg ho.1] at this
  have hb0 : Below w.heap.size w ((w.alloc (.cells #[.int .i64 2, .int .u8 ev, .int .u8 eo, .slice dx dn dc, .bool el, .bool eb] 123)).alloc (.cells #[.int .i64 0, .slice none 0 0, .int .u8 0, .int .u8 0, .int .u8 0, .int .u16 0, .bool false] 56)) := bal (bal (Below.refl _ _) _) _
  have hx0 : Box7 ((w.alloc (.cells #[.int .i64 2, .int .u8 ev, .int .u8 eo, .slice dx dn dc, .bool el, .bool eb] 123)).alloc (.cells #[.int .i64 0, .slice none 0 0, .int .u8 0, .int .u8 0, .int .u8 0, .int .u16 0, .bool false] 56)) (w.heap.size + 1) (.int .i64 0) (.slice none 0 0) (.int .u8 0) (.int .u8 0) (.int .u8 0) (.int .u16 0) (.bool false) := by
    have := Box7.new (v0 := .int .i64 0) (v1 := .slice none 0 0) (v2 := .int .u8 0) (v3 := .int .u8 0) (v4 := .int .u8 0) (v5 := .int .u16 0) (v6 := .bool false) (w.alloc (.cells #[.int .i64 2, .int .u8 ev, .int .u8 eo, .slice dx dn dc, .bool el, .bool eb] 123)) 56
    rwa [World.size_alloc] at this
  have hbs0 : w.heap.size + 1 < ((w.alloc (.cells #[.int .i64 2, .int .u8 ev, .int .u8 eo, .slice dx dn dc, .bool el, .bool eb] 123)).alloc (.cells #[.int .i64 0, .slice none 0 0, .int .u8 0, .int .u8 0, .int .u8 0, .int .u16 0, .bool false] 56)).heap.size := by simp
  have HM := hid (mode_any L c y k _ (h.step hb0))
  have HC := hid (fun W (hW : Below w.heap.size w W) => hopt W hW)
  have HK1 := hid (hk.opt ev.toNat eo.toNat)
  have HH := hid h
  have HB0 := hid hb0
  have HX0 := hid hx0
  have HBS := hid hbs0
  have HP := hid (show procE c k ⟨2, ev, eo, ed, el, eb⟩ = (dropIf k.mode (optE c k ev.toNat eo.toNat), none) from rfl)
  rw [HP.out]
  have HBX := hid (show ∀ i v, ((w.alloc (.cells #[.int .i64 2, .int .u8 ev, .int .u8 eo, .slice dx dn dc, .bool el, .bool eb] 123)).alloc (.cells #[.int .i64 0, .slice none 0 0, .int .u8 0, .int .u8 0, .int .u8 0, .int .u16 0, .bool false] 56)).cell? ⟨w.heap.size, i, none⟩ = some v → ∀ W, Below ((w.alloc (.cells #[.int .i64 2, .int .u8 ev, .int .u8 eo, .slice dx dn dc, .bool el, .bool eb] 123)).alloc (.cells #[.int .i64 0, .slice none 0 0, .int .u8 0, .int .u8 0, .int .u8 0, .int .u16 0, .bool false] 56)).heap.size ((w.alloc (.cells #[.int .i64 2, .int .u8 ev, .int .u8 eo, .slice dx dn dc, .bool el, .bool eb] 123)).alloc (.cells #[.int .i64 0, .slice none 0 0, .int .u8 0, .int .u8 0, .int .u8 0, .int .u16 0, .bool false] 56)) W → W.cell? ⟨w.heap.size, i, none⟩ = some v from fun _ _ q W hW => keepc hW q)
  have e0 : ((w.alloc (.cells #[.int .i64 2, .int .u8 ev, .int .u8 eo, .slice dx dn dc, .bool el, .bool eb] 123)).alloc (.cells #[.int .i64 0, .slice none 0 0, .int .u8 0, .int .u8 0, .int .u8 0, .int .u16 0, .bool false] 56)).cell? ⟨w.heap.size, 0, none⟩ = some (.int .i64 2) := by simp [go_sem]
  have e1 : ((w.alloc (.cells #[.int .i64 2, .int .u8 ev, .int .u8 eo, .slice dx dn dc, .bool el, .bool eb] 123)).alloc (.cells #[.int .i64 0, .slice none 0 0, .int .u8 0, .int .u8 0, .int .u8 0, .int .u16 0, .bool false] 56)).cell? ⟨w.heap.size, 1, none⟩ = some (.int .u8 ev) := by simp [go_sem]
  have e2 : ((w.alloc (.cells #[.int .i64 2, .int .u8 ev, .int .u8 eo, .slice dx dn dc, .bool el, .bool eb] 123)).alloc (.cells #[.int .i64 0, .slice none 0 0, .int .u8 0, .int .u8 0, .int .u8 0, .int .u16 0, .bool false] 56)).cell? ⟨w.heap.size, 2, none⟩ = some (.int .u8 eo) := by simp [go_sem]
  have e3 : ((w.alloc (.cells #[.int .i64 2, .int .u8 ev, .int .u8 eo, .slice dx dn dc, .bool el, .bool eb] 123)).alloc (.cells #[.int .i64 0, .slice none 0 0, .int .u8 0, .int .u8 0, .int .u8 0, .int .u16 0, .bool false] 56)).cell? ⟨w.heap.size, 3, none⟩ = some (.slice dx dn dc) := by simp [go_sem]
  have e4 : ((w.alloc (.cells #[.int .i64 2, .int .u8 ev, .int .u8 eo, .slice dx dn dc, .bool el, .bool eb] 123)).alloc (.cells #[.int .i64 0, .slice none 0 0, .int .u8 0, .int .u8 0, .int .u8 0, .int .u16 0, .bool false] 56)).cell? ⟨w.heap.size, 4, none⟩ = some (.bool el) := by simp [go_sem]
  have e5 : ((w.alloc (.cells #[.int .i64 2, .int .u8 ev, .int .u8 eo, .slice dx dn dc, .bool el, .bool eb] 123)).alloc (.cells #[.int .i64 0, .slice none 0 0, .int .u8 0, .int .u8 0, .int .u8 0, .int .u16 0, .bool false] 56)).cell? ⟨w.heap.size, 5, none⟩ = some (.bool eb) := by simp [go_sem]
  have HE := hid (And.intro e0 (And.intro e1 (And.intro e2 (And.intro e3 (And.intro e4 e5)))))
  generalize hKK : optE c k ev.toNat eo.toNat = KK at HC HK1 ⊢
  clear h hb0 hx0 hbs0 e0 e1 e2 e3 e4 e5 HP hopt
  generalize hmd : k.mode = md at HM ⊢
  go_enter Tryz.func66, Tryz.ntmps66
  go_wp2_with fail
  with_reducible refine HM.out.mono ?_
  rintro e w1 ⟨rfl, hb1⟩
  have q0 := HBX.out _ _ HE.out.1 w1 hb1
  have q1 := HBX.out _ _ HE.out.2.1 w1 hb1
  have q2 := HBX.out _ _ HE.out.2.2.1 w1 hb1
  have q3 := HBX.out _ _ HE.out.2.2.2.1 w1 hb1
  have q4 := HBX.out _ _ HE.out.2.2.2.2.1 w1 hb1
  have q5 := HBX.out _ _ HE.out.2.2.2.2.2 w1 hb1
  have HC1 := hid (HC.out w1 (below_t HB0.out hb1))
  have HB1 := hid hb1
  clear hb1
  go_wp2_with fail
  with_reducible refine HC1.out.mono ?_
  rintro e w2 ⟨rfl, y1, h2, m2⟩
  have m2' := (Moved.below HB1.out (y.foot L)).trans m2
  have HM2 := hid (mode_any L c y1 KK w2 h2)
  have H2 := hid h2
  have M2 := hid m2'
  have c32 := h2.b.c3
  have hL2 := h2.b.lt
  clear h2 m2 m2' q0 q1 q2 q3 q4 q5
  by_cases hmm : KK.mode = md
  · have HR := hid (show dropIf md KK = KK from if_pos hmm)
    rw [hmm] at HM2
    clear hmm
    go_wp2_with fail
    with_reducible refine HM2.out.mono ?_
    rintro e w3 ⟨rfl, hb3⟩
    have h3 := H2.out.step hb3
    have m3 := M2.out.trans (Moved.below hb3 _)
    have hx4 := box_keptB HH.out hk (Nat.le_succ _) HX0.out m3
    have HPX := hid (hx4.put (.int .i64 0) (.slice none 0 0) (.int .u8 0) (.int .u8 0) (.int .u8 0) (.int .u16 0) (.bool false))
    have HF := hid (prd_putB HH.out hk HB0.out (Nat.le_succ _) HBS.out h3 m3 (.int .i64 0) (.slice none 0 0) (.int .u8 0) (.int .u8 0) (.int .u8 0) (.int .u16 0) (.bool false))
    obtain ⟨z0, z1, z2, z3, z4, z5, z6, fr⟩ := hx4
    have f0 := fr 0 (by omega)
    have f1 := fr 1 (by omega)
    have f2 := fr 2 (by omega)
    have f3 := fr 3 (by omega)
    have f4 := fr 4 (by omega)
    have f5 := fr 5 (by omega)
    have f6 := fr 6 (by omega)
    clear fr
    go_wp2
    revert HPX HF
    generalize hW : put7 w3 (w.heap.size + 1) (.int .i64 0) (.slice none 0 0) (.int .u8 0) (.int .u8 0) (.int .u8 0) (.int .u16 0) (.bool false) = Wf
    intro HPX HF
    obtain ⟨k0, k1, k2, k3, k4, k5, k6, -⟩ := HPX.out
    unfold put7 at hW
    rw [hW]
    clear hW
    exact bodyPost_ret (v := .tuple #[evV ⟨0, [], noH, false⟩ (.slice none 0 0), .bool false]) (by simp [results, Tryz.results66, go_sem, k0, k1, k2, k3, k4, k5, k6, evV, noH]) rfl ⟨_, _, _, rfl, by rw [HR.out]; exact HF.out.1, HF.out.2, ⟨_, _, _, rfl⟩, fun x' e => (by cases e), fun b q => (by cases q)⟩
  · have HR := hid (show dropIf md KK = KK.drop from if_neg hmm)
    have hmb : (KK.mode != md) = true := by simpa using hmm
    generalize KK.mode = md2 at HM2 hmb
    clear hmm
    go_wp2_with fail
    with_reducible refine HM2.out.mono ?_
    rintro e w3 ⟨rfl, hb3⟩
    have h3 := H2.out.step hb3
    have HD := hid (drop_any h3.mr)
    have H3 := hid h3
    have c33 := h3.b.c3
    have hL3 := h3.b.lt
    have M3 := hid (M2.out.trans (Moved.below hb3 _))
    clear h3 hb3 c32
    go_wp2_with fail
    with_reducible refine HD.out.mono ?_
    rintro e w4 ⟨rfl, hmk, hmv⟩
    obtain ⟨h4, m4⟩ := H3.out.maker HK1.out (hmv.sub (T := y1.K :: blkV y1.rd) (T' := y1.K :: blkV (.slice none 0 0)) (fun b q => by rw [List.mem_singleton.1 q]; simp) (fun b q => .inl q)) hmk (fun b q => by cases q)
    have m4' := M3.out.trans m4
    have hx4 := box_keptB HH.out hk (Nat.le_succ _) HX0.out m4'
    have HPX := hid (hx4.put (.int .i64 0) (.slice none 0 0) (.int .u8 0) (.int .u8 0) (.int .u8 0) (.int .u16 0) (.bool false))
    have HF := hid (prd_putB HH.out hk HB0.out (Nat.le_succ _) HBS.out h4 m4' (.int .i64 0) (.slice none 0 0) (.int .u8 0) (.int .u8 0) (.int .u8 0) (.int .u16 0) (.bool false))
    obtain ⟨z0, z1, z2, z3, z4, z5, z6, fr⟩ := hx4
    have f0 := fr 0 (by omega)
    have f1 := fr 1 (by omega)
    have f2 := fr 2 (by omega)
    have f3 := fr 3 (by omega)
    have f4 := fr 4 (by omega)
    have f5 := fr 5 (by omega)
    have f6 := fr 6 (by omega)
    clear fr
    go_wp2
    revert HPX HF
    generalize hW : put7 w4 (w.heap.size + 1) (.int .i64 0) (.slice none 0 0) (.int .u8 0) (.int .u8 0) (.int .u8 0) (.int .u16 0) (.bool false) = Wf
    intro HPX HF
    obtain ⟨k0, k1, k2, k3, k4, k5, k6, -⟩ := HPX.out
    unfold put7 at hW
    rw [hW]
    clear hW
    exact bodyPost_ret (v := .tuple #[evV ⟨0, [], noH, false⟩ (.slice none 0 0), .bool false]) (by simp [results, Tryz.results66, go_sem, k0, k1, k2, k3, k4, k5, k6, evV, noH]) rfl ⟨_, _, _, rfl, by rw [HR.out]; exact HF.out.1, HF.out.2, ⟨_, _, _, rfl⟩, fun x' e => (by cases e), fun b q => (by cases q)⟩
set_option maxRecDepth 100000 in
set_option maxHeartbeats 4000000 in
theorem process_3 (dx : Option Addr) (dn dc : Nat) (ev eo : Int) (ed : List Int) (el eb : Bool) (h : LkM w L c y k) (hk : LkOK c k) (ho : 0 ≤ eo ∧ eo < 256) (hd : Ng.RdG w (.slice dx dn dc) ed) (hdf : ∀ b ∈ blkV (.slice dx dn dc), b ∉ y.foot L) (hdl : ed.length ≤ 256) (hol : k.out.length ≤ 80000000) : Calls Tryz.prog 66 #[.pointer (some ⟨L, 0, none⟩), .agg #[.int .i64 3, .int .u8 ev, .int .u8 eo, .slice dx dn dc, .bool el, .bool eb]] w (PrD L c y (procE c k ⟨3, ev, eo, ed, el, eb⟩) (blkV (.slice dx dn dc)) w) := by
  have hb0 : Below w.heap.size w ((w.alloc (.cells #[.int .i64 3, .int .u8 ev, .int .u8 eo, .slice dx dn dc, .bool el, .bool eb] 123)).alloc (.cells #[.int .i64 0, .slice none 0 0, .int .u8 0, .int .u8 0, .int .u8 0, .int .u16 0, .bool false] 56)) := bal (bal (Below.refl _ _) _) _
  have hx0 : Box7 ((w.alloc (.cells #[.int .i64 3, .int .u8 ev, .int .u8 eo, .slice dx dn dc, .bool el, .bool eb] 123)).alloc (.cells #[.int .i64 0, .slice none 0 0, .int .u8 0, .int .u8 0, .int .u8 0, .int .u16 0, .bool false] 56)) (w.heap.size + 1) (.int .i64 0) (.slice none 0 0) (.int .u8 0) (.int .u8 0) (.int .u8 0) (.int .u16 0) (.bool false) := by
    have := Box7.new (v0 := .int .i64 0) (v1 := .slice none 0 0) (v2 := .int .u8 0) (v3 := .int .u8 0) (v4 := .int .u8 0) (v5 := .int .u16 0) (v6 := .bool false) (w.alloc (.cells #[.int .i64 3, .int .u8 ev, .int .u8 eo, .slice dx dn dc, .bool el, .bool eb] 123)) 56
    rwa [World.size_alloc] at this
  have hbs0 : w.heap.size + 1 < ((w.alloc (.cells #[.int .i64 3, .int .u8 ev, .int .u8 eo, .slice dx dn dc, .bool el, .bool eb] 123)).alloc (.cells #[.int .i64 0, .slice none 0 0, .int .u8 0, .int .u8 0, .int .u8 0, .int .u16 0, .bool false] 56)).heap.size := by simp
  have HM := hid (mode_any L c y k _ (h.step hb0))
  have HC := hid (fun W (hW : Below w.heap.size w W) => takeSub_any dx dn dc ⟨3, ev, eo, ed, el, eb⟩ (h.step hW) hk ho (hd.step hW) hdf hdl hol)
  have HK1 := hid (hk.sub ⟨3, ev, eo, ed, el, eb⟩)
  have HH := hid h
  have HB0 := hid hb0
  have HX0 := hid hx0
  have HBS := hid hbs0
  have HP := hid (show procE c k ⟨3, ev, eo, ed, el, eb⟩ = (dropIf k.mode (subE c k ⟨3, ev, eo, ed, el, eb⟩), none) from rfl)
  rw [HP.out]
  have HBX := hid (show ∀ i v, ((w.alloc (.cells #[.int .i64 3, .int .u8 ev, .int .u8 eo, .slice dx dn dc, .bool el, .bool eb] 123)).alloc (.cells #[.int .i64 0, .slice none 0 0, .int .u8 0, .int .u8 0, .int .u8 0, .int .u16 0, .bool false] 56)).cell? ⟨w.heap.size, i, none⟩ = some v → ∀ W, Below ((w.alloc (.cells #[.int .i64 3, .int .u8 ev, .int .u8 eo, .slice dx dn dc, .bool el, .bool eb] 123)).alloc (.cells #[.int .i64 0, .slice none 0 0, .int .u8 0, .int .u8 0, .int .u8 0, .int .u16 0, .bool false] 56)).heap.size ((w.alloc (.cells #[.int .i64 3, .int .u8 ev, .int .u8 eo, .slice dx dn dc, .bool el, .bool eb] 123)).alloc (.cells #[.int .i64 0, .slice none 0 0, .int .u8 0, .int .u8 0, .int .u8 0, .int .u16 0, .bool false] 56)) W → W.cell? ⟨w.heap.size, i, none⟩ = some v from fun _ _ q W hW => keepc hW q)
  have e0 : ((w.alloc (.cells #[.int .i64 3, .int .u8 ev, .int .u8 eo, .slice dx dn dc, .bool el, .bool eb] 123)).alloc (.cells #[.int .i64 0, .slice none 0 0, .int .u8 0, .int .u8 0, .int .u8 0, .int .u16 0, .bool false] 56)).cell? ⟨w.heap.size, 0, none⟩ = some (.int .i64 3) := by simp [go_sem]
  have e1 : ((w.alloc (.cells #[.int .i64 3, .int .u8 ev, .int .u8 eo, .slice dx dn dc, .bool el, .bool eb] 123)).alloc (.cells #[.int .i64 0, .slice none 0 0, .int .u8 0, .int .u8 0, .int .u8 0, .int .u16 0, .bool false] 56)).cell? ⟨w.heap.size, 1, none⟩ = some (.int .u8 ev) := by simp [go_sem]
  have e2 : ((w.alloc (.cells #[.int .i64 3, .int .u8 ev, .int .u8 eo, .slice dx dn dc, .bool el, .bool eb] 123)).alloc (.cells #[.int .i64 0, .slice none 0 0, .int .u8 0, .int .u8 0, .int .u8 0, .int .u16 0, .bool false] 56)).cell? ⟨w.heap.size, 2, none⟩ = some (.int .u8 eo) := by simp [go_sem]
  have e3 : ((w.alloc (.cells #[.int .i64 3, .int .u8 ev, .int .u8 eo, .slice dx dn dc, .bool el, .bool eb] 123)).alloc (.cells #[.int .i64 0, .slice none 0 0, .int .u8 0, .int .u8 0, .int .u8 0, .int .u16 0, .bool false] 56)).cell? ⟨w.heap.size, 3, none⟩ = some (.slice dx dn dc) := by simp [go_sem]
  have e4 : ((w.alloc (.cells #[.int .i64 3, .int .u8 ev, .int .u8 eo, .slice dx dn dc, .bool el, .bool eb] 123)).alloc (.cells #[.int .i64 0, .slice none 0 0, .int .u8 0, .int .u8 0, .int .u8 0, .int .u16 0, .bool false] 56)).cell? ⟨w.heap.size, 4, none⟩ = some (.bool el) := by simp [go_sem]
  have e5 : ((w.alloc (.cells #[.int .i64 3, .int .u8 ev, .int .u8 eo, .slice dx dn dc, .bool el, .bool eb] 123)).alloc (.cells #[.int .i64 0, .slice none 0 0, .int .u8 0, .int .u8 0, .int .u8 0, .int .u16 0, .bool false] 56)).cell? ⟨w.heap.size, 5, none⟩ = some (.bool eb) := by simp [go_sem]
  have HE := hid (And.intro e0 (And.intro e1 (And.intro e2 (And.intro e3 (And.intro e4 e5)))))
  generalize hKK : subE c k ⟨3, ev, eo, ed, el, eb⟩ = KK at HC HK1 ⊢
  clear h hb0 hx0 hbs0 e0 e1 e2 e3 e4 e5 HP hd hdf
  generalize hmd : k.mode = md at HM ⊢
  go_enter Tryz.func66, Tryz.ntmps66
  go_wp2_with fail
  with_reducible refine HM.out.mono ?_
  rintro e w1 ⟨rfl, hb1⟩
  have q0 := HBX.out _ _ HE.out.1 w1 hb1
  have q1 := HBX.out _ _ HE.out.2.1 w1 hb1
  have q2 := HBX.out _ _ HE.out.2.2.1 w1 hb1
  have q3 := HBX.out _ _ HE.out.2.2.2.1 w1 hb1
  have q4 := HBX.out _ _ HE.out.2.2.2.2.1 w1 hb1
  have q5 := HBX.out _ _ HE.out.2.2.2.2.2 w1 hb1
  have HC1 := hid (HC.out w1 (below_t HB0.out hb1))
  have HB1 := hid hb1
  clear hb1
  go_wp2_with fail
  with_reducible refine HC1.out.mono ?_
  rintro e w2 ⟨rfl, y1, h2, m2⟩
  have m2' := (Moved.below HB1.out (y.foot L)).trans m2
  have HM2 := hid (mode_any L c y1 KK w2 h2)
  have H2 := hid h2
  have M2 := hid m2'
  have c32 := h2.b.c3
  have hL2 := h2.b.lt
  clear h2 m2 m2' q0 q1 q2 q3 q4 q5
  by_cases hmm : KK.mode = md
  · have HR := hid (show dropIf md KK = KK from if_pos hmm)
    rw [hmm] at HM2
    clear hmm
    go_wp2_with fail
    with_reducible refine HM2.out.mono ?_
    rintro e w3 ⟨rfl, hb3⟩
    have h3 := H2.out.step hb3
    have m3 := M2.out.trans (Moved.below hb3 _)
    have hx4 := box_keptB HH.out hk (Nat.le_succ _) HX0.out m3
    have HPX := hid (hx4.put (.int .i64 0) (.slice none 0 0) (.int .u8 0) (.int .u8 0) (.int .u8 0) (.int .u16 0) (.bool false))
    have HF := hid (prd_putB HH.out hk HB0.out (Nat.le_succ _) HBS.out h3 m3 (.int .i64 0) (.slice none 0 0) (.int .u8 0) (.int .u8 0) (.int .u8 0) (.int .u16 0) (.bool false))
    obtain ⟨z0, z1, z2, z3, z4, z5, z6, fr⟩ := hx4
    have f0 := fr 0 (by omega)
    have f1 := fr 1 (by omega)
    have f2 := fr 2 (by omega)
    have f3 := fr 3 (by omega)
    have f4 := fr 4 (by omega)
    have f5 := fr 5 (by omega)
    have f6 := fr 6 (by omega)
    clear fr
    go_wp2
    revert HPX HF
    generalize hW : put7 w3 (w.heap.size + 1) (.int .i64 0) (.slice none 0 0) (.int .u8 0) (.int .u8 0) (.int .u8 0) (.int .u16 0) (.bool false) = Wf
    intro HPX HF
    obtain ⟨k0, k1, k2, k3, k4, k5, k6, -⟩ := HPX.out
    unfold put7 at hW
    rw [hW]
    clear hW
    exact bodyPost_ret (v := .tuple #[evV ⟨0, [], noH, false⟩ (.slice none 0 0), .bool false]) (by simp [results, Tryz.results66, go_sem, k0, k1, k2, k3, k4, k5, k6, evV, noH]) rfl ⟨_, _, _, rfl, by rw [HR.out]; exact HF.out.1, HF.out.2, ⟨_, _, _, rfl⟩, fun x' e => (by cases e), fun b q => (by cases q)⟩
  · have HR := hid (show dropIf md KK = KK.drop from if_neg hmm)
    have hmb : (KK.mode != md) = true := by simpa using hmm
    generalize KK.mode = md2 at HM2 hmb
    clear hmm
    go_wp2_with fail
    with_reducible refine HM2.out.mono ?_
    rintro e w3 ⟨rfl, hb3⟩
    have h3 := H2.out.step hb3
    have HD := hid (drop_any h3.mr)
    have H3 := hid h3
    have c33 := h3.b.c3
    have hL3 := h3.b.lt
    have M3 := hid (M2.out.trans (Moved.below hb3 _))
    clear h3 hb3 c32
    go_wp2_with fail
    with_reducible refine HD.out.mono ?_
    rintro e w4 ⟨rfl, hmk, hmv⟩
    obtain ⟨h4, m4⟩ := H3.out.maker HK1.out (hmv.sub (T := y1.K :: blkV y1.rd) (T' := y1.K :: blkV (.slice none 0 0)) (fun b q => by rw [List.mem_singleton.1 q]; simp) (fun b q => .inl q)) hmk (fun b q => by cases q)
    have m4' := M3.out.trans m4
    have hx4 := box_keptB HH.out hk (Nat.le_succ _) HX0.out m4'
    have HPX := hid (hx4.put (.int .i64 0) (.slice none 0 0) (.int .u8 0) (.int .u8 0) (.int .u8 0) (.int .u16 0) (.bool false))
    have HF := hid (prd_putB HH.out hk HB0.out (Nat.le_succ _) HBS.out h4 m4' (.int .i64 0) (.slice none 0 0) (.int .u8 0) (.int .u8 0) (.int .u8 0) (.int .u16 0) (.bool false))
    obtain ⟨z0, z1, z2, z3, z4, z5, z6, fr⟩ := hx4
    have f0 := fr 0 (by omega)
    have f1 := fr 1 (by omega)
    have f2 := fr 2 (by omega)
    have f3 := fr 3 (by omega)
    have f4 := fr 4 (by omega)
    have f5 := fr 5 (by omega)
    have f6 := fr 6 (by omega)
    clear fr
    go_wp2
    revert HPX HF
    generalize hW : put7 w4 (w.heap.size + 1) (.int .i64 0) (.slice none 0 0) (.int .u8 0) (.int .u8 0) (.int .u8 0) (.int .u16 0) (.bool false) = Wf
    intro HPX HF
    obtain ⟨k0, k1, k2, k3, k4, k5, k6, -⟩ := HPX.out
    unfold put7 at hW
    rw [hW]
    clear hW
    exact bodyPost_ret (v := .tuple #[evV ⟨0, [], noH, false⟩ (.slice none 0 0), .bool false]) (by simp [results, Tryz.results66, go_sem, k0, k1, k2, k3, k4, k5, k6, evV, noH]) rfl ⟨_, _, _, rfl, by rw [HR.out]; exact HF.out.1, HF.out.2, ⟨_, _, _, rfl⟩, fun x' e => (by cases e), fun b q => (by cases q)⟩
theorem process_any (e : Tn.Ev) (he : EvOK e) (dx : Option Addr) (dn dc : Nat) (h : LkM w L c y k) (hk : LkOK c k) (hd : OwnB w (.slice dx dn dc) e.data) (hdf : ∀ b ∈ blkV (.slice dx dn dc), b ∉ y.foot L) (hol : k.out.length ≤ 80000000) : Calls Tryz.prog 66 #[.pointer (some ⟨L, 0, none⟩), .agg #[.int .i64 e.kind, .int .u8 e.verb, .int .u8 e.opt, .slice dx dn dc, .bool e.long, .bool e.broken]] w (PrD L c y (procE c k e) (blkV (.slice dx dn dc)) w) := by
  obtain ⟨ek, ev, eo, ed, el, eb⟩ := e
  have hr := hd.rdg
  rcases he.kind with q | q | q | q
  all_goals dsimp only at q; subst q
  · exact process_0 dx dn dc ev eo ed el eb h hk hr hdf hd.lt
  · exact process_1 dx dn dc ev eo ed el eb h hk hd.lt
  · exact process_2 dx dn dc ev eo ed el eb h hk (he.verb rfl) he.opt hol
  · exact process_3 dx dn dc ev eo ed el eb h hk he.opt hr hdf (he.data rfl) hol
end
end Go.Proofs.YtaanpnmgibcemaaGreatDoor
