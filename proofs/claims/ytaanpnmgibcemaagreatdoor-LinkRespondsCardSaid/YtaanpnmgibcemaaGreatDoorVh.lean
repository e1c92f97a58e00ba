/-
  What comes of data, and of a command.
-/
import Derived.Test.YtaanpnmgibcemaaGreatDoorVg
namespace Go.Proofs.YtaanpnmgibcemaaGreatDoor
open Go.RowKit Go.Lib

theorem ext_any (x : Option Addr) (n cc : Nat) (lg : Bool) (rc : List Int) (w : World) (h : Reads w (.slice x n cc) rc) (hl : rc.length ≤ 100000) : Calls Tryz.prog 96 #[.agg #[.slice x n cc, .bool lg]] w (EvX (evtOf 2 rc lg) (.slice x n cc) w) := by
  rcases hp : parseL rc with _ | ⟨hd, rest⟩
  · exact extended_none x n cc lg rc w h hl hp
  · exact extended_some x n cc lg rc w hd rest h hl hp
theorem add_any {K : Nat} {rd : Value} {rc : List Int} {lg : Bool} {w : World} (x : Option Addr) (n cc : Nat) (ps : List Int) (h : MkM w K rd rc lg) (hp : Reads w (.slice x n cc) ps) (hK : K ∉ blkV (.slice x n cc)) (hrc : rc.length ≤ 8192) : Calls Tryz.prog 93 #[.pointer (some ⟨K, 0, none⟩), .slice x n cc] w (AddK K rd (addR rc lg ps) w) := by
  have hn := reads_len hp
  cases lg
  · by_cases hl : rc.length + ps.length ≤ 8192
    · rw [show addR rc false ps = (rc ++ ps, false) by unfold addR; rw [if_neg (by decide), if_pos hl]]
      exact add_fit x n cc ps h hp hn hl
    · rw [show addR rc false ps = ((rc ++ ps).take 5, true) by unfold addR; rw [if_neg (by decide), if_neg hl]]
      obtain ⟨g, off, cap, e, h1, h2, h3⟩ := reads_row hp (fun q => by rw [q] at hl; simp at hl; omega)
      simp only [Value.slice.injEq] at e
      obtain ⟨rfl, -, rfl⟩ := e
      exact add_long _ n cc ps h hp hn (by omega) hK hrc (by omega)
  · rw [show addR rc true ps = (rc, true) from if_pos rfl]
    exact add_over x n cc h
/-- What comes of an element, in memory. -/
def PrD (L : Nat) (c : Cf) (y : Ly) (r : Lk × Option Evt) (S : List Nat) (w : World) (e : Ending) (w' : World) : Prop :=
  ∃ x dv y', e = .returned (.tuple #[evV x dv, .bool r.2.isSome]) ∧ LkM w' L c y' r.1 ∧ Moved w w' (y.foot L) (y'.foot L) ∧ (∃ a n cc, dv = .slice a n cc) ∧ (∀ x', r.2 = some x' → x = x' ∧ Reads w' dv x'.data ∧ ∀ b ∈ blkV dv, b ∉ y'.foot L) ∧ ∀ b ∈ blkV dv, b ∈ S ∨ b ∈ y.foot L ∨ w.heap.size ≤ b
section
variable {L : Nat} {c : Cf} {y y' : Ly} {k k' : Lk} {w W1 w2 : World}
theorem foot_new (m : Moved W1 w2 (y.foot L) (y'.foot L)) {b : Nat} (hb : b < W1.heap.size) (hn : b ∉ y.foot L) : b ∉ y'.foot L := fun q => by
  rcases m.from' b q with e | e
  · exact hn e
  · omega
theorem LkM.fresh (h : LkM w L c y k) (hk : LkOK c k) {b : Nat} (hb : w.heap.size ≤ b) : b ∉ y.foot L := fun q => by have := h.lt hk b q; omega
theorem prd_put (h : LkM w L c y k) (hk : LkOK c k) (hB : Below w.heap.size w W1) (hbs : w.heap.size < W1.heap.size) (h2 : LkM w2 L c y' k') (m : Moved W1 w2 (y.foot L) (y'.foot L)) (v0 v1 v2 v3 v4 v5 v6 : Value) :
    LkM (put7 w2 w.heap.size v0 v1 v2 v3 v4 v5 v6) L c y' k' ∧ Moved w (put7 w2 w.heap.size v0 v1 v2 v3 v4 v5 v6) (y.foot L) (y'.foot L) := by
  have hn := foot_new m hbs (h.fresh hk (Nat.le_refl _))
  refine ⟨h2.moved (put7_moved w2 w.heap.size v0 v1 v2 v3 v4 v5 v6) (fun b q e => hn (by rw [← List.mem_singleton.1 e]; exact q)), ?_⟩
  exact ((Moved.below hB _).trans m).late7 (Nat.le_refl _) v0 v1 v2 v3 v4 v5 v6
/-- A box that was laid ahead of it all. -/
theorem box_kept {v0 v1 v2 v3 v4 v5 v6 : Value} (h : LkM w L c y k) (hk : LkOK c k) (hx : Box7 W1 w.heap.size v0 v1 v2 v3 v4 v5 v6) (m : Moved W1 w2 (y.foot L) (y'.foot L)) : Box7 w2 w.heap.size v0 v1 v2 v3 v4 v5 v6 := hx.moved m (h.fresh hk (Nat.le_refl _))
set_option maxRecDepth 100000 in
set_option maxHeartbeats 2000000 in
theorem takeData_any (x : Option Addr) (n cc : Nat) (ps : List Int) (h : LkM w L c y k) (hk : LkOK c k) (hp : Reads w (.slice x n cc) ps) (hpf : ∀ b ∈ blkV (.slice x n cc), b ∉ y.foot L) (vb ob : Int) (lg br : Bool) : Calls Tryz.prog 82 #[.pointer (some ⟨L, 0, none⟩), .slice x n cc] w (PrD L c y (procE c k ⟨0, vb, ob, ps, lg, br⟩) (blkV (.slice x n cc)) w) := by
  have hb0 := bal (Below.refl w.heap.size w) (.cells #[.int .i64 0, .slice none 0 0, .int .u8 0, .int .u8 0, .int .u8 0, .int .u16 0, .bool false] 56)
  have hx := Box7.new (v0 := .int .i64 0) (v1 := .slice none 0 0) (v2 := .int .u8 0) (v3 := .int .u8 0) (v4 := .int .u8 0) (v5 := .int .u16 0) (v6 := .bool false) w 56
  have HM := hid (mode_any L c y k _ (h.step hb0))
  have HB0 := hid hb0
  have HX := hid hx
  have HH := hid h
  have HP := hid hp
  have HPF := hid hpf
  by_cases hm : k.mode = 0
  · rw [show procE c k ⟨0, vb, ob, ps, lg, br⟩ = (k, some ⟨2, ps, noH, false⟩) by unfold procE; rw [if_pos rfl, if_pos hm]]
    rw [hm] at HM
    clear h hp hpf hb0 hx hm
    go_enter Tryz.func82, Tryz.ntmps82
    go_wp2_with fail
    with_reducible refine HM.out.mono ?_
    rintro e w1 ⟨rfl, hb1⟩
    have HBW := hid (below_t HB0.out hb1)
    have hbs : w.heap.size < w1.heap.size := Nat.lt_of_lt_of_le (by simp) hb1.size
    have h2 := HH.out.step HBW.out
    have hx2 := HX.out.step hb1
    have HPX := hid (hx2.put (.int .i64 2) (.slice x n cc) (.int .u8 0) (.int .u8 0) (.int .u8 0) (.int .u16 0) (.bool false))
    have HF := hid (prd_put HH.out hk HBW.out hbs h2 (Moved.refl _ _) (.int .i64 2) (.slice x n cc) (.int .u8 0) (.int .u8 0) (.int .u8 0) (.int .u16 0) (.bool false))
    obtain ⟨c0, c1, c2, c3, c4, c5, c6, fr⟩ := hx2
    have f0 := fr 0 (by omega)
    have f1 := fr 1 (by omega)
    have f2 := fr 2 (by omega)
    have f3 := fr 3 (by omega)
    have f4 := fr 4 (by omega)
    have f5 := fr 5 (by omega)
    have f6 := fr 6 (by omega)
    clear fr h2 hb1
    go_wp2
    revert HPX HF
    generalize hW : put7 w1 w.heap.size (.int .i64 2) (.slice x n cc) (.int .u8 0) (.int .u8 0) (.int .u8 0) (.int .u16 0) (.bool false) = Wf
    intro HPX HF
    obtain ⟨k0, k1, k2, k3, k4, k5, k6, -⟩ := HPX.out
    unfold put7 at hW
    rw [hW]
    clear hW
    refine bodyPost_ret (v := .tuple #[evV ⟨2, ps, noH, false⟩ (.slice x n cc), .bool true]) (by simp [results, Tryz.results82, go_sem, k0, k1, k2, k3, k4, k5, k6, evV, noH]) rfl ⟨_, _, y, rfl, HF.out.1, HF.out.2, ⟨_, _, _, rfl⟩, fun x' e => ?_, fun b q => .inl q⟩
    cases e
    exact ⟨rfl, reads_moved HP.out HF.out.2 HPF.out, HPF.out⟩
  · have hm0 : (k.mode == 0) = false := by simpa using hm
    rw [show procE c k ⟨0, vb, ob, ps, lg, br⟩ = ({ k with rc := (addR k.rc k.lg ps).1, lg := (addR k.rc k.lg ps).2 }, none) by unfold procE; rw [if_pos rfl, if_neg hm]]
    have HA := hid (fun W (hW : Below w.heap.size w W) => add_any x n cc ps (h.step hW).mr (reads_below hp hW) (fun q => hpf _ q (mem_foot.2 (by simp))) hk.rc.1)
    have c3 := h.b.c3
    have hL := h.b.lt
    generalize k.mode = md at HM hm0
    clear h hp hpf hb0 hx hm
    go_enter Tryz.func82, Tryz.ntmps82
    go_wp2_with fail
    with_reducible refine HM.out.mono ?_
    rintro e w1 ⟨rfl, hb1⟩
    have HBW := hid (below_t HB0.out hb1)
    have hbs : w.heap.size < w1.heap.size := Nat.lt_of_lt_of_le (by simp) hb1.size
    have hx2 := HX.out.step hb1
    have c31 := keepc HBW.out c3
    have HA1 := hid (HA.out w1 HBW.out)
    have HX2 := hid hx2
    clear hx2 hb1
    go_wp2_with fail
    with_reducible refine HA1.out.mono ?_
    rintro e w2 ⟨rfl, rd', hmk, hmv⟩
    obtain ⟨h2, m2⟩ := (HH.out.step HBW.out).maker hk hmv hmk (fun b q => List.mem_cons_of_mem _ q)
    have hx3 := box_kept HH.out hk HX2.out m2
    have HPX := hid (hx3.put (.int .i64 0) (.slice none 0 0) (.int .u8 0) (.int .u8 0) (.int .u8 0) (.int .u16 0) (.bool false))
    have HF := hid (prd_put HH.out hk HBW.out hbs h2 m2 (.int .i64 0) (.slice none 0 0) (.int .u8 0) (.int .u8 0) (.int .u8 0) (.int .u16 0) (.bool false))
    obtain ⟨c0, c1, c2, cx3, c4, c5, c6, fr⟩ := hx3
    have f0 := fr 0 (by omega)
    have f1 := fr 1 (by omega)
    have f2 := fr 2 (by omega)
    have f3 := fr 3 (by omega)
    have f4 := fr 4 (by omega)
    have f5 := fr 5 (by omega)
    have f6 := fr 6 (by omega)
    clear fr h2 hmk hmv m2
    go_wp2
    revert HPX HF
    generalize hW : put7 w2 w.heap.size (.int .i64 0) (.slice none 0 0) (.int .u8 0) (.int .u8 0) (.int .u8 0) (.int .u16 0) (.bool false) = Wf
    intro HPX HF
    obtain ⟨k0, k1, k2, k3, k4, k5, k6, -⟩ := HPX.out
    unfold put7 at hW
    rw [hW]
    clear hW
    exact bodyPost_ret (v := .tuple #[evV ⟨0, [], noH, false⟩ (.slice none 0 0), .bool false]) (by simp [results, Tryz.results82, go_sem, k0, k1, k2, k3, k4, k5, k6, evV, noH]) rfl ⟨_, _, _, rfl, HF.out.1, HF.out.2, ⟨_, _, _, rfl⟩, fun x' e => (by cases e), fun b q => (by cases q)⟩
end
end Go.Proofs.YtaanpnmgibcemaaGreatDoor
