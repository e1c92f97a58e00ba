/-
  What is told of a record behind a header: extendedEvent.
-/
import Derived.Test.YtaanpnmgibcemaaGreatDoorVf
namespace Go.Proofs.YtaanpnmgibcemaaGreatDoor
open Go.RowKit Go.Lib

section
variable {P : Program} {ops : Array Oper} {Q : Exit → Act → World → Prop} {md : Region.Mode} {S : World → Prop}
/-- An operation is taken first: its slot is written. -/
theorem takeD {i : Nat} {oi : Oper} {v : Value} (d : Tmp) {fuel : Nat} {listed : Array Bool} {ts : Array Value} {ds : List Deferred} {w : World} (hi : ops[i]? = some oi) (hd : oi.dst = some d)
    (hs : Region.noSelect ops = true) (hf : Region.free md ops listed i = true) (hr : (Region.ready md ops listed).contains i = true)
    (hQ : ∀ c a w, Q (.panic c) (a.put oi.dst v) w → Q (.panic c) a w) (hS : S w) (hy : YieldsIf P ops S oi v ⟨ts, ds⟩)
    (h : wpAnyH P md ops Q S fuel (listed.setIfInBounds i true) ⟨ts.setIfInBounds d v, ds⟩ w) : wpAnyH P md ops Q S (fuel + 1) listed ⟨ts, ds⟩ w :=
  wpAnyH_take hi hs hf hr hQ hy hS (by rw [hd]; exact h)
end
/-- An event is told of a record: its data are the record's own, or new, or none. -/
def EvX (x : Evt) (rd : Value) (w : World) (e : Ending) (w' : World) : Prop := ∃ dv, e = .returned (evV x dv) ∧ Below w.heap.size w w' ∧ (∃ a n c, dv = .slice a n c) ∧ Reads w' dv x.data ∧ ((∀ b ∈ blkV dv, w.heap.size ≤ b) ∨ dv = rd)
theorem box2_kept {w w1 : World} {b : Nat} {u v : Value} (hb : Below w.heap.size w w1) (h : w.cell? ⟨b, 0, none⟩ = some u ∧ w.cell? ⟨b, 1, none⟩ = some v) : w1.cell? ⟨b, 0, none⟩ = some u ∧ w1.cell? ⟨b, 1, none⟩ = some v := ⟨keepc hb h.1, keepc hb h.2⟩
section
variable (x : Option Addr) (n cc : Nat) (lg : Bool) (rc : List Int) (w : World)
set_option maxRecDepth 100000 in
set_option maxHeartbeats 2000000 in
theorem extended_none (h : Reads w (.slice x n cc) rc) (hl : rc.length ≤ 100000) (hp : parseL rc = none) : Calls Tryz.prog 96 #[.agg #[.slice x n cc, .bool lg]] w (EvX (evtOf 2 rc lg) (.slice x n cc) w) := by
  have hb0 := bal (Below.refl w.heap.size w) (.cells #[.slice x n cc, .bool lg] 173)
  have hb1 := bal hb0 (.cells #[.int .i64 0, .slice none 0 0, .int .u8 0, .int .u8 0, .int .u8 0, .int .u16 0, .bool false] 56)
  have hx := Box7.new (v0 := .int .i64 0) (v1 := .slice none 0 0) (v2 := .int .u8 0) (v3 := .int .u8 0) (v4 := .int .u8 0) (v5 := .int .u16 0) (v6 := .bool false) (w.alloc (.cells #[.slice x n cc, .bool lg] 173)) 56
  rw [World.size_alloc] at hx
  obtain ⟨er, her, hcall⟩ := parse_no (.slice x n cc) rc _ (reads_below h hb1) hl hp
  have hev : evtOf 2 rc lg = if lg = true then ⟨5, [], noH, false⟩ else ⟨6, rc, noH, false⟩ := by unfold evtOf; rw [if_neg (by decide), hp]
  rw [hev]
  have e1 : (er == 0) = false := by simpa using her
  have e2 : (er != 0) = true := by simpa using her
  have HB1 := hid hb1
  have HX := hid hx
  have HR := hid h
  have HC := hid hcall
  clear h hb0 hb1 hx hcall her hev hp
  cases lg
  · go_enter Tryz.func96, Tryz.ntmps96
    go_wp2_with fail
    with_reducible refine HC.out.mono ?_
    rintro e w1 ⟨v1, rfl, ho1, hb1, hk1⟩
    obtain ⟨y1, n1, c1, rfl⟩ := own_slice ho1
    have r0 : w1.cell? ⟨w.heap.size, 0, none⟩ = some (.slice x n cc) := keepc hb1 (by simp [go_sem])
    have r1 : w1.cell? ⟨w.heap.size, 1, none⟩ = some (.bool false) := keepc hb1 (by simp [go_sem])
    have hs1 : w.heap.size + 1 < w1.heap.size := (HX.out.step hb1).lt
    have hs0 : w.heap.size < w1.heap.size := by omega
    have HP := hid ((HX.out.step hb1).put (.int .i64 6) (.slice x n cc) (.int .u8 0) (.int .u8 0) (.int .u8 0) (.int .u16 0) (.bool false))
    have HM := hid ((Moved.below (below_t HB1.out hb1) []).late7 (b := w.heap.size + 1) (by omega) (.int .i64 6) (.slice x n cc) (.int .u8 0) (.int .u8 0) (.int .u8 0) (.int .u16 0) (.bool false))
    have HX1 := hid (HX.out.step hb1)
    obtain ⟨c0, c1, c2, c3, c4, c5, c6, fr⟩ := HX1.out
    have f0 := fr 0 (by omega)
    have f1 := fr 1 (by omega)
    have f2 := fr 2 (by omega)
    have f3 := fr 3 (by omega)
    have f4 := fr 4 (by omega)
    have f5 := fr 5 (by omega)
    have f6 := fr 6 (by omega)
    clear ho1 hb1 hk1 fr
    go_wp2
    revert HP HM
    generalize hW : put7 w1 (w.heap.size + 1) (.int .i64 6) (.slice x n cc) (.int .u8 0) (.int .u8 0) (.int .u8 0) (.int .u16 0) (.bool false) = Wf
    intro HP HM
    obtain ⟨k0, k1, k2, k3, k4, k5, k6, -⟩ := HP.out.step (bal (Below.refl Wf.heap.size Wf) (.cells #[.int .u8 0, .int .u8 0, .int .u8 0, .int .u16 0] 54))
    unfold put7 at hW
    rw [hW]
    clear hW
    have hbf : Below w.heap.size w (Wf.alloc (.cells #[.int .u8 0, .int .u8 0, .int .u8 0, .int .u16 0] 54)) := bal (HM.out.toBelow (Nat.le_refl _) (fun _ q => by cases q)) _
    exact bodyPost_ret (v := evV ⟨6, rc, noH, false⟩ (.slice x n cc)) (by simp [results, Tryz.results96, go_sem, k0, k1, k2, k3, k4, k5, k6, evV, noH]) rfl ⟨_, rfl, hbf, ⟨_, _, _, rfl⟩, reads_below HR.out hbf, .inr rfl⟩
  · go_enter Tryz.func96, Tryz.ntmps96
    go_wp2_with fail
    with_reducible refine HC.out.mono ?_
    rintro e w1 ⟨v1, rfl, ho1, hb1, hk1⟩
    obtain ⟨y1, n1, c1, rfl⟩ := own_slice ho1
    have r0 : w1.cell? ⟨w.heap.size, 0, none⟩ = some (.slice x n cc) := keepc hb1 (by simp [go_sem])
    have r1 : w1.cell? ⟨w.heap.size, 1, none⟩ = some (.bool true) := keepc hb1 (by simp [go_sem])
    have hs1 : w.heap.size + 1 < w1.heap.size := (HX.out.step hb1).lt
    have hs0 : w.heap.size < w1.heap.size := by omega
    have HP := hid ((HX.out.step hb1).put (.int .i64 5) (.slice none 0 0) (.int .u8 0) (.int .u8 0) (.int .u8 0) (.int .u16 0) (.bool false))
    have HM := hid ((Moved.below (below_t HB1.out hb1) []).late7 (b := w.heap.size + 1) (by omega) (.int .i64 5) (.slice none 0 0) (.int .u8 0) (.int .u8 0) (.int .u8 0) (.int .u16 0) (.bool false))
    have HX1 := hid (HX.out.step hb1)
    obtain ⟨c0, c1, c2, c3, c4, c5, c6, fr⟩ := HX1.out
    have f0 := fr 0 (by omega)
    have f1 := fr 1 (by omega)
    have f2 := fr 2 (by omega)
    have f3 := fr 3 (by omega)
    have f4 := fr 4 (by omega)
    have f5 := fr 5 (by omega)
    have f6 := fr 6 (by omega)
    clear ho1 hb1 hk1 fr
    go_wp2
    revert HP HM
    generalize hW : put7 w1 (w.heap.size + 1) (.int .i64 5) (.slice none 0 0) (.int .u8 0) (.int .u8 0) (.int .u8 0) (.int .u16 0) (.bool false) = Wf
    intro HP HM
    obtain ⟨k0, k1, k2, k3, k4, k5, k6, -⟩ := HP.out.step (bal (Below.refl Wf.heap.size Wf) (.cells #[.int .u8 0, .int .u8 0, .int .u8 0, .int .u16 0] 54))
    unfold put7 at hW
    rw [hW]
    clear hW
    have hbf : Below w.heap.size w (Wf.alloc (.cells #[.int .u8 0, .int .u8 0, .int .u8 0, .int .u16 0] 54)) := bal (HM.out.toBelow (Nat.le_refl _) (fun _ q => by cases q)) _
    exact bodyPost_ret (v := evV ⟨5, [], noH, false⟩ (.slice none 0 0)) (by simp [results, Tryz.results96, go_sem, k0, k1, k2, k3, k4, k5, k6, evV, noH]) rfl ⟨_, rfl, hbf, ⟨_, _, _, rfl⟩, reads_nil _, .inl (fun _ q => by cases q)⟩
set_option maxRecDepth 100000 in
set_option maxHeartbeats 2000000 in
theorem extended_some (hd : Hdr) (rest : List Int) (hr : Reads w (.slice x n cc) rc) (hl : rc.length ≤ 100000) (hp : parseL rc = some (hd, rest)) : Calls Tryz.prog 96 #[.agg #[.slice x n cc, .bool lg]] w (EvX (evtOf 2 rc lg) (.slice x n cc) w) := by
  have hb0 := bal (Below.refl w.heap.size w) (.cells #[.slice x n cc, .bool lg] 173)
  have hb1 := bal hb0 (.cells #[.int .i64 0, .slice none 0 0, .int .u8 0, .int .u8 0, .int .u8 0, .int .u16 0, .bool false] 56)
  have hx := Box7.new (v0 := .int .i64 0) (v1 := .slice none 0 0) (v2 := .int .u8 0) (v3 := .int .u8 0) (v4 := .int .u8 0) (v5 := .int .u16 0) (v6 := .bool false) (w.alloc (.cells #[.slice x n cc, .bool lg] 173)) 56
  rw [World.size_alloc] at hx
  obtain ⟨hfit, hcall⟩ := parse_yes (.slice x n cc) rc hd rest _ (reads_below hr hb1) hl hp
  have hev : evtOf 2 rc lg = if lg = true then ⟨5, [], hd, true⟩ else ⟨kindH hd.t, rest, hd, true⟩ := by unfold evtOf; rw [if_neg (by decide), hp]
  rw [hev]
  have HC := hid hcall
  have HB1 := hid hb1
  have HX := hid hx
  clear hr hb0 hb1 hx hcall hfit hev hp
  cases lg
  · go_enter Tryz.func96, Tryz.ntmps96
    go_wp2_with fail
    with_reducible refine HC.out.mono ?_
    rintro e w1 ⟨v1, rfl, ho1, hb1, hk1⟩
    obtain ⟨y1, n1, c1, rfl⟩ := own_slice ho1
    have HO1 := hid ho1
    have HK1 := hid hk1
    have r0 : w1.cell? ⟨w.heap.size, 0, none⟩ = some (.slice x n cc) := keepc hb1 (by simp [go_sem])
    have r1 : w1.cell? ⟨w.heap.size, 1, none⟩ = some (.bool false) := keepc hb1 (by simp [go_sem])
    have hs1 : w.heap.size + 1 < w1.heap.size := (HX.out.step hb1).lt
    have hs0 : w.heap.size < w1.heap.size := by omega
    have HBH := hid (below_t HB1.out hb1)
    have HS := hid (fun (w' : World) (hW : Below (w1.alloc (.cells #[.int .u8 hd.t, .int .u8 hd.r, .int .u8 hd.s, .int .u16 hd.q] 54)).heap.size (w1.alloc (.cells #[.int .u8 hd.t, .int .u8 hd.r, .int .u8 hd.s, .int .u16 hd.q] 54)) w') => show w'.cell? ⟨w1.heap.size, 0, none⟩ = some (.int .u8 hd.t) ∧ w'.cell? ⟨w1.heap.size, 1, none⟩ = some (.int .u8 hd.r) ∧ w'.cell? ⟨w1.heap.size, 2, none⟩ = some (.int .u8 hd.s) ∧ w'.cell? ⟨w1.heap.size, 3, none⟩ = some (.int .u16 hd.q) ∧ Below w.heap.size w w' ∧ Open7 w' (w.heap.size + 1) from
      ⟨keepc hW (by simp [go_sem]), keepc hW (by simp [go_sem]), keepc hW (by simp [go_sem]), keepc hW (by simp [go_sem]), below_t (bal HBH.out _) hW, (((HX.out.step hb1).opened.step (bal (Below.refl _ _) (.cells #[.int .u8 hd.t, .int .u8 hd.r, .int .u8 hd.s, .int .u16 hd.q] 54)))).step hW⟩)
    have HKO := hid (fun W => kindOf_any hd.t hd.r hd.s hd.q W)
    have hS2 := HS.out _ (Below.refl _ _)
    have hO2 : OwnB (w1.alloc (.cells #[.int .u8 hd.t, .int .u8 hd.r, .int .u8 hd.s, .int .u16 hd.q] 54)) (.slice y1 n1 c1) rest := ho1.step (bal (Below.refl _ _) _)
    clear ho1 hb1 hk1 HS
    go_wp2
    clear r0 r1
    revert hS2 hO2
    generalize w1.alloc (.cells #[.int .u8 hd.t, .int .u8 hd.r, .int .u8 hd.s, .int .u16 hd.q] 54) = W2
    revert hs1 hs0 HK1
    generalize w1.heap.size = H
    intro HK1 hs1 hs0 hS2 hO2
    have HO2 := hid hO2
    have HSD := hid (hdo_kept hS2 (Below.refl _ _).drew)
    have HBW := hid hS2.2.2.2.2.1
    have HOP := hid hS2.2.2.2.2.2
    have HKB := hid (fun b (q : b ∈ blkV (.slice y1 n1 c1)) => HK1.out b q)
    clear hS2 hO2 HO1 HBH HX HC HB1 HK1
    refine wp_region_held_drew (S := (fun w' => w'.cell? ⟨H, 0, none⟩ = some (.int .u8 hd.t) ∧ w'.cell? ⟨H, 1, none⟩ = some (.int .u8 hd.r) ∧ w'.cell? ⟨H, 2, none⟩ = some (.int .u8 hd.s) ∧ w'.cell? ⟨H, 3, none⟩ = some (.int .u16 hd.q))) (by kernel_rfl) ?_ (fun hHeld => ?_)
    · exact ⟨HSD.out.1, HSD.out.2.1, HSD.out.2.2.1, HSD.out.2.2.2.1⟩
    refine takeD (i := 0) (v := ?_) 24 rfl rfl (by kernel_rfl) (by kernel_rfl) (by kernel_rfl) (fun _ _ _ h => h) (by assumption) (Or.inl ⟨by rfl, ?_⟩) ?_
    rotate_left
    · intro w hSw
      (try dsimp only at hSw)
      go_simp
      try with_reducible rfl
    simp only [List.setIfInBounds_toArray, List.set_cons_zero, List.set_cons_succ]
    refine takeD (i := 2) (v := ?_) 26 rfl rfl (by kernel_rfl) (by kernel_rfl) (by kernel_rfl) (fun _ _ _ h => h) (by assumption) (Or.inl ⟨by rfl, ?_⟩) ?_
    rotate_left
    · intro w hSw
      (try dsimp only at hSw)
      go_simp
      try with_reducible rfl
    simp only [List.setIfInBounds_toArray, List.set_cons_zero, List.set_cons_succ]
    refine takeD (i := 3) (v := ?_) 27 rfl rfl (by kernel_rfl) (by kernel_rfl) (by kernel_rfl) (fun _ _ _ h => h) (by assumption) (Or.inl ⟨by rfl, ?_⟩) ?_
    rotate_left
    · intro w hSw
      (try dsimp only at hSw)
      go_simp
      try with_reducible rfl
    simp only [List.setIfInBounds_toArray, List.set_cons_zero, List.set_cons_succ]
    refine wpAnyH_ready (rs := [1]) (by kernel_rfl) (by simp) ?_
    refine AllReadyH.cons (by simp only [List.getElem?_toArray, List.getElem?_cons_succ, List.getElem?_cons_zero]; rfl) (fun K hK => ?_) AllReadyH.nil
    go_simp
    with_reducible refine (HKO.out _).mono ?_
    rintro e w2 ⟨rfl, hb2⟩
    refine hK.out _ _ ?_ (fun hHeldN => ?_)
    · exact ⟨keepc hb2 HSD.out.1, keepc hb2 HSD.out.2.1, keepc hb2 HSD.out.2.2.1, keepc hb2 HSD.out.2.2.2.1⟩
    clear hK K hHeld
    have hHeld := hHeldN
    clear hHeldN
    (try simp only [Act.put, List.setIfInBounds_toArray, List.set_cons_zero, List.set_cons_succ])
    refine takeD (i := 4) (v := ?_) 28 rfl rfl (by kernel_rfl) (by kernel_rfl) (by kernel_rfl) (fun _ _ _ h => h) (by assumption) (Or.inl ⟨by rfl, ?_⟩) ?_
    rotate_left
    · intro w hSw
      (try dsimp only at hSw)
      go_simp
      try with_reducible rfl
    simp only [List.setIfInBounds_toArray, List.set_cons_zero, List.set_cons_succ]
    have hb3 : Below W2.heap.size W2 w2 := below_t (Below.refl W2.heap.size W2).drew hb2
    have ho2 := HO2.out.step hb3
    obtain ⟨z0, z1, z2, z3, z4, z5, z6, zx⟩ := (HOP.out.step hb3).ex
    have HZX := hid zx
    obtain ⟨y0, yy1, y2, y3, y4, y5, y6, fr⟩ := zx
    have f0 := fr 0 (by omega)
    have f1 := fr 1 (by omega)
    have f2 := fr 2 (by omega)
    have f3 := fr 3 (by omega)
    have f4 := fr 4 (by omega)
    have f5 := fr 5 (by omega)
    have f6 := fr 6 (by omega)
    have hm := put7_moved w2 (w.heap.size + 1) (.int .i64 (kindH hd.t)) (.slice y1 n1 c1) (.int .u8 hd.t) (.int .u8 hd.r) (.int .u8 hd.s) (.int .u16 hd.q) (.bool true)
    have hn : H ∉ [w.heap.size + 1] := fun e => Nat.ne_of_gt hs1 (List.mem_singleton.1 e)
    have hfin : Below w.heap.size w (put7 w2 (w.heap.size + 1) (.int .i64 (kindH hd.t)) (.slice y1 n1 c1) (.int .u8 hd.t) (.int .u8 hd.r) (.int .u8 hd.s) (.int .u16 hd.q) (.bool true)) := ((Moved.below (below_t HBW.out hb3) []).late7 (Nat.le_succ _) (.int .i64 (kindH hd.t)) (.slice y1 n1 c1) (.int .u8 hd.t) (.int .u8 hd.r) (.int .u8 hd.s) (.int .u16 hd.q) (.bool true)).toBelow (Nat.le_refl _) (fun _ q => by cases q)
    have hob : w.heap.size + 1 ∉ blkV (.slice y1 n1 c1) := fun q => by have := HKB.out _ q; simp only [World.size_alloc] at this; omega
    have HFR := hid (ho2.moved hm (fun b q e => hob (by rw [← List.mem_singleton.1 e]; exact q)))
    have HPX := hid (HZX.out.put (.int .i64 (kindH hd.t)) (.slice y1 n1 c1) (.int .u8 hd.t) (.int .u8 hd.r) (.int .u8 hd.s) (.int .u16 hd.q) (.bool true))
    have HMV := hid hm
    have HHN := hid hn
    have HFI := hid hfin
    clear ho2 fr hm hfin hob HZX hb3 hb2 hn
    refine wpAnyH_ready (rs := [5]) (by kernel_rfl) (by simp) ?_
    refine AllReadyH.cons (by simp only [List.getElem?_toArray, List.getElem?_cons_succ, List.getElem?_cons_zero]; rfl) (fun K hK => ?_) AllReadyH.nil
    go_simp
    refine hK.out _ _ ?_ (fun hHeldN => ?_)
    · exact ⟨cell_moved HMV.out hHeld.1 HHN.out, cell_moved HMV.out hHeld.2.1 HHN.out, cell_moved HMV.out hHeld.2.2.1 HHN.out, cell_moved HMV.out hHeld.2.2.2 HHN.out⟩
    clear hK K hHeld
    have hHeld := hHeldN
    clear hHeldN
    (try simp only [Act.put, List.setIfInBounds_toArray, List.set_cons_zero, List.set_cons_succ])
    refine wpAnyH_done (by kernel_rfl) ?_ _
    clear hHeld
    revert HFR HPX HFI
    generalize hW : put7 w2 (w.heap.size + 1) (.int .i64 (kindH hd.t)) (.slice y1 n1 c1) (.int .u8 hd.t) (.int .u8 hd.r) (.int .u8 hd.s) (.int .u16 hd.q) (.bool true) = Wf
    intro HFR HPX HFI
    obtain ⟨k0, k1, k2, k3, k4, k5, k6, -⟩ := HPX.out
    unfold put7 at hW
    rw [hW]
    clear hW
    go_wp2
    exact bodyPost_ret (v := evV ⟨kindH hd.t, rest, hd, true⟩ (.slice y1 n1 c1)) (by simp [results, Tryz.results96, go_sem, k0, k1, k2, k3, k4, k5, k6, evV]) rfl ⟨_, rfl, HFI.out, ⟨_, _, _, rfl⟩, HFR.out.reads, .inl (fun b q => by have := HKB.out b q; simp only [World.size_alloc] at this; omega)⟩
  · go_enter Tryz.func96, Tryz.ntmps96
    go_wp2_with fail
    with_reducible refine HC.out.mono ?_
    rintro e w1 ⟨v1, rfl, ho1, hb1, hk1⟩
    obtain ⟨y1, n1, c1, rfl⟩ := own_slice ho1
    have r0 : w1.cell? ⟨w.heap.size, 0, none⟩ = some (.slice x n cc) := keepc hb1 (by simp [go_sem])
    have r1 : w1.cell? ⟨w.heap.size, 1, none⟩ = some (.bool true) := keepc hb1 (by simp [go_sem])
    have hs1 : w.heap.size + 1 < w1.heap.size := (HX.out.step hb1).lt
    have hs0 : w.heap.size < w1.heap.size := by omega
    have HP := hid ((HX.out.step hb1).put (.int .i64 5) (.slice none 0 0) (.int .u8 hd.t) (.int .u8 hd.r) (.int .u8 hd.s) (.int .u16 hd.q) (.bool true))
    have HM := hid ((Moved.below (below_t HB1.out hb1) []).late7 (b := w.heap.size + 1) (by omega) (.int .i64 5) (.slice none 0 0) (.int .u8 hd.t) (.int .u8 hd.r) (.int .u8 hd.s) (.int .u16 hd.q) (.bool true))
    have HX1 := hid (HX.out.step hb1)
    obtain ⟨c0, c1, c2, c3, c4, c5, c6, fr⟩ := HX1.out
    have f0 := fr 0 (by omega)
    have f1 := fr 1 (by omega)
    have f2 := fr 2 (by omega)
    have f3 := fr 3 (by omega)
    have f4 := fr 4 (by omega)
    have f5 := fr 5 (by omega)
    have f6 := fr 6 (by omega)
    clear ho1 hb1 hk1 fr
    go_wp2
    revert HP HM
    generalize hW : put7 w1 (w.heap.size + 1) (.int .i64 5) (.slice none 0 0) (.int .u8 hd.t) (.int .u8 hd.r) (.int .u8 hd.s) (.int .u16 hd.q) (.bool true) = Wf
    intro HP HM
    obtain ⟨k0, k1, k2, k3, k4, k5, k6, -⟩ := HP.out.step (bal (Below.refl Wf.heap.size Wf) (.cells #[.int .u8 hd.t, .int .u8 hd.r, .int .u8 hd.s, .int .u16 hd.q] 54))
    unfold put7 at hW
    rw [hW]
    clear hW
    have hbf : Below w.heap.size w (Wf.alloc (.cells #[.int .u8 hd.t, .int .u8 hd.r, .int .u8 hd.s, .int .u16 hd.q] 54)) := bal (HM.out.toBelow (Nat.le_refl _) (fun _ q => by cases q)) _
    exact bodyPost_ret (v := evV ⟨5, [], hd, true⟩ (.slice none 0 0)) (by simp [results, Tryz.results96, go_sem, k0, k1, k2, k3, k4, k5, k6, evV]) rfl ⟨_, rfl, hbf, ⟨_, _, _, rfl⟩, reads_nil _, .inl (fun _ q => by cases q)⟩
end
end Go.Proofs.YtaanpnmgibcemaaGreatDoor
