/-
  The law's own walk: OptionPlays.
-/
import Derived.Test.YtahminbgedmgcaaOu
import Derived.Test.YtahminbgedmgcaaOv
import Derived.Test.YtahminbgedmgcaaOx
namespace Go.Proofs.Ytahminbgedmgcaa
open Go.RowKit Go.Lib

section
variable {P : Program} {ops : Array Oper} {Q : Exit → Act → World → Prop} {md : Region.Mode} {S : World → Prop}
/-- An operation is taken first: its slot is written. -/
theorem takeD {i : Nat} {oi : Oper} {v : Value} (d : Tmp) {fuel : Nat} {listed : Array Bool} {ts : Array Value} {ds : List Deferred} {w : World} (hi : ops[i]? = some oi) (hd : oi.dst = some d)
    (hs : Region.noSelect ops = true) (hf : Region.free md ops listed i = true) (hr : (Region.ready md ops listed).contains i = true)
    (hQ : ∀ c a w, Q (.panic c) (a.put oi.dst v) w → Q (.panic c) a w) (hS : S w) (hy : YieldsIf P ops S oi v ⟨ts, ds⟩)
    (h : wpAnyH P md ops Q S fuel (listed.setIfInBounds i true) ⟨ts.setIfInBounds d v, ds⟩ w) : wpAnyH P md ops Q S (fuel + 1) listed ⟨ts, ds⟩ w :=
  wpAnyH_take hi hs hf hr hQ hy hS (by rw [hd]; exact h)
end

theorem reads_any_slice {w : World} {d : Value} {xs : List Int} (h : Reads w d xs) : ∃ x n c, d = .slice x n c := by
  rcases h.2 with ⟨rfl, _⟩ | ⟨a, cap, rfl, _⟩
  · exact ⟨_, _, _, rfl⟩
  · exact ⟨_, _, _, rfl⟩
theorem op_at {w : World} {go oo k : Nat} {xs : List OpD} (hk : k < xs.length) (h : ∀ i (h : i < xs.length) j, j < 5 → w.cell? ⟨go, oo + i * 5 + j, none⟩ = (opC xs[i])[j]?) : ∃ x : OpD, x ∈ xs ∧ w.cell? ⟨go, oo + k * 5, none⟩ = some (.bool x.hear) ∧ w.cell? ⟨go, oo + k * 5 + 1, none⟩ = some (.int .u8 x.verb) ∧ w.cell? ⟨go, oo + k * 5 + 2, none⟩ = some (.int .u8 x.opt) ∧ w.cell? ⟨go, oo + k * 5 + 3, none⟩ = some (.int .i64 x.side) ∧ w.cell? ⟨go, oo + k * 5 + 4, none⟩ = some (.bool x.on) :=
  ⟨xs[k], List.getElem_mem hk, h k hk 0 (by omega), h k hk 1 (by omega), h k hk 2 (by omega), h k hk 3 (by omega), h k hk 4 (by omega)⟩
/-- What a round keeps: both machines are in the same states. -/
def PlayI (w : World) (g h : Nat) (ag : Nat → Bool) : Prop := ∃ st, Mach w g ag st ∧ RMach w h ag st
theorem msg_slice {w : World} {v : Value} {side say o : Int} (h : Msg w v side say o) : ∃ x n c, v = .slice x n c := by
  rcases h with ⟨_, h⟩ | ⟨_, b, h, _⟩
  · exact ⟨_, _, _, h⟩
  · exact ⟨_, _, _, h⟩
theorem Msg.moved {w w' : World} {v : Value} {side say o : Int} {S S' : List Nat} (h : Msg w v side say o) (m : Moved w w' S S') (hk : ∀ k ∈ blkV v, k ∉ S) : Msg w' v side say o := by
  rcases h with h | ⟨hs, b, rfl, h0, h1⟩
  · exact .inl h
  · have hb : b ∉ S := hk b (by simp [blkV, Value.ownBlock])
    exact .inr ⟨hs, b, rfl, cell_moved m h0 hb, cell_moved m h1 hb⟩
theorem Msg.oneM {w : World} {v : Value} {side say o : Int} (h : Msg w v side say o) (hs : say ≠ 0) : OneM w v (verbN side say) o := by
  obtain ⟨b, rfl, h0, h1⟩ := h.one hs
  exact ⟨b, 1, rfl, h0, h1⟩
/-- A step of the machine, and of the document's. -/
def StepP (g : Nat) (ag : Nat → Bool) (st' : Nat → Int) (side say o er : Int) (w : World) (e : Ending) (w' : World) : Prop :=
  ∃ v, e = .returned (.tuple #[v, .int .i64 er]) ∧ Msg w' v side say o ∧ Mach w' g ag st' ∧ Moved w w' [g] [g] ∧ ∀ k ∈ blkV v, w.heap.size ≤ k
def StepR (g : Nat) (ag : Nat → Bool) (st' : Nat → Int) (side say o er : Int) (w : World) (e : Ending) (w' : World) : Prop :=
  ∃ v, e = .returned (.tuple #[v, .int .i64 er]) ∧ Msg w' v side say o ∧ RMach w' g ag st' ∧ Moved w w' [g] [g] ∧ ∀ k ∈ blkV v, w.heap.size ≤ k
theorem TookE.p {g : Nat} {ag : Nat → Bool} {st : Nat → Int} {side o n say er : Int} {w w' : World} {e : Ending} (h : TookE g ag st side o n say er w e w') : StepP g ag (upd st (side * 256 + o).toNat n) side say o er w e w' := by
  obtain ⟨v, rfl, v', hv, hm, hM, hV, hk⟩ := h
  cases hv
  exact ⟨v, rfl, hm, hM, hV, hk⟩
theorem stepP_nil {g : Nat} {ag : Nat → Bool} {st : Nat → Int} {o er : Int} {w w' : World} (hM : Mach w g ag st) (hb : Below w.heap.size w w') : StepP g ag st 0 0 o er w (.returned (.tuple #[.slice none 0 0, .int .i64 er])) w' :=
  ⟨_, rfl, .inl ⟨rfl, rfl⟩, hM.step hb, Moved.below hb _, fun k hk => by cases hk⟩
theorem stepR_nil {g : Nat} {ag : Nat → Bool} {st : Nat → Int} {o er : Int} {w w' : World} (hM : RMach w g ag st) (hb : Below w.heap.size w w') : StepR g ag st 0 0 o er w (.returned (.tuple #[.slice none 0 0, .int .i64 er])) w' :=
  ⟨_, rfl, .inl ⟨rfl, rfl⟩, hM.step hb, Moved.below hb _, fun k hk => by cases hk⟩
theorem hear_pair (g h : Nat) (ag : Nat → Bool) (st : Nat → Int) (v o : Nat) (ho : o < 256) : ∃ side say er st', (∀ W, Mach W g ag st → Calls Try.prog 13 #[.pointer (some ⟨g, 0, none⟩), .int .u8 v, .int .u8 o] W (StepP g ag st' side say o er W)) ∧ (∀ W, RMach W h ag st → Calls Try.prog 14 #[.pointer (some ⟨h, 0, none⟩), .int .u8 v, .int .u8 o] W (StepR h ag st' side say o er W)) := by
  by_cases hv : isVerb v
  · exact ⟨_, _, 0, _, fun W hM => (hear_any g ag st v o hv ho W hM).mono fun _ _ q => q.p, fun W hM => (rhear_any h ag st v o hv ho W hM).mono fun _ _ q => q⟩
  · exact ⟨0, 0, 1, st, fun W hM => (hear_no g v o hv W).mono fun _ _ ⟨he, hw⟩ => by subst hw; rw [he]; exact stepP_nil hM (Below.refl _ _), fun W hM => (rhear_no h v o hv W).mono fun _ _ ⟨he, hw⟩ => by subst hw; rw [he]; exact stepR_nil hM (Below.refl _ _)⟩
theorem ask_pair (g h : Nat) (ag : Nat → Bool) (st : Nat → Int) (side : Int) (o : Nat) (ho : o < 256) (on : Bool) : ∃ sd say er st', (∀ W, Mach W g ag st → Calls Try.prog 15 #[.pointer (some ⟨g, 0, none⟩), .int .i64 side, .int .u8 o, .bool on] W (StepP g ag st' sd say o er W)) ∧ (∀ W, RMach W h ag st → Calls Try.prog 16 #[.pointer (some ⟨h, 0, none⟩), .int .i64 side, .int .u8 o, .bool on] W (StepR h ag st' sd say o er W)) := by
  by_cases hs : side = 0 ∨ side = 1
  · cases ha : (askN (st (idx side o)) on).2.2
    · refine ⟨0, 0, 6, st, fun W hM => (ask_no g ag st side hs o ho on W hM ha).mono fun _ _ ⟨he, hb⟩ => by rw [he]; exact stepP_nil hM hb, fun W hM => ?_⟩
      have : Calls Try.prog 16 #[.pointer (some ⟨h, 0, none⟩), .int .i64 side, .int .u8 o, .bool on] W fun e w' => e = .returned (.tuple #[.slice none 0 0, .int .i64 6]) ∧ Below W.heap.size W w' := by
        rcases hs with rfl | rfl
        · rw [idx_0] at ha; exact rask_no_0 h ag st o ho on W hM ha
        · rw [idx_1] at ha; exact rask_no_1 h ag st o ho on W hM ha
      exact this.mono fun _ _ ⟨he, hb⟩ => by rw [he]; exact stepR_nil hM hb
    · refine ⟨_, _, 0, _, fun W hM => (ask_any g ag st side hs o ho on W hM ha).mono fun _ _ q => q.p, fun W hM => ?_⟩
      rcases hs with rfl | rfl
      · rw [idx_0] at ha ⊢; exact rask_0 h ag st o ho on W hM ha
      · rw [idx_1] at ha ⊢; exact rask_1 h ag st o ho on W hM ha
  · exact ⟨0, 0, 1, st, fun W hM => (ask_bad g side hs o on W).mono fun _ _ ⟨he, hw⟩ => by subst hw; rw [he]; exact stepP_nil hM (Below.refl _ _), fun W hM => (rask_bad h side hs o on W).mono fun _ _ ⟨he, hw⟩ => by subst hw; rw [he]; exact stepR_nil hM (Below.refl _ _)⟩
set_option maxRecDepth 100000 in
set_option maxHeartbeats 4000000 in
theorem plays_empty (u v : Value) (us hs : List Int) (x0 : Option Addr) (c0 : Nat) (w : World) (hu : Reads w u us) (hv : Reads w v hs) : Calls Try.prog 3 #[u, v, .slice x0 0 c0] w fun e w' => e = .returned (.bool true) ∧ Below w.heap.size w w' := by
  have HW := hid (oawake_true w)
  have HC1 := hid (fun W (h : Below w.heap.size w W) => show Calls Try.prog 9 #[u, .int .i64 20] W (OwnDone (us.take 20) W) from rcut_own u 20 (by omega) us W (reads_below hu h))
  have HC2 := hid (fun W (h : Below w.heap.size w W) => show Calls Try.prog 9 #[v, .int .i64 20] W (OwnDone (hs.take 20) W) from rcut_own v 20 (by omega) hs W (reads_below hv h))
  have hl1 : (us.take 20).length ≤ 20 := List.length_take_le _ _
  have hl2 : (hs.take 20).length ≤ 20 := List.length_take_le _ _
  generalize us.take 20 = ua at *
  generalize hs.take 20 = ub at *
  have HCP := hid (fun W v (hp : OwnB W v ua) => rcopy_own v ua W hp.reads (by omega))
  have HCQ := hid (fun W v (hp : OwnB W v ub) => rcopy_own v ub W hp.reads (by omega))
  have HNW := hid (fun W p q (hp : OwnB W p ua) (hq : OwnB W q ub) => new_any p q ua ub W hp.reads hq.reads (by omega) (by omega))
  have HRW := hid (fun W p q (hp : OwnB W p ua) (hq : OwnB W q ub) => rnew_any p q ua ub W hp.reads hq.reads (by omega) (by omega))
  obtain ⟨x1, n1, c1, rfl⟩ := reads_any_slice hu
  obtain ⟨x2, n2, c2, rfl⟩ := reads_any_slice hv
  clear hu hv hl1 hl2
  go_enter Try.func3, Try.ntmps3
  go_wp2_with fail
  with_reducible refine HW.out.mono ?_
  rintro e w1 ⟨rfl, hb1⟩
  have HB1 := hid hb1
  clear hb1
  go_wp2_with fail
  with_reducible refine (HC1.out _ HB1.out).mono ?_
  rintro e w2 ⟨v2, rfl, ho2, hb2, hk2⟩
  obtain ⟨x3, n3, c3, rfl⟩ := own_slice ho2
  have HO2 := hid ho2
  have HB2 := hid (below_t HB1.out hb2)
  clear ho2 hb2 hk2
  go_wp2_with fail
  with_reducible refine (HC2.out _ HB2.out).mono ?_
  rintro e w3 ⟨v3, rfl, ho3, hb3, hk3⟩
  obtain ⟨x4, n4, c4, rfl⟩ := own_slice ho3
  have HO3 := hid ho3
  have HO2b := hid (HO2.out.step hb3)
  have HB3 := hid (below_t HB2.out hb3)
  clear ho3 hb3 hk3
  go_wp2_with fail
  with_reducible refine (HCP.out _ _ HO2b.out).mono ?_
  rintro e w4 ⟨v4, rfl, ho4, hb4, hk4⟩
  obtain ⟨x5, n5, c5, rfl⟩ := own_slice ho4
  have HO4 := hid ho4
  have HO3b := hid (HO3.out.step hb4)
  have HO2c := hid (HO2b.out.step hb4)
  have HB4 := hid (below_t HB3.out hb4)
  clear ho4 hb4 hk4
  go_wp2_with fail
  with_reducible refine (HCQ.out _ _ HO3b.out).mono ?_
  rintro e w5 ⟨v5, rfl, ho5, hb5, hk5⟩
  obtain ⟨x6, n6, c6, rfl⟩ := own_slice ho5
  have HO5 := hid ho5
  have HO4b := hid (HO4.out.step hb5)
  have HO3c := hid (HO3b.out.step hb5)
  have HO2d := hid (HO2c.out.step hb5)
  have HB5 := hid (below_t HB4.out hb5)
  clear ho5 hb5 hk5
  go_wp2_with fail
  with_reducible refine (HNW.out _ _ _ HO4b.out HO5.out).mono ?_
  rintro e w6 ⟨rfl, hm6, hb6⟩
  have HM6 := hid hm6
  have HO3d := hid (HO3c.out.step hb6)
  have HO2e := hid (HO2d.out.step hb6)
  have HB6 := hid (below_t HB5.out hb6)
  clear hm6 hb6
  go_wp2_with fail
  with_reducible refine (HRW.out _ _ _ HO2e.out HO3d.out).mono ?_
  rintro e w7 ⟨rfl, hr7, hb7⟩
  have gh : w5.heap.size ≠ w6.heap.size := by have := HM6.out.lt; omega
  have HI7 := hid (show PlayI w7 w5.heap.size w6.heap.size (agN ua ub) from ⟨_, HM6.out.step hb7, hr7⟩)
  have HB7 := hid (below_t HB6.out hb7)
  have g0 : w.heap.size ≤ w5.heap.size := HB5.out.size
  have h0 : w.heap.size ≤ w6.heap.size := HB6.out.size
  clear hr7 hb7
  generalize w5.heap.size = g at *
  generalize w6.heap.size = h at *
  go_wp2
  go_loopw [31] (fun i W => ∃ k : Nat, k ≤ 0 ∧ k ≤ 60 ∧ i = .int .i64 k ∧ Hid (PlayI W g h (agN ua ub)) ∧ Hid (Below w.heap.size w W)) (fun i _ => 0 - (intOf i).toNat)
  case atStart => exact ⟨0, Nat.zero_le _, Nat.zero_le _, rfl, HI7.out, HB7.out⟩
  case round =>
    obtain ⟨k, hk, hk6, rfl, HI, HB⟩ := hrel
    by_cases hlt : k < 0
    · exact absurd hlt (by omega)
    · obtain rfl : k = 0 := by omega
      obtain ⟨st, hm, hr⟩ := HI.out
      have HSA := hid (same_mach g h (agN ua ub) st wr hm hr)
      clear hm hr
      go_wp2_with fail
      with_reducible refine HSA.out.mono ?_
      rintro e w8 ⟨rfl, hb8⟩
      have HB8 := hid (below_t HB.out hb8)
      clear hb8
      go_wp2
      go_ret
      exact ⟨rfl, HB8.out⟩
set_option maxRecDepth 100000 in
set_option maxHeartbeats 8000000 in
theorem plays_row (u v : Value) (us hs : List Int) (xs : List OpD) (hf : ∀ x ∈ xs, OpFit x) (go oo n c0 : Nat) (hn : n = xs.length) (hnm : n ≤ maxLen) (w : World) (hu : Reads w u us) (hv : Reads w v hs) (hx : ∀ i (h : i < xs.length) j, j < 5 → w.cell? ⟨go, oo + i * 5 + j, none⟩ = (opC xs[i])[j]?) : Calls Try.prog 3 #[u, v, .slice (some ⟨go, oo, none⟩) n c0] w fun e w' => e = .returned (.bool true) ∧ Below w.heap.size w w' := by
  have HOP := hid (fun k (h : k < n) => op_at (hn ▸ h) hx)
  have HFX := hid hf
  unfold maxLen at hnm
  clear hx hf hn
  have HW := hid (oawake_true w)
  have HC1 := hid (fun W (h : Below w.heap.size w W) => show Calls Try.prog 9 #[u, .int .i64 20] W (OwnDone (us.take 20) W) from rcut_own u 20 (by omega) us W (reads_below hu h))
  have HC2 := hid (fun W (h : Below w.heap.size w W) => show Calls Try.prog 9 #[v, .int .i64 20] W (OwnDone (hs.take 20) W) from rcut_own v 20 (by omega) hs W (reads_below hv h))
  have hl1 : (us.take 20).length ≤ 20 := List.length_take_le _ _
  have hl2 : (hs.take 20).length ≤ 20 := List.length_take_le _ _
  generalize us.take 20 = ua at *
  generalize hs.take 20 = ub at *
  have HCP := hid (fun W v (hp : OwnB W v ua) => rcopy_own v ua W hp.reads (by omega))
  have HCQ := hid (fun W v (hp : OwnB W v ub) => rcopy_own v ub W hp.reads (by omega))
  have HNW := hid (fun W p q (hp : OwnB W p ua) (hq : OwnB W q ub) => new_any p q ua ub W hp.reads hq.reads (by omega) (by omega))
  have HRW := hid (fun W p q (hp : OwnB W p ua) (hq : OwnB W q ub) => rnew_any p q ua ub W hp.reads hq.reads (by omega) (by omega))
  obtain ⟨x1, n1, c1, rfl⟩ := reads_any_slice hu
  obtain ⟨x2, n2, c2, rfl⟩ := reads_any_slice hv
  clear hu hv hl1 hl2
  go_enter Try.func3, Try.ntmps3
  go_wp2_with fail
  with_reducible refine HW.out.mono ?_
  rintro e w1 ⟨rfl, hb1⟩
  have HB1 := hid hb1
  clear hb1
  go_wp2_with fail
  with_reducible refine (HC1.out _ HB1.out).mono ?_
  rintro e w2 ⟨v2, rfl, ho2, hb2, hk2⟩
  obtain ⟨x3, n3, c3, rfl⟩ := own_slice ho2
  have HO2 := hid ho2
  have HB2 := hid (below_t HB1.out hb2)
  clear ho2 hb2 hk2
  go_wp2_with fail
  with_reducible refine (HC2.out _ HB2.out).mono ?_
  rintro e w3 ⟨v3, rfl, ho3, hb3, hk3⟩
  obtain ⟨x4, n4, c4, rfl⟩ := own_slice ho3
  have HO3 := hid ho3
  have HO2b := hid (HO2.out.step hb3)
  have HB3 := hid (below_t HB2.out hb3)
  clear ho3 hb3 hk3
  go_wp2_with fail
  with_reducible refine (HCP.out _ _ HO2b.out).mono ?_
  rintro e w4 ⟨v4, rfl, ho4, hb4, hk4⟩
  obtain ⟨x5, n5, c5, rfl⟩ := own_slice ho4
  have HO4 := hid ho4
  have HO3b := hid (HO3.out.step hb4)
  have HO2c := hid (HO2b.out.step hb4)
  have HB4 := hid (below_t HB3.out hb4)
  clear ho4 hb4 hk4
  go_wp2_with fail
  with_reducible refine (HCQ.out _ _ HO3b.out).mono ?_
  rintro e w5 ⟨v5, rfl, ho5, hb5, hk5⟩
  obtain ⟨x6, n6, c6, rfl⟩ := own_slice ho5
  have HO5 := hid ho5
  have HO4b := hid (HO4.out.step hb5)
  have HO3c := hid (HO3b.out.step hb5)
  have HO2d := hid (HO2c.out.step hb5)
  have HB5 := hid (below_t HB4.out hb5)
  clear ho5 hb5 hk5
  go_wp2_with fail
  with_reducible refine (HNW.out _ _ _ HO4b.out HO5.out).mono ?_
  rintro e w6 ⟨rfl, hm6, hb6⟩
  have HM6 := hid hm6
  have HO3d := hid (HO3c.out.step hb6)
  have HO2e := hid (HO2d.out.step hb6)
  have HB6 := hid (below_t HB5.out hb6)
  clear hm6 hb6
  go_wp2_with fail
  with_reducible refine (HRW.out _ _ _ HO2e.out HO3d.out).mono ?_
  rintro e w7 ⟨rfl, hr7, hb7⟩
  have gh : w5.heap.size ≠ w6.heap.size := by have := HM6.out.lt; omega
  have HI7 := hid (show PlayI w7 w5.heap.size w6.heap.size (agN ua ub) from ⟨_, HM6.out.step hb7, hr7⟩)
  have HB7 := hid (below_t HB6.out hb7)
  have g0 : w.heap.size ≤ w5.heap.size := HB5.out.size
  have h0 : w.heap.size ≤ w6.heap.size := HB6.out.size
  clear hr7 hb7
  generalize w5.heap.size = g at *
  generalize w6.heap.size = h at *
  go_wp2
  go_loopw [31] (fun i W => ∃ k : Nat, k ≤ n ∧ k ≤ 60 ∧ i = .int .i64 k ∧ Hid (PlayI W g h (agN ua ub)) ∧ Hid (Below w.heap.size w W)) (fun i _ => n - (intOf i).toNat)
  case atStart => exact ⟨0, Nat.zero_le _, Nat.zero_le _, rfl, HI7.out, HB7.out⟩
  case round =>
    obtain ⟨k, hk, hk6, rfl, HI, HB⟩ := hrel
    by_cases hlt : k < n
    · obtain ⟨x, hxm, o0, o1, o2, o3, o4⟩ := HOP.out k hlt
      obtain ⟨f1, f2, f3, f4⟩ := HFX.out x hxm
      have o0 := keepc HB.out o0
      have o1 := keepc HB.out o1
      have o2 := keepc HB.out o2
      have o3 := keepc HB.out o3
      have o4 := keepc HB.out o4
      obtain ⟨xh, xv, xo, xs', xn⟩ := x
      simp only at o0 o1 o2 o3 o4 f1 f2 f3 f4
      have hki : (k : Int) < n := by omega
      clear hxm
      by_cases h60 : k < 60
      · have k60 : ¬ (60 : Int) ≤ k := by omega
        cases xh
        · have hmm : True := trivial
          obtain ⟨st, hm, hr⟩ := HI.out
          obtain ⟨side, say, er, st', hcm, hcr⟩ := ask_pair g h (agN ua ub) st xs' xo f2 xn
          have hbx := bal (Below.refl wr.heap.size wr) (.cells #[.bool false, .int .u8 xv, .int .u8 xo, .int .i64 xs', .bool xn] 32)
          have HC1 := hid (hcm _ (hm.step hbx))
          have HR1 := hid (hr.step hbx)
          have HC2 := hid hcr
          have HBX := hid (below_t HB.out hbx)
          have lg : g < wr.heap.size := hm.lt
          have lh : h < wr.heap.size := hr.lt
          clear hm hr hcm hcr hbx
          go_wp2_with fail
          with_reducible refine HC1.out.mono ?_
          rintro e w6 ⟨v6, rfl, hms6, hM6, hV6, hk6'⟩
          have b2 := cell_moved hV6 (a := ⟨wr.heap.size, 2, none⟩) (v := .int .u8 xo) (by simp [go_sem]) (fun q => by have q' : wr.heap.size = g := List.mem_singleton.1 q; omega)
          have b3 := cell_moved hV6 (a := ⟨wr.heap.size, 3, none⟩) (v := .int .i64 xs') (by simp [go_sem]) (fun q => by have q' : wr.heap.size = g := List.mem_singleton.1 q; omega)
          have b4 := cell_moved hV6 (a := ⟨wr.heap.size, 4, none⟩) (v := .bool xn) (by simp [go_sem]) (fun q => by have q' : wr.heap.size = g := List.mem_singleton.1 q; omega)
          have HMS6 := hid hms6
          have HM6 := hid hM6
          have HR6 := hid (HR1.out.moved hV6 (fun q => gh (List.mem_singleton.1 q).symm))
          have HB6 := hid (Moved.grow HBX.out hV6 g0)
          have lB : wr.heap.size < w6.heap.size := by have := hV6.size; simp at this; omega
          have HK6 := hid (show ∀ k ∈ blkV v6, k ≠ h from fun k hk e => by have := hk6' k hk; simp at this; omega)
          obtain ⟨x6, n6, c6, hv6⟩ := msg_slice hms6
          subst hv6
          clear hms6 hM6 hV6 hk6'
          go_wp2_with fail
          with_reducible refine (HC2.out _ HR6.out).mono ?_
          rintro e w7 ⟨v7, rfl, hms7, hR7, hV7, hk7'⟩
          have b2 := cell_moved hV7 b2 (fun q => by have q' : wr.heap.size = h := List.mem_singleton.1 q; omega)
          clear b3 b4
          have HMS7 := hid hms7
          have HMS6b := hid (HMS6.out.moved hV7 (fun k hk => by have := HK6.out k hk; simpa using this))
          have HM7 := hid (HM6.out.moved hV7 (fun q => gh (List.mem_singleton.1 q)))
          have HR7 := hid hR7
          have HB7 := hid (Moved.grow HB6.out hV7 h0)
          obtain ⟨x7, n7, c7, hv7⟩ := msg_slice hms7
          subst hv7
          have r0 := hR7.cs xo (by omega)
          have r1 := hR7.cs (256 + xo) (by omega)
          have HST0 := hid (fun W (hW : Below w7.heap.size w7 W) => state_0 g (agN ua ub) st' xo f2 W (HM7.out.step hW))
          have HST1 := hid (fun W (hW : Below w7.heap.size w7 W) => state_1 g (agN ua ub) st' xo f2 W (HM7.out.step hW))
          have xi1 : (xo : Int) < 256 := by omega
          have xi0 : (0 : Int) ≤ xo := by omega
          generalize st' xo = X0 at r0 HST0
          generalize st' (256 + xo) = X1 at r1 HST1
          have HX := hid (show w7.cell? ⟨wr.heap.size, 2, none⟩ = some (.int .u8 xo) ∧ w7.cell? ⟨h, xo, none⟩ = some (.int .i64 X0) ∧ w7.cell? ⟨h, 256 + xo, none⟩ = some (.int .i64 X1) ∧ Below w7.heap.size w7 w7 from ⟨b2, r0, r1, Below.refl _ _⟩)
          clear hms7 hR7 hV7 hk7' r0 r1 b2
          by_cases hsay : say = 0
          · have e6 := HMS6b.out.zero hsay
            have e7 := HMS7.out.zero hsay
            cases e6
            cases e7
            have HBK := hid (fun W => back_nil W)
            have HEQ := hid (fun W => equalM_nil none none 0 0 W)
            clear HMS6 HMS6b HMS7
            generalize wr.heap.size = B at HX ⊢
            go_wp2
            refine wp_region_held_drew (S := (fun w' => w'.cell? ⟨B, 2, none⟩ = some (.int .u8 xo) ∧ w'.cell? ⟨h, xo, none⟩ = some (.int .i64 X0) ∧ w'.cell? ⟨h, 256 + xo, none⟩ = some (.int .i64 X1) ∧ Below w7.heap.size w7 w')) (by kernel_rfl) ?_ (fun hHeld => ?_)
            · exact ⟨HX.out.1, HX.out.2.1, HX.out.2.2.1, HX.out.2.2.2.drew⟩
            refine takeD (i := 0) (v := ?_) 80 rfl rfl (by kernel_rfl) (by kernel_rfl) (by kernel_rfl) (fun _ _ _ h => h) (by assumption) (Or.inl ⟨by rfl, ?_⟩) ?_
            rotate_left
            · intro w hSw
              (try dsimp only at hSw)
              go_simp
              try with_reducible rfl
            simp only [List.setIfInBounds_toArray, List.set_cons_zero, List.set_cons_succ]
            refine takeD (i := 2) (v := ?_) 82 rfl rfl (by kernel_rfl) (by kernel_rfl) (by kernel_rfl) (fun _ _ _ h => h) (by assumption) (Or.inl ⟨by rfl, ?_⟩) ?_
            rotate_left
            · intro w hSw
              (try dsimp only at hSw)
              go_simp
              try with_reducible rfl
            simp only [List.setIfInBounds_toArray, List.set_cons_zero, List.set_cons_succ]
            refine wpAnyH_ready (rs := [1]) (by kernel_rfl) (by simp) ?_
            refine AllReadyH.cons (by simp only [List.getElem?_toArray, List.getElem?_cons_succ, List.getElem?_cons_zero]; rfl) (fun K hK => ?_) AllReadyH.nil
            go_simp
            (with_reducible refine (HBK.out _).mono ?_)
            rintro e w9 ⟨rfl, hbN⟩
            (try dsimp only)
            refine hK.out _ _ ?_ (fun hHeldN => ?_)
            · exact ⟨keepc hbN hHeld.1, keepc hbN hHeld.2.1, keepc hbN hHeld.2.2.1, below_t hHeld.2.2.2 hbN⟩
            clear hK K hHeld
            have hHeld := hHeldN
            clear hHeldN
            refine wpAnyH_ready (rs := [3]) (by kernel_rfl) (by simp) ?_
            refine AllReadyH.cons (by simp only [List.getElem?_toArray, List.getElem?_cons_succ, List.getElem?_cons_zero]; rfl) (fun K hK => ?_) AllReadyH.nil
            go_simp
            (with_reducible refine (HEQ.out _).mono ?_)
            rintro e w10 ⟨rfl, hbN⟩
            (try dsimp only)
            refine hK.out _ _ ?_ (fun hHeldN => ?_)
            · exact ⟨keepc hbN hHeld.1, keepc hbN hHeld.2.1, keepc hbN hHeld.2.2.1, below_t hHeld.2.2.2 hbN⟩
            clear hK K hHeld
            have hHeld := hHeldN
            clear hHeldN
            refine takeD (i := 4) (v := ?_) 84 rfl rfl (by kernel_rfl) (by kernel_rfl) (by kernel_rfl) (fun _ _ _ h => h) (by assumption) (Or.inl ⟨by rfl, ?_⟩) ?_
            rotate_left
            · intro w hSw
              (try dsimp only at hSw)
              go_simp
              try with_reducible rfl
            simp only [List.setIfInBounds_toArray, List.set_cons_zero, List.set_cons_succ]
            refine takeD (i := 5) (v := ?_) 85 rfl rfl (by kernel_rfl) (by kernel_rfl) (by kernel_rfl) (fun _ _ _ h => h) (by assumption) (Or.inl ⟨by rfl, ?_⟩) ?_
            rotate_left
            · intro w hSw
              (try dsimp only at hSw)
              go_simp
              try with_reducible rfl
            simp only [List.setIfInBounds_toArray, List.set_cons_zero, List.set_cons_succ]
            refine takeD (i := 6) (v := ?_) 86 rfl rfl (by kernel_rfl) (by kernel_rfl) (by kernel_rfl) (fun _ _ _ h => h) (by assumption) (Or.inl ⟨by rfl, ?_⟩) ?_
            rotate_left
            · intro w hSw
              (try dsimp only at hSw)
              go_simp
              try with_reducible rfl
            simp only [List.setIfInBounds_toArray, List.set_cons_zero, List.set_cons_succ]
            refine takeD (i := 7) (v := ?_) 87 rfl rfl (by kernel_rfl) (by kernel_rfl) (by kernel_rfl) (fun _ _ _ h => h) (by assumption) (Or.inl ⟨by rfl, ?_⟩) ?_
            rotate_left
            · intro w hSw
              (try dsimp only at hSw)
              go_simp
              try with_reducible rfl
            simp only [List.setIfInBounds_toArray, List.set_cons_zero, List.set_cons_succ]
            refine takeD (i := 8) (v := ?_) 88 rfl rfl (by kernel_rfl) (by kernel_rfl) (by kernel_rfl) (fun _ _ _ h => h) (by assumption) (Or.inl ⟨by rfl, ?_⟩) ?_
            rotate_left
            · intro w hSw
              (try dsimp only at hSw)
              go_simp
              try with_reducible rfl
            simp only [List.setIfInBounds_toArray, List.set_cons_zero, List.set_cons_succ]
            refine takeD (i := 9) (v := ?_) 89 rfl rfl (by kernel_rfl) (by kernel_rfl) (by kernel_rfl) (fun _ _ _ h => h) (by assumption) (Or.inl ⟨by rfl, ?_⟩) ?_
            rotate_left
            · intro w hSw
              (try dsimp only at hSw)
              go_simp
              try with_reducible rfl
            simp only [List.setIfInBounds_toArray, List.set_cons_zero, List.set_cons_succ]
            refine takeD (i := 10) (v := ?_) 90 rfl rfl (by kernel_rfl) (by kernel_rfl) (by kernel_rfl) (fun _ _ _ h => h) (by assumption) (Or.inl ⟨by rfl, ?_⟩) ?_
            rotate_left
            · intro w hSw
              (try dsimp only at hSw)
              go_simp
              try with_reducible rfl
            simp only [List.setIfInBounds_toArray, List.set_cons_zero, List.set_cons_succ]
            refine takeD (i := 11) (v := ?_) 91 rfl rfl (by kernel_rfl) (by kernel_rfl) (by kernel_rfl) (fun _ _ _ h => h) (by assumption) (Or.inl ⟨by rfl, ?_⟩) ?_
            rotate_left
            · intro w hSw
              (try dsimp only at hSw)
              go_simp
              try with_reducible rfl
            simp only [List.setIfInBounds_toArray, List.set_cons_zero, List.set_cons_succ]
            refine takeD (i := 12) (v := ?_) 92 rfl rfl (by kernel_rfl) (by kernel_rfl) (by kernel_rfl) (fun _ _ _ h => h) (by assumption) (Or.inl ⟨by rfl, ?_⟩) ?_
            rotate_left
            · intro w hSw
              (try dsimp only at hSw)
              go_simp
              try with_reducible rfl
            simp only [List.setIfInBounds_toArray, List.set_cons_zero, List.set_cons_succ]
            refine takeD (i := 13) (v := ?_) 93 rfl rfl (by kernel_rfl) (by kernel_rfl) (by kernel_rfl) (fun _ _ _ h => h) (by assumption) (Or.inl ⟨by rfl, ?_⟩) ?_
            rotate_left
            · intro w hSw
              (try dsimp only at hSw)
              go_simp
              try with_reducible rfl
            simp only [List.setIfInBounds_toArray, List.set_cons_zero, List.set_cons_succ]
            refine takeD (i := 14) (v := ?_) 94 rfl rfl (by kernel_rfl) (by kernel_rfl) (by kernel_rfl) (fun _ _ _ h => h) (by assumption) (Or.inl ⟨by rfl, ?_⟩) ?_
            rotate_left
            · intro w hSw
              (try dsimp only at hSw)
              go_simp
              try with_reducible rfl
            simp only [List.setIfInBounds_toArray, List.set_cons_zero, List.set_cons_succ]
            refine takeD (i := 15) (v := ?_) 95 rfl rfl (by kernel_rfl) (by kernel_rfl) (by kernel_rfl) (fun _ _ _ h => h) (by assumption) (Or.inl ⟨by rfl, ?_⟩) ?_
            rotate_left
            · intro w hSw
              (try dsimp only at hSw)
              go_simp
              try with_reducible rfl
            simp only [List.setIfInBounds_toArray, List.set_cons_zero, List.set_cons_succ]
            refine takeD (i := 16) (v := ?_) 96 rfl rfl (by kernel_rfl) (by kernel_rfl) (by kernel_rfl) (fun _ _ _ h => h) (by assumption) (Or.inl ⟨by rfl, ?_⟩) ?_
            rotate_left
            · intro w hSw
              (try dsimp only at hSw)
              go_simp
              try with_reducible rfl
            simp only [List.setIfInBounds_toArray, List.set_cons_zero, List.set_cons_succ]
            refine takeD (i := 17) (v := ?_) 97 rfl rfl (by kernel_rfl) (by kernel_rfl) (by kernel_rfl) (fun _ _ _ h => h) (by assumption) (Or.inl ⟨by rfl, ?_⟩) ?_
            rotate_left
            · intro w hSw
              (try dsimp only at hSw)
              go_simp
              try with_reducible rfl
            simp only [List.setIfInBounds_toArray, List.set_cons_zero, List.set_cons_succ]
            refine takeD (i := 18) (v := ?_) 98 rfl rfl (by kernel_rfl) (by kernel_rfl) (by kernel_rfl) (fun _ _ _ h => h) (by assumption) (Or.inl ⟨by rfl, ?_⟩) ?_
            rotate_left
            · intro w hSw
              (try dsimp only at hSw)
              go_simp
              try with_reducible rfl
            simp only [List.setIfInBounds_toArray, List.set_cons_zero, List.set_cons_succ]
            refine takeD (i := 20) (v := ?_) 100 rfl rfl (by kernel_rfl) (by kernel_rfl) (by kernel_rfl) (fun _ _ _ h => h) (by assumption) (Or.inl ⟨by rfl, ?_⟩) ?_
            rotate_left
            · intro w hSw
              (try dsimp only at hSw)
              go_simp
              try with_reducible rfl
            simp only [List.setIfInBounds_toArray, List.set_cons_zero, List.set_cons_succ]
            refine takeD (i := 21) (v := ?_) 101 rfl rfl (by kernel_rfl) (by kernel_rfl) (by kernel_rfl) (fun _ _ _ h => h) (by assumption) (Or.inl ⟨by rfl, ?_⟩) ?_
            rotate_left
            · intro w hSw
              (try dsimp only at hSw)
              go_simp
              try with_reducible rfl
            simp only [List.setIfInBounds_toArray, List.set_cons_zero, List.set_cons_succ]
            refine takeD (i := 22) (v := ?_) 102 rfl rfl (by kernel_rfl) (by kernel_rfl) (by kernel_rfl) (fun _ _ _ h => h) (by assumption) (Or.inl ⟨by rfl, ?_⟩) ?_
            rotate_left
            · intro w hSw
              (try dsimp only at hSw)
              go_simp
              try with_reducible rfl
            simp only [List.setIfInBounds_toArray, List.set_cons_zero, List.set_cons_succ]
            refine takeD (i := 23) (v := ?_) 103 rfl rfl (by kernel_rfl) (by kernel_rfl) (by kernel_rfl) (fun _ _ _ h => h) (by assumption) (Or.inl ⟨by rfl, ?_⟩) ?_
            rotate_left
            · intro w hSw
              (try dsimp only at hSw)
              go_simp
              try with_reducible rfl
            simp only [List.setIfInBounds_toArray, List.set_cons_zero, List.set_cons_succ]
            refine takeD (i := 24) (v := ?_) 104 rfl rfl (by kernel_rfl) (by kernel_rfl) (by kernel_rfl) (fun _ _ _ h => h) (by assumption) (Or.inl ⟨by rfl, ?_⟩) ?_
            rotate_left
            · intro w hSw
              (try dsimp only at hSw)
              go_simp
              try with_reducible rfl
            simp only [List.setIfInBounds_toArray, List.set_cons_zero, List.set_cons_succ]
            refine takeD (i := 25) (v := ?_) 105 rfl rfl (by kernel_rfl) (by kernel_rfl) (by kernel_rfl) (fun _ _ _ h => h) (by assumption) (Or.inl ⟨by rfl, ?_⟩) ?_
            rotate_left
            · intro w hSw
              (try dsimp only at hSw)
              go_simp
              try with_reducible rfl
            simp only [List.setIfInBounds_toArray, List.set_cons_zero, List.set_cons_succ]
            refine takeD (i := 26) (v := ?_) 106 rfl rfl (by kernel_rfl) (by kernel_rfl) (by kernel_rfl) (fun _ _ _ h => h) (by assumption) (Or.inl ⟨by rfl, ?_⟩) ?_
            rotate_left
            · intro w hSw
              (try dsimp only at hSw)
              go_simp
              try with_reducible rfl
            simp only [List.setIfInBounds_toArray, List.set_cons_zero, List.set_cons_succ]
            refine takeD (i := 27) (v := ?_) 107 rfl rfl (by kernel_rfl) (by kernel_rfl) (by kernel_rfl) (fun _ _ _ h => h) (by assumption) (Or.inl ⟨by rfl, ?_⟩) ?_
            rotate_left
            · intro w hSw
              (try dsimp only at hSw)
              go_simp
              try with_reducible rfl
            simp only [List.setIfInBounds_toArray, List.set_cons_zero, List.set_cons_succ]
            refine wpAnyH_ready (rs := [19]) (by kernel_rfl) (by simp) ?_
            refine AllReadyH.cons (by simp only [List.getElem?_toArray, List.getElem?_cons_succ, List.getElem?_cons_zero]; rfl) (fun K hK => ?_) AllReadyH.nil
            go_simp
            (with_reducible refine (HST0.out _ hHeld.2.2.2).mono ?_)
            rintro e w11 ⟨rfl, rfl⟩
            refine hK.out _ _ ?_ (fun hHeldN => ?_)
            · exact hHeld
            clear hK K hHeld
            have hHeld := hHeldN
            clear hHeldN
            refine takeD (i := 28) (v := ?_) 108 rfl rfl (by kernel_rfl) (by kernel_rfl) (by kernel_rfl) (fun _ _ _ h => h) (by assumption) (Or.inl ⟨by rfl, ?_⟩) ?_
            rotate_left
            · intro w hSw
              (try dsimp only at hSw)
              go_simp
              try with_reducible rfl
            simp only [List.setIfInBounds_toArray, List.set_cons_zero, List.set_cons_succ]
            refine takeD (i := 29) (v := ?_) 109 rfl rfl (by kernel_rfl) (by kernel_rfl) (by kernel_rfl) (fun _ _ _ h => h) (by assumption) (Or.inl ⟨by rfl, ?_⟩) ?_
            rotate_left
            · intro w hSw
              (try dsimp only at hSw)
              go_simp
              try with_reducible rfl
            simp only [List.setIfInBounds_toArray, List.set_cons_zero, List.set_cons_succ]
            refine takeD (i := 30) (v := ?_) 110 rfl rfl (by kernel_rfl) (by kernel_rfl) (by kernel_rfl) (fun _ _ _ h => h) (by assumption) (Or.inl ⟨by rfl, ?_⟩) ?_
            rotate_left
            · intro w hSw
              (try dsimp only at hSw)
              go_simp
              try with_reducible rfl
            simp only [List.setIfInBounds_toArray, List.set_cons_zero, List.set_cons_succ]
            refine takeD (i := 31) (v := ?_) 111 rfl rfl (by kernel_rfl) (by kernel_rfl) (by kernel_rfl) (fun _ _ _ h => h) (by assumption) (Or.inl ⟨by rfl, ?_⟩) ?_
            rotate_left
            · intro w hSw
              (try dsimp only at hSw)
              go_simp
              try with_reducible rfl
            simp only [List.setIfInBounds_toArray, List.set_cons_zero, List.set_cons_succ]
            refine takeD (i := 32) (v := ?_) 112 rfl rfl (by kernel_rfl) (by kernel_rfl) (by kernel_rfl) (fun _ _ _ h => h) (by assumption) (Or.inl ⟨by rfl, ?_⟩) ?_
            rotate_left
            · intro w hSw
              (try dsimp only at hSw)
              go_simp
              try with_reducible rfl
            simp only [List.setIfInBounds_toArray, List.set_cons_zero, List.set_cons_succ]
            refine takeD (i := 33) (v := ?_) 113 rfl rfl (by kernel_rfl) (by kernel_rfl) (by kernel_rfl) (fun _ _ _ h => h) (by assumption) (Or.inl ⟨by rfl, ?_⟩) ?_
            rotate_left
            · intro w hSw
              (try dsimp only at hSw)
              go_simp
              try with_reducible rfl
            simp only [List.setIfInBounds_toArray, List.set_cons_zero, List.set_cons_succ]
            refine takeD (i := 35) (v := ?_) 115 rfl rfl (by kernel_rfl) (by kernel_rfl) (by kernel_rfl) (fun _ _ _ h => h) (by assumption) (Or.inl ⟨by rfl, ?_⟩) ?_
            rotate_left
            · intro w hSw
              (try dsimp only at hSw)
              go_simp
              try with_reducible rfl
            simp only [List.setIfInBounds_toArray, List.set_cons_zero, List.set_cons_succ]
            refine takeD (i := 36) (v := ?_) 116 rfl rfl (by kernel_rfl) (by kernel_rfl) (by kernel_rfl) (fun _ _ _ h => h) (by assumption) (Or.inl ⟨by rfl, ?_⟩) ?_
            rotate_left
            · intro w hSw
              (try dsimp only at hSw)
              go_simp
              try with_reducible rfl
            simp only [List.setIfInBounds_toArray, List.set_cons_zero, List.set_cons_succ]
            refine takeD (i := 37) (v := ?_) 117 rfl rfl (by kernel_rfl) (by kernel_rfl) (by kernel_rfl) (fun _ _ _ h => h) (by assumption) (Or.inl ⟨by rfl, ?_⟩) ?_
            rotate_left
            · intro w hSw
              (try dsimp only at hSw)
              go_simp
              try with_reducible rfl
            simp only [List.setIfInBounds_toArray, List.set_cons_zero, List.set_cons_succ]
            refine takeD (i := 38) (v := ?_) 118 rfl rfl (by kernel_rfl) (by kernel_rfl) (by kernel_rfl) (fun _ _ _ h => h) (by assumption) (Or.inl ⟨by rfl, ?_⟩) ?_
            rotate_left
            · intro w hSw
              (try dsimp only at hSw)
              go_simp
              try with_reducible rfl
            simp only [List.setIfInBounds_toArray, List.set_cons_zero, List.set_cons_succ]
            refine takeD (i := 39) (v := ?_) 119 rfl rfl (by kernel_rfl) (by kernel_rfl) (by kernel_rfl) (fun _ _ _ h => h) (by assumption) (Or.inl ⟨by rfl, ?_⟩) ?_
            rotate_left
            · intro w hSw
              (try dsimp only at hSw)
              go_simp
              try with_reducible rfl
            simp only [List.setIfInBounds_toArray, List.set_cons_zero, List.set_cons_succ]
            refine takeD (i := 40) (v := ?_) 120 rfl rfl (by kernel_rfl) (by kernel_rfl) (by kernel_rfl) (fun _ _ _ h => h) (by assumption) (Or.inl ⟨by rfl, ?_⟩) ?_
            rotate_left
            · intro w hSw
              (try dsimp only at hSw)
              go_simp
              try with_reducible rfl
            simp only [List.setIfInBounds_toArray, List.set_cons_zero, List.set_cons_succ]
            refine takeD (i := 41) (v := ?_) 121 rfl rfl (by kernel_rfl) (by kernel_rfl) (by kernel_rfl) (fun _ _ _ h => h) (by assumption) (Or.inl ⟨by rfl, ?_⟩) ?_
            rotate_left
            · intro w hSw
              (try dsimp only at hSw)
              go_simp
              try with_reducible rfl
            simp only [List.setIfInBounds_toArray, List.set_cons_zero, List.set_cons_succ]
            refine takeD (i := 42) (v := ?_) 122 rfl rfl (by kernel_rfl) (by kernel_rfl) (by kernel_rfl) (fun _ _ _ h => h) (by assumption) (Or.inl ⟨by rfl, ?_⟩) ?_
            rotate_left
            · intro w hSw
              (try dsimp only at hSw)
              go_simp
              try with_reducible rfl
            simp only [List.setIfInBounds_toArray, List.set_cons_zero, List.set_cons_succ]
            refine wpAnyH_ready (rs := [34]) (by kernel_rfl) (by simp) ?_
            refine AllReadyH.cons (by simp only [List.getElem?_toArray, List.getElem?_cons_succ, List.getElem?_cons_zero]; rfl) (fun K hK => ?_) AllReadyH.nil
            go_simp
            (with_reducible refine (HST1.out _ hHeld.2.2.2).mono ?_)
            rintro e w11 ⟨rfl, rfl⟩
            refine hK.out _ _ ?_ (fun hHeldN => ?_)
            · exact hHeld
            clear hK K hHeld
            have hHeld := hHeldN
            clear hHeldN
            refine takeD (i := 43) (v := ?_) 123 rfl rfl (by kernel_rfl) (by kernel_rfl) (by kernel_rfl) (fun _ _ _ h => h) (by assumption) (Or.inl ⟨by rfl, ?_⟩) ?_
            rotate_left
            · intro w hSw
              (try dsimp only at hSw)
              go_simp
              try with_reducible rfl
            simp only [List.setIfInBounds_toArray, List.set_cons_zero, List.set_cons_succ]
            refine takeD (i := 44) (v := ?_) 124 rfl rfl (by kernel_rfl) (by kernel_rfl) (by kernel_rfl) (fun _ _ _ h => h) (by assumption) (Or.inl ⟨by rfl, ?_⟩) ?_
            rotate_left
            · intro w hSw
              (try dsimp only at hSw)
              go_simp
              try with_reducible rfl
            simp only [List.setIfInBounds_toArray, List.set_cons_zero, List.set_cons_succ]
            refine wpAnyH_done (by kernel_rfl) ?_ _
            have HI9 := hid (show PlayI _ g h (agN ua ub) from ⟨st', HM7.out.step hHeld.2.2.2, HR7.out.step hHeld.2.2.2⟩)
            have HB9 := hid (below_t HB7.out hHeld.2.2.2)
            clear hHeld
            go_wp2
            go_roundw
            case rel => exact ⟨k + 1, by omega, by omega, by go_num, HI9.out, HB9.out⟩
            case measure => simp [intOf]; omega
          · have e6 := HMS6b.out.oneM hsay
            have e7 := HMS7.out.oneM hsay
            have HBK := hid (fun W (hW : Below w7.heap.size w7 W) => back_one _ _ _ W (e6.step hW))
            have HEQ := hid (fun W u (hu : OneM W u (verbN side say) xo) (hW : Below w7.heap.size w7 W) => equalM_one u _ _ _ W hu (e7.step hW))
            obtain ⟨gA, cA, eA, _, _⟩ := e6
            cases eA
            obtain ⟨gB, cB, eB, _, _⟩ := e7
            cases eB
            clear HMS6 HMS6b HMS7
            generalize wr.heap.size = B at HX ⊢
            go_wp2
            refine wp_region_held_drew (S := (fun w' => w'.cell? ⟨B, 2, none⟩ = some (.int .u8 xo) ∧ w'.cell? ⟨h, xo, none⟩ = some (.int .i64 X0) ∧ w'.cell? ⟨h, 256 + xo, none⟩ = some (.int .i64 X1) ∧ Below w7.heap.size w7 w')) (by kernel_rfl) ?_ (fun hHeld => ?_)
            · exact ⟨HX.out.1, HX.out.2.1, HX.out.2.2.1, HX.out.2.2.2.drew⟩
            refine takeD (i := 0) (v := ?_) 80 rfl rfl (by kernel_rfl) (by kernel_rfl) (by kernel_rfl) (fun _ _ _ h => h) (by assumption) (Or.inl ⟨by rfl, ?_⟩) ?_
            rotate_left
            · intro w hSw
              (try dsimp only at hSw)
              go_simp
              try with_reducible rfl
            simp only [List.setIfInBounds_toArray, List.set_cons_zero, List.set_cons_succ]
            refine takeD (i := 2) (v := ?_) 82 rfl rfl (by kernel_rfl) (by kernel_rfl) (by kernel_rfl) (fun _ _ _ h => h) (by assumption) (Or.inl ⟨by rfl, ?_⟩) ?_
            rotate_left
            · intro w hSw
              (try dsimp only at hSw)
              go_simp
              try with_reducible rfl
            simp only [List.setIfInBounds_toArray, List.set_cons_zero, List.set_cons_succ]
            refine wpAnyH_ready (rs := [1]) (by kernel_rfl) (by simp) ?_
            refine AllReadyH.cons (by simp only [List.getElem?_toArray, List.getElem?_cons_succ, List.getElem?_cons_zero]; rfl) (fun K hK => ?_) AllReadyH.nil
            go_simp
            (with_reducible refine (HBK.out _ hHeld.2.2.2).mono ?_)
            rintro e w9 ⟨u9, rfl, ho9, hbN⟩
            obtain ⟨g9, c9, rfl, a90, a91⟩ := ho9
            have HO9 := hid (show OneM w9 (.slice (some ⟨g9, 0, none⟩) 1 c9) (verbN side say) xo from ⟨g9, c9, rfl, a90, a91⟩)
            clear a90 a91
            (try dsimp only)
            refine hK.out _ _ ?_ (fun hHeldN => ?_)
            · exact ⟨keepc hbN hHeld.1, keepc hbN hHeld.2.1, keepc hbN hHeld.2.2.1, below_t hHeld.2.2.2 hbN⟩
            clear hK K hHeld
            have hHeld := hHeldN
            clear hHeldN
            refine wpAnyH_ready (rs := [3]) (by kernel_rfl) (by simp) ?_
            refine AllReadyH.cons (by simp only [List.getElem?_toArray, List.getElem?_cons_succ, List.getElem?_cons_zero]; rfl) (fun K hK => ?_) AllReadyH.nil
            go_simp
            (with_reducible refine (HEQ.out _ _ HO9.out hHeld.2.2.2).mono ?_)
            rintro e w10 ⟨rfl, hbN⟩
            (try dsimp only)
            refine hK.out _ _ ?_ (fun hHeldN => ?_)
            · exact ⟨keepc hbN hHeld.1, keepc hbN hHeld.2.1, keepc hbN hHeld.2.2.1, below_t hHeld.2.2.2 hbN⟩
            clear hK K hHeld
            have hHeld := hHeldN
            clear hHeldN
            refine takeD (i := 4) (v := ?_) 84 rfl rfl (by kernel_rfl) (by kernel_rfl) (by kernel_rfl) (fun _ _ _ h => h) (by assumption) (Or.inl ⟨by rfl, ?_⟩) ?_
            rotate_left
            · intro w hSw
              (try dsimp only at hSw)
              go_simp
              try with_reducible rfl
            simp only [List.setIfInBounds_toArray, List.set_cons_zero, List.set_cons_succ]
            refine takeD (i := 5) (v := ?_) 85 rfl rfl (by kernel_rfl) (by kernel_rfl) (by kernel_rfl) (fun _ _ _ h => h) (by assumption) (Or.inl ⟨by rfl, ?_⟩) ?_
            rotate_left
            · intro w hSw
              (try dsimp only at hSw)
              go_simp
              try with_reducible rfl
            simp only [List.setIfInBounds_toArray, List.set_cons_zero, List.set_cons_succ]
            refine takeD (i := 6) (v := ?_) 86 rfl rfl (by kernel_rfl) (by kernel_rfl) (by kernel_rfl) (fun _ _ _ h => h) (by assumption) (Or.inl ⟨by rfl, ?_⟩) ?_
            rotate_left
            · intro w hSw
              (try dsimp only at hSw)
              go_simp
              try with_reducible rfl
            simp only [List.setIfInBounds_toArray, List.set_cons_zero, List.set_cons_succ]
            refine takeD (i := 7) (v := ?_) 87 rfl rfl (by kernel_rfl) (by kernel_rfl) (by kernel_rfl) (fun _ _ _ h => h) (by assumption) (Or.inl ⟨by rfl, ?_⟩) ?_
            rotate_left
            · intro w hSw
              (try dsimp only at hSw)
              go_simp
              try with_reducible rfl
            simp only [List.setIfInBounds_toArray, List.set_cons_zero, List.set_cons_succ]
            refine takeD (i := 8) (v := ?_) 88 rfl rfl (by kernel_rfl) (by kernel_rfl) (by kernel_rfl) (fun _ _ _ h => h) (by assumption) (Or.inl ⟨by rfl, ?_⟩) ?_
            rotate_left
            · intro w hSw
              (try dsimp only at hSw)
              go_simp
              try with_reducible rfl
            simp only [List.setIfInBounds_toArray, List.set_cons_zero, List.set_cons_succ]
            refine takeD (i := 9) (v := ?_) 89 rfl rfl (by kernel_rfl) (by kernel_rfl) (by kernel_rfl) (fun _ _ _ h => h) (by assumption) (Or.inl ⟨by rfl, ?_⟩) ?_
            rotate_left
            · intro w hSw
              (try dsimp only at hSw)
              go_simp
              try with_reducible rfl
            simp only [List.setIfInBounds_toArray, List.set_cons_zero, List.set_cons_succ]
            refine takeD (i := 10) (v := ?_) 90 rfl rfl (by kernel_rfl) (by kernel_rfl) (by kernel_rfl) (fun _ _ _ h => h) (by assumption) (Or.inl ⟨by rfl, ?_⟩) ?_
            rotate_left
            · intro w hSw
              (try dsimp only at hSw)
              go_simp
              try with_reducible rfl
            simp only [List.setIfInBounds_toArray, List.set_cons_zero, List.set_cons_succ]
            refine takeD (i := 11) (v := ?_) 91 rfl rfl (by kernel_rfl) (by kernel_rfl) (by kernel_rfl) (fun _ _ _ h => h) (by assumption) (Or.inl ⟨by rfl, ?_⟩) ?_
            rotate_left
            · intro w hSw
              (try dsimp only at hSw)
              go_simp
              try with_reducible rfl
            simp only [List.setIfInBounds_toArray, List.set_cons_zero, List.set_cons_succ]
            refine takeD (i := 12) (v := ?_) 92 rfl rfl (by kernel_rfl) (by kernel_rfl) (by kernel_rfl) (fun _ _ _ h => h) (by assumption) (Or.inl ⟨by rfl, ?_⟩) ?_
            rotate_left
            · intro w hSw
              (try dsimp only at hSw)
              go_simp
              try with_reducible rfl
            simp only [List.setIfInBounds_toArray, List.set_cons_zero, List.set_cons_succ]
            refine takeD (i := 13) (v := ?_) 93 rfl rfl (by kernel_rfl) (by kernel_rfl) (by kernel_rfl) (fun _ _ _ h => h) (by assumption) (Or.inl ⟨by rfl, ?_⟩) ?_
            rotate_left
            · intro w hSw
              (try dsimp only at hSw)
              go_simp
              try with_reducible rfl
            simp only [List.setIfInBounds_toArray, List.set_cons_zero, List.set_cons_succ]
            refine takeD (i := 14) (v := ?_) 94 rfl rfl (by kernel_rfl) (by kernel_rfl) (by kernel_rfl) (fun _ _ _ h => h) (by assumption) (Or.inl ⟨by rfl, ?_⟩) ?_
            rotate_left
            · intro w hSw
              (try dsimp only at hSw)
              go_simp
              try with_reducible rfl
            simp only [List.setIfInBounds_toArray, List.set_cons_zero, List.set_cons_succ]
            refine takeD (i := 15) (v := ?_) 95 rfl rfl (by kernel_rfl) (by kernel_rfl) (by kernel_rfl) (fun _ _ _ h => h) (by assumption) (Or.inl ⟨by rfl, ?_⟩) ?_
            rotate_left
            · intro w hSw
              (try dsimp only at hSw)
              go_simp
              try with_reducible rfl
            simp only [List.setIfInBounds_toArray, List.set_cons_zero, List.set_cons_succ]
            refine takeD (i := 16) (v := ?_) 96 rfl rfl (by kernel_rfl) (by kernel_rfl) (by kernel_rfl) (fun _ _ _ h => h) (by assumption) (Or.inl ⟨by rfl, ?_⟩) ?_
            rotate_left
            · intro w hSw
              (try dsimp only at hSw)
              go_simp
              try with_reducible rfl
            simp only [List.setIfInBounds_toArray, List.set_cons_zero, List.set_cons_succ]
            refine takeD (i := 17) (v := ?_) 97 rfl rfl (by kernel_rfl) (by kernel_rfl) (by kernel_rfl) (fun _ _ _ h => h) (by assumption) (Or.inl ⟨by rfl, ?_⟩) ?_
            rotate_left
            · intro w hSw
              (try dsimp only at hSw)
              go_simp
              try with_reducible rfl
            simp only [List.setIfInBounds_toArray, List.set_cons_zero, List.set_cons_succ]
            refine takeD (i := 18) (v := ?_) 98 rfl rfl (by kernel_rfl) (by kernel_rfl) (by kernel_rfl) (fun _ _ _ h => h) (by assumption) (Or.inl ⟨by rfl, ?_⟩) ?_
            rotate_left
            · intro w hSw
              (try dsimp only at hSw)
              go_simp
              try with_reducible rfl
            simp only [List.setIfInBounds_toArray, List.set_cons_zero, List.set_cons_succ]
            refine takeD (i := 20) (v := ?_) 100 rfl rfl (by kernel_rfl) (by kernel_rfl) (by kernel_rfl) (fun _ _ _ h => h) (by assumption) (Or.inl ⟨by rfl, ?_⟩) ?_
            rotate_left
            · intro w hSw
              (try dsimp only at hSw)
              go_simp
              try with_reducible rfl
            simp only [List.setIfInBounds_toArray, List.set_cons_zero, List.set_cons_succ]
            refine takeD (i := 21) (v := ?_) 101 rfl rfl (by kernel_rfl) (by kernel_rfl) (by kernel_rfl) (fun _ _ _ h => h) (by assumption) (Or.inl ⟨by rfl, ?_⟩) ?_
            rotate_left
            · intro w hSw
              (try dsimp only at hSw)
              go_simp
              try with_reducible rfl
            simp only [List.setIfInBounds_toArray, List.set_cons_zero, List.set_cons_succ]
            refine takeD (i := 22) (v := ?_) 102 rfl rfl (by kernel_rfl) (by kernel_rfl) (by kernel_rfl) (fun _ _ _ h => h) (by assumption) (Or.inl ⟨by rfl, ?_⟩) ?_
            rotate_left
            · intro w hSw
              (try dsimp only at hSw)
              go_simp
              try with_reducible rfl
            simp only [List.setIfInBounds_toArray, List.set_cons_zero, List.set_cons_succ]
            refine takeD (i := 23) (v := ?_) 103 rfl rfl (by kernel_rfl) (by kernel_rfl) (by kernel_rfl) (fun _ _ _ h => h) (by assumption) (Or.inl ⟨by rfl, ?_⟩) ?_
            rotate_left
            · intro w hSw
              (try dsimp only at hSw)
              go_simp
              try with_reducible rfl
            simp only [List.setIfInBounds_toArray, List.set_cons_zero, List.set_cons_succ]
            refine takeD (i := 24) (v := ?_) 104 rfl rfl (by kernel_rfl) (by kernel_rfl) (by kernel_rfl) (fun _ _ _ h => h) (by assumption) (Or.inl ⟨by rfl, ?_⟩) ?_
            rotate_left
            · intro w hSw
              (try dsimp only at hSw)
              go_simp
              try with_reducible rfl
            simp only [List.setIfInBounds_toArray, List.set_cons_zero, List.set_cons_succ]
            refine takeD (i := 25) (v := ?_) 105 rfl rfl (by kernel_rfl) (by kernel_rfl) (by kernel_rfl) (fun _ _ _ h => h) (by assumption) (Or.inl ⟨by rfl, ?_⟩) ?_
            rotate_left
            · intro w hSw
              (try dsimp only at hSw)
              go_simp
              try with_reducible rfl
            simp only [List.setIfInBounds_toArray, List.set_cons_zero, List.set_cons_succ]
            refine takeD (i := 26) (v := ?_) 106 rfl rfl (by kernel_rfl) (by kernel_rfl) (by kernel_rfl) (fun _ _ _ h => h) (by assumption) (Or.inl ⟨by rfl, ?_⟩) ?_
            rotate_left
            · intro w hSw
              (try dsimp only at hSw)
              go_simp
              try with_reducible rfl
            simp only [List.setIfInBounds_toArray, List.set_cons_zero, List.set_cons_succ]
            refine takeD (i := 27) (v := ?_) 107 rfl rfl (by kernel_rfl) (by kernel_rfl) (by kernel_rfl) (fun _ _ _ h => h) (by assumption) (Or.inl ⟨by rfl, ?_⟩) ?_
            rotate_left
            · intro w hSw
              (try dsimp only at hSw)
              go_simp
              try with_reducible rfl
            simp only [List.setIfInBounds_toArray, List.set_cons_zero, List.set_cons_succ]
            refine wpAnyH_ready (rs := [19]) (by kernel_rfl) (by simp) ?_
            refine AllReadyH.cons (by simp only [List.getElem?_toArray, List.getElem?_cons_succ, List.getElem?_cons_zero]; rfl) (fun K hK => ?_) AllReadyH.nil
            go_simp
            (with_reducible refine (HST0.out _ hHeld.2.2.2).mono ?_)
            rintro e w11 ⟨rfl, rfl⟩
            refine hK.out _ _ ?_ (fun hHeldN => ?_)
            · exact hHeld
            clear hK K hHeld
            have hHeld := hHeldN
            clear hHeldN
            refine takeD (i := 28) (v := ?_) 108 rfl rfl (by kernel_rfl) (by kernel_rfl) (by kernel_rfl) (fun _ _ _ h => h) (by assumption) (Or.inl ⟨by rfl, ?_⟩) ?_
            rotate_left
            · intro w hSw
              (try dsimp only at hSw)
              go_simp
              try with_reducible rfl
            simp only [List.setIfInBounds_toArray, List.set_cons_zero, List.set_cons_succ]
            refine takeD (i := 29) (v := ?_) 109 rfl rfl (by kernel_rfl) (by kernel_rfl) (by kernel_rfl) (fun _ _ _ h => h) (by assumption) (Or.inl ⟨by rfl, ?_⟩) ?_
            rotate_left
            · intro w hSw
              (try dsimp only at hSw)
              go_simp
              try with_reducible rfl
            simp only [List.setIfInBounds_toArray, List.set_cons_zero, List.set_cons_succ]
            refine takeD (i := 30) (v := ?_) 110 rfl rfl (by kernel_rfl) (by kernel_rfl) (by kernel_rfl) (fun _ _ _ h => h) (by assumption) (Or.inl ⟨by rfl, ?_⟩) ?_
            rotate_left
            · intro w hSw
              (try dsimp only at hSw)
              go_simp
              try with_reducible rfl
            simp only [List.setIfInBounds_toArray, List.set_cons_zero, List.set_cons_succ]
            refine takeD (i := 31) (v := ?_) 111 rfl rfl (by kernel_rfl) (by kernel_rfl) (by kernel_rfl) (fun _ _ _ h => h) (by assumption) (Or.inl ⟨by rfl, ?_⟩) ?_
            rotate_left
            · intro w hSw
              (try dsimp only at hSw)
              go_simp
              try with_reducible rfl
            simp only [List.setIfInBounds_toArray, List.set_cons_zero, List.set_cons_succ]
            refine takeD (i := 32) (v := ?_) 112 rfl rfl (by kernel_rfl) (by kernel_rfl) (by kernel_rfl) (fun _ _ _ h => h) (by assumption) (Or.inl ⟨by rfl, ?_⟩) ?_
            rotate_left
            · intro w hSw
              (try dsimp only at hSw)
              go_simp
              try with_reducible rfl
            simp only [List.setIfInBounds_toArray, List.set_cons_zero, List.set_cons_succ]
            refine takeD (i := 33) (v := ?_) 113 rfl rfl (by kernel_rfl) (by kernel_rfl) (by kernel_rfl) (fun _ _ _ h => h) (by assumption) (Or.inl ⟨by rfl, ?_⟩) ?_
            rotate_left
            · intro w hSw
              (try dsimp only at hSw)
              go_simp
              try with_reducible rfl
            simp only [List.setIfInBounds_toArray, List.set_cons_zero, List.set_cons_succ]
            refine takeD (i := 35) (v := ?_) 115 rfl rfl (by kernel_rfl) (by kernel_rfl) (by kernel_rfl) (fun _ _ _ h => h) (by assumption) (Or.inl ⟨by rfl, ?_⟩) ?_
            rotate_left
            · intro w hSw
              (try dsimp only at hSw)
              go_simp
              try with_reducible rfl
            simp only [List.setIfInBounds_toArray, List.set_cons_zero, List.set_cons_succ]
            refine takeD (i := 36) (v := ?_) 116 rfl rfl (by kernel_rfl) (by kernel_rfl) (by kernel_rfl) (fun _ _ _ h => h) (by assumption) (Or.inl ⟨by rfl, ?_⟩) ?_
            rotate_left
            · intro w hSw
              (try dsimp only at hSw)
              go_simp
              try with_reducible rfl
            simp only [List.setIfInBounds_toArray, List.set_cons_zero, List.set_cons_succ]
            refine takeD (i := 37) (v := ?_) 117 rfl rfl (by kernel_rfl) (by kernel_rfl) (by kernel_rfl) (fun _ _ _ h => h) (by assumption) (Or.inl ⟨by rfl, ?_⟩) ?_
            rotate_left
            · intro w hSw
              (try dsimp only at hSw)
              go_simp
              try with_reducible rfl
            simp only [List.setIfInBounds_toArray, List.set_cons_zero, List.set_cons_succ]
            refine takeD (i := 38) (v := ?_) 118 rfl rfl (by kernel_rfl) (by kernel_rfl) (by kernel_rfl) (fun _ _ _ h => h) (by assumption) (Or.inl ⟨by rfl, ?_⟩) ?_
            rotate_left
            · intro w hSw
              (try dsimp only at hSw)
              go_simp
              try with_reducible rfl
            simp only [List.setIfInBounds_toArray, List.set_cons_zero, List.set_cons_succ]
            refine takeD (i := 39) (v := ?_) 119 rfl rfl (by kernel_rfl) (by kernel_rfl) (by kernel_rfl) (fun _ _ _ h => h) (by assumption) (Or.inl ⟨by rfl, ?_⟩) ?_
            rotate_left
            · intro w hSw
              (try dsimp only at hSw)
              go_simp
              try with_reducible rfl
            simp only [List.setIfInBounds_toArray, List.set_cons_zero, List.set_cons_succ]
            refine takeD (i := 40) (v := ?_) 120 rfl rfl (by kernel_rfl) (by kernel_rfl) (by kernel_rfl) (fun _ _ _ h => h) (by assumption) (Or.inl ⟨by rfl, ?_⟩) ?_
            rotate_left
            · intro w hSw
              (try dsimp only at hSw)
              go_simp
              try with_reducible rfl
            simp only [List.setIfInBounds_toArray, List.set_cons_zero, List.set_cons_succ]
            refine takeD (i := 41) (v := ?_) 121 rfl rfl (by kernel_rfl) (by kernel_rfl) (by kernel_rfl) (fun _ _ _ h => h) (by assumption) (Or.inl ⟨by rfl, ?_⟩) ?_
            rotate_left
            · intro w hSw
              (try dsimp only at hSw)
              go_simp
              try with_reducible rfl
            simp only [List.setIfInBounds_toArray, List.set_cons_zero, List.set_cons_succ]
            refine takeD (i := 42) (v := ?_) 122 rfl rfl (by kernel_rfl) (by kernel_rfl) (by kernel_rfl) (fun _ _ _ h => h) (by assumption) (Or.inl ⟨by rfl, ?_⟩) ?_
            rotate_left
            · intro w hSw
              (try dsimp only at hSw)
              go_simp
              try with_reducible rfl
            simp only [List.setIfInBounds_toArray, List.set_cons_zero, List.set_cons_succ]
            refine wpAnyH_ready (rs := [34]) (by kernel_rfl) (by simp) ?_
            refine AllReadyH.cons (by simp only [List.getElem?_toArray, List.getElem?_cons_succ, List.getElem?_cons_zero]; rfl) (fun K hK => ?_) AllReadyH.nil
            go_simp
            (with_reducible refine (HST1.out _ hHeld.2.2.2).mono ?_)
            rintro e w11 ⟨rfl, rfl⟩
            refine hK.out _ _ ?_ (fun hHeldN => ?_)
            · exact hHeld
            clear hK K hHeld
            have hHeld := hHeldN
            clear hHeldN
            refine takeD (i := 43) (v := ?_) 123 rfl rfl (by kernel_rfl) (by kernel_rfl) (by kernel_rfl) (fun _ _ _ h => h) (by assumption) (Or.inl ⟨by rfl, ?_⟩) ?_
            rotate_left
            · intro w hSw
              (try dsimp only at hSw)
              go_simp
              try with_reducible rfl
            simp only [List.setIfInBounds_toArray, List.set_cons_zero, List.set_cons_succ]
            refine takeD (i := 44) (v := ?_) 124 rfl rfl (by kernel_rfl) (by kernel_rfl) (by kernel_rfl) (fun _ _ _ h => h) (by assumption) (Or.inl ⟨by rfl, ?_⟩) ?_
            rotate_left
            · intro w hSw
              (try dsimp only at hSw)
              go_simp
              try with_reducible rfl
            simp only [List.setIfInBounds_toArray, List.set_cons_zero, List.set_cons_succ]
            refine wpAnyH_done (by kernel_rfl) ?_ _
            have HI9 := hid (show PlayI _ g h (agN ua ub) from ⟨st', HM7.out.step hHeld.2.2.2, HR7.out.step hHeld.2.2.2⟩)
            have HB9 := hid (below_t HB7.out hHeld.2.2.2)
            clear hHeld
            go_wp2
            go_roundw
            case rel => exact ⟨k + 1, by omega, by omega, by go_num, HI9.out, HB9.out⟩
            case measure => simp [intOf]; omega
        · have hmm : True := trivial
          obtain ⟨st, hm, hr⟩ := HI.out
          obtain ⟨side, say, er, st', hcm, hcr⟩ := hear_pair g h (agN ua ub) st xv xo f2
          have hbx := bal (Below.refl wr.heap.size wr) (.cells #[.bool true, .int .u8 xv, .int .u8 xo, .int .i64 xs', .bool xn] 32)
          have HC1 := hid (hcm _ (hm.step hbx))
          have HR1 := hid (hr.step hbx)
          have HC2 := hid hcr
          have HBX := hid (below_t HB.out hbx)
          have lg : g < wr.heap.size := hm.lt
          have lh : h < wr.heap.size := hr.lt
          clear hm hr hcm hcr hbx
          go_wp2_with fail
          with_reducible refine HC1.out.mono ?_
          rintro e w6 ⟨v6, rfl, hms6, hM6, hV6, hk6'⟩
          have b2 := cell_moved hV6 (a := ⟨wr.heap.size, 2, none⟩) (v := .int .u8 xo) (by simp [go_sem]) (fun q => by have q' : wr.heap.size = g := List.mem_singleton.1 q; omega)
          have b1 := cell_moved hV6 (a := ⟨wr.heap.size, 1, none⟩) (v := .int .u8 xv) (by simp [go_sem]) (fun q => by have q' : wr.heap.size = g := List.mem_singleton.1 q; omega)
          have HMS6 := hid hms6
          have HM6 := hid hM6
          have HR6 := hid (HR1.out.moved hV6 (fun q => gh (List.mem_singleton.1 q).symm))
          have HB6 := hid (Moved.grow HBX.out hV6 g0)
          have lB : wr.heap.size < w6.heap.size := by have := hV6.size; simp at this; omega
          have HK6 := hid (show ∀ k ∈ blkV v6, k ≠ h from fun k hk e => by have := hk6' k hk; simp at this; omega)
          obtain ⟨x6, n6, c6, hv6⟩ := msg_slice hms6
          subst hv6
          clear hms6 hM6 hV6 hk6'
          go_wp2_with fail
          with_reducible refine (HC2.out _ HR6.out).mono ?_
          rintro e w7 ⟨v7, rfl, hms7, hR7, hV7, hk7'⟩
          have b2 := cell_moved hV7 b2 (fun q => by have q' : wr.heap.size = h := List.mem_singleton.1 q; omega)
          clear b1
          have HMS7 := hid hms7
          have HMS6b := hid (HMS6.out.moved hV7 (fun k hk => by have := HK6.out k hk; simpa using this))
          have HM7 := hid (HM6.out.moved hV7 (fun q => gh (List.mem_singleton.1 q)))
          have HR7 := hid hR7
          have HB7 := hid (Moved.grow HB6.out hV7 h0)
          obtain ⟨x7, n7, c7, hv7⟩ := msg_slice hms7
          subst hv7
          have r0 := hR7.cs xo (by omega)
          have r1 := hR7.cs (256 + xo) (by omega)
          have HST0 := hid (fun W (hW : Below w7.heap.size w7 W) => state_0 g (agN ua ub) st' xo f2 W (HM7.out.step hW))
          have HST1 := hid (fun W (hW : Below w7.heap.size w7 W) => state_1 g (agN ua ub) st' xo f2 W (HM7.out.step hW))
          have xi1 : (xo : Int) < 256 := by omega
          have xi0 : (0 : Int) ≤ xo := by omega
          generalize st' xo = X0 at r0 HST0
          generalize st' (256 + xo) = X1 at r1 HST1
          have HX := hid (show w7.cell? ⟨wr.heap.size, 2, none⟩ = some (.int .u8 xo) ∧ w7.cell? ⟨h, xo, none⟩ = some (.int .i64 X0) ∧ w7.cell? ⟨h, 256 + xo, none⟩ = some (.int .i64 X1) ∧ Below w7.heap.size w7 w7 from ⟨b2, r0, r1, Below.refl _ _⟩)
          clear hms7 hR7 hV7 hk7' r0 r1 b2
          by_cases hsay : say = 0
          · have e6 := HMS6b.out.zero hsay
            have e7 := HMS7.out.zero hsay
            cases e6
            cases e7
            have HBK := hid (fun W => back_nil W)
            have HEQ := hid (fun W => equalM_nil none none 0 0 W)
            clear HMS6 HMS6b HMS7
            generalize wr.heap.size = B at HX ⊢
            go_wp2
            refine wp_region_held_drew (S := (fun w' => w'.cell? ⟨B, 2, none⟩ = some (.int .u8 xo) ∧ w'.cell? ⟨h, xo, none⟩ = some (.int .i64 X0) ∧ w'.cell? ⟨h, 256 + xo, none⟩ = some (.int .i64 X1) ∧ Below w7.heap.size w7 w')) (by kernel_rfl) ?_ (fun hHeld => ?_)
            · exact ⟨HX.out.1, HX.out.2.1, HX.out.2.2.1, HX.out.2.2.2.drew⟩
            refine takeD (i := 0) (v := ?_) 80 rfl rfl (by kernel_rfl) (by kernel_rfl) (by kernel_rfl) (fun _ _ _ h => h) (by assumption) (Or.inl ⟨by rfl, ?_⟩) ?_
            rotate_left
            · intro w hSw
              (try dsimp only at hSw)
              go_simp
              try with_reducible rfl
            simp only [List.setIfInBounds_toArray, List.set_cons_zero, List.set_cons_succ]
            refine takeD (i := 2) (v := ?_) 82 rfl rfl (by kernel_rfl) (by kernel_rfl) (by kernel_rfl) (fun _ _ _ h => h) (by assumption) (Or.inl ⟨by rfl, ?_⟩) ?_
            rotate_left
            · intro w hSw
              (try dsimp only at hSw)
              go_simp
              try with_reducible rfl
            simp only [List.setIfInBounds_toArray, List.set_cons_zero, List.set_cons_succ]
            refine wpAnyH_ready (rs := [1]) (by kernel_rfl) (by simp) ?_
            refine AllReadyH.cons (by simp only [List.getElem?_toArray, List.getElem?_cons_succ, List.getElem?_cons_zero]; rfl) (fun K hK => ?_) AllReadyH.nil
            go_simp
            (with_reducible refine (HBK.out _).mono ?_)
            rintro e w9 ⟨rfl, hbN⟩
            (try dsimp only)
            refine hK.out _ _ ?_ (fun hHeldN => ?_)
            · exact ⟨keepc hbN hHeld.1, keepc hbN hHeld.2.1, keepc hbN hHeld.2.2.1, below_t hHeld.2.2.2 hbN⟩
            clear hK K hHeld
            have hHeld := hHeldN
            clear hHeldN
            refine wpAnyH_ready (rs := [3]) (by kernel_rfl) (by simp) ?_
            refine AllReadyH.cons (by simp only [List.getElem?_toArray, List.getElem?_cons_succ, List.getElem?_cons_zero]; rfl) (fun K hK => ?_) AllReadyH.nil
            go_simp
            (with_reducible refine (HEQ.out _).mono ?_)
            rintro e w10 ⟨rfl, hbN⟩
            (try dsimp only)
            refine hK.out _ _ ?_ (fun hHeldN => ?_)
            · exact ⟨keepc hbN hHeld.1, keepc hbN hHeld.2.1, keepc hbN hHeld.2.2.1, below_t hHeld.2.2.2 hbN⟩
            clear hK K hHeld
            have hHeld := hHeldN
            clear hHeldN
            refine takeD (i := 4) (v := ?_) 84 rfl rfl (by kernel_rfl) (by kernel_rfl) (by kernel_rfl) (fun _ _ _ h => h) (by assumption) (Or.inl ⟨by rfl, ?_⟩) ?_
            rotate_left
            · intro w hSw
              (try dsimp only at hSw)
              go_simp
              try with_reducible rfl
            simp only [List.setIfInBounds_toArray, List.set_cons_zero, List.set_cons_succ]
            refine takeD (i := 5) (v := ?_) 85 rfl rfl (by kernel_rfl) (by kernel_rfl) (by kernel_rfl) (fun _ _ _ h => h) (by assumption) (Or.inl ⟨by rfl, ?_⟩) ?_
            rotate_left
            · intro w hSw
              (try dsimp only at hSw)
              go_simp
              try with_reducible rfl
            simp only [List.setIfInBounds_toArray, List.set_cons_zero, List.set_cons_succ]
            refine takeD (i := 6) (v := ?_) 86 rfl rfl (by kernel_rfl) (by kernel_rfl) (by kernel_rfl) (fun _ _ _ h => h) (by assumption) (Or.inl ⟨by rfl, ?_⟩) ?_
            rotate_left
            · intro w hSw
              (try dsimp only at hSw)
              go_simp
              try with_reducible rfl
            simp only [List.setIfInBounds_toArray, List.set_cons_zero, List.set_cons_succ]
            refine takeD (i := 7) (v := ?_) 87 rfl rfl (by kernel_rfl) (by kernel_rfl) (by kernel_rfl) (fun _ _ _ h => h) (by assumption) (Or.inl ⟨by rfl, ?_⟩) ?_
            rotate_left
            · intro w hSw
              (try dsimp only at hSw)
              go_simp
              try with_reducible rfl
            simp only [List.setIfInBounds_toArray, List.set_cons_zero, List.set_cons_succ]
            refine takeD (i := 8) (v := ?_) 88 rfl rfl (by kernel_rfl) (by kernel_rfl) (by kernel_rfl) (fun _ _ _ h => h) (by assumption) (Or.inl ⟨by rfl, ?_⟩) ?_
            rotate_left
            · intro w hSw
              (try dsimp only at hSw)
              go_simp
              try with_reducible rfl
            simp only [List.setIfInBounds_toArray, List.set_cons_zero, List.set_cons_succ]
            refine takeD (i := 9) (v := ?_) 89 rfl rfl (by kernel_rfl) (by kernel_rfl) (by kernel_rfl) (fun _ _ _ h => h) (by assumption) (Or.inl ⟨by rfl, ?_⟩) ?_
            rotate_left
            · intro w hSw
              (try dsimp only at hSw)
              go_simp
              try with_reducible rfl
            simp only [List.setIfInBounds_toArray, List.set_cons_zero, List.set_cons_succ]
            refine takeD (i := 10) (v := ?_) 90 rfl rfl (by kernel_rfl) (by kernel_rfl) (by kernel_rfl) (fun _ _ _ h => h) (by assumption) (Or.inl ⟨by rfl, ?_⟩) ?_
            rotate_left
            · intro w hSw
              (try dsimp only at hSw)
              go_simp
              try with_reducible rfl
            simp only [List.setIfInBounds_toArray, List.set_cons_zero, List.set_cons_succ]
            refine takeD (i := 11) (v := ?_) 91 rfl rfl (by kernel_rfl) (by kernel_rfl) (by kernel_rfl) (fun _ _ _ h => h) (by assumption) (Or.inl ⟨by rfl, ?_⟩) ?_
            rotate_left
            · intro w hSw
              (try dsimp only at hSw)
              go_simp
              try with_reducible rfl
            simp only [List.setIfInBounds_toArray, List.set_cons_zero, List.set_cons_succ]
            refine takeD (i := 12) (v := ?_) 92 rfl rfl (by kernel_rfl) (by kernel_rfl) (by kernel_rfl) (fun _ _ _ h => h) (by assumption) (Or.inl ⟨by rfl, ?_⟩) ?_
            rotate_left
            · intro w hSw
              (try dsimp only at hSw)
              go_simp
              try with_reducible rfl
            simp only [List.setIfInBounds_toArray, List.set_cons_zero, List.set_cons_succ]
            refine takeD (i := 13) (v := ?_) 93 rfl rfl (by kernel_rfl) (by kernel_rfl) (by kernel_rfl) (fun _ _ _ h => h) (by assumption) (Or.inl ⟨by rfl, ?_⟩) ?_
            rotate_left
            · intro w hSw
              (try dsimp only at hSw)
              go_simp
              try with_reducible rfl
            simp only [List.setIfInBounds_toArray, List.set_cons_zero, List.set_cons_succ]
            refine takeD (i := 14) (v := ?_) 94 rfl rfl (by kernel_rfl) (by kernel_rfl) (by kernel_rfl) (fun _ _ _ h => h) (by assumption) (Or.inl ⟨by rfl, ?_⟩) ?_
            rotate_left
            · intro w hSw
              (try dsimp only at hSw)
              go_simp
              try with_reducible rfl
            simp only [List.setIfInBounds_toArray, List.set_cons_zero, List.set_cons_succ]
            refine takeD (i := 15) (v := ?_) 95 rfl rfl (by kernel_rfl) (by kernel_rfl) (by kernel_rfl) (fun _ _ _ h => h) (by assumption) (Or.inl ⟨by rfl, ?_⟩) ?_
            rotate_left
            · intro w hSw
              (try dsimp only at hSw)
              go_simp
              try with_reducible rfl
            simp only [List.setIfInBounds_toArray, List.set_cons_zero, List.set_cons_succ]
            refine takeD (i := 16) (v := ?_) 96 rfl rfl (by kernel_rfl) (by kernel_rfl) (by kernel_rfl) (fun _ _ _ h => h) (by assumption) (Or.inl ⟨by rfl, ?_⟩) ?_
            rotate_left
            · intro w hSw
              (try dsimp only at hSw)
              go_simp
              try with_reducible rfl
            simp only [List.setIfInBounds_toArray, List.set_cons_zero, List.set_cons_succ]
            refine takeD (i := 17) (v := ?_) 97 rfl rfl (by kernel_rfl) (by kernel_rfl) (by kernel_rfl) (fun _ _ _ h => h) (by assumption) (Or.inl ⟨by rfl, ?_⟩) ?_
            rotate_left
            · intro w hSw
              (try dsimp only at hSw)
              go_simp
              try with_reducible rfl
            simp only [List.setIfInBounds_toArray, List.set_cons_zero, List.set_cons_succ]
            refine takeD (i := 18) (v := ?_) 98 rfl rfl (by kernel_rfl) (by kernel_rfl) (by kernel_rfl) (fun _ _ _ h => h) (by assumption) (Or.inl ⟨by rfl, ?_⟩) ?_
            rotate_left
            · intro w hSw
              (try dsimp only at hSw)
              go_simp
              try with_reducible rfl
            simp only [List.setIfInBounds_toArray, List.set_cons_zero, List.set_cons_succ]
            refine takeD (i := 20) (v := ?_) 100 rfl rfl (by kernel_rfl) (by kernel_rfl) (by kernel_rfl) (fun _ _ _ h => h) (by assumption) (Or.inl ⟨by rfl, ?_⟩) ?_
            rotate_left
            · intro w hSw
              (try dsimp only at hSw)
              go_simp
              try with_reducible rfl
            simp only [List.setIfInBounds_toArray, List.set_cons_zero, List.set_cons_succ]
            refine takeD (i := 21) (v := ?_) 101 rfl rfl (by kernel_rfl) (by kernel_rfl) (by kernel_rfl) (fun _ _ _ h => h) (by assumption) (Or.inl ⟨by rfl, ?_⟩) ?_
            rotate_left
            · intro w hSw
              (try dsimp only at hSw)
              go_simp
              try with_reducible rfl
            simp only [List.setIfInBounds_toArray, List.set_cons_zero, List.set_cons_succ]
            refine takeD (i := 22) (v := ?_) 102 rfl rfl (by kernel_rfl) (by kernel_rfl) (by kernel_rfl) (fun _ _ _ h => h) (by assumption) (Or.inl ⟨by rfl, ?_⟩) ?_
            rotate_left
            · intro w hSw
              (try dsimp only at hSw)
              go_simp
              try with_reducible rfl
            simp only [List.setIfInBounds_toArray, List.set_cons_zero, List.set_cons_succ]
            refine takeD (i := 23) (v := ?_) 103 rfl rfl (by kernel_rfl) (by kernel_rfl) (by kernel_rfl) (fun _ _ _ h => h) (by assumption) (Or.inl ⟨by rfl, ?_⟩) ?_
            rotate_left
            · intro w hSw
              (try dsimp only at hSw)
              go_simp
              try with_reducible rfl
            simp only [List.setIfInBounds_toArray, List.set_cons_zero, List.set_cons_succ]
            refine takeD (i := 24) (v := ?_) 104 rfl rfl (by kernel_rfl) (by kernel_rfl) (by kernel_rfl) (fun _ _ _ h => h) (by assumption) (Or.inl ⟨by rfl, ?_⟩) ?_
            rotate_left
            · intro w hSw
              (try dsimp only at hSw)
              go_simp
              try with_reducible rfl
            simp only [List.setIfInBounds_toArray, List.set_cons_zero, List.set_cons_succ]
            refine takeD (i := 25) (v := ?_) 105 rfl rfl (by kernel_rfl) (by kernel_rfl) (by kernel_rfl) (fun _ _ _ h => h) (by assumption) (Or.inl ⟨by rfl, ?_⟩) ?_
            rotate_left
            · intro w hSw
              (try dsimp only at hSw)
              go_simp
              try with_reducible rfl
            simp only [List.setIfInBounds_toArray, List.set_cons_zero, List.set_cons_succ]
            refine takeD (i := 26) (v := ?_) 106 rfl rfl (by kernel_rfl) (by kernel_rfl) (by kernel_rfl) (fun _ _ _ h => h) (by assumption) (Or.inl ⟨by rfl, ?_⟩) ?_
            rotate_left
            · intro w hSw
              (try dsimp only at hSw)
              go_simp
              try with_reducible rfl
            simp only [List.setIfInBounds_toArray, List.set_cons_zero, List.set_cons_succ]
            refine takeD (i := 27) (v := ?_) 107 rfl rfl (by kernel_rfl) (by kernel_rfl) (by kernel_rfl) (fun _ _ _ h => h) (by assumption) (Or.inl ⟨by rfl, ?_⟩) ?_
            rotate_left
            · intro w hSw
              (try dsimp only at hSw)
              go_simp
              try with_reducible rfl
            simp only [List.setIfInBounds_toArray, List.set_cons_zero, List.set_cons_succ]
            refine wpAnyH_ready (rs := [19]) (by kernel_rfl) (by simp) ?_
            refine AllReadyH.cons (by simp only [List.getElem?_toArray, List.getElem?_cons_succ, List.getElem?_cons_zero]; rfl) (fun K hK => ?_) AllReadyH.nil
            go_simp
            (with_reducible refine (HST0.out _ hHeld.2.2.2).mono ?_)
            rintro e w11 ⟨rfl, rfl⟩
            refine hK.out _ _ ?_ (fun hHeldN => ?_)
            · exact hHeld
            clear hK K hHeld
            have hHeld := hHeldN
            clear hHeldN
            refine takeD (i := 28) (v := ?_) 108 rfl rfl (by kernel_rfl) (by kernel_rfl) (by kernel_rfl) (fun _ _ _ h => h) (by assumption) (Or.inl ⟨by rfl, ?_⟩) ?_
            rotate_left
            · intro w hSw
              (try dsimp only at hSw)
              go_simp
              try with_reducible rfl
            simp only [List.setIfInBounds_toArray, List.set_cons_zero, List.set_cons_succ]
            refine takeD (i := 29) (v := ?_) 109 rfl rfl (by kernel_rfl) (by kernel_rfl) (by kernel_rfl) (fun _ _ _ h => h) (by assumption) (Or.inl ⟨by rfl, ?_⟩) ?_
            rotate_left
            · intro w hSw
              (try dsimp only at hSw)
              go_simp
              try with_reducible rfl
            simp only [List.setIfInBounds_toArray, List.set_cons_zero, List.set_cons_succ]
            refine takeD (i := 30) (v := ?_) 110 rfl rfl (by kernel_rfl) (by kernel_rfl) (by kernel_rfl) (fun _ _ _ h => h) (by assumption) (Or.inl ⟨by rfl, ?_⟩) ?_
            rotate_left
            · intro w hSw
              (try dsimp only at hSw)
              go_simp
              try with_reducible rfl
            simp only [List.setIfInBounds_toArray, List.set_cons_zero, List.set_cons_succ]
            refine takeD (i := 31) (v := ?_) 111 rfl rfl (by kernel_rfl) (by kernel_rfl) (by kernel_rfl) (fun _ _ _ h => h) (by assumption) (Or.inl ⟨by rfl, ?_⟩) ?_
            rotate_left
            · intro w hSw
              (try dsimp only at hSw)
              go_simp
              try with_reducible rfl
            simp only [List.setIfInBounds_toArray, List.set_cons_zero, List.set_cons_succ]
            refine takeD (i := 32) (v := ?_) 112 rfl rfl (by kernel_rfl) (by kernel_rfl) (by kernel_rfl) (fun _ _ _ h => h) (by assumption) (Or.inl ⟨by rfl, ?_⟩) ?_
            rotate_left
            · intro w hSw
              (try dsimp only at hSw)
              go_simp
              try with_reducible rfl
            simp only [List.setIfInBounds_toArray, List.set_cons_zero, List.set_cons_succ]
            refine takeD (i := 33) (v := ?_) 113 rfl rfl (by kernel_rfl) (by kernel_rfl) (by kernel_rfl) (fun _ _ _ h => h) (by assumption) (Or.inl ⟨by rfl, ?_⟩) ?_
            rotate_left
            · intro w hSw
              (try dsimp only at hSw)
              go_simp
              try with_reducible rfl
            simp only [List.setIfInBounds_toArray, List.set_cons_zero, List.set_cons_succ]
            refine takeD (i := 35) (v := ?_) 115 rfl rfl (by kernel_rfl) (by kernel_rfl) (by kernel_rfl) (fun _ _ _ h => h) (by assumption) (Or.inl ⟨by rfl, ?_⟩) ?_
            rotate_left
            · intro w hSw
              (try dsimp only at hSw)
              go_simp
              try with_reducible rfl
            simp only [List.setIfInBounds_toArray, List.set_cons_zero, List.set_cons_succ]
            refine takeD (i := 36) (v := ?_) 116 rfl rfl (by kernel_rfl) (by kernel_rfl) (by kernel_rfl) (fun _ _ _ h => h) (by assumption) (Or.inl ⟨by rfl, ?_⟩) ?_
            rotate_left
            · intro w hSw
              (try dsimp only at hSw)
              go_simp
              try with_reducible rfl
            simp only [List.setIfInBounds_toArray, List.set_cons_zero, List.set_cons_succ]
            refine takeD (i := 37) (v := ?_) 117 rfl rfl (by kernel_rfl) (by kernel_rfl) (by kernel_rfl) (fun _ _ _ h => h) (by assumption) (Or.inl ⟨by rfl, ?_⟩) ?_
            rotate_left
            · intro w hSw
              (try dsimp only at hSw)
              go_simp
              try with_reducible rfl
            simp only [List.setIfInBounds_toArray, List.set_cons_zero, List.set_cons_succ]
            refine takeD (i := 38) (v := ?_) 118 rfl rfl (by kernel_rfl) (by kernel_rfl) (by kernel_rfl) (fun _ _ _ h => h) (by assumption) (Or.inl ⟨by rfl, ?_⟩) ?_
            rotate_left
            · intro w hSw
              (try dsimp only at hSw)
              go_simp
              try with_reducible rfl
            simp only [List.setIfInBounds_toArray, List.set_cons_zero, List.set_cons_succ]
            refine takeD (i := 39) (v := ?_) 119 rfl rfl (by kernel_rfl) (by kernel_rfl) (by kernel_rfl) (fun _ _ _ h => h) (by assumption) (Or.inl ⟨by rfl, ?_⟩) ?_
            rotate_left
            · intro w hSw
              (try dsimp only at hSw)
              go_simp
              try with_reducible rfl
            simp only [List.setIfInBounds_toArray, List.set_cons_zero, List.set_cons_succ]
            refine takeD (i := 40) (v := ?_) 120 rfl rfl (by kernel_rfl) (by kernel_rfl) (by kernel_rfl) (fun _ _ _ h => h) (by assumption) (Or.inl ⟨by rfl, ?_⟩) ?_
            rotate_left
            · intro w hSw
              (try dsimp only at hSw)
              go_simp
              try with_reducible rfl
            simp only [List.setIfInBounds_toArray, List.set_cons_zero, List.set_cons_succ]
            refine takeD (i := 41) (v := ?_) 121 rfl rfl (by kernel_rfl) (by kernel_rfl) (by kernel_rfl) (fun _ _ _ h => h) (by assumption) (Or.inl ⟨by rfl, ?_⟩) ?_
            rotate_left
            · intro w hSw
              (try dsimp only at hSw)
              go_simp
              try with_reducible rfl
            simp only [List.setIfInBounds_toArray, List.set_cons_zero, List.set_cons_succ]
            refine takeD (i := 42) (v := ?_) 122 rfl rfl (by kernel_rfl) (by kernel_rfl) (by kernel_rfl) (fun _ _ _ h => h) (by assumption) (Or.inl ⟨by rfl, ?_⟩) ?_
            rotate_left
            · intro w hSw
              (try dsimp only at hSw)
              go_simp
              try with_reducible rfl
            simp only [List.setIfInBounds_toArray, List.set_cons_zero, List.set_cons_succ]
            refine wpAnyH_ready (rs := [34]) (by kernel_rfl) (by simp) ?_
            refine AllReadyH.cons (by simp only [List.getElem?_toArray, List.getElem?_cons_succ, List.getElem?_cons_zero]; rfl) (fun K hK => ?_) AllReadyH.nil
            go_simp
            (with_reducible refine (HST1.out _ hHeld.2.2.2).mono ?_)
            rintro e w11 ⟨rfl, rfl⟩
            refine hK.out _ _ ?_ (fun hHeldN => ?_)
            · exact hHeld
            clear hK K hHeld
            have hHeld := hHeldN
            clear hHeldN
            refine takeD (i := 43) (v := ?_) 123 rfl rfl (by kernel_rfl) (by kernel_rfl) (by kernel_rfl) (fun _ _ _ h => h) (by assumption) (Or.inl ⟨by rfl, ?_⟩) ?_
            rotate_left
            · intro w hSw
              (try dsimp only at hSw)
              go_simp
              try with_reducible rfl
            simp only [List.setIfInBounds_toArray, List.set_cons_zero, List.set_cons_succ]
            refine takeD (i := 44) (v := ?_) 124 rfl rfl (by kernel_rfl) (by kernel_rfl) (by kernel_rfl) (fun _ _ _ h => h) (by assumption) (Or.inl ⟨by rfl, ?_⟩) ?_
            rotate_left
            · intro w hSw
              (try dsimp only at hSw)
              go_simp
              try with_reducible rfl
            simp only [List.setIfInBounds_toArray, List.set_cons_zero, List.set_cons_succ]
            refine wpAnyH_done (by kernel_rfl) ?_ _
            have HI9 := hid (show PlayI _ g h (agN ua ub) from ⟨st', HM7.out.step hHeld.2.2.2, HR7.out.step hHeld.2.2.2⟩)
            have HB9 := hid (below_t HB7.out hHeld.2.2.2)
            clear hHeld
            go_wp2
            go_roundw
            case rel => exact ⟨k + 1, by omega, by omega, by go_num, HI9.out, HB9.out⟩
            case measure => simp [intOf]; omega
          · have e6 := HMS6b.out.oneM hsay
            have e7 := HMS7.out.oneM hsay
            have HBK := hid (fun W (hW : Below w7.heap.size w7 W) => back_one _ _ _ W (e6.step hW))
            have HEQ := hid (fun W u (hu : OneM W u (verbN side say) xo) (hW : Below w7.heap.size w7 W) => equalM_one u _ _ _ W hu (e7.step hW))
            obtain ⟨gA, cA, eA, _, _⟩ := e6
            cases eA
            obtain ⟨gB, cB, eB, _, _⟩ := e7
            cases eB
            clear HMS6 HMS6b HMS7
            generalize wr.heap.size = B at HX ⊢
            go_wp2
            refine wp_region_held_drew (S := (fun w' => w'.cell? ⟨B, 2, none⟩ = some (.int .u8 xo) ∧ w'.cell? ⟨h, xo, none⟩ = some (.int .i64 X0) ∧ w'.cell? ⟨h, 256 + xo, none⟩ = some (.int .i64 X1) ∧ Below w7.heap.size w7 w')) (by kernel_rfl) ?_ (fun hHeld => ?_)
            · exact ⟨HX.out.1, HX.out.2.1, HX.out.2.2.1, HX.out.2.2.2.drew⟩
            refine takeD (i := 0) (v := ?_) 80 rfl rfl (by kernel_rfl) (by kernel_rfl) (by kernel_rfl) (fun _ _ _ h => h) (by assumption) (Or.inl ⟨by rfl, ?_⟩) ?_
            rotate_left
            · intro w hSw
              (try dsimp only at hSw)
              go_simp
              try with_reducible rfl
            simp only [List.setIfInBounds_toArray, List.set_cons_zero, List.set_cons_succ]
            refine takeD (i := 2) (v := ?_) 82 rfl rfl (by kernel_rfl) (by kernel_rfl) (by kernel_rfl) (fun _ _ _ h => h) (by assumption) (Or.inl ⟨by rfl, ?_⟩) ?_
            rotate_left
            · intro w hSw
              (try dsimp only at hSw)
              go_simp
              try with_reducible rfl
            simp only [List.setIfInBounds_toArray, List.set_cons_zero, List.set_cons_succ]
            refine wpAnyH_ready (rs := [1]) (by kernel_rfl) (by simp) ?_
            refine AllReadyH.cons (by simp only [List.getElem?_toArray, List.getElem?_cons_succ, List.getElem?_cons_zero]; rfl) (fun K hK => ?_) AllReadyH.nil
            go_simp
            (with_reducible refine (HBK.out _ hHeld.2.2.2).mono ?_)
            rintro e w9 ⟨u9, rfl, ho9, hbN⟩
            obtain ⟨g9, c9, rfl, a90, a91⟩ := ho9
            have HO9 := hid (show OneM w9 (.slice (some ⟨g9, 0, none⟩) 1 c9) (verbN side say) xo from ⟨g9, c9, rfl, a90, a91⟩)
            clear a90 a91
            (try dsimp only)
            refine hK.out _ _ ?_ (fun hHeldN => ?_)
            · exact ⟨keepc hbN hHeld.1, keepc hbN hHeld.2.1, keepc hbN hHeld.2.2.1, below_t hHeld.2.2.2 hbN⟩
            clear hK K hHeld
            have hHeld := hHeldN
            clear hHeldN
            refine wpAnyH_ready (rs := [3]) (by kernel_rfl) (by simp) ?_
            refine AllReadyH.cons (by simp only [List.getElem?_toArray, List.getElem?_cons_succ, List.getElem?_cons_zero]; rfl) (fun K hK => ?_) AllReadyH.nil
            go_simp
            (with_reducible refine (HEQ.out _ _ HO9.out hHeld.2.2.2).mono ?_)
            rintro e w10 ⟨rfl, hbN⟩
            (try dsimp only)
            refine hK.out _ _ ?_ (fun hHeldN => ?_)
            · exact ⟨keepc hbN hHeld.1, keepc hbN hHeld.2.1, keepc hbN hHeld.2.2.1, below_t hHeld.2.2.2 hbN⟩
            clear hK K hHeld
            have hHeld := hHeldN
            clear hHeldN
            refine takeD (i := 4) (v := ?_) 84 rfl rfl (by kernel_rfl) (by kernel_rfl) (by kernel_rfl) (fun _ _ _ h => h) (by assumption) (Or.inl ⟨by rfl, ?_⟩) ?_
            rotate_left
            · intro w hSw
              (try dsimp only at hSw)
              go_simp
              try with_reducible rfl
            simp only [List.setIfInBounds_toArray, List.set_cons_zero, List.set_cons_succ]
            refine takeD (i := 5) (v := ?_) 85 rfl rfl (by kernel_rfl) (by kernel_rfl) (by kernel_rfl) (fun _ _ _ h => h) (by assumption) (Or.inl ⟨by rfl, ?_⟩) ?_
            rotate_left
            · intro w hSw
              (try dsimp only at hSw)
              go_simp
              try with_reducible rfl
            simp only [List.setIfInBounds_toArray, List.set_cons_zero, List.set_cons_succ]
            refine takeD (i := 6) (v := ?_) 86 rfl rfl (by kernel_rfl) (by kernel_rfl) (by kernel_rfl) (fun _ _ _ h => h) (by assumption) (Or.inl ⟨by rfl, ?_⟩) ?_
            rotate_left
            · intro w hSw
              (try dsimp only at hSw)
              go_simp
              try with_reducible rfl
            simp only [List.setIfInBounds_toArray, List.set_cons_zero, List.set_cons_succ]
            refine takeD (i := 7) (v := ?_) 87 rfl rfl (by kernel_rfl) (by kernel_rfl) (by kernel_rfl) (fun _ _ _ h => h) (by assumption) (Or.inl ⟨by rfl, ?_⟩) ?_
            rotate_left
            · intro w hSw
              (try dsimp only at hSw)
              go_simp
              try with_reducible rfl
            simp only [List.setIfInBounds_toArray, List.set_cons_zero, List.set_cons_succ]
            refine takeD (i := 8) (v := ?_) 88 rfl rfl (by kernel_rfl) (by kernel_rfl) (by kernel_rfl) (fun _ _ _ h => h) (by assumption) (Or.inl ⟨by rfl, ?_⟩) ?_
            rotate_left
            · intro w hSw
              (try dsimp only at hSw)
              go_simp
              try with_reducible rfl
            simp only [List.setIfInBounds_toArray, List.set_cons_zero, List.set_cons_succ]
            refine takeD (i := 9) (v := ?_) 89 rfl rfl (by kernel_rfl) (by kernel_rfl) (by kernel_rfl) (fun _ _ _ h => h) (by assumption) (Or.inl ⟨by rfl, ?_⟩) ?_
            rotate_left
            · intro w hSw
              (try dsimp only at hSw)
              go_simp
              try with_reducible rfl
            simp only [List.setIfInBounds_toArray, List.set_cons_zero, List.set_cons_succ]
            refine takeD (i := 10) (v := ?_) 90 rfl rfl (by kernel_rfl) (by kernel_rfl) (by kernel_rfl) (fun _ _ _ h => h) (by assumption) (Or.inl ⟨by rfl, ?_⟩) ?_
            rotate_left
            · intro w hSw
              (try dsimp only at hSw)
              go_simp
              try with_reducible rfl
            simp only [List.setIfInBounds_toArray, List.set_cons_zero, List.set_cons_succ]
            refine takeD (i := 11) (v := ?_) 91 rfl rfl (by kernel_rfl) (by kernel_rfl) (by kernel_rfl) (fun _ _ _ h => h) (by assumption) (Or.inl ⟨by rfl, ?_⟩) ?_
            rotate_left
            · intro w hSw
              (try dsimp only at hSw)
              go_simp
              try with_reducible rfl
            simp only [List.setIfInBounds_toArray, List.set_cons_zero, List.set_cons_succ]
            refine takeD (i := 12) (v := ?_) 92 rfl rfl (by kernel_rfl) (by kernel_rfl) (by kernel_rfl) (fun _ _ _ h => h) (by assumption) (Or.inl ⟨by rfl, ?_⟩) ?_
            rotate_left
            · intro w hSw
              (try dsimp only at hSw)
              go_simp
              try with_reducible rfl
            simp only [List.setIfInBounds_toArray, List.set_cons_zero, List.set_cons_succ]
            refine takeD (i := 13) (v := ?_) 93 rfl rfl (by kernel_rfl) (by kernel_rfl) (by kernel_rfl) (fun _ _ _ h => h) (by assumption) (Or.inl ⟨by rfl, ?_⟩) ?_
            rotate_left
            · intro w hSw
              (try dsimp only at hSw)
              go_simp
              try with_reducible rfl
            simp only [List.setIfInBounds_toArray, List.set_cons_zero, List.set_cons_succ]
            refine takeD (i := 14) (v := ?_) 94 rfl rfl (by kernel_rfl) (by kernel_rfl) (by kernel_rfl) (fun _ _ _ h => h) (by assumption) (Or.inl ⟨by rfl, ?_⟩) ?_
            rotate_left
            · intro w hSw
              (try dsimp only at hSw)
              go_simp
              try with_reducible rfl
            simp only [List.setIfInBounds_toArray, List.set_cons_zero, List.set_cons_succ]
            refine takeD (i := 15) (v := ?_) 95 rfl rfl (by kernel_rfl) (by kernel_rfl) (by kernel_rfl) (fun _ _ _ h => h) (by assumption) (Or.inl ⟨by rfl, ?_⟩) ?_
            rotate_left
            · intro w hSw
              (try dsimp only at hSw)
              go_simp
              try with_reducible rfl
            simp only [List.setIfInBounds_toArray, List.set_cons_zero, List.set_cons_succ]
            refine takeD (i := 16) (v := ?_) 96 rfl rfl (by kernel_rfl) (by kernel_rfl) (by kernel_rfl) (fun _ _ _ h => h) (by assumption) (Or.inl ⟨by rfl, ?_⟩) ?_
            rotate_left
            · intro w hSw
              (try dsimp only at hSw)
              go_simp
              try with_reducible rfl
            simp only [List.setIfInBounds_toArray, List.set_cons_zero, List.set_cons_succ]
            refine takeD (i := 17) (v := ?_) 97 rfl rfl (by kernel_rfl) (by kernel_rfl) (by kernel_rfl) (fun _ _ _ h => h) (by assumption) (Or.inl ⟨by rfl, ?_⟩) ?_
            rotate_left
            · intro w hSw
              (try dsimp only at hSw)
              go_simp
              try with_reducible rfl
            simp only [List.setIfInBounds_toArray, List.set_cons_zero, List.set_cons_succ]
            refine takeD (i := 18) (v := ?_) 98 rfl rfl (by kernel_rfl) (by kernel_rfl) (by kernel_rfl) (fun _ _ _ h => h) (by assumption) (Or.inl ⟨by rfl, ?_⟩) ?_
            rotate_left
            · intro w hSw
              (try dsimp only at hSw)
              go_simp
              try with_reducible rfl
            simp only [List.setIfInBounds_toArray, List.set_cons_zero, List.set_cons_succ]
            refine takeD (i := 20) (v := ?_) 100 rfl rfl (by kernel_rfl) (by kernel_rfl) (by kernel_rfl) (fun _ _ _ h => h) (by assumption) (Or.inl ⟨by rfl, ?_⟩) ?_
            rotate_left
            · intro w hSw
              (try dsimp only at hSw)
              go_simp
              try with_reducible rfl
            simp only [List.setIfInBounds_toArray, List.set_cons_zero, List.set_cons_succ]
            refine takeD (i := 21) (v := ?_) 101 rfl rfl (by kernel_rfl) (by kernel_rfl) (by kernel_rfl) (fun _ _ _ h => h) (by assumption) (Or.inl ⟨by rfl, ?_⟩) ?_
            rotate_left
            · intro w hSw
              (try dsimp only at hSw)
              go_simp
              try with_reducible rfl
            simp only [List.setIfInBounds_toArray, List.set_cons_zero, List.set_cons_succ]
            refine takeD (i := 22) (v := ?_) 102 rfl rfl (by kernel_rfl) (by kernel_rfl) (by kernel_rfl) (fun _ _ _ h => h) (by assumption) (Or.inl ⟨by rfl, ?_⟩) ?_
            rotate_left
            · intro w hSw
              (try dsimp only at hSw)
              go_simp
              try with_reducible rfl
            simp only [List.setIfInBounds_toArray, List.set_cons_zero, List.set_cons_succ]
            refine takeD (i := 23) (v := ?_) 103 rfl rfl (by kernel_rfl) (by kernel_rfl) (by kernel_rfl) (fun _ _ _ h => h) (by assumption) (Or.inl ⟨by rfl, ?_⟩) ?_
            rotate_left
            · intro w hSw
              (try dsimp only at hSw)
              go_simp
              try with_reducible rfl
            simp only [List.setIfInBounds_toArray, List.set_cons_zero, List.set_cons_succ]
            refine takeD (i := 24) (v := ?_) 104 rfl rfl (by kernel_rfl) (by kernel_rfl) (by kernel_rfl) (fun _ _ _ h => h) (by assumption) (Or.inl ⟨by rfl, ?_⟩) ?_
            rotate_left
            · intro w hSw
              (try dsimp only at hSw)
              go_simp
              try with_reducible rfl
            simp only [List.setIfInBounds_toArray, List.set_cons_zero, List.set_cons_succ]
            refine takeD (i := 25) (v := ?_) 105 rfl rfl (by kernel_rfl) (by kernel_rfl) (by kernel_rfl) (fun _ _ _ h => h) (by assumption) (Or.inl ⟨by rfl, ?_⟩) ?_
            rotate_left
            · intro w hSw
              (try dsimp only at hSw)
              go_simp
              try with_reducible rfl
            simp only [List.setIfInBounds_toArray, List.set_cons_zero, List.set_cons_succ]
            refine takeD (i := 26) (v := ?_) 106 rfl rfl (by kernel_rfl) (by kernel_rfl) (by kernel_rfl) (fun _ _ _ h => h) (by assumption) (Or.inl ⟨by rfl, ?_⟩) ?_
            rotate_left
            · intro w hSw
              (try dsimp only at hSw)
              go_simp
              try with_reducible rfl
            simp only [List.setIfInBounds_toArray, List.set_cons_zero, List.set_cons_succ]
            refine takeD (i := 27) (v := ?_) 107 rfl rfl (by kernel_rfl) (by kernel_rfl) (by kernel_rfl) (fun _ _ _ h => h) (by assumption) (Or.inl ⟨by rfl, ?_⟩) ?_
            rotate_left
            · intro w hSw
              (try dsimp only at hSw)
              go_simp
              try with_reducible rfl
            simp only [List.setIfInBounds_toArray, List.set_cons_zero, List.set_cons_succ]
            refine wpAnyH_ready (rs := [19]) (by kernel_rfl) (by simp) ?_
            refine AllReadyH.cons (by simp only [List.getElem?_toArray, List.getElem?_cons_succ, List.getElem?_cons_zero]; rfl) (fun K hK => ?_) AllReadyH.nil
            go_simp
            (with_reducible refine (HST0.out _ hHeld.2.2.2).mono ?_)
            rintro e w11 ⟨rfl, rfl⟩
            refine hK.out _ _ ?_ (fun hHeldN => ?_)
            · exact hHeld
            clear hK K hHeld
            have hHeld := hHeldN
            clear hHeldN
            refine takeD (i := 28) (v := ?_) 108 rfl rfl (by kernel_rfl) (by kernel_rfl) (by kernel_rfl) (fun _ _ _ h => h) (by assumption) (Or.inl ⟨by rfl, ?_⟩) ?_
            rotate_left
            · intro w hSw
              (try dsimp only at hSw)
              go_simp
              try with_reducible rfl
            simp only [List.setIfInBounds_toArray, List.set_cons_zero, List.set_cons_succ]
            refine takeD (i := 29) (v := ?_) 109 rfl rfl (by kernel_rfl) (by kernel_rfl) (by kernel_rfl) (fun _ _ _ h => h) (by assumption) (Or.inl ⟨by rfl, ?_⟩) ?_
            rotate_left
            · intro w hSw
              (try dsimp only at hSw)
              go_simp
              try with_reducible rfl
            simp only [List.setIfInBounds_toArray, List.set_cons_zero, List.set_cons_succ]
            refine takeD (i := 30) (v := ?_) 110 rfl rfl (by kernel_rfl) (by kernel_rfl) (by kernel_rfl) (fun _ _ _ h => h) (by assumption) (Or.inl ⟨by rfl, ?_⟩) ?_
            rotate_left
            · intro w hSw
              (try dsimp only at hSw)
              go_simp
              try with_reducible rfl
            simp only [List.setIfInBounds_toArray, List.set_cons_zero, List.set_cons_succ]
            refine takeD (i := 31) (v := ?_) 111 rfl rfl (by kernel_rfl) (by kernel_rfl) (by kernel_rfl) (fun _ _ _ h => h) (by assumption) (Or.inl ⟨by rfl, ?_⟩) ?_
            rotate_left
            · intro w hSw
              (try dsimp only at hSw)
              go_simp
              try with_reducible rfl
            simp only [List.setIfInBounds_toArray, List.set_cons_zero, List.set_cons_succ]
            refine takeD (i := 32) (v := ?_) 112 rfl rfl (by kernel_rfl) (by kernel_rfl) (by kernel_rfl) (fun _ _ _ h => h) (by assumption) (Or.inl ⟨by rfl, ?_⟩) ?_
            rotate_left
            · intro w hSw
              (try dsimp only at hSw)
              go_simp
              try with_reducible rfl
            simp only [List.setIfInBounds_toArray, List.set_cons_zero, List.set_cons_succ]
            refine takeD (i := 33) (v := ?_) 113 rfl rfl (by kernel_rfl) (by kernel_rfl) (by kernel_rfl) (fun _ _ _ h => h) (by assumption) (Or.inl ⟨by rfl, ?_⟩) ?_
            rotate_left
            · intro w hSw
              (try dsimp only at hSw)
              go_simp
              try with_reducible rfl
            simp only [List.setIfInBounds_toArray, List.set_cons_zero, List.set_cons_succ]
            refine takeD (i := 35) (v := ?_) 115 rfl rfl (by kernel_rfl) (by kernel_rfl) (by kernel_rfl) (fun _ _ _ h => h) (by assumption) (Or.inl ⟨by rfl, ?_⟩) ?_
            rotate_left
            · intro w hSw
              (try dsimp only at hSw)
              go_simp
              try with_reducible rfl
            simp only [List.setIfInBounds_toArray, List.set_cons_zero, List.set_cons_succ]
            refine takeD (i := 36) (v := ?_) 116 rfl rfl (by kernel_rfl) (by kernel_rfl) (by kernel_rfl) (fun _ _ _ h => h) (by assumption) (Or.inl ⟨by rfl, ?_⟩) ?_
            rotate_left
            · intro w hSw
              (try dsimp only at hSw)
              go_simp
              try with_reducible rfl
            simp only [List.setIfInBounds_toArray, List.set_cons_zero, List.set_cons_succ]
            refine takeD (i := 37) (v := ?_) 117 rfl rfl (by kernel_rfl) (by kernel_rfl) (by kernel_rfl) (fun _ _ _ h => h) (by assumption) (Or.inl ⟨by rfl, ?_⟩) ?_
            rotate_left
            · intro w hSw
              (try dsimp only at hSw)
              go_simp
              try with_reducible rfl
            simp only [List.setIfInBounds_toArray, List.set_cons_zero, List.set_cons_succ]
            refine takeD (i := 38) (v := ?_) 118 rfl rfl (by kernel_rfl) (by kernel_rfl) (by kernel_rfl) (fun _ _ _ h => h) (by assumption) (Or.inl ⟨by rfl, ?_⟩) ?_
            rotate_left
            · intro w hSw
              (try dsimp only at hSw)
              go_simp
              try with_reducible rfl
            simp only [List.setIfInBounds_toArray, List.set_cons_zero, List.set_cons_succ]
            refine takeD (i := 39) (v := ?_) 119 rfl rfl (by kernel_rfl) (by kernel_rfl) (by kernel_rfl) (fun _ _ _ h => h) (by assumption) (Or.inl ⟨by rfl, ?_⟩) ?_
            rotate_left
            · intro w hSw
              (try dsimp only at hSw)
              go_simp
              try with_reducible rfl
            simp only [List.setIfInBounds_toArray, List.set_cons_zero, List.set_cons_succ]
            refine takeD (i := 40) (v := ?_) 120 rfl rfl (by kernel_rfl) (by kernel_rfl) (by kernel_rfl) (fun _ _ _ h => h) (by assumption) (Or.inl ⟨by rfl, ?_⟩) ?_
            rotate_left
            · intro w hSw
              (try dsimp only at hSw)
              go_simp
              try with_reducible rfl
            simp only [List.setIfInBounds_toArray, List.set_cons_zero, List.set_cons_succ]
            refine takeD (i := 41) (v := ?_) 121 rfl rfl (by kernel_rfl) (by kernel_rfl) (by kernel_rfl) (fun _ _ _ h => h) (by assumption) (Or.inl ⟨by rfl, ?_⟩) ?_
            rotate_left
            · intro w hSw
              (try dsimp only at hSw)
              go_simp
              try with_reducible rfl
            simp only [List.setIfInBounds_toArray, List.set_cons_zero, List.set_cons_succ]
            refine takeD (i := 42) (v := ?_) 122 rfl rfl (by kernel_rfl) (by kernel_rfl) (by kernel_rfl) (fun _ _ _ h => h) (by assumption) (Or.inl ⟨by rfl, ?_⟩) ?_
            rotate_left
            · intro w hSw
              (try dsimp only at hSw)
              go_simp
              try with_reducible rfl
            simp only [List.setIfInBounds_toArray, List.set_cons_zero, List.set_cons_succ]
            refine wpAnyH_ready (rs := [34]) (by kernel_rfl) (by simp) ?_
            refine AllReadyH.cons (by simp only [List.getElem?_toArray, List.getElem?_cons_succ, List.getElem?_cons_zero]; rfl) (fun K hK => ?_) AllReadyH.nil
            go_simp
            (with_reducible refine (HST1.out _ hHeld.2.2.2).mono ?_)
            rintro e w11 ⟨rfl, rfl⟩
            refine hK.out _ _ ?_ (fun hHeldN => ?_)
            · exact hHeld
            clear hK K hHeld
            have hHeld := hHeldN
            clear hHeldN
            refine takeD (i := 43) (v := ?_) 123 rfl rfl (by kernel_rfl) (by kernel_rfl) (by kernel_rfl) (fun _ _ _ h => h) (by assumption) (Or.inl ⟨by rfl, ?_⟩) ?_
            rotate_left
            · intro w hSw
              (try dsimp only at hSw)
              go_simp
              try with_reducible rfl
            simp only [List.setIfInBounds_toArray, List.set_cons_zero, List.set_cons_succ]
            refine takeD (i := 44) (v := ?_) 124 rfl rfl (by kernel_rfl) (by kernel_rfl) (by kernel_rfl) (fun _ _ _ h => h) (by assumption) (Or.inl ⟨by rfl, ?_⟩) ?_
            rotate_left
            · intro w hSw
              (try dsimp only at hSw)
              go_simp
              try with_reducible rfl
            simp only [List.setIfInBounds_toArray, List.set_cons_zero, List.set_cons_succ]
            refine wpAnyH_done (by kernel_rfl) ?_ _
            have HI9 := hid (show PlayI _ g h (agN ua ub) from ⟨st', HM7.out.step hHeld.2.2.2, HR7.out.step hHeld.2.2.2⟩)
            have HB9 := hid (below_t HB7.out hHeld.2.2.2)
            clear hHeld
            go_wp2
            go_roundw
            case rel => exact ⟨k + 1, by omega, by omega, by go_num, HI9.out, HB9.out⟩
            case measure => simp [intOf]; omega
      · have k60 : (60 : Int) ≤ k := by omega
        obtain ⟨st, hm, hr⟩ := HI.out
        have hbx := bal (Below.refl wr.heap.size wr) (.cells #[.bool xh, .int .u8 xv, .int .u8 xo, .int .i64 xs', .bool xn] 32)
        have HSA := hid (same_mach g h (agN ua ub) st _ (hm.step hbx) (hr.step hbx))
        have HBX := hid (below_t HB.out hbx)
        clear hm hr hbx
        go_wp2_with fail
        with_reducible refine HSA.out.mono ?_
        rintro e w8 ⟨rfl, hb8⟩
        have HB8 := hid (below_t HBX.out hb8)
        clear hb8
        go_wp2
        go_ret
        exact ⟨rfl, HB8.out⟩
    · obtain rfl : k = n := by omega
      obtain ⟨st, hm, hr⟩ := HI.out
      have HSA := hid (same_mach g h (agN ua ub) st wr hm hr)
      clear hm hr
      go_wp2_with fail
      with_reducible refine HSA.out.mono ?_
      rintro e w8 ⟨rfl, hb8⟩
      have HB8 := hid (below_t HB.out hb8)
      clear hb8
      go_wp2
      go_ret
      exact ⟨rfl, HB8.out⟩
end Go.Proofs.Ytahminbgedmgcaa
