/-
  The law's own walk: OptionRefuses.
-/
import Derived.Test.YtahminbgedmgcaaOj
import Derived.Deep.RegionHeld3
namespace Go.Proofs.Ytahminbgedmgcaa
open Go.RowKit Go.Lib

section
variable {P : Program} {ops : Array Oper} {Q : Exit → Act → World → Prop} {md : Region.Mode} {S : World → Prop}
/-- An operation is taken first: its slot is written. -/
theorem takeD {i : Nat} {oi : Oper} {v : Value} (d : Tmp) {fuel : Nat} {listed : Array Bool} {ts : Array Value} {ds : List Deferred} {w : World} (hi : ops[i]? = some oi) (hd : oi.dst = some d)
    (hs : Region.noSelect ops = true) (hf : Region.free md ops listed i = true) (hr : (Region.ready md ops listed).contains i = true)
    (hQ : ∀ c a w, Q (.panic c) (a.put oi.dst v) w → Q (.panic c) a w) (hS : S w) (hy : YieldsIf P ops S oi v ⟨ts, ds⟩)
    (h : wpAnyH P md ops Q S fuel (listed.setIfInBounds i true) ⟨ts.setIfInBounds d v, ds⟩ w) : wpAnyH P md ops Q S (fuel + 1) listed ⟨ts, ds⟩ w :=
  wpAnyH_take hi hs hf hr hQ hy hS (by rw [hd]; exact h)
end

theorem reads_any_slice {w : World} {d : Value} {xs : List Int} (h : Reads w d xs) : ∃ x n c, d = .slice x n c := by
  rcases h.2 with ⟨rfl, _⟩ | ⟨a, cap, rfl, _⟩
  · exact ⟨_, _, _, rfl⟩
  · exact ⟨_, _, _, rfl⟩
theorem op_at {w : World} {go oo k : Nat} {xs : List OpD} (hk : k < xs.length) (h : ∀ i (h : i < xs.length) j, j < 5 → w.cell? ⟨go, oo + i * 5 + j, none⟩ = (opC xs[i])[j]?) : ∃ x : OpD, x ∈ xs ∧ w.cell? ⟨go, oo + k * 5, none⟩ = some (.bool x.hear) ∧ w.cell? ⟨go, oo + k * 5 + 1, none⟩ = some (.int .u8 x.verb) ∧ w.cell? ⟨go, oo + k * 5 + 2, none⟩ = some (.int .u8 x.opt) ∧ w.cell? ⟨go, oo + k * 5 + 3, none⟩ = some (.int .i64 x.side) ∧ w.cell? ⟨go, oo + k * 5 + 4, none⟩ = some (.bool x.on) :=
  ⟨xs[k], List.getElem_mem hk, h k hk 0 (by omega), h k hk 1 (by omega), h k hk 2 (by omega), h k hk 3 (by omega), h k hk 4 (by omega)⟩
/-- What a round keeps. -/
def RefI (w : World) (g : Nat) (us hs : List Int) : Prop := ∃ st, Mach w g (agN us hs) st ∧ Off (agN us hs) st
theorem RefI.step {w w' : World} {g : Nat} {us hs : List Int} (h : RefI w g us hs) (hb : Below w.heap.size w w') : RefI w' g us hs := by
  obtain ⟨st, h1, h2⟩ := h
  exact ⟨st, h1.step hb, h2⟩
/-- What region 15 reads. -/
def R15 (w0 w : World) (B b : Nat) (o : Nat) (x : Int) : Prop := w.cell? ⟨B, 2, none⟩ = some (.int .u8 o) ∧ w.cell? ⟨b, 0, none⟩ = some (.int .u8 x) ∧ Below w0.heap.size w0 w
theorem R15.kept {w0 w w' : World} {B b : Nat} {o : Nat} {x : Int} (h : w.cell? ⟨B, 2, none⟩ = some (.int .u8 o) ∧ w.cell? ⟨b, 0, none⟩ = some (.int .u8 x) ∧ Below w0.heap.size w0 w) (hb : Below w.heap.size w w') : w'.cell? ⟨B, 2, none⟩ = some (.int .u8 o) ∧ w'.cell? ⟨b, 0, none⟩ = some (.int .u8 x) ∧ Below w0.heap.size w0 w' := ⟨keepc hb h.1, keepc hb h.2.1, below_t h.2.2 hb⟩
theorem R15.drew {w0 w : World} {B b : Nat} {o : Nat} {x : Int} (h : R15 w0 w B b o x) : R15 w0 w.drew B b o x := R15.kept h (Below.refl _ _).drew
theorem R15.below {w0 w : World} {B b : Nat} {o : Nat} {x : Int} (h : w.cell? ⟨B, 2, none⟩ = some (.int .u8 o) ∧ w.cell? ⟨b, 0, none⟩ = some (.int .u8 x) ∧ Below w0.heap.size w0 w) : Below w0.heap.size w0 w := h.2.2
set_option maxRecDepth 100000 in
set_option maxHeartbeats 4000000 in
theorem refuses_empty (u v : Value) (us hs : List Int) (x0 : Option Addr) (c0 : Nat) (w : World) (hu : Reads w u us) (hv : Reads w v hs) : Calls Try.prog 7 #[u, v, .slice x0 0 c0] w fun e w' => e = .returned (.bool true) ∧ Below w.heap.size w w' := by
  have HW := hid (oawake_true w)
  have HC1 := hid (fun W (h : Below w.heap.size w W) => show Calls Try.prog 9 #[u, .int .i64 20] W (OwnDone (us.take 20) W) from rcut_own u 20 (by omega) us W (reads_below hu h))
  have HC2 := hid (fun W (h : Below w.heap.size w W) => show Calls Try.prog 9 #[v, .int .i64 20] W (OwnDone (hs.take 20) W) from rcut_own v 20 (by omega) hs W (reads_below hv h))
  have hl1 : (us.take 20).length ≤ 20 := List.length_take_le _ _
  have hl2 : (hs.take 20).length ≤ 20 := List.length_take_le _ _
  generalize us.take 20 = ua at *
  generalize hs.take 20 = ub at *
  have HNW := hid (fun W p q (hp : OwnB W p ua) (hq : OwnB W q ub) => new_any p q ua ub W hp.reads hq.reads (by omega) (by omega))
  obtain ⟨x1, n1, c1, rfl⟩ := reads_any_slice hu
  obtain ⟨x2, n2, c2, rfl⟩ := reads_any_slice hv
  have hl1' : ua.length ≤ 1000000 := by omega
  have hl2' : ub.length ≤ 1000000 := by omega
  clear hu hv hl1 hl2
  go_enter Try.func7, Try.ntmps7
  go_wp2_with fail
  with_reducible refine HW.out.mono ?_
  rintro e w1 ⟨rfl, hb1⟩
  have HB1 := hid hb1
  clear hb1
  go_wp2_with fail
  with_reducible refine (HC1.out _ HB1.out).mono ?_
  rintro e w2 ⟨v2, rfl, ho2, hb2, hk2⟩
  obtain ⟨x3, n3, c3, rfl⟩ := own_slice ho2
  have HO2 := hid ho2
  have HB2 := hid (below_t HB1.out hb2)
  clear ho2 hb2 hk2
  go_wp2_with fail
  with_reducible refine (HC2.out _ HB2.out).mono ?_
  rintro e w3 ⟨v3, rfl, ho3, hb3, hk3⟩
  obtain ⟨x4, n4, c4, rfl⟩ := own_slice ho3
  have HO3 := hid ho3
  have HK3 := hid ho3.lt
  have HO2b := hid (HO2.out.step hb3)
  have HK2 := hid HO2b.out.lt
  have HB3 := hid (below_t HB2.out hb3)
  clear ho3 hb3 hk3
  go_wp2_with fail
  with_reducible refine (HNW.out _ _ _ HO2b.out HO3.out).mono ?_
  rintro e w4 ⟨rfl, hm4, hb4⟩
  obtain ⟨g, hg⟩ : ∃ g, g = w3.heap.size := ⟨_, rfl⟩
  have HOA := hid (HO2b.out.step hb4)
  have HOB := hid (HO3.out.step hb4)
  rw [← hg] at hm4 HK2 HK3 ⊢
  have g0 : w.heap.size ≤ g := by rw [hg]; exact HB3.out.size
  have HB5 := hid (below_t HB3.out hb4)
  have HI5 := hid (show RefI w4 g ua ub from ⟨_, hm4, fun i _ => rfl⟩)
  have HBA := hid HOA.out.1
  have HBB := hid HOB.out.1
  clear hm4 hb4 hg HO2 HO2b HO3
  go_wp2
  go_loopw [26] (fun i W => ∃ k : Nat, k ≤ 0 ∧ k ≤ 60 ∧ i = .int .i64 k ∧ Hid (RefI W g ua ub) ∧ Hid (Below w.heap.size w W) ∧ Hid (OwnB W (.slice x3 n3 c3) ua ∧ OwnB W (.slice x4 n4 c4) ub)) (fun i _ => 0 - (intOf i).toNat)
  case atStart => exact ⟨0, Nat.zero_le _, Nat.zero_le _, rfl, HI5.out, HB5.out, HOA.out, HOB.out⟩
  case round =>
    obtain ⟨k, hk, hk6, rfl, HI, HB, HO⟩ := hrel
    by_cases hlt : k < 0
    · exact absurd hlt (by omega)
    · obtain rfl : k = 0 := by omega
      go_wp2
      go_ret
      exact ⟨rfl, HB.out⟩
set_option maxRecDepth 100000 in
set_option maxHeartbeats 8000000 in
theorem refuses_row (u v : Value) (us hs : List Int) (xs : List OpD) (hf : ∀ x ∈ xs, OpFit x) (go oo n c0 : Nat) (hn : n = xs.length) (hnm : n ≤ maxLen) (w : World) (hu : Reads w u us) (hv : Reads w v hs) (hx : ∀ i (h : i < xs.length) j, j < 5 → w.cell? ⟨go, oo + i * 5 + j, none⟩ = (opC xs[i])[j]?) : Calls Try.prog 7 #[u, v, .slice (some ⟨go, oo, none⟩) n c0] w fun e w' => e = .returned (.bool true) ∧ Below w.heap.size w w' := by
  have HOP := hid (fun k (h : k < n) => op_at (hn ▸ h) hx)
  have HFX := hid hf
  unfold maxLen at hnm
  clear hx hf hn
  have HW := hid (oawake_true w)
  have HC1 := hid (fun W (h : Below w.heap.size w W) => show Calls Try.prog 9 #[u, .int .i64 20] W (OwnDone (us.take 20) W) from rcut_own u 20 (by omega) us W (reads_below hu h))
  have HC2 := hid (fun W (h : Below w.heap.size w W) => show Calls Try.prog 9 #[v, .int .i64 20] W (OwnDone (hs.take 20) W) from rcut_own v 20 (by omega) hs W (reads_below hv h))
  have hl1 : (us.take 20).length ≤ 20 := List.length_take_le _ _
  have hl2 : (hs.take 20).length ≤ 20 := List.length_take_le _ _
  generalize us.take 20 = ua at *
  generalize hs.take 20 = ub at *
  have HNW := hid (fun W p q (hp : OwnB W p ua) (hq : OwnB W q ub) => new_any p q ua ub W hp.reads hq.reads (by omega) (by omega))
  obtain ⟨x1, n1, c1, rfl⟩ := reads_any_slice hu
  obtain ⟨x2, n2, c2, rfl⟩ := reads_any_slice hv
  have hl1' : ua.length ≤ 1000000 := by omega
  have hl2' : ub.length ≤ 1000000 := by omega
  clear hu hv hl1 hl2
  go_enter Try.func7, Try.ntmps7
  go_wp2_with fail
  with_reducible refine HW.out.mono ?_
  rintro e w1 ⟨rfl, hb1⟩
  have HB1 := hid hb1
  clear hb1
  go_wp2_with fail
  with_reducible refine (HC1.out _ HB1.out).mono ?_
  rintro e w2 ⟨v2, rfl, ho2, hb2, hk2⟩
  obtain ⟨x3, n3, c3, rfl⟩ := own_slice ho2
  have HO2 := hid ho2
  have HB2 := hid (below_t HB1.out hb2)
  clear ho2 hb2 hk2
  go_wp2_with fail
  with_reducible refine (HC2.out _ HB2.out).mono ?_
  rintro e w3 ⟨v3, rfl, ho3, hb3, hk3⟩
  obtain ⟨x4, n4, c4, rfl⟩ := own_slice ho3
  have HO3 := hid ho3
  have HK3 := hid ho3.lt
  have HO2b := hid (HO2.out.step hb3)
  have HK2 := hid HO2b.out.lt
  have HB3 := hid (below_t HB2.out hb3)
  clear ho3 hb3 hk3
  go_wp2_with fail
  with_reducible refine (HNW.out _ _ _ HO2b.out HO3.out).mono ?_
  rintro e w4 ⟨rfl, hm4, hb4⟩
  obtain ⟨g, hg⟩ : ∃ g, g = w3.heap.size := ⟨_, rfl⟩
  have HOA := hid (HO2b.out.step hb4)
  have HOB := hid (HO3.out.step hb4)
  rw [← hg] at hm4 HK2 HK3 ⊢
  have g0 : w.heap.size ≤ g := by rw [hg]; exact HB3.out.size
  have HB5 := hid (below_t HB3.out hb4)
  have HI5 := hid (show RefI w4 g ua ub from ⟨_, hm4, fun i _ => rfl⟩)
  have HBA := hid HOA.out.1
  have HBB := hid HOB.out.1
  clear hm4 hb4 hg HO2 HO2b HO3
  go_wp2
  go_loopw [26] (fun i W => ∃ k : Nat, k ≤ n ∧ k ≤ 60 ∧ i = .int .i64 k ∧ Hid (RefI W g ua ub) ∧ Hid (Below w.heap.size w W) ∧ Hid (OwnB W (.slice x3 n3 c3) ua ∧ OwnB W (.slice x4 n4 c4) ub)) (fun i _ => n - (intOf i).toNat)
  case atStart => exact ⟨0, Nat.zero_le _, Nat.zero_le _, rfl, HI5.out, HB5.out, HOA.out, HOB.out⟩
  case round =>
    obtain ⟨k, hk, hk6, rfl, HI, HB, HO⟩ := hrel
    by_cases hlt : k < n
    · obtain ⟨x, hxm, o0, o1, o2, o3, o4⟩ := HOP.out k hlt
      obtain ⟨f1, f2, f3, f4⟩ := HFX.out x hxm
      have o0 := keepc HB.out o0
      have o1 := keepc HB.out o1
      have o2 := keepc HB.out o2
      have o3 := keepc HB.out o3
      have o4 := keepc HB.out o4
      obtain ⟨xh, xv, xo, xs', xn⟩ := x
      simp only at o0 o1 o2 o3 o4 f1 f2 f3 f4
      have hki : (k : Int) < n := by omega
      clear hxm
      by_cases h60 : k < 60
      · have k60 : ¬ (60 : Int) ≤ k := by omega
        obtain ⟨st, hm, hoff⟩ := HI.out
        by_cases hvb : isVerb xv
        · rcases hvb with rfl | rfl | rfl | rfl
          · have hm1 := hm.step (bal (Below.refl wr.heap.size wr) (.cells #[.bool xh, .int .u8 251, .int .u8 xo, .int .i64 xs', .bool xn] 32))
            have HCALL := hid (hear_251 g (agN ua ub) st xo f2 _ hm1)
            have HBX := hid (bal HB.out (.cells #[.bool xh, .int .u8 251, .int .u8 xo, .int .i64 xs', .bool xn] 32))
            have HBY := hid (bal (Below.refl wr.heap.size wr) (.cells #[.bool xh, .int .u8 251, .int .u8 xo, .int .i64 xs', .bool xn] 32))
            have lg : g < wr.heap.size := hm.lt
            clear hm hm1
            cases hag : ub.any fun y => y == (xo : Int)
            · have HCO := hid (fun W v (h : Reads W v ub) => contains_any v ub xo W h hl2')
              rw [hag] at HCO
              have hag' : agN ua ub (256 + xo) = false := (agN_him HBA.out).trans hag
              have HS0 := hid (hoff (256 + xo) hag')
              have HF : Hid (hOn (st (256 + xo)) (agN ua ub (256 + xo)) = (0, 2)) := by show _ = _; rw [HS0.out, hag']; rfl
              rw [HF.out] at HCALL
              clear hag'
              clear hag
              go_wp2_with fail
              with_reducible refine HCALL.out.mono ?_
              rintro e w6 ⟨v6, rfl, v6', hv, hms, hM, hV, hkk⟩
              cases hv
              obtain ⟨b, rfl, d0, d1⟩ := hms.one (by decide)
              have hM : Mach w6 g (agN ua ub) (upd st (256 + xo) 0) := by have e : (1 * 256 + (xo : Int)).toNat = 256 + xo := (by omega); rw [e] at hM; exact hM
              have hoff6 : Off (agN ua ub) (upd st (256 + xo) 0) := by have q := hoff.heard 251 (256 + xo); have e : (hearN 251 (st (256 + xo)) (agN ua ub (256 + xo))).1 = 0 := (by have h2 : hearN 251 (st (256 + xo)) (agN ua ub (256 + xo)) = hOn (st (256 + xo)) (agN ua ub (256 + xo)) := rfl; rw [h2, HF.out]); rw [e] at q; exact q
              have HB6 := hid (Moved.grow HBX.out hV g0)
              have HI6 := hid (show RefI w6 g ua ub from ⟨_, hM, hoff6⟩)
              have HM6 := hid hM
              have HO6 := hid (show OwnB w6 (.slice x3 n3 c3) ua ∧ OwnB w6 (.slice x4 n4 c4) ub from ⟨(HO.out.1.step HBY.out).moved hV (fun k h h' => by have h1 := HK2.out k h; have h2 : k = g := List.mem_singleton.1 h'; omega), (HO.out.2.step HBY.out).moved hV (fun k h h' => by have h1 := HK3.out k h; have h2 : k = g := List.mem_singleton.1 h'; omega)⟩)
              have b1 := cell_moved hV (a := ⟨wr.heap.size, 1, none⟩) (v := .int .u8 251) (by simp [go_sem]) (fun h => by have h' : wr.heap.size = g := List.mem_singleton.1 h; omega)
              have b2 := cell_moved hV (a := ⟨wr.heap.size, 2, none⟩) (v := .int .u8 xo) (by simp [go_sem]) (fun h => by have h' : wr.heap.size = g := List.mem_singleton.1 h; omega)
              have HON := hid (fun W (h : Mach W g (agN ua ub) (upd st (256 + xo) 0)) => on_any g _ _ 1 (by simp) xo f2 W h)
              rw [show idx 1 xo = 256 + xo from idx_1 xo, show upd st (256 + xo) 0 (256 + xo) = 0 from upd_same _ _ _, show ((0 : Int) == 1) = false from rfl] at HON
              clear hM hV hkk hms
              go_wp2_with fail
              with_reducible refine (HCO.out _ _ HO6.out.2.reads).mono ?_
              rintro e w7 ⟨rfl, rfl⟩
              go_wp2
              have verbe : verbN 1 2 = 254 := rfl
              rw [verbe] at d0
              refine wp_region_held_drew (S := (fun w' => w'.cell? ⟨wr.heap.size, 2, none⟩ = some (.int .u8 xo) ∧ w'.cell? ⟨b, 0, none⟩ = some (.int .u8 254) ∧ Below w6.heap.size w6 w')) (by kernel_rfl) ?_ (fun hHeld => ?_)
              · exact ⟨b2, d0, (Below.refl _ _).drew⟩
              refine takeD (i := 0) (v := ?_) 63 rfl rfl (by kernel_rfl) (by kernel_rfl) (by kernel_rfl) (fun _ _ _ h => h) (by assumption) (Or.inl ⟨by rfl, ?_⟩) ?_
              rotate_left
              · intro w hSw
                (try dsimp only at hSw)
                go_simp
                try with_reducible rfl
              simp only [List.setIfInBounds_toArray, List.set_cons_zero, List.set_cons_succ]
              refine takeD (i := 1) (v := ?_) 64 rfl rfl (by kernel_rfl) (by kernel_rfl) (by kernel_rfl) (fun _ _ _ h => h) (by assumption) (Or.inl ⟨by rfl, ?_⟩) ?_
              rotate_left
              · intro w hSw
                (try dsimp only at hSw)
                go_simp
                try with_reducible rfl
              simp only [List.setIfInBounds_toArray, List.set_cons_zero, List.set_cons_succ]
              refine takeD (i := 2) (v := ?_) 65 rfl rfl (by kernel_rfl) (by kernel_rfl) (by kernel_rfl) (fun _ _ _ h => h) (by assumption) (Or.inl ⟨by rfl, ?_⟩) ?_
              rotate_left
              · intro w hSw
                (try dsimp only at hSw)
                go_simp
                try with_reducible rfl
              simp only [List.setIfInBounds_toArray, List.set_cons_zero, List.set_cons_succ]
              refine takeD (i := 3) (v := ?_) 66 rfl rfl (by kernel_rfl) (by kernel_rfl) (by kernel_rfl) (fun _ _ _ h => h) (by assumption) (Or.inl ⟨by rfl, ?_⟩) ?_
              rotate_left
              · intro w hSw
                (try dsimp only at hSw)
                go_simp
                try with_reducible rfl
              simp only [List.setIfInBounds_toArray, List.set_cons_zero, List.set_cons_succ]
              refine wpAnyH_ready (rs := [4]) (by kernel_rfl) (by simp) ?_
              refine AllReadyH.cons (by simp only [List.getElem?_toArray, List.getElem?_cons_succ, List.getElem?_cons_zero]; rfl) (fun K hK => ?_) AllReadyH.nil
              go_simp
              (with_reducible refine (HON.out _ (HM6.out.step hHeld.2.2)).mono ?_)
              rintro e w8 ⟨rfl, rfl⟩
              refine hK.out _ _ ?_ (fun hHeldN => ?_)
              · exact hHeld
              clear hK K hHeld
              have hHeld := hHeldN
              clear hHeldN
              refine takeD (i := 5) (v := ?_) 68 rfl rfl (by kernel_rfl) (by kernel_rfl) (by kernel_rfl) (fun _ _ _ h => h) (by assumption) (Or.inl ⟨by rfl, ?_⟩) ?_
              rotate_left
              · intro w hSw
                (try dsimp only at hSw)
                go_simp
                try with_reducible rfl
              simp only [List.setIfInBounds_toArray, List.set_cons_zero, List.set_cons_succ]
              refine takeD (i := 6) (v := ?_) 69 rfl rfl (by kernel_rfl) (by kernel_rfl) (by kernel_rfl) (fun _ _ _ h => h) (by assumption) (Or.inl ⟨by rfl, ?_⟩) ?_
              rotate_left
              · intro w hSw
                (try dsimp only at hSw)
                go_simp
                try with_reducible rfl
              simp only [List.setIfInBounds_toArray, List.set_cons_zero, List.set_cons_succ]
              refine takeD (i := 7) (v := ?_) 70 rfl rfl (by kernel_rfl) (by kernel_rfl) (by kernel_rfl) (fun _ _ _ h => h) (by assumption) (Or.inl ⟨by rfl, ?_⟩) ?_
              rotate_left
              · intro w hSw
                (try dsimp only at hSw)
                go_simp
                try with_reducible rfl
              simp only [List.setIfInBounds_toArray, List.set_cons_zero, List.set_cons_succ]
              refine takeD (i := 8) (v := ?_) 71 rfl rfl (by kernel_rfl) (by kernel_rfl) (by kernel_rfl) (fun _ _ _ h => h) (by assumption) (Or.inl ⟨by rfl, ?_⟩) ?_
              rotate_left
              · intro w hSw
                (try dsimp only at hSw)
                go_simp
                try with_reducible rfl
              simp only [List.setIfInBounds_toArray, List.set_cons_zero, List.set_cons_succ]
              refine takeD (i := 9) (v := ?_) 72 rfl rfl (by kernel_rfl) (by kernel_rfl) (by kernel_rfl) (fun _ _ _ h => h) (by assumption) (Or.inl ⟨by rfl, ?_⟩) ?_
              rotate_left
              · intro w hSw
                (try dsimp only at hSw)
                go_simp
                try with_reducible rfl
              simp only [List.setIfInBounds_toArray, List.set_cons_zero, List.set_cons_succ]
              refine takeD (i := 10) (v := ?_) 73 rfl rfl (by kernel_rfl) (by kernel_rfl) (by kernel_rfl) (fun _ _ _ h => h) (by assumption) (Or.inl ⟨by rfl, ?_⟩) ?_
              rotate_left
              · intro w hSw
                (try dsimp only at hSw)
                go_simp
                try with_reducible rfl
              simp only [List.setIfInBounds_toArray, List.set_cons_zero, List.set_cons_succ]
              refine takeD (i := 11) (v := ?_) 74 rfl rfl (by kernel_rfl) (by kernel_rfl) (by kernel_rfl) (fun _ _ _ h => h) (by assumption) (Or.inl ⟨by rfl, ?_⟩) ?_
              rotate_left
              · intro w hSw
                (try dsimp only at hSw)
                go_simp
                try with_reducible rfl
              simp only [List.setIfInBounds_toArray, List.set_cons_zero, List.set_cons_succ]
              refine takeD (i := 12) (v := ?_) 75 rfl rfl (by kernel_rfl) (by kernel_rfl) (by kernel_rfl) (fun _ _ _ h => h) (by assumption) (Or.inl ⟨by rfl, ?_⟩) ?_
              rotate_left
              · intro w hSw
                (try dsimp only at hSw)
                go_simp
                try with_reducible rfl
              simp only [List.setIfInBounds_toArray, List.set_cons_zero, List.set_cons_succ]
              refine takeD (i := 13) (v := ?_) 76 rfl rfl (by kernel_rfl) (by kernel_rfl) (by kernel_rfl) (fun _ _ _ h => h) (by assumption) (Or.inl ⟨by rfl, ?_⟩) ?_
              rotate_left
              · intro w hSw
                (try dsimp only at hSw)
                go_simp
                try with_reducible rfl
              simp only [List.setIfInBounds_toArray, List.set_cons_zero, List.set_cons_succ]
              refine takeD (i := 14) (v := ?_) 77 rfl rfl (by kernel_rfl) (by kernel_rfl) (by kernel_rfl) (fun _ _ _ h => h) (by assumption) (Or.inl ⟨by rfl, ?_⟩) ?_
              rotate_left
              · intro w hSw
                (try dsimp only at hSw)
                go_simp
                try with_reducible rfl
              simp only [List.setIfInBounds_toArray, List.set_cons_zero, List.set_cons_succ]
              refine takeD (i := 15) (v := ?_) 78 rfl rfl (by kernel_rfl) (by kernel_rfl) (by kernel_rfl) (fun _ _ _ h => h) (by assumption) (Or.inl ⟨by rfl, ?_⟩) ?_
              rotate_left
              · intro w hSw
                (try dsimp only at hSw)
                go_simp
                try with_reducible rfl
              simp only [List.setIfInBounds_toArray, List.set_cons_zero, List.set_cons_succ]
              refine takeD (i := 16) (v := ?_) 79 rfl rfl (by kernel_rfl) (by kernel_rfl) (by kernel_rfl) (fun _ _ _ h => h) (by assumption) (Or.inl ⟨by rfl, ?_⟩) ?_
              rotate_left
              · intro w hSw
                (try dsimp only at hSw)
                go_simp
                try with_reducible rfl
              simp only [List.setIfInBounds_toArray, List.set_cons_zero, List.set_cons_succ]
              refine takeD (i := 17) (v := ?_) 80 rfl rfl (by kernel_rfl) (by kernel_rfl) (by kernel_rfl) (fun _ _ _ h => h) (by assumption) (Or.inl ⟨by rfl, ?_⟩) ?_
              rotate_left
              · intro w hSw
                (try dsimp only at hSw)
                go_simp
                try with_reducible rfl
              simp only [List.setIfInBounds_toArray, List.set_cons_zero, List.set_cons_succ]
              refine takeD (i := 18) (v := ?_) 81 rfl rfl (by kernel_rfl) (by kernel_rfl) (by kernel_rfl) (fun _ _ _ h => h) (by assumption) (Or.inl ⟨by rfl, ?_⟩) ?_
              rotate_left
              · intro w hSw
                (try dsimp only at hSw)
                go_simp
                try with_reducible rfl
              simp only [List.setIfInBounds_toArray, List.set_cons_zero, List.set_cons_succ]
              refine takeD (i := 20) (v := ?_) 83 rfl rfl (by kernel_rfl) (by kernel_rfl) (by kernel_rfl) (fun _ _ _ h => h) (by assumption) (Or.inl ⟨by rfl, ?_⟩) ?_
              rotate_left
              · intro w hSw
                (try dsimp only at hSw)
                go_simp
                try with_reducible rfl
              simp only [List.setIfInBounds_toArray, List.set_cons_zero, List.set_cons_succ]
              refine wpAnyH_ready (rs := [19]) (by kernel_rfl) (by simp) ?_
              refine AllReadyH.cons (by simp only [List.getElem?_toArray, List.getElem?_cons_succ, List.getElem?_cons_zero]; rfl) (fun K hK => ?_) AllReadyH.nil
              go_simp

              refine hK.out _ _ ?_ (fun hHeldN => ?_)
              · exact R15.kept hHeld (bal (Below.refl _ _) _)
              clear hK K hHeld
              have hHeld := hHeldN
              clear hHeldN
              refine takeD (i := 21) (v := ?_) 84 rfl rfl (by kernel_rfl) (by kernel_rfl) (by kernel_rfl) (fun _ _ _ h => h) (by assumption) (Or.inl ⟨by rfl, ?_⟩) ?_
              rotate_left
              · intro w hSw
                (try dsimp only at hSw)
                go_simp
                try with_reducible rfl
              simp only [List.setIfInBounds_toArray, List.set_cons_zero, List.set_cons_succ]
              refine wpAnyH_ready (rs := [22]) (by kernel_rfl) (by simp) ?_
              refine AllReadyH.cons (by simp only [List.getElem?_toArray, List.getElem?_cons_succ, List.getElem?_cons_zero]; rfl) (fun K hK => ?_) AllReadyH.nil
              go_simp

              refine hK.out _ _ ?_ (fun hHeldN => ?_)
              · exact hHeld
              clear hK K hHeld
              have hHeld := hHeldN
              clear hHeldN
              refine takeD (i := 23) (v := ?_) 86 rfl rfl (by kernel_rfl) (by kernel_rfl) (by kernel_rfl) (fun _ _ _ h => h) (by assumption) (Or.inl ⟨by rfl, ?_⟩) ?_
              rotate_left
              · intro w hSw
                (try dsimp only at hSw)
                go_simp
                try with_reducible rfl
              simp only [List.setIfInBounds_toArray, List.set_cons_zero, List.set_cons_succ]
              refine takeD (i := 24) (v := ?_) 87 rfl rfl (by kernel_rfl) (by kernel_rfl) (by kernel_rfl) (fun _ _ _ h => h) (by assumption) (Or.inl ⟨by rfl, ?_⟩) ?_
              rotate_left
              · intro w hSw
                (try dsimp only at hSw)
                go_simp
                try with_reducible rfl
              simp only [List.setIfInBounds_toArray, List.set_cons_zero, List.set_cons_succ]
              refine takeD (i := 25) (v := ?_) 88 rfl rfl (by kernel_rfl) (by kernel_rfl) (by kernel_rfl) (fun _ _ _ h => h) (by assumption) (Or.inl ⟨by rfl, ?_⟩) ?_
              rotate_left
              · intro w hSw
                (try dsimp only at hSw)
                go_simp
                try with_reducible rfl
              simp only [List.setIfInBounds_toArray, List.set_cons_zero, List.set_cons_succ]
              refine wpAnyH_done (by kernel_rfl) ?_ _
              have HI7 := hid (HI6.out.step hHeld.2.2)
              have HB7 := hid (below_t HB6.out hHeld.2.2)
              have HO7 := hid (show _ ∧ _ from ⟨HO6.out.1.step hHeld.2.2, HO6.out.2.step hHeld.2.2⟩)
              clear hHeld
              go_wp2
              go_roundw
              case rel => exact ⟨k + 1, by omega, by omega, by go_num, HI7.out, HB7.out, HO7.out⟩
              case measure => simp [intOf]; omega
            · have HCO := hid (fun W v (h : Reads W v ub) => contains_any v ub xo W h hl2')
              rw [hag] at HCO
              clear hag
              go_wp2_with fail
              with_reducible refine HCALL.out.mono ?_
              rintro e w6 ⟨v6, rfl, v6', hv, hms, hM, hV, hkk⟩
              cases hv
              obtain ⟨x6, n6, c6, hv6⟩ : ∃ x n c, v6 = .slice x n c := by
                rcases hms with ⟨_, h⟩ | ⟨_, bb, h, _⟩
                · exact ⟨_, _, _, h⟩
                · exact ⟨_, _, _, h⟩
              subst hv6
              have hM : Mach w6 g (agN ua ub) (upd st (256 + xo) (hearN 251 (st (256 + xo)) (agN ua ub (256 + xo))).1) := by have e : (1 * 256 + (xo : Int)).toNat = 256 + xo := (by omega); rw [e] at hM; exact hM
              have HB6 := hid (Moved.grow HBX.out hV g0)
              have HI6 := hid (show RefI w6 g ua ub from ⟨_, hM, hoff.heard 251 (256 + xo)⟩)
              have HM6 := hid hM
              have HO6 := hid (show OwnB w6 (.slice x3 n3 c3) ua ∧ OwnB w6 (.slice x4 n4 c4) ub from ⟨(HO.out.1.step HBY.out).moved hV (fun k h h' => by have h1 := HK2.out k h; have h2 : k = g := List.mem_singleton.1 h'; omega), (HO.out.2.step HBY.out).moved hV (fun k h h' => by have h1 := HK3.out k h; have h2 : k = g := List.mem_singleton.1 h'; omega)⟩)
              have b1 := cell_moved hV (a := ⟨wr.heap.size, 1, none⟩) (v := .int .u8 251) (by simp [go_sem]) (fun h => by have h' : wr.heap.size = g := List.mem_singleton.1 h; omega)
              have b2 := cell_moved hV (a := ⟨wr.heap.size, 2, none⟩) (v := .int .u8 xo) (by simp [go_sem]) (fun h => by have h' : wr.heap.size = g := List.mem_singleton.1 h; omega)
              clear hM hV hkk hms
              go_wp2_with fail
              with_reducible refine (HCO.out _ _ HO6.out.2.reads).mono ?_
              rintro e w7 ⟨rfl, rfl⟩
              go_wp2
              go_roundw
              case rel => exact ⟨k + 1, by omega, by omega, by go_num, HI6.out, HB6.out, HO6.out⟩
              case measure => simp [intOf]; omega
          · have hm1 := hm.step (bal (Below.refl wr.heap.size wr) (.cells #[.bool xh, .int .u8 252, .int .u8 xo, .int .i64 xs', .bool xn] 32))
            have HCALL := hid (hear_252 g (agN ua ub) st xo f2 _ hm1)
            have HBX := hid (bal HB.out (.cells #[.bool xh, .int .u8 252, .int .u8 xo, .int .i64 xs', .bool xn] 32))
            have HBY := hid (bal (Below.refl wr.heap.size wr) (.cells #[.bool xh, .int .u8 252, .int .u8 xo, .int .i64 xs', .bool xn] 32))
            have lg : g < wr.heap.size := hm.lt
            clear hm hm1
            cases hag : ub.any fun y => y == (xo : Int)
            · have HCO := hid (fun W v (h : Reads W v ub) => contains_any v ub xo W h hl2')
              rw [hag] at HCO
              have hag' : agN ua ub (256 + xo) = false := (agN_him HBA.out).trans hag
              have HS0 := hid (hoff (256 + xo) hag')
              have HF : Hid (hOff (st (256 + xo)) = (0, 0)) := by show _ = _; rw [HS0.out]; rfl
              rw [HF.out] at HCALL
              clear hag'
              clear hag
              go_wp2_with fail
              with_reducible refine HCALL.out.mono ?_
              rintro e w6 ⟨v6, rfl, v6', hv, hms, hM, hV, hkk⟩
              cases hv
              obtain rfl := hms.zero (by decide)
              have hM : Mach w6 g (agN ua ub) (upd st (256 + xo) 0) := by have e : (1 * 256 + (xo : Int)).toNat = 256 + xo := (by omega); rw [e] at hM; exact hM
              have hoff6 : Off (agN ua ub) (upd st (256 + xo) 0) := by have q := hoff.heard 252 (256 + xo); have e : (hearN 252 (st (256 + xo)) (agN ua ub (256 + xo))).1 = 0 := (by have h2 : hearN 252 (st (256 + xo)) (agN ua ub (256 + xo)) = hOff (st (256 + xo)) := rfl; rw [h2, HF.out]); rw [e] at q; exact q
              have HB6 := hid (Moved.grow HBX.out hV g0)
              have HI6 := hid (show RefI w6 g ua ub from ⟨_, hM, hoff6⟩)
              have HM6 := hid hM
              have HO6 := hid (show OwnB w6 (.slice x3 n3 c3) ua ∧ OwnB w6 (.slice x4 n4 c4) ub from ⟨(HO.out.1.step HBY.out).moved hV (fun k h h' => by have h1 := HK2.out k h; have h2 : k = g := List.mem_singleton.1 h'; omega), (HO.out.2.step HBY.out).moved hV (fun k h h' => by have h1 := HK3.out k h; have h2 : k = g := List.mem_singleton.1 h'; omega)⟩)
              have b1 := cell_moved hV (a := ⟨wr.heap.size, 1, none⟩) (v := .int .u8 252) (by simp [go_sem]) (fun h => by have h' : wr.heap.size = g := List.mem_singleton.1 h; omega)
              have b2 := cell_moved hV (a := ⟨wr.heap.size, 2, none⟩) (v := .int .u8 xo) (by simp [go_sem]) (fun h => by have h' : wr.heap.size = g := List.mem_singleton.1 h; omega)
              have HON := hid (fun W (h : Mach W g (agN ua ub) (upd st (256 + xo) 0)) => on_any g _ _ 1 (by simp) xo f2 W h)
              rw [show idx 1 xo = 256 + xo from idx_1 xo, show upd st (256 + xo) 0 (256 + xo) = 0 from upd_same _ _ _, show ((0 : Int) == 1) = false from rfl] at HON
              clear hM hV hkk hms
              go_wp2_with fail
              with_reducible refine (HCO.out _ _ HO6.out.2.reads).mono ?_
              rintro e w7 ⟨rfl, rfl⟩
              go_wp2
              refine wp_region_held_drew (S := (fun w' => w'.cell? ⟨wr.heap.size, 2, none⟩ = some (.int .u8 xo) ∧ Below w6.heap.size w6 w')) (by kernel_rfl) ?_ (fun hHeld => ?_)
              · exact ⟨b2, (Below.refl _ _).drew⟩
              refine takeD (i := 0) (v := ?_) 63 rfl rfl (by kernel_rfl) (by kernel_rfl) (by kernel_rfl) (fun _ _ _ h => h) (by assumption) (Or.inl ⟨by rfl, ?_⟩) ?_
              rotate_left
              · intro w hSw
                (try dsimp only at hSw)
                go_simp
                try with_reducible rfl
              simp only [List.setIfInBounds_toArray, List.set_cons_zero, List.set_cons_succ]
              refine takeD (i := 1) (v := ?_) 64 rfl rfl (by kernel_rfl) (by kernel_rfl) (by kernel_rfl) (fun _ _ _ h => h) (by assumption) (Or.inl ⟨by rfl, ?_⟩) ?_
              rotate_left
              · intro w hSw
                (try dsimp only at hSw)
                go_simp
                try with_reducible rfl
              simp only [List.setIfInBounds_toArray, List.set_cons_zero, List.set_cons_succ]
              refine takeD (i := 2) (v := ?_) 65 rfl rfl (by kernel_rfl) (by kernel_rfl) (by kernel_rfl) (fun _ _ _ h => h) (by assumption) (Or.inl ⟨by rfl, ?_⟩) ?_
              rotate_left
              · intro w hSw
                (try dsimp only at hSw)
                go_simp
                try with_reducible rfl
              simp only [List.setIfInBounds_toArray, List.set_cons_zero, List.set_cons_succ]
              refine takeD (i := 3) (v := ?_) 66 rfl rfl (by kernel_rfl) (by kernel_rfl) (by kernel_rfl) (fun _ _ _ h => h) (by assumption) (Or.inl ⟨by rfl, ?_⟩) ?_
              rotate_left
              · intro w hSw
                (try dsimp only at hSw)
                go_simp
                try with_reducible rfl
              simp only [List.setIfInBounds_toArray, List.set_cons_zero, List.set_cons_succ]
              refine wpAnyH_ready (rs := [4]) (by kernel_rfl) (by simp) ?_
              refine AllReadyH.cons (by simp only [List.getElem?_toArray, List.getElem?_cons_succ, List.getElem?_cons_zero]; rfl) (fun K hK => ?_) AllReadyH.nil
              go_simp
              (with_reducible refine (HON.out _ (HM6.out.step hHeld.2)).mono ?_)
              rintro e w8 ⟨rfl, rfl⟩
              refine hK.out _ _ ?_ (fun hHeldN => ?_)
              · exact hHeld
              clear hK K hHeld
              have hHeld := hHeldN
              clear hHeldN
              refine takeD (i := 5) (v := ?_) 68 rfl rfl (by kernel_rfl) (by kernel_rfl) (by kernel_rfl) (fun _ _ _ h => h) (by assumption) (Or.inl ⟨by rfl, ?_⟩) ?_
              rotate_left
              · intro w hSw
                (try dsimp only at hSw)
                go_simp
                try with_reducible rfl
              simp only [List.setIfInBounds_toArray, List.set_cons_zero, List.set_cons_succ]
              refine takeD (i := 6) (v := ?_) 69 rfl rfl (by kernel_rfl) (by kernel_rfl) (by kernel_rfl) (fun _ _ _ h => h) (by assumption) (Or.inl ⟨by rfl, ?_⟩) ?_
              rotate_left
              · intro w hSw
                (try dsimp only at hSw)
                go_simp
                try with_reducible rfl
              simp only [List.setIfInBounds_toArray, List.set_cons_zero, List.set_cons_succ]
              refine takeD (i := 7) (v := ?_) 70 rfl rfl (by kernel_rfl) (by kernel_rfl) (by kernel_rfl) (fun _ _ _ h => h) (by assumption) (Or.inl ⟨by rfl, ?_⟩) ?_
              rotate_left
              · intro w hSw
                (try dsimp only at hSw)
                go_simp
                try with_reducible rfl
              simp only [List.setIfInBounds_toArray, List.set_cons_zero, List.set_cons_succ]
              refine takeD (i := 8) (v := ?_) 71 rfl rfl (by kernel_rfl) (by kernel_rfl) (by kernel_rfl) (fun _ _ _ h => h) (by assumption) (Or.inl ⟨by rfl, ?_⟩) ?_
              rotate_left
              · intro w hSw
                (try dsimp only at hSw)
                go_simp
                try with_reducible rfl
              simp only [List.setIfInBounds_toArray, List.set_cons_zero, List.set_cons_succ]
              refine takeD (i := 9) (v := ?_) 72 rfl rfl (by kernel_rfl) (by kernel_rfl) (by kernel_rfl) (fun _ _ _ h => h) (by assumption) (Or.inl ⟨by rfl, ?_⟩) ?_
              rotate_left
              · intro w hSw
                (try dsimp only at hSw)
                go_simp
                try with_reducible rfl
              simp only [List.setIfInBounds_toArray, List.set_cons_zero, List.set_cons_succ]
              refine takeD (i := 10) (v := ?_) 73 rfl rfl (by kernel_rfl) (by kernel_rfl) (by kernel_rfl) (fun _ _ _ h => h) (by assumption) (Or.inl ⟨by rfl, ?_⟩) ?_
              rotate_left
              · intro w hSw
                (try dsimp only at hSw)
                go_simp
                try with_reducible rfl
              simp only [List.setIfInBounds_toArray, List.set_cons_zero, List.set_cons_succ]
              refine takeD (i := 11) (v := ?_) 74 rfl rfl (by kernel_rfl) (by kernel_rfl) (by kernel_rfl) (fun _ _ _ h => h) (by assumption) (Or.inl ⟨by rfl, ?_⟩) ?_
              rotate_left
              · intro w hSw
                (try dsimp only at hSw)
                go_simp
                try with_reducible rfl
              simp only [List.setIfInBounds_toArray, List.set_cons_zero, List.set_cons_succ]
              refine takeD (i := 12) (v := ?_) 75 rfl rfl (by kernel_rfl) (by kernel_rfl) (by kernel_rfl) (fun _ _ _ h => h) (by assumption) (Or.inl ⟨by rfl, ?_⟩) ?_
              rotate_left
              · intro w hSw
                (try dsimp only at hSw)
                go_simp
                try with_reducible rfl
              simp only [List.setIfInBounds_toArray, List.set_cons_zero, List.set_cons_succ]
              refine takeD (i := 13) (v := ?_) 76 rfl rfl (by kernel_rfl) (by kernel_rfl) (by kernel_rfl) (fun _ _ _ h => h) (by assumption) (Or.inl ⟨by rfl, ?_⟩) ?_
              rotate_left
              · intro w hSw
                (try dsimp only at hSw)
                go_simp
                try with_reducible rfl
              simp only [List.setIfInBounds_toArray, List.set_cons_zero, List.set_cons_succ]
              refine takeD (i := 14) (v := ?_) 77 rfl rfl (by kernel_rfl) (by kernel_rfl) (by kernel_rfl) (fun _ _ _ h => h) (by assumption) (Or.inl ⟨by rfl, ?_⟩) ?_
              rotate_left
              · intro w hSw
                (try dsimp only at hSw)
                go_simp
                try with_reducible rfl
              simp only [List.setIfInBounds_toArray, List.set_cons_zero, List.set_cons_succ]
              refine takeD (i := 15) (v := undef) 78 rfl rfl (by kernel_rfl) (by kernel_rfl) (by kernel_rfl) (fun _ _ _ h => h) (by assumption) (Or.inr ⟨by rfl, rfl⟩) ?_
              simp only [List.setIfInBounds_toArray, List.set_cons_zero, List.set_cons_succ]
              refine takeD (i := 16) (v := undef) 79 rfl rfl (by kernel_rfl) (by kernel_rfl) (by kernel_rfl) (fun _ _ _ h => h) (by assumption) (Or.inr ⟨by rfl, rfl⟩) ?_
              simp only [List.setIfInBounds_toArray, List.set_cons_zero, List.set_cons_succ]
              refine takeD (i := 17) (v := undef) 80 rfl rfl (by kernel_rfl) (by kernel_rfl) (by kernel_rfl) (fun _ _ _ h => h) (by assumption) (Or.inr ⟨by rfl, rfl⟩) ?_
              simp only [List.setIfInBounds_toArray, List.set_cons_zero, List.set_cons_succ]
              refine takeD (i := 18) (v := undef) 81 rfl rfl (by kernel_rfl) (by kernel_rfl) (by kernel_rfl) (fun _ _ _ h => h) (by assumption) (Or.inr ⟨by rfl, rfl⟩) ?_
              simp only [List.setIfInBounds_toArray, List.set_cons_zero, List.set_cons_succ]
              refine takeD (i := 19) (v := undef) 82 rfl rfl (by kernel_rfl) (by kernel_rfl) (by kernel_rfl) (fun _ _ _ h => h) (by assumption) (Or.inr ⟨by rfl, rfl⟩) ?_
              simp only [List.setIfInBounds_toArray, List.set_cons_zero, List.set_cons_succ]
              refine takeD (i := 20) (v := undef) 83 rfl rfl (by kernel_rfl) (by kernel_rfl) (by kernel_rfl) (fun _ _ _ h => h) (by assumption) (Or.inr ⟨by rfl, rfl⟩) ?_
              simp only [List.setIfInBounds_toArray, List.set_cons_zero, List.set_cons_succ]
              refine takeD (i := 21) (v := undef) 84 rfl rfl (by kernel_rfl) (by kernel_rfl) (by kernel_rfl) (fun _ _ _ h => h) (by assumption) (Or.inr ⟨by rfl, rfl⟩) ?_
              simp only [List.setIfInBounds_toArray, List.set_cons_zero, List.set_cons_succ]
              refine takeD (i := 22) (v := undef) 85 rfl rfl (by kernel_rfl) (by kernel_rfl) (by kernel_rfl) (fun _ _ _ h => h) (by assumption) (Or.inr ⟨by rfl, rfl⟩) ?_
              simp only [List.setIfInBounds_toArray, List.set_cons_zero, List.set_cons_succ]
              refine takeD (i := 23) (v := undef) 86 rfl rfl (by kernel_rfl) (by kernel_rfl) (by kernel_rfl) (fun _ _ _ h => h) (by assumption) (Or.inr ⟨by rfl, rfl⟩) ?_
              simp only [List.setIfInBounds_toArray, List.set_cons_zero, List.set_cons_succ]
              refine takeD (i := 24) (v := ?_) 87 rfl rfl (by kernel_rfl) (by kernel_rfl) (by kernel_rfl) (fun _ _ _ h => h) (by assumption) (Or.inl ⟨by rfl, ?_⟩) ?_
              rotate_left
              · intro w hSw
                (try dsimp only at hSw)
                go_simp
                try with_reducible rfl
              simp only [List.setIfInBounds_toArray, List.set_cons_zero, List.set_cons_succ]
              refine takeD (i := 25) (v := ?_) 88 rfl rfl (by kernel_rfl) (by kernel_rfl) (by kernel_rfl) (fun _ _ _ h => h) (by assumption) (Or.inl ⟨by rfl, ?_⟩) ?_
              rotate_left
              · intro w hSw
                (try dsimp only at hSw)
                go_simp
                try with_reducible rfl
              simp only [List.setIfInBounds_toArray, List.set_cons_zero, List.set_cons_succ]
              refine wpAnyH_done (by kernel_rfl) ?_ _
              have HI7 := hid (HI6.out.step hHeld.2)
              have HB7 := hid (below_t HB6.out hHeld.2)
              have HO7 := hid (show _ ∧ _ from ⟨HO6.out.1.step hHeld.2, HO6.out.2.step hHeld.2⟩)
              clear hHeld
              go_wp2
              go_roundw
              case rel => exact ⟨k + 1, by omega, by omega, by go_num, HI7.out, HB7.out, HO7.out⟩
              case measure => simp [intOf]; omega
            · have HCO := hid (fun W v (h : Reads W v ub) => contains_any v ub xo W h hl2')
              rw [hag] at HCO
              clear hag
              go_wp2_with fail
              with_reducible refine HCALL.out.mono ?_
              rintro e w6 ⟨v6, rfl, v6', hv, hms, hM, hV, hkk⟩
              cases hv
              obtain ⟨x6, n6, c6, hv6⟩ : ∃ x n c, v6 = .slice x n c := by
                rcases hms with ⟨_, h⟩ | ⟨_, bb, h, _⟩
                · exact ⟨_, _, _, h⟩
                · exact ⟨_, _, _, h⟩
              subst hv6
              have hM : Mach w6 g (agN ua ub) (upd st (256 + xo) (hearN 252 (st (256 + xo)) (agN ua ub (256 + xo))).1) := by have e : (1 * 256 + (xo : Int)).toNat = 256 + xo := (by omega); rw [e] at hM; exact hM
              have HB6 := hid (Moved.grow HBX.out hV g0)
              have HI6 := hid (show RefI w6 g ua ub from ⟨_, hM, hoff.heard 252 (256 + xo)⟩)
              have HM6 := hid hM
              have HO6 := hid (show OwnB w6 (.slice x3 n3 c3) ua ∧ OwnB w6 (.slice x4 n4 c4) ub from ⟨(HO.out.1.step HBY.out).moved hV (fun k h h' => by have h1 := HK2.out k h; have h2 : k = g := List.mem_singleton.1 h'; omega), (HO.out.2.step HBY.out).moved hV (fun k h h' => by have h1 := HK3.out k h; have h2 : k = g := List.mem_singleton.1 h'; omega)⟩)
              have b1 := cell_moved hV (a := ⟨wr.heap.size, 1, none⟩) (v := .int .u8 252) (by simp [go_sem]) (fun h => by have h' : wr.heap.size = g := List.mem_singleton.1 h; omega)
              have b2 := cell_moved hV (a := ⟨wr.heap.size, 2, none⟩) (v := .int .u8 xo) (by simp [go_sem]) (fun h => by have h' : wr.heap.size = g := List.mem_singleton.1 h; omega)
              clear hM hV hkk hms
              go_wp2_with fail
              with_reducible refine (HCO.out _ _ HO6.out.2.reads).mono ?_
              rintro e w7 ⟨rfl, rfl⟩
              go_wp2
              go_roundw
              case rel => exact ⟨k + 1, by omega, by omega, by go_num, HI6.out, HB6.out, HO6.out⟩
              case measure => simp [intOf]; omega
          · have hm1 := hm.step (bal (Below.refl wr.heap.size wr) (.cells #[.bool xh, .int .u8 253, .int .u8 xo, .int .i64 xs', .bool xn] 32))
            have HCALL := hid (hear_253 g (agN ua ub) st xo f2 _ hm1)
            have HBX := hid (bal HB.out (.cells #[.bool xh, .int .u8 253, .int .u8 xo, .int .i64 xs', .bool xn] 32))
            have HBY := hid (bal (Below.refl wr.heap.size wr) (.cells #[.bool xh, .int .u8 253, .int .u8 xo, .int .i64 xs', .bool xn] 32))
            have lg : g < wr.heap.size := hm.lt
            clear hm hm1
            cases hag : ua.any fun y => y == (xo : Int)
            · have HCO := hid (fun W v (h : Reads W v ua) => contains_any v ua xo W h hl1')
              rw [hag] at HCO
              have hag' : agN ua ub (xo) = false := (agN_us HBB.out f2).trans hag
              have HS0 := hid (hoff (xo) hag')
              have HF : Hid (hOn (st (xo)) (agN ua ub (xo)) = (0, 2)) := by show _ = _; rw [HS0.out, hag']; rfl
              rw [HF.out] at HCALL
              clear hag'
              clear hag
              go_wp2_with fail
              with_reducible refine HCALL.out.mono ?_
              rintro e w6 ⟨v6, rfl, v6', hv, hms, hM, hV, hkk⟩
              cases hv
              obtain ⟨b, rfl, d0, d1⟩ := hms.one (by decide)
              have hM : Mach w6 g (agN ua ub) (upd st (xo) 0) := by have e : (0 * 256 + (xo : Int)).toNat = xo := (by omega); rw [e] at hM; exact hM
              have hoff6 : Off (agN ua ub) (upd st (xo) 0) := by have q := hoff.heard 253 (xo); have e : (hearN 253 (st (xo)) (agN ua ub (xo))).1 = 0 := (by have h2 : hearN 253 (st (xo)) (agN ua ub (xo)) = hOn (st (xo)) (agN ua ub (xo)) := rfl; rw [h2, HF.out]); rw [e] at q; exact q
              have HB6 := hid (Moved.grow HBX.out hV g0)
              have HI6 := hid (show RefI w6 g ua ub from ⟨_, hM, hoff6⟩)
              have HM6 := hid hM
              have HO6 := hid (show OwnB w6 (.slice x3 n3 c3) ua ∧ OwnB w6 (.slice x4 n4 c4) ub from ⟨(HO.out.1.step HBY.out).moved hV (fun k h h' => by have h1 := HK2.out k h; have h2 : k = g := List.mem_singleton.1 h'; omega), (HO.out.2.step HBY.out).moved hV (fun k h h' => by have h1 := HK3.out k h; have h2 : k = g := List.mem_singleton.1 h'; omega)⟩)
              have b1 := cell_moved hV (a := ⟨wr.heap.size, 1, none⟩) (v := .int .u8 253) (by simp [go_sem]) (fun h => by have h' : wr.heap.size = g := List.mem_singleton.1 h; omega)
              have b2 := cell_moved hV (a := ⟨wr.heap.size, 2, none⟩) (v := .int .u8 xo) (by simp [go_sem]) (fun h => by have h' : wr.heap.size = g := List.mem_singleton.1 h; omega)
              have HON := hid (fun W (h : Mach W g (agN ua ub) (upd st (xo) 0)) => on_any g _ _ 0 (by simp) xo f2 W h)
              rw [show idx 0 xo = xo from idx_0 xo, show upd st (xo) 0 (xo) = 0 from upd_same _ _ _, show ((0 : Int) == 1) = false from rfl] at HON
              clear hM hV hkk hms
              go_wp2_with fail
              with_reducible refine (HCO.out _ _ HO6.out.1.reads).mono ?_
              rintro e w7 ⟨rfl, rfl⟩
              go_wp2
              have verbe : verbN 0 2 = 252 := rfl
              rw [verbe] at d0
              refine wp_region_held_drew (S := (fun w' => w'.cell? ⟨wr.heap.size, 2, none⟩ = some (.int .u8 xo) ∧ w'.cell? ⟨b, 0, none⟩ = some (.int .u8 252) ∧ Below w6.heap.size w6 w')) (by kernel_rfl) ?_ (fun hHeld => ?_)
              · exact ⟨b2, d0, (Below.refl _ _).drew⟩
              refine takeD (i := 0) (v := ?_) 63 rfl rfl (by kernel_rfl) (by kernel_rfl) (by kernel_rfl) (fun _ _ _ h => h) (by assumption) (Or.inl ⟨by rfl, ?_⟩) ?_
              rotate_left
              · intro w hSw
                (try dsimp only at hSw)
                go_simp
                try with_reducible rfl
              simp only [List.setIfInBounds_toArray, List.set_cons_zero, List.set_cons_succ]
              refine takeD (i := 1) (v := ?_) 64 rfl rfl (by kernel_rfl) (by kernel_rfl) (by kernel_rfl) (fun _ _ _ h => h) (by assumption) (Or.inl ⟨by rfl, ?_⟩) ?_
              rotate_left
              · intro w hSw
                (try dsimp only at hSw)
                go_simp
                try with_reducible rfl
              simp only [List.setIfInBounds_toArray, List.set_cons_zero, List.set_cons_succ]
              refine takeD (i := 2) (v := ?_) 65 rfl rfl (by kernel_rfl) (by kernel_rfl) (by kernel_rfl) (fun _ _ _ h => h) (by assumption) (Or.inl ⟨by rfl, ?_⟩) ?_
              rotate_left
              · intro w hSw
                (try dsimp only at hSw)
                go_simp
                try with_reducible rfl
              simp only [List.setIfInBounds_toArray, List.set_cons_zero, List.set_cons_succ]
              refine takeD (i := 3) (v := ?_) 66 rfl rfl (by kernel_rfl) (by kernel_rfl) (by kernel_rfl) (fun _ _ _ h => h) (by assumption) (Or.inl ⟨by rfl, ?_⟩) ?_
              rotate_left
              · intro w hSw
                (try dsimp only at hSw)
                go_simp
                try with_reducible rfl
              simp only [List.setIfInBounds_toArray, List.set_cons_zero, List.set_cons_succ]
              refine wpAnyH_ready (rs := [4]) (by kernel_rfl) (by simp) ?_
              refine AllReadyH.cons (by simp only [List.getElem?_toArray, List.getElem?_cons_succ, List.getElem?_cons_zero]; rfl) (fun K hK => ?_) AllReadyH.nil
              go_simp
              (with_reducible refine (HON.out _ (HM6.out.step hHeld.2.2)).mono ?_)
              rintro e w8 ⟨rfl, rfl⟩
              refine hK.out _ _ ?_ (fun hHeldN => ?_)
              · exact hHeld
              clear hK K hHeld
              have hHeld := hHeldN
              clear hHeldN
              refine takeD (i := 5) (v := ?_) 68 rfl rfl (by kernel_rfl) (by kernel_rfl) (by kernel_rfl) (fun _ _ _ h => h) (by assumption) (Or.inl ⟨by rfl, ?_⟩) ?_
              rotate_left
              · intro w hSw
                (try dsimp only at hSw)
                go_simp
                try with_reducible rfl
              simp only [List.setIfInBounds_toArray, List.set_cons_zero, List.set_cons_succ]
              refine takeD (i := 6) (v := ?_) 69 rfl rfl (by kernel_rfl) (by kernel_rfl) (by kernel_rfl) (fun _ _ _ h => h) (by assumption) (Or.inl ⟨by rfl, ?_⟩) ?_
              rotate_left
              · intro w hSw
                (try dsimp only at hSw)
                go_simp
                try with_reducible rfl
              simp only [List.setIfInBounds_toArray, List.set_cons_zero, List.set_cons_succ]
              refine takeD (i := 7) (v := ?_) 70 rfl rfl (by kernel_rfl) (by kernel_rfl) (by kernel_rfl) (fun _ _ _ h => h) (by assumption) (Or.inl ⟨by rfl, ?_⟩) ?_
              rotate_left
              · intro w hSw
                (try dsimp only at hSw)
                go_simp
                try with_reducible rfl
              simp only [List.setIfInBounds_toArray, List.set_cons_zero, List.set_cons_succ]
              refine takeD (i := 8) (v := ?_) 71 rfl rfl (by kernel_rfl) (by kernel_rfl) (by kernel_rfl) (fun _ _ _ h => h) (by assumption) (Or.inl ⟨by rfl, ?_⟩) ?_
              rotate_left
              · intro w hSw
                (try dsimp only at hSw)
                go_simp
                try with_reducible rfl
              simp only [List.setIfInBounds_toArray, List.set_cons_zero, List.set_cons_succ]
              refine takeD (i := 9) (v := ?_) 72 rfl rfl (by kernel_rfl) (by kernel_rfl) (by kernel_rfl) (fun _ _ _ h => h) (by assumption) (Or.inl ⟨by rfl, ?_⟩) ?_
              rotate_left
              · intro w hSw
                (try dsimp only at hSw)
                go_simp
                try with_reducible rfl
              simp only [List.setIfInBounds_toArray, List.set_cons_zero, List.set_cons_succ]
              refine takeD (i := 10) (v := ?_) 73 rfl rfl (by kernel_rfl) (by kernel_rfl) (by kernel_rfl) (fun _ _ _ h => h) (by assumption) (Or.inl ⟨by rfl, ?_⟩) ?_
              rotate_left
              · intro w hSw
                (try dsimp only at hSw)
                go_simp
                try with_reducible rfl
              simp only [List.setIfInBounds_toArray, List.set_cons_zero, List.set_cons_succ]
              refine takeD (i := 11) (v := ?_) 74 rfl rfl (by kernel_rfl) (by kernel_rfl) (by kernel_rfl) (fun _ _ _ h => h) (by assumption) (Or.inl ⟨by rfl, ?_⟩) ?_
              rotate_left
              · intro w hSw
                (try dsimp only at hSw)
                go_simp
                try with_reducible rfl
              simp only [List.setIfInBounds_toArray, List.set_cons_zero, List.set_cons_succ]
              refine takeD (i := 12) (v := ?_) 75 rfl rfl (by kernel_rfl) (by kernel_rfl) (by kernel_rfl) (fun _ _ _ h => h) (by assumption) (Or.inl ⟨by rfl, ?_⟩) ?_
              rotate_left
              · intro w hSw
                (try dsimp only at hSw)
                go_simp
                try with_reducible rfl
              simp only [List.setIfInBounds_toArray, List.set_cons_zero, List.set_cons_succ]
              refine takeD (i := 13) (v := ?_) 76 rfl rfl (by kernel_rfl) (by kernel_rfl) (by kernel_rfl) (fun _ _ _ h => h) (by assumption) (Or.inl ⟨by rfl, ?_⟩) ?_
              rotate_left
              · intro w hSw
                (try dsimp only at hSw)
                go_simp
                try with_reducible rfl
              simp only [List.setIfInBounds_toArray, List.set_cons_zero, List.set_cons_succ]
              refine takeD (i := 14) (v := ?_) 77 rfl rfl (by kernel_rfl) (by kernel_rfl) (by kernel_rfl) (fun _ _ _ h => h) (by assumption) (Or.inl ⟨by rfl, ?_⟩) ?_
              rotate_left
              · intro w hSw
                (try dsimp only at hSw)
                go_simp
                try with_reducible rfl
              simp only [List.setIfInBounds_toArray, List.set_cons_zero, List.set_cons_succ]
              refine takeD (i := 15) (v := ?_) 78 rfl rfl (by kernel_rfl) (by kernel_rfl) (by kernel_rfl) (fun _ _ _ h => h) (by assumption) (Or.inl ⟨by rfl, ?_⟩) ?_
              rotate_left
              · intro w hSw
                (try dsimp only at hSw)
                go_simp
                try with_reducible rfl
              simp only [List.setIfInBounds_toArray, List.set_cons_zero, List.set_cons_succ]
              refine takeD (i := 16) (v := ?_) 79 rfl rfl (by kernel_rfl) (by kernel_rfl) (by kernel_rfl) (fun _ _ _ h => h) (by assumption) (Or.inl ⟨by rfl, ?_⟩) ?_
              rotate_left
              · intro w hSw
                (try dsimp only at hSw)
                go_simp
                try with_reducible rfl
              simp only [List.setIfInBounds_toArray, List.set_cons_zero, List.set_cons_succ]
              refine takeD (i := 17) (v := ?_) 80 rfl rfl (by kernel_rfl) (by kernel_rfl) (by kernel_rfl) (fun _ _ _ h => h) (by assumption) (Or.inl ⟨by rfl, ?_⟩) ?_
              rotate_left
              · intro w hSw
                (try dsimp only at hSw)
                go_simp
                try with_reducible rfl
              simp only [List.setIfInBounds_toArray, List.set_cons_zero, List.set_cons_succ]
              refine takeD (i := 18) (v := ?_) 81 rfl rfl (by kernel_rfl) (by kernel_rfl) (by kernel_rfl) (fun _ _ _ h => h) (by assumption) (Or.inl ⟨by rfl, ?_⟩) ?_
              rotate_left
              · intro w hSw
                (try dsimp only at hSw)
                go_simp
                try with_reducible rfl
              simp only [List.setIfInBounds_toArray, List.set_cons_zero, List.set_cons_succ]
              refine takeD (i := 20) (v := ?_) 83 rfl rfl (by kernel_rfl) (by kernel_rfl) (by kernel_rfl) (fun _ _ _ h => h) (by assumption) (Or.inl ⟨by rfl, ?_⟩) ?_
              rotate_left
              · intro w hSw
                (try dsimp only at hSw)
                go_simp
                try with_reducible rfl
              simp only [List.setIfInBounds_toArray, List.set_cons_zero, List.set_cons_succ]
              refine wpAnyH_ready (rs := [19]) (by kernel_rfl) (by simp) ?_
              refine AllReadyH.cons (by simp only [List.getElem?_toArray, List.getElem?_cons_succ, List.getElem?_cons_zero]; rfl) (fun K hK => ?_) AllReadyH.nil
              go_simp

              refine hK.out _ _ ?_ (fun hHeldN => ?_)
              · exact R15.kept hHeld (bal (Below.refl _ _) _)
              clear hK K hHeld
              have hHeld := hHeldN
              clear hHeldN
              refine takeD (i := 21) (v := ?_) 84 rfl rfl (by kernel_rfl) (by kernel_rfl) (by kernel_rfl) (fun _ _ _ h => h) (by assumption) (Or.inl ⟨by rfl, ?_⟩) ?_
              rotate_left
              · intro w hSw
                (try dsimp only at hSw)
                go_simp
                try with_reducible rfl
              simp only [List.setIfInBounds_toArray, List.set_cons_zero, List.set_cons_succ]
              refine wpAnyH_ready (rs := [22]) (by kernel_rfl) (by simp) ?_
              refine AllReadyH.cons (by simp only [List.getElem?_toArray, List.getElem?_cons_succ, List.getElem?_cons_zero]; rfl) (fun K hK => ?_) AllReadyH.nil
              go_simp

              refine hK.out _ _ ?_ (fun hHeldN => ?_)
              · exact hHeld
              clear hK K hHeld
              have hHeld := hHeldN
              clear hHeldN
              refine takeD (i := 23) (v := ?_) 86 rfl rfl (by kernel_rfl) (by kernel_rfl) (by kernel_rfl) (fun _ _ _ h => h) (by assumption) (Or.inl ⟨by rfl, ?_⟩) ?_
              rotate_left
              · intro w hSw
                (try dsimp only at hSw)
                go_simp
                try with_reducible rfl
              simp only [List.setIfInBounds_toArray, List.set_cons_zero, List.set_cons_succ]
              refine takeD (i := 24) (v := ?_) 87 rfl rfl (by kernel_rfl) (by kernel_rfl) (by kernel_rfl) (fun _ _ _ h => h) (by assumption) (Or.inl ⟨by rfl, ?_⟩) ?_
              rotate_left
              · intro w hSw
                (try dsimp only at hSw)
                go_simp
                try with_reducible rfl
              simp only [List.setIfInBounds_toArray, List.set_cons_zero, List.set_cons_succ]
              refine takeD (i := 25) (v := ?_) 88 rfl rfl (by kernel_rfl) (by kernel_rfl) (by kernel_rfl) (fun _ _ _ h => h) (by assumption) (Or.inl ⟨by rfl, ?_⟩) ?_
              rotate_left
              · intro w hSw
                (try dsimp only at hSw)
                go_simp
                try with_reducible rfl
              simp only [List.setIfInBounds_toArray, List.set_cons_zero, List.set_cons_succ]
              refine wpAnyH_done (by kernel_rfl) ?_ _
              have HI7 := hid (HI6.out.step hHeld.2.2)
              have HB7 := hid (below_t HB6.out hHeld.2.2)
              have HO7 := hid (show _ ∧ _ from ⟨HO6.out.1.step hHeld.2.2, HO6.out.2.step hHeld.2.2⟩)
              clear hHeld
              go_wp2
              go_roundw
              case rel => exact ⟨k + 1, by omega, by omega, by go_num, HI7.out, HB7.out, HO7.out⟩
              case measure => simp [intOf]; omega
            · have HCO := hid (fun W v (h : Reads W v ua) => contains_any v ua xo W h hl1')
              rw [hag] at HCO
              clear hag
              go_wp2_with fail
              with_reducible refine HCALL.out.mono ?_
              rintro e w6 ⟨v6, rfl, v6', hv, hms, hM, hV, hkk⟩
              cases hv
              obtain ⟨x6, n6, c6, hv6⟩ : ∃ x n c, v6 = .slice x n c := by
                rcases hms with ⟨_, h⟩ | ⟨_, bb, h, _⟩
                · exact ⟨_, _, _, h⟩
                · exact ⟨_, _, _, h⟩
              subst hv6
              have hM : Mach w6 g (agN ua ub) (upd st (xo) (hearN 253 (st (xo)) (agN ua ub (xo))).1) := by have e : (0 * 256 + (xo : Int)).toNat = xo := (by omega); rw [e] at hM; exact hM
              have HB6 := hid (Moved.grow HBX.out hV g0)
              have HI6 := hid (show RefI w6 g ua ub from ⟨_, hM, hoff.heard 253 (xo)⟩)
              have HM6 := hid hM
              have HO6 := hid (show OwnB w6 (.slice x3 n3 c3) ua ∧ OwnB w6 (.slice x4 n4 c4) ub from ⟨(HO.out.1.step HBY.out).moved hV (fun k h h' => by have h1 := HK2.out k h; have h2 : k = g := List.mem_singleton.1 h'; omega), (HO.out.2.step HBY.out).moved hV (fun k h h' => by have h1 := HK3.out k h; have h2 : k = g := List.mem_singleton.1 h'; omega)⟩)
              have b1 := cell_moved hV (a := ⟨wr.heap.size, 1, none⟩) (v := .int .u8 253) (by simp [go_sem]) (fun h => by have h' : wr.heap.size = g := List.mem_singleton.1 h; omega)
              have b2 := cell_moved hV (a := ⟨wr.heap.size, 2, none⟩) (v := .int .u8 xo) (by simp [go_sem]) (fun h => by have h' : wr.heap.size = g := List.mem_singleton.1 h; omega)
              clear hM hV hkk hms
              go_wp2_with fail
              with_reducible refine (HCO.out _ _ HO6.out.1.reads).mono ?_
              rintro e w7 ⟨rfl, rfl⟩
              go_wp2
              go_roundw
              case rel => exact ⟨k + 1, by omega, by omega, by go_num, HI6.out, HB6.out, HO6.out⟩
              case measure => simp [intOf]; omega
          · have hm1 := hm.step (bal (Below.refl wr.heap.size wr) (.cells #[.bool xh, .int .u8 254, .int .u8 xo, .int .i64 xs', .bool xn] 32))
            have HCALL := hid (hear_254 g (agN ua ub) st xo f2 _ hm1)
            have HBX := hid (bal HB.out (.cells #[.bool xh, .int .u8 254, .int .u8 xo, .int .i64 xs', .bool xn] 32))
            have HBY := hid (bal (Below.refl wr.heap.size wr) (.cells #[.bool xh, .int .u8 254, .int .u8 xo, .int .i64 xs', .bool xn] 32))
            have lg : g < wr.heap.size := hm.lt
            clear hm hm1
            cases hag : ua.any fun y => y == (xo : Int)
            · have HCO := hid (fun W v (h : Reads W v ua) => contains_any v ua xo W h hl1')
              rw [hag] at HCO
              have hag' : agN ua ub (xo) = false := (agN_us HBB.out f2).trans hag
              have HS0 := hid (hoff (xo) hag')
              have HF : Hid (hOff (st (xo)) = (0, 0)) := by show _ = _; rw [HS0.out]; rfl
              rw [HF.out] at HCALL
              clear hag'
              clear hag
              go_wp2_with fail
              with_reducible refine HCALL.out.mono ?_
              rintro e w6 ⟨v6, rfl, v6', hv, hms, hM, hV, hkk⟩
              cases hv
              obtain rfl := hms.zero (by decide)
              have hM : Mach w6 g (agN ua ub) (upd st (xo) 0) := by have e : (0 * 256 + (xo : Int)).toNat = xo := (by omega); rw [e] at hM; exact hM
              have hoff6 : Off (agN ua ub) (upd st (xo) 0) := by have q := hoff.heard 254 (xo); have e : (hearN 254 (st (xo)) (agN ua ub (xo))).1 = 0 := (by have h2 : hearN 254 (st (xo)) (agN ua ub (xo)) = hOff (st (xo)) := rfl; rw [h2, HF.out]); rw [e] at q; exact q
              have HB6 := hid (Moved.grow HBX.out hV g0)
              have HI6 := hid (show RefI w6 g ua ub from ⟨_, hM, hoff6⟩)
              have HM6 := hid hM
              have HO6 := hid (show OwnB w6 (.slice x3 n3 c3) ua ∧ OwnB w6 (.slice x4 n4 c4) ub from ⟨(HO.out.1.step HBY.out).moved hV (fun k h h' => by have h1 := HK2.out k h; have h2 : k = g := List.mem_singleton.1 h'; omega), (HO.out.2.step HBY.out).moved hV (fun k h h' => by have h1 := HK3.out k h; have h2 : k = g := List.mem_singleton.1 h'; omega)⟩)
              have b1 := cell_moved hV (a := ⟨wr.heap.size, 1, none⟩) (v := .int .u8 254) (by simp [go_sem]) (fun h => by have h' : wr.heap.size = g := List.mem_singleton.1 h; omega)
              have b2 := cell_moved hV (a := ⟨wr.heap.size, 2, none⟩) (v := .int .u8 xo) (by simp [go_sem]) (fun h => by have h' : wr.heap.size = g := List.mem_singleton.1 h; omega)
              have HON := hid (fun W (h : Mach W g (agN ua ub) (upd st (xo) 0)) => on_any g _ _ 0 (by simp) xo f2 W h)
              rw [show idx 0 xo = xo from idx_0 xo, show upd st (xo) 0 (xo) = 0 from upd_same _ _ _, show ((0 : Int) == 1) = false from rfl] at HON
              clear hM hV hkk hms
              go_wp2_with fail
              with_reducible refine (HCO.out _ _ HO6.out.1.reads).mono ?_
              rintro e w7 ⟨rfl, rfl⟩
              go_wp2
              refine wp_region_held_drew (S := (fun w' => w'.cell? ⟨wr.heap.size, 2, none⟩ = some (.int .u8 xo) ∧ Below w6.heap.size w6 w')) (by kernel_rfl) ?_ (fun hHeld => ?_)
              · exact ⟨b2, (Below.refl _ _).drew⟩
              refine takeD (i := 0) (v := ?_) 63 rfl rfl (by kernel_rfl) (by kernel_rfl) (by kernel_rfl) (fun _ _ _ h => h) (by assumption) (Or.inl ⟨by rfl, ?_⟩) ?_
              rotate_left
              · intro w hSw
                (try dsimp only at hSw)
                go_simp
                try with_reducible rfl
              simp only [List.setIfInBounds_toArray, List.set_cons_zero, List.set_cons_succ]
              refine takeD (i := 1) (v := ?_) 64 rfl rfl (by kernel_rfl) (by kernel_rfl) (by kernel_rfl) (fun _ _ _ h => h) (by assumption) (Or.inl ⟨by rfl, ?_⟩) ?_
              rotate_left
              · intro w hSw
                (try dsimp only at hSw)
                go_simp
                try with_reducible rfl
              simp only [List.setIfInBounds_toArray, List.set_cons_zero, List.set_cons_succ]
              refine takeD (i := 2) (v := ?_) 65 rfl rfl (by kernel_rfl) (by kernel_rfl) (by kernel_rfl) (fun _ _ _ h => h) (by assumption) (Or.inl ⟨by rfl, ?_⟩) ?_
              rotate_left
              · intro w hSw
                (try dsimp only at hSw)
                go_simp
                try with_reducible rfl
              simp only [List.setIfInBounds_toArray, List.set_cons_zero, List.set_cons_succ]
              refine takeD (i := 3) (v := ?_) 66 rfl rfl (by kernel_rfl) (by kernel_rfl) (by kernel_rfl) (fun _ _ _ h => h) (by assumption) (Or.inl ⟨by rfl, ?_⟩) ?_
              rotate_left
              · intro w hSw
                (try dsimp only at hSw)
                go_simp
                try with_reducible rfl
              simp only [List.setIfInBounds_toArray, List.set_cons_zero, List.set_cons_succ]
              refine wpAnyH_ready (rs := [4]) (by kernel_rfl) (by simp) ?_
              refine AllReadyH.cons (by simp only [List.getElem?_toArray, List.getElem?_cons_succ, List.getElem?_cons_zero]; rfl) (fun K hK => ?_) AllReadyH.nil
              go_simp
              (with_reducible refine (HON.out _ (HM6.out.step hHeld.2)).mono ?_)
              rintro e w8 ⟨rfl, rfl⟩
              refine hK.out _ _ ?_ (fun hHeldN => ?_)
              · exact hHeld
              clear hK K hHeld
              have hHeld := hHeldN
              clear hHeldN
              refine takeD (i := 5) (v := ?_) 68 rfl rfl (by kernel_rfl) (by kernel_rfl) (by kernel_rfl) (fun _ _ _ h => h) (by assumption) (Or.inl ⟨by rfl, ?_⟩) ?_
              rotate_left
              · intro w hSw
                (try dsimp only at hSw)
                go_simp
                try with_reducible rfl
              simp only [List.setIfInBounds_toArray, List.set_cons_zero, List.set_cons_succ]
              refine takeD (i := 6) (v := ?_) 69 rfl rfl (by kernel_rfl) (by kernel_rfl) (by kernel_rfl) (fun _ _ _ h => h) (by assumption) (Or.inl ⟨by rfl, ?_⟩) ?_
              rotate_left
              · intro w hSw
                (try dsimp only at hSw)
                go_simp
                try with_reducible rfl
              simp only [List.setIfInBounds_toArray, List.set_cons_zero, List.set_cons_succ]
              refine takeD (i := 7) (v := ?_) 70 rfl rfl (by kernel_rfl) (by kernel_rfl) (by kernel_rfl) (fun _ _ _ h => h) (by assumption) (Or.inl ⟨by rfl, ?_⟩) ?_
              rotate_left
              · intro w hSw
                (try dsimp only at hSw)
                go_simp
                try with_reducible rfl
              simp only [List.setIfInBounds_toArray, List.set_cons_zero, List.set_cons_succ]
              refine takeD (i := 8) (v := ?_) 71 rfl rfl (by kernel_rfl) (by kernel_rfl) (by kernel_rfl) (fun _ _ _ h => h) (by assumption) (Or.inl ⟨by rfl, ?_⟩) ?_
              rotate_left
              · intro w hSw
                (try dsimp only at hSw)
                go_simp
                try with_reducible rfl
              simp only [List.setIfInBounds_toArray, List.set_cons_zero, List.set_cons_succ]
              refine takeD (i := 9) (v := ?_) 72 rfl rfl (by kernel_rfl) (by kernel_rfl) (by kernel_rfl) (fun _ _ _ h => h) (by assumption) (Or.inl ⟨by rfl, ?_⟩) ?_
              rotate_left
              · intro w hSw
                (try dsimp only at hSw)
                go_simp
                try with_reducible rfl
              simp only [List.setIfInBounds_toArray, List.set_cons_zero, List.set_cons_succ]
              refine takeD (i := 10) (v := ?_) 73 rfl rfl (by kernel_rfl) (by kernel_rfl) (by kernel_rfl) (fun _ _ _ h => h) (by assumption) (Or.inl ⟨by rfl, ?_⟩) ?_
              rotate_left
              · intro w hSw
                (try dsimp only at hSw)
                go_simp
                try with_reducible rfl
              simp only [List.setIfInBounds_toArray, List.set_cons_zero, List.set_cons_succ]
              refine takeD (i := 11) (v := ?_) 74 rfl rfl (by kernel_rfl) (by kernel_rfl) (by kernel_rfl) (fun _ _ _ h => h) (by assumption) (Or.inl ⟨by rfl, ?_⟩) ?_
              rotate_left
              · intro w hSw
                (try dsimp only at hSw)
                go_simp
                try with_reducible rfl
              simp only [List.setIfInBounds_toArray, List.set_cons_zero, List.set_cons_succ]
              refine takeD (i := 12) (v := ?_) 75 rfl rfl (by kernel_rfl) (by kernel_rfl) (by kernel_rfl) (fun _ _ _ h => h) (by assumption) (Or.inl ⟨by rfl, ?_⟩) ?_
              rotate_left
              · intro w hSw
                (try dsimp only at hSw)
                go_simp
                try with_reducible rfl
              simp only [List.setIfInBounds_toArray, List.set_cons_zero, List.set_cons_succ]
              refine takeD (i := 13) (v := ?_) 76 rfl rfl (by kernel_rfl) (by kernel_rfl) (by kernel_rfl) (fun _ _ _ h => h) (by assumption) (Or.inl ⟨by rfl, ?_⟩) ?_
              rotate_left
              · intro w hSw
                (try dsimp only at hSw)
                go_simp
                try with_reducible rfl
              simp only [List.setIfInBounds_toArray, List.set_cons_zero, List.set_cons_succ]
              refine takeD (i := 14) (v := ?_) 77 rfl rfl (by kernel_rfl) (by kernel_rfl) (by kernel_rfl) (fun _ _ _ h => h) (by assumption) (Or.inl ⟨by rfl, ?_⟩) ?_
              rotate_left
              · intro w hSw
                (try dsimp only at hSw)
                go_simp
                try with_reducible rfl
              simp only [List.setIfInBounds_toArray, List.set_cons_zero, List.set_cons_succ]
              refine takeD (i := 15) (v := undef) 78 rfl rfl (by kernel_rfl) (by kernel_rfl) (by kernel_rfl) (fun _ _ _ h => h) (by assumption) (Or.inr ⟨by rfl, rfl⟩) ?_
              simp only [List.setIfInBounds_toArray, List.set_cons_zero, List.set_cons_succ]
              refine takeD (i := 16) (v := undef) 79 rfl rfl (by kernel_rfl) (by kernel_rfl) (by kernel_rfl) (fun _ _ _ h => h) (by assumption) (Or.inr ⟨by rfl, rfl⟩) ?_
              simp only [List.setIfInBounds_toArray, List.set_cons_zero, List.set_cons_succ]
              refine takeD (i := 17) (v := undef) 80 rfl rfl (by kernel_rfl) (by kernel_rfl) (by kernel_rfl) (fun _ _ _ h => h) (by assumption) (Or.inr ⟨by rfl, rfl⟩) ?_
              simp only [List.setIfInBounds_toArray, List.set_cons_zero, List.set_cons_succ]
              refine takeD (i := 18) (v := undef) 81 rfl rfl (by kernel_rfl) (by kernel_rfl) (by kernel_rfl) (fun _ _ _ h => h) (by assumption) (Or.inr ⟨by rfl, rfl⟩) ?_
              simp only [List.setIfInBounds_toArray, List.set_cons_zero, List.set_cons_succ]
              refine takeD (i := 19) (v := undef) 82 rfl rfl (by kernel_rfl) (by kernel_rfl) (by kernel_rfl) (fun _ _ _ h => h) (by assumption) (Or.inr ⟨by rfl, rfl⟩) ?_
              simp only [List.setIfInBounds_toArray, List.set_cons_zero, List.set_cons_succ]
              refine takeD (i := 20) (v := undef) 83 rfl rfl (by kernel_rfl) (by kernel_rfl) (by kernel_rfl) (fun _ _ _ h => h) (by assumption) (Or.inr ⟨by rfl, rfl⟩) ?_
              simp only [List.setIfInBounds_toArray, List.set_cons_zero, List.set_cons_succ]
              refine takeD (i := 21) (v := undef) 84 rfl rfl (by kernel_rfl) (by kernel_rfl) (by kernel_rfl) (fun _ _ _ h => h) (by assumption) (Or.inr ⟨by rfl, rfl⟩) ?_
              simp only [List.setIfInBounds_toArray, List.set_cons_zero, List.set_cons_succ]
              refine takeD (i := 22) (v := undef) 85 rfl rfl (by kernel_rfl) (by kernel_rfl) (by kernel_rfl) (fun _ _ _ h => h) (by assumption) (Or.inr ⟨by rfl, rfl⟩) ?_
              simp only [List.setIfInBounds_toArray, List.set_cons_zero, List.set_cons_succ]
              refine takeD (i := 23) (v := undef) 86 rfl rfl (by kernel_rfl) (by kernel_rfl) (by kernel_rfl) (fun _ _ _ h => h) (by assumption) (Or.inr ⟨by rfl, rfl⟩) ?_
              simp only [List.setIfInBounds_toArray, List.set_cons_zero, List.set_cons_succ]
              refine takeD (i := 24) (v := ?_) 87 rfl rfl (by kernel_rfl) (by kernel_rfl) (by kernel_rfl) (fun _ _ _ h => h) (by assumption) (Or.inl ⟨by rfl, ?_⟩) ?_
              rotate_left
              · intro w hSw
                (try dsimp only at hSw)
                go_simp
                try with_reducible rfl
              simp only [List.setIfInBounds_toArray, List.set_cons_zero, List.set_cons_succ]
              refine takeD (i := 25) (v := ?_) 88 rfl rfl (by kernel_rfl) (by kernel_rfl) (by kernel_rfl) (fun _ _ _ h => h) (by assumption) (Or.inl ⟨by rfl, ?_⟩) ?_
              rotate_left
              · intro w hSw
                (try dsimp only at hSw)
                go_simp
                try with_reducible rfl
              simp only [List.setIfInBounds_toArray, List.set_cons_zero, List.set_cons_succ]
              refine wpAnyH_done (by kernel_rfl) ?_ _
              have HI7 := hid (HI6.out.step hHeld.2)
              have HB7 := hid (below_t HB6.out hHeld.2)
              have HO7 := hid (show _ ∧ _ from ⟨HO6.out.1.step hHeld.2, HO6.out.2.step hHeld.2⟩)
              clear hHeld
              go_wp2
              go_roundw
              case rel => exact ⟨k + 1, by omega, by omega, by go_num, HI7.out, HB7.out, HO7.out⟩
              case measure => simp [intOf]; omega
            · have HCO := hid (fun W v (h : Reads W v ua) => contains_any v ua xo W h hl1')
              rw [hag] at HCO
              clear hag
              go_wp2_with fail
              with_reducible refine HCALL.out.mono ?_
              rintro e w6 ⟨v6, rfl, v6', hv, hms, hM, hV, hkk⟩
              cases hv
              obtain ⟨x6, n6, c6, hv6⟩ : ∃ x n c, v6 = .slice x n c := by
                rcases hms with ⟨_, h⟩ | ⟨_, bb, h, _⟩
                · exact ⟨_, _, _, h⟩
                · exact ⟨_, _, _, h⟩
              subst hv6
              have hM : Mach w6 g (agN ua ub) (upd st (xo) (hearN 254 (st (xo)) (agN ua ub (xo))).1) := by have e : (0 * 256 + (xo : Int)).toNat = xo := (by omega); rw [e] at hM; exact hM
              have HB6 := hid (Moved.grow HBX.out hV g0)
              have HI6 := hid (show RefI w6 g ua ub from ⟨_, hM, hoff.heard 254 (xo)⟩)
              have HM6 := hid hM
              have HO6 := hid (show OwnB w6 (.slice x3 n3 c3) ua ∧ OwnB w6 (.slice x4 n4 c4) ub from ⟨(HO.out.1.step HBY.out).moved hV (fun k h h' => by have h1 := HK2.out k h; have h2 : k = g := List.mem_singleton.1 h'; omega), (HO.out.2.step HBY.out).moved hV (fun k h h' => by have h1 := HK3.out k h; have h2 : k = g := List.mem_singleton.1 h'; omega)⟩)
              have b1 := cell_moved hV (a := ⟨wr.heap.size, 1, none⟩) (v := .int .u8 254) (by simp [go_sem]) (fun h => by have h' : wr.heap.size = g := List.mem_singleton.1 h; omega)
              have b2 := cell_moved hV (a := ⟨wr.heap.size, 2, none⟩) (v := .int .u8 xo) (by simp [go_sem]) (fun h => by have h' : wr.heap.size = g := List.mem_singleton.1 h; omega)
              clear hM hV hkk hms
              go_wp2_with fail
              with_reducible refine (HCO.out _ _ HO6.out.1.reads).mono ?_
              rintro e w7 ⟨rfl, rfl⟩
              go_wp2
              go_roundw
              case rel => exact ⟨k + 1, by omega, by omega, by go_num, HI6.out, HB6.out, HO6.out⟩
              case measure => simp [intOf]; omega
        · have hm1 := hm.step (bal (Below.refl wr.heap.size wr) (.cells #[.bool xh, .int .u8 xv, .int .u8 xo, .int .i64 xs', .bool xn] 32))
          have HCALL := hid (hear_no g xv xo hvb (wr.alloc (.cells #[.bool xh, .int .u8 xv, .int .u8 xo, .int .i64 xs', .bool xn] 32)))
          have HBX := hid (bal HB.out (.cells #[.bool xh, .int .u8 xv, .int .u8 xo, .int .i64 xs', .bool xn] 32))
          have HI6 := hid (HI.out.step (bal (Below.refl wr.heap.size wr) (.cells #[.bool xh, .int .u8 xv, .int .u8 xo, .int .i64 xs', .bool xn] 32)))
          have HB6 := HBX
          have HO6 := hid (show _ ∧ _ from ⟨HO.out.1.step (bal (Below.refl wr.heap.size wr) (.cells #[.bool xh, .int .u8 xv, .int .u8 xo, .int .i64 xs', .bool xn] 32)), HO.out.2.step (bal (Below.refl wr.heap.size wr) (.cells #[.bool xh, .int .u8 xv, .int .u8 xo, .int .i64 xs', .bool xn] 32))⟩)
          clear hm hm1 hvb
          by_cases h253 : 253 ≤ xv
          · have i253 : (253 : Int) ≤ xv := by omega
            go_wp2_with fail
            with_reducible refine HCALL.out.mono ?_
            rintro e w6 ⟨rfl, rfl⟩
            go_wp2
            go_roundw
            case rel => exact ⟨k + 1, by omega, by omega, by go_num, HI6.out, HB6.out, HO6.out⟩
            case measure => simp [intOf]; omega
          · have i253 : ¬ (253 : Int) ≤ xv := by omega
            go_wp2_with fail
            with_reducible refine HCALL.out.mono ?_
            rintro e w6 ⟨rfl, rfl⟩
            go_wp2
            go_roundw
            case rel => exact ⟨k + 1, by omega, by omega, by go_num, HI6.out, HB6.out, HO6.out⟩
            case measure => simp [intOf]; omega
      · have k60 : (60 : Int) ≤ k := by omega
        go_wp2
        go_ret
        exact ⟨rfl, bal HB.out _⟩
    · obtain rfl : k = n := by omega
      go_wp2
      go_ret
      exact ⟨rfl, HB.out⟩
end Go.Proofs.Ytahminbgedmgcaa
