/-
  The law's own walk: OptionFew.
-/
import Derived.Test.YtahminbgedmgcaaOh
namespace Go.Proofs.Ytahminbgedmgcaa
open Go.RowKit Go.Lib

theorem reads_any_slice {w : World} {d : Value} {xs : List Int} (h : Reads w d xs) : ∃ x n c, d = .slice x n c := by
  rcases h.2 with ⟨rfl, _⟩ | ⟨a, cap, rfl, _⟩
  · exact ⟨_, _, _, rfl⟩
  · exact ⟨_, _, _, rfl⟩
/-- What a round keeps: a machine; of each option no more was said than heard. -/
def FewI (w : World) (g gh gs : Nat) (ag : Nat → Bool) (k : Int) : Prop := ∃ st H S, Mach w g ag st ∧ Arr w gh H ∧ Arr w gs S ∧ ∀ i, 0 ≤ S i ∧ S i ≤ H i ∧ H i ≤ k
theorem few_next {w : World} {g gh gs : Nat} {ag : Nat → Bool} {st : Nat → Int} {H S : Nat → Int} {k : Int} {o : Nat} {M : Nat} (hM : Mach w g ag st) (hH : Arr w gh H) (hS : Arr w gs S) (hq : ∀ i, 0 ≤ S i ∧ S i ≤ H i ∧ H i ≤ k) (ho : o < 256) (h1 : g ≠ gh) (h2 : g ≠ gs) (h3 : gh ≠ gs) (hM1 : M ≤ 1 := by omega) : FewI ((w.setCell ⟨gh, o, none⟩ (.int .i64 (H o + 1))).setCell ⟨gs, o, none⟩ (.int .i64 (S o + M))) g gh gs ag (k + 1) := by
  have m1 : Moved w (w.setCell ⟨gh, o, none⟩ (.int .i64 (H o + 1))) [gh] [gh] := Moved.set (by simp) _ _
  have m2 : Moved (w.setCell ⟨gh, o, none⟩ (.int .i64 (H o + 1))) ((w.setCell ⟨gh, o, none⟩ (.int .i64 (H o + 1))).setCell ⟨gs, o, none⟩ (.int .i64 (S o + M))) [gs] [gs] := Moved.set (by simp) _ _
  refine ⟨st, upd H o (H o + 1), upd S o (S o + M), (hM.moved m1 (by simpa using h1)).moved m2 (by simpa using h2), (hH.set o ho _).moved m2 (by simpa using h3), (hS.moved m1 (by simpa using h3.symm)).set o ho _, fun i => ?_⟩
  have := hq o
  have := hq i
  unfold upd
  by_cases e : i = o
  · rw [if_pos e, if_pos e]; omega
  · rw [if_neg e, if_neg e]; omega
theorem few_cells {w : World} {gh gs B : Nat} {o : Nat} {hh ss a b : Int} {c : Value} (h1 : w.cell? ⟨gh, o, none⟩ = some (.int .i64 a)) (h2 : w.cell? ⟨gs, o, none⟩ = some (.int .i64 b)) (h3 : w.cell? ⟨B, 2, none⟩ = some c) (n1 : gh ≠ gs) (n2 : B ≠ gh) (n3 : B ≠ gs) : ((w.setCell ⟨gh, o, none⟩ (.int .i64 hh)).setCell ⟨gs, o, none⟩ (.int .i64 ss)).cell? ⟨gh, o, none⟩ = some (.int .i64 hh) ∧ ((w.setCell ⟨gh, o, none⟩ (.int .i64 hh)).setCell ⟨gs, o, none⟩ (.int .i64 ss)).cell? ⟨gs, o, none⟩ = some (.int .i64 ss) ∧ ((w.setCell ⟨gh, o, none⟩ (.int .i64 hh)).setCell ⟨gs, o, none⟩ (.int .i64 ss)).cell? ⟨B, 2, none⟩ = some c := by
  have e1 : (⟨gs, o, none⟩ : Addr) ≠ ⟨gh, o, none⟩ := fun q => n1 (by injection q with q1; exact q1.symm)
  refine ⟨?_, ?_, ?_⟩
  · rw [World.cell?_setCell_other _ _ _ _ e1]
    exact World.cell?_setCell_same _ _ _ h1
  · exact World.cell?_setCell_same _ _ _ ((World.cell?_setCell_other _ _ _ _ e1.symm).trans h2)
  · rw [World.cell?_setCell_other _ _ _ _ (fun q => n3 (by injection q with q1; exact q1.symm)), World.cell?_setCell_other _ _ _ _ (fun q => n2 (by injection q with q1; exact q1.symm))]
    exact h3
theorem few_msg {w : World} {G b : Nat} {o : Nat} {hh ss : Int} {c d : Value} (h1 : w.cell? ⟨b, 0, none⟩ = some c) (h2 : w.cell? ⟨b, 1, none⟩ = some d) (n1 : b ≠ G) (n2 : b ≠ G + 1) : ((w.setCell ⟨G, o, none⟩ (.int .i64 hh)).setCell ⟨G + 1, o, none⟩ (.int .i64 ss)).cell? ⟨b, 0, none⟩ = some c ∧ ((w.setCell ⟨G, o, none⟩ (.int .i64 hh)).setCell ⟨G + 1, o, none⟩ (.int .i64 ss)).cell? ⟨b, 1, none⟩ = some d := by
  have q (i j : Nat) : (⟨G, i, none⟩ : Addr) ≠ ⟨b, j, none⟩ := fun q => n1 (by injection q with q1; exact q1.symm)
  have q' (i j : Nat) : (⟨G + 1, i, none⟩ : Addr) ≠ ⟨b, j, none⟩ := fun q => n2 (by injection q with q1; exact q1.symm)
  exact ⟨by rw [World.cell?_setCell_other _ _ _ _ (q' _ _), World.cell?_setCell_other _ _ _ _ (q _ _)]; exact h1, by rw [World.cell?_setCell_other _ _ _ _ (q' _ _), World.cell?_setCell_other _ _ _ _ (q _ _)]; exact h2⟩
theorem FewI.step {w w' : World} {g gh gs : Nat} {ag : Nat → Bool} {k : Int} (h : FewI w g gh gs ag k) (hb : Below w.heap.size w w') : FewI w' g gh gs ag k := by
  obtain ⟨st, H, S, h1, h2, h3, h4⟩ := h
  exact ⟨st, H, S, h1.step hb, h2.moved (Moved.below hb []) (fun q => by cases q), h3.moved (Moved.below hb []) (fun q => by cases q), h4⟩
/-- What region 20 reads. -/
def Reg20 (w0 w : World) (B C : Nat) (x : Int) (o : Nat) : Prop := w.cell? ⟨B, 2, none⟩ = some (.int .u8 o) ∧ w.cell? ⟨C, 0, none⟩ = some (.int .u8 x) ∧ w.cell? ⟨C, 1, none⟩ = some (.int .u8 o) ∧ Below w0.heap.size w0 w
theorem Reg20.kept {w0 w w' : World} {B C : Nat} {x : Int} {o : Nat} (h : w.cell? ⟨B, 2, none⟩ = some (.int .u8 o) ∧ w.cell? ⟨C, 0, none⟩ = some (.int .u8 x) ∧ w.cell? ⟨C, 1, none⟩ = some (.int .u8 o) ∧ Below w0.heap.size w0 w) (hb : Below w.heap.size w w') : w'.cell? ⟨B, 2, none⟩ = some (.int .u8 o) ∧ w'.cell? ⟨C, 0, none⟩ = some (.int .u8 x) ∧ w'.cell? ⟨C, 1, none⟩ = some (.int .u8 o) ∧ Below w0.heap.size w0 w' := ⟨keepc hb h.1, keepc hb h.2.1, keepc hb h.2.2.1, below_t h.2.2.2 hb⟩
theorem Reg20.drew {w0 w : World} {B C : Nat} {x : Int} {o : Nat} (h : Reg20 w0 w B C x o) : Reg20 w0 w.drew B C x o := Reg20.kept h (Below.refl _ _).drew
theorem Reg20.alloc {w0 w : World} {B C : Nat} {x : Int} {o : Nat} {ob : Obj} (h : w.cell? ⟨B, 2, none⟩ = some (.int .u8 o) ∧ w.cell? ⟨C, 0, none⟩ = some (.int .u8 x) ∧ w.cell? ⟨C, 1, none⟩ = some (.int .u8 o) ∧ Below w0.heap.size w0 w) : (w.alloc ob).cell? ⟨B, 2, none⟩ = some (.int .u8 o) ∧ (w.alloc ob).cell? ⟨C, 0, none⟩ = some (.int .u8 x) ∧ (w.alloc ob).cell? ⟨C, 1, none⟩ = some (.int .u8 o) ∧ Below w0.heap.size w0 (w.alloc ob) := Reg20.kept h (bal (Below.refl _ _) _)
theorem lit_after {w w' : World} {x o : Int} (hb : Below (w.alloc (.cells #[.int .u8 255, .int .u8 x, .int .u8 o] 5)).heap.size (w.alloc (.cells #[.int .u8 255, .int .u8 x, .int .u8 o] 5)) w') (hf : ∀ y ∈ ([255, x, o] : List Int), 0 ≤ y ∧ y < 256) : OwnB w' (.slice (some ⟨w.heap.size, 0, none⟩) 3 3) [255, x, o] := (own_lit w _ 3 _ hf rfl rfl (by omega) _ rfl).step hb
theorem op_at {w : World} {go oo k : Nat} {xs : List OpD} (hk : k < xs.length) (h : ∀ i (h : i < xs.length) j, j < 5 → w.cell? ⟨go, oo + i * 5 + j, none⟩ = (opC xs[i])[j]?) : ∃ x : OpD, x ∈ xs ∧ w.cell? ⟨go, oo + k * 5, none⟩ = some (.bool x.hear) ∧ w.cell? ⟨go, oo + k * 5 + 1, none⟩ = some (.int .u8 x.verb) ∧ w.cell? ⟨go, oo + k * 5 + 2, none⟩ = some (.int .u8 x.opt) ∧ w.cell? ⟨go, oo + k * 5 + 3, none⟩ = some (.int .i64 x.side) ∧ w.cell? ⟨go, oo + k * 5 + 4, none⟩ = some (.bool x.on) :=
  ⟨xs[k], List.getElem_mem hk, h k hk 0 (by omega), h k hk 1 (by omega), h k hk 2 (by omega), h k hk 3 (by omega), h k hk 4 (by omega)⟩
set_option maxRecDepth 100000 in
set_option maxHeartbeats 4000000 in
theorem few_empty (u v : Value) (us hs : List Int) (x0 : Option Addr) (c0 : Nat) (w : World) (hu : Reads w u us) (hv : Reads w v hs) : Calls Try.prog 5 #[u, v, .slice x0 0 c0] w fun e w' => e = .returned (.bool true) ∧ Below w.heap.size w w' := by
  have HW := hid (oawake_true w)
  have HC1 := hid (fun W (h : Below w.heap.size w W) => show Calls Try.prog 9 #[u, .int .i64 20] W (OwnDone (us.take 20) W) from rcut_own u 20 (by omega) us W (reads_below hu h))
  have HC2 := hid (fun W (h : Below w.heap.size w W) => show Calls Try.prog 9 #[v, .int .i64 20] W (OwnDone (hs.take 20) W) from rcut_own v 20 (by omega) hs W (reads_below hv h))
  have hl1 : (us.take 20).length ≤ 20 := List.length_take_le _ _
  have hl2 : (hs.take 20).length ≤ 20 := List.length_take_le _ _
  generalize us.take 20 = ua at *
  generalize hs.take 20 = ub at *
  have HNW := hid (fun W p q (hp : OwnB W p ua) (hq : OwnB W q ub) => new_any p q ua ub W hp.reads hq.reads (by omega) (by omega))
  obtain ⟨x1, n1, c1, rfl⟩ := reads_any_slice hu
  obtain ⟨x2, n2, c2, rfl⟩ := reads_any_slice hv
  have hz := zero_array
  clear hu hv hl1 hl2
  go_enter Try.func5, Try.ntmps5
  go_wp2_with fail
  with_reducible refine HW.out.mono ?_
  rintro e w1 ⟨rfl, hb1⟩
  have HB1 := hid hb1
  clear hb1
  go_wp2_with fail
  with_reducible refine (HC1.out _ HB1.out).mono ?_
  rintro e w2 ⟨v2, rfl, ho2, hb2, hk2⟩
  obtain ⟨x3, n3, c3, rfl⟩ := own_slice ho2
  have HO2 := hid ho2
  have HB2 := hid (below_t HB1.out hb2)
  clear ho2 hb2 hk2
  go_wp2_with fail
  with_reducible refine (HC2.out _ HB2.out).mono ?_
  rintro e w3 ⟨v3, rfl, ho3, hb3, hk3⟩
  obtain ⟨x4, n4, c4, rfl⟩ := own_slice ho3
  have HO3 := hid ho3
  have HO2b := hid (HO2.out.step hb3)
  have HB3 := hid (below_t HB2.out hb3)
  clear ho3 hb3 hk3
  go_wp2_with fail
  with_reducible refine (HNW.out _ _ _ HO2b.out HO3.out).mono ?_
  rintro e w4 ⟨rfl, hm4, hb4⟩
  obtain ⟨g, hg⟩ : ∃ g, g = w3.heap.size := ⟨_, rfl⟩
  rw [← hg] at hm4 ⊢
  have g0 : w.heap.size ≤ g := by rw [hg]; exact HB3.out.size
  have g1 : g < w4.heap.size := hm4.lt
  have g2 : w.heap.size ≤ w4.heap.size := by omega
  obtain ⟨W5, hW5⟩ : ∃ W5, W5 = (w4.alloc (.cells zeroA 47)).alloc (.cells zeroA 47) := ⟨_, rfl⟩
  have hb5 := bal (bal (below_t HB3.out hb4) (.cells zeroA 47)) (.cells zeroA 47)
  have hm5 := hm4.step (bal (bal (Below.refl w4.heap.size w4) (.cells zeroA 47)) (.cells zeroA 47))
  have hh5 := (Arr.new w4 47).moved (Moved.alloc _ (.cells zeroA 47) []) (fun h => by cases h)
  have hs5 := Arr.new (w4.alloc (.cells zeroA 47)) 47
  rw [World.size_alloc] at hs5
  rw [← hW5] at hb5 hm5 hh5 hs5
  have HB5 := hid hb5
  have HI5 := hid (show FewI W5 g w4.heap.size (w4.heap.size + 1) (agN ua ub) 0 from ⟨_, _, _, hm5, hh5, hs5, fun i => ⟨Int.le_refl _, Int.le_refl _, Int.le_refl _⟩⟩)
  have HW5 := hid hW5
  clear hW5 hm4 hb4 hb5 hm5 hh5 hs5 hg
  go_wp2
  rw [← HW5.out]
  clear HW5 hz
  obtain ⟨G, hG⟩ : ∃ G, G = w4.heap.size := ⟨_, rfl⟩
  rw [← hG] at HI5 g1 g2 ⊢
  clear hG
  go_loopw [24] (fun i W => ∃ k : Nat, k ≤ 0 ∧ k ≤ 60 ∧ i = .int .i64 k ∧ Hid (FewI W g G (G + 1) (agN ua ub) k) ∧ Hid (Below w.heap.size w W)) (fun i _ => 0 - (intOf i).toNat)
  case atStart => exact ⟨0, Nat.zero_le _, Nat.zero_le _, rfl, HI5.out, HB5.out⟩
  case round =>
    obtain ⟨k, hk, hk6, rfl, HI, HB⟩ := hrel
    by_cases hlt : k < 0
    · exact absurd hlt (by omega)
    · obtain rfl : k = 0 := by omega
      go_wp2
      go_ret
      exact ⟨rfl, HB.out⟩
set_option maxRecDepth 100000 in
set_option maxHeartbeats 4000000 in
theorem few_row (u v : Value) (us hs : List Int) (xs : List OpD) (hf : ∀ x ∈ xs, OpFit x) (go oo n c0 : Nat) (hn : n = xs.length) (hnm : n ≤ maxLen) (w : World) (hu : Reads w u us) (hv : Reads w v hs) (hx : ∀ i (h : i < xs.length) j, j < 5 → w.cell? ⟨go, oo + i * 5 + j, none⟩ = (opC xs[i])[j]?) : Calls Try.prog 5 #[u, v, .slice (some ⟨go, oo, none⟩) n c0] w fun e w' => e = .returned (.bool true) ∧ Below w.heap.size w w' := by
  have HOP := hid (fun k (h : k < n) => op_at (hn ▸ h) hx)
  have HFX := hid hf
  unfold maxLen at hnm
  clear hx hf hn
  have HW := hid (oawake_true w)
  have HC1 := hid (fun W (h : Below w.heap.size w W) => show Calls Try.prog 9 #[u, .int .i64 20] W (OwnDone (us.take 20) W) from rcut_own u 20 (by omega) us W (reads_below hu h))
  have HC2 := hid (fun W (h : Below w.heap.size w W) => show Calls Try.prog 9 #[v, .int .i64 20] W (OwnDone (hs.take 20) W) from rcut_own v 20 (by omega) hs W (reads_below hv h))
  have hl1 : (us.take 20).length ≤ 20 := List.length_take_le _ _
  have hl2 : (hs.take 20).length ≤ 20 := List.length_take_le _ _
  generalize us.take 20 = ua at *
  generalize hs.take 20 = ub at *
  have HNW := hid (fun W p q (hp : OwnB W p ua) (hq : OwnB W q ub) => new_any p q ua ub W hp.reads hq.reads (by omega) (by omega))
  obtain ⟨x1, n1, c1, rfl⟩ := reads_any_slice hu
  obtain ⟨x2, n2, c2, rfl⟩ := reads_any_slice hv
  have hz := zero_array
  clear hu hv hl1 hl2
  go_enter Try.func5, Try.ntmps5
  go_wp2_with fail
  with_reducible refine HW.out.mono ?_
  rintro e w1 ⟨rfl, hb1⟩
  have HB1 := hid hb1
  clear hb1
  go_wp2_with fail
  with_reducible refine (HC1.out _ HB1.out).mono ?_
  rintro e w2 ⟨v2, rfl, ho2, hb2, hk2⟩
  obtain ⟨x3, n3, c3, rfl⟩ := own_slice ho2
  have HO2 := hid ho2
  have HB2 := hid (below_t HB1.out hb2)
  clear ho2 hb2 hk2
  go_wp2_with fail
  with_reducible refine (HC2.out _ HB2.out).mono ?_
  rintro e w3 ⟨v3, rfl, ho3, hb3, hk3⟩
  obtain ⟨x4, n4, c4, rfl⟩ := own_slice ho3
  have HO3 := hid ho3
  have HO2b := hid (HO2.out.step hb3)
  have HB3 := hid (below_t HB2.out hb3)
  clear ho3 hb3 hk3
  go_wp2_with fail
  with_reducible refine (HNW.out _ _ _ HO2b.out HO3.out).mono ?_
  rintro e w4 ⟨rfl, hm4, hb4⟩
  obtain ⟨g, hg⟩ : ∃ g, g = w3.heap.size := ⟨_, rfl⟩
  rw [← hg] at hm4 ⊢
  have g0 : w.heap.size ≤ g := by rw [hg]; exact HB3.out.size
  have g1 : g < w4.heap.size := hm4.lt
  have g2 : w.heap.size ≤ w4.heap.size := by omega
  obtain ⟨W5, hW5⟩ : ∃ W5, W5 = (w4.alloc (.cells zeroA 47)).alloc (.cells zeroA 47) := ⟨_, rfl⟩
  have hb5 := bal (bal (below_t HB3.out hb4) (.cells zeroA 47)) (.cells zeroA 47)
  have hm5 := hm4.step (bal (bal (Below.refl w4.heap.size w4) (.cells zeroA 47)) (.cells zeroA 47))
  have hh5 := (Arr.new w4 47).moved (Moved.alloc _ (.cells zeroA 47) []) (fun h => by cases h)
  have hs5 := Arr.new (w4.alloc (.cells zeroA 47)) 47
  rw [World.size_alloc] at hs5
  rw [← hW5] at hb5 hm5 hh5 hs5
  have HB5 := hid hb5
  have HI5 := hid (show FewI W5 g w4.heap.size (w4.heap.size + 1) (agN ua ub) 0 from ⟨_, _, _, hm5, hh5, hs5, fun i => ⟨Int.le_refl _, Int.le_refl _, Int.le_refl _⟩⟩)
  have HW5 := hid hW5
  clear hW5 hm4 hb4 hb5 hm5 hh5 hs5 hg
  go_wp2
  rw [← HW5.out]
  clear HW5 hz
  obtain ⟨G, hG⟩ : ∃ G, G = w4.heap.size := ⟨_, rfl⟩
  rw [← hG] at HI5 g1 g2 ⊢
  clear hG
  go_loopw [24] (fun i W => ∃ k : Nat, k ≤ n ∧ k ≤ 60 ∧ i = .int .i64 k ∧ Hid (FewI W g G (G + 1) (agN ua ub) k) ∧ Hid (Below w.heap.size w W)) (fun i _ => n - (intOf i).toNat)
  case atStart => exact ⟨0, Nat.zero_le _, Nat.zero_le _, rfl, HI5.out, HB5.out⟩
  case round =>
    obtain ⟨k, hk, hk6, rfl, HI, HB⟩ := hrel
    by_cases hlt : k < n
    · obtain ⟨x, hxm, o0, o1, o2, o3, o4⟩ := HOP.out k hlt
      obtain ⟨f1, f2, f3, f4⟩ := HFX.out x hxm
      have o0 := keepc HB.out o0
      have o1 := keepc HB.out o1
      have o2 := keepc HB.out o2
      have o3 := keepc HB.out o3
      have o4 := keepc HB.out o4
      obtain ⟨xh, xv, xo, xs', xn⟩ := x
      simp only at o0 o1 o2 o3 o4 f1 f2 f3 f4
      have hki : (k : Int) < n := by omega
      clear hxm
      by_cases h60 : k < 60
      · have k60 : ¬ (60 : Int) ≤ k := by omega
        obtain ⟨st, H, S, hm, hH, hS, hq⟩ := HI.out
        have lG := hH.lt
        have lS := hS.lt
        cases xh
        · have hmm : True := trivial
          have hm1 := hm.step (bal (Below.refl wr.heap.size wr) (.cells #[.bool false, .int .u8 xv, .int .u8 xo, .int .i64 xs', .bool xn] 32))
          have HCALL := hid (ask_step g (agN ua ub) st xs' xo f2 xn _ hm1)
          have HBX := hid (bal HB.out (.cells #[.bool false, .int .u8 xv, .int .u8 xo, .int .i64 xs', .bool xn] 32))
          have HM := hid hm
          clear hm hm1
          go_wp2_with fail
          with_reducible refine HCALL.out.mono ?_
          rintro e w6 ⟨v6, er, m, st', rfl, hmv, hM6, hV6, hk6'⟩
          have b2 := cell_moved hV6 (a := ⟨wr.heap.size, 2, none⟩) (v := .int .u8 xo) (by simp [go_sem]) (fun h => by have h' : wr.heap.size = g := List.mem_singleton.1 h; omega)
          have hH6 := hH.moved ((Moved.alloc wr _ [g]).trans hV6) (fun h => by have h' : G = g := List.mem_singleton.1 h; omega)
          have hS6 := hS.moved ((Moved.alloc wr _ [g]).trans hV6) (fun h => by have h' : G + 1 = g := List.mem_singleton.1 h; omega)
          have hB6 := hid (Moved.grow HBX.out hV6 g0)
          have hbb : wr.heap.size < w6.heap.size := by have := hV6.size; simp at this; omega
          have HM6 := hid hM6
          have HV6 := hid hV6
          clear hM6 hV6
          have ch := hH6.c xo f2
          have fh := hH6.fr xo f2
          have cs := hS6.c xo f2
          have fs := hS6.fr xo f2
          obtain ⟨q1, q2, q3⟩ := hq xo
          have HQ := hid hq
          have HH6 := hid hH6
          have HS6 := hid hS6
          obtain ⟨hh, hhe⟩ : ∃ x, x = H xo := ⟨_, rfl⟩
          obtain ⟨ss, sse⟩ : ∃ x, x = S xo := ⟨_, rfl⟩
          rw [← hhe] at ch q2 q3
          rw [← sse] at cs q1 q2
          have HHE := hid hhe
          have HSE := hid sse
          clear hhe sse hq hH6 hS6 hH hS
          have lgG : g ≠ G := by omega
          have lgS : g ≠ G + 1 := by omega
          have lGS : G ≠ G + 1 := by omega
          have lB1 : wr.heap.size ≠ G := by omega
          have lB2 : wr.heap.size ≠ G + 1 := by omega
          rcases hmv with ⟨rfl, rfl⟩ | ⟨rfl, b, x, x0, x1, rfl, d0, d1⟩
          · have HI7 := hid (few_next (M := 0) HM6.out HH6.out HS6.out HQ.out f2 lgG lgS lGS)
            rw [← HHE.out, ← HSE.out] at HI7
            rw [show ss + ((0 : Nat) : Int) = ss by simp] at HI7
            have HB7 := hid (Below.setCell (Below.setCell hB6.out (p := ⟨G, xo, none⟩) (by show _ ≤ G; omega) (.int .i64 (hh + 1))) (p := ⟨G + 1, xo, none⟩) (by show _ ≤ G + 1; omega) (.int .i64 (ss)))
            have HC7 := hid (few_cells (o := xo) (hh := hh + 1) (ss := ss) ch cs b2 lGS lB1 lB2)
            clear hk6'
            go_wp2
            revert HI7 HB7 HC7
            generalize hW : (w6.setCell ⟨G, xo, none⟩ (.int .i64 (hh + 1))).setCell ⟨G + 1, xo, none⟩ (.int .i64 (ss)) = W7
            intro HI7 HB7 HC7
            clear hW
            have hcmp : ¬ hh + 1 < ss := by omega
            have xi1 : (xo : Int) < 256 := by omega
            have xi0 : (0 : Int) ≤ xo := by omega
            go_region_held3 (fun w' => w'.cell? ⟨wr.heap.size, 2, none⟩ = some (.int .u8 xo) ∧ w'.cell? ⟨G, xo, none⟩ = some (.int .i64 (hh + 1)) ∧ w'.cell? ⟨G + 1, xo, none⟩ = some (.int .i64 (ss))) (first | exact ⟨HC7.out.2.2, HC7.out.1, HC7.out.2.1⟩ | assumption | fail) (first | fail)
            rename_i hH15
            clear hH15
            have HI8 := hid (FewI.step HI7.out (Below.refl W7.heap.size W7).drew)
            have HB8 := hid HB7.out.drew
            have e2 : W7.drew.cell? ⟨wr.heap.size, 2, none⟩ = some (.int .u8 xo) := HC7.out.2.2
            obtain ⟨W8, hW8⟩ : ∃ W, W = W7.drew := ⟨_, rfl⟩
            rw [← hW8] at HI8 HB8 e2 ⊢
            clear hW8 HI7 HB7 HC7 hcmp ch cs fh fs
            go_wp2
            go_loopw [78] (fun i W => i = .int .i64 0 ∧ W = W8) (fun _ _ => 0)
            case atStart => exact ⟨rfl, rfl⟩
            case round =>
              obtain ⟨rfl, rfl⟩ := hrel
              go_wp2
              go_roundw
              case rel => exact ⟨k + 1, by omega, by omega, by go_num, hid (by simpa using HI8.out), HB8.out⟩
              case measure => simp [intOf]; omega
          · have HI7 := hid (few_next (M := 1) HM6.out HH6.out HS6.out HQ.out f2 lgG lgS lGS)
            rw [← HHE.out, ← HSE.out] at HI7
            rw [show ss + ((1 : Nat) : Int) = ss + 1 by simp] at HI7
            have HB7 := hid (Below.setCell (Below.setCell hB6.out (p := ⟨G, xo, none⟩) (by show _ ≤ G; omega) (.int .i64 (hh + 1))) (p := ⟨G + 1, xo, none⟩) (by show _ ≤ G + 1; omega) (.int .i64 (ss + 1)))
            have HC7 := hid (few_cells (o := xo) (hh := hh + 1) (ss := ss + 1) ch cs b2 lGS lB1 lB2)
            have lb1 : b ≠ G := by have := hk6' b (by simp [blkV, Value.ownBlock]); simp at this; omega
            have lb2 : b ≠ G + 1 := by have := hk6' b (by simp [blkV, Value.ownBlock]); simp at this; omega
            have HD7 := hid (few_msg (o := xo) (hh := hh + 1) (ss := ss + 1) (G := G) d0 d1 lb1 lb2)
            clear hk6'
            go_wp2
            revert HI7 HB7 HC7 HD7
            generalize hW : (w6.setCell ⟨G, xo, none⟩ (.int .i64 (hh + 1))).setCell ⟨G + 1, xo, none⟩ (.int .i64 (ss + 1)) = W7
            intro HI7 HB7 HC7 HD7
            clear hW d0 d1
            have hcmp : ¬ hh + 1 < ss + 1 := by omega
            have xi1 : (xo : Int) < 256 := by omega
            have xi0 : (0 : Int) ≤ xo := by omega
            go_region_held3 (fun w' => w'.cell? ⟨wr.heap.size, 2, none⟩ = some (.int .u8 xo) ∧ w'.cell? ⟨G, xo, none⟩ = some (.int .i64 (hh + 1)) ∧ w'.cell? ⟨G + 1, xo, none⟩ = some (.int .i64 (ss + 1))) (first | exact ⟨HC7.out.2.2, HC7.out.1, HC7.out.2.1⟩ | assumption | fail) (first | fail)
            rename_i hH15
            clear hH15
            have HI8 := hid (FewI.step HI7.out (Below.refl W7.heap.size W7).drew)
            have HB8 := hid HB7.out.drew
            have e2 : W7.drew.cell? ⟨wr.heap.size, 2, none⟩ = some (.int .u8 xo) := HC7.out.2.2
            have d0 : W7.drew.cell? ⟨b, 0, none⟩ = some (.int .u8 x) := HD7.out.1
            have d1 : W7.drew.cell? ⟨b, 1, none⟩ = some (.int .u8 xo) := HD7.out.2
            obtain ⟨W8, hW8⟩ : ∃ W, W = W7.drew := ⟨_, rfl⟩
            rw [← hW8] at HI8 HB8 e2 d0 d1 ⊢
            clear hW8 HI7 HB7 HC7 hcmp ch cs fh fs
            go_wp2
            generalize wr.heap.size = B at e2 ⊢
            have HE8 := hid (And.intro e2 (And.intro d0 d1))
            clear e2 d0 d1
            go_loopw [78] (fun i W => ∃ j : Nat, j ≤ 1 ∧ i = .int .i64 j ∧ Hid (FewI W g G (G + 1) (agN ua ub) ((k : Int) + 1)) ∧ Hid (Below w.heap.size w W) ∧ Hid (W.cell? ⟨B, 2, none⟩ = some (.int .u8 xo) ∧ W.cell? ⟨b, 0, none⟩ = some (.int .u8 x) ∧ W.cell? ⟨b, 1, none⟩ = some (.int .u8 xo))) (fun i _ => 1 - (intOf i).toNat)
            case atStart => exact ⟨0, by omega, rfl, HI8.out, HB8.out, HE8.out⟩
            case round =>
              obtain ⟨j, hj, rfl, HI9, HB9, HE9⟩ := hrel
              by_cases hj0 : j = 0
              · subst hj0
                obtain ⟨e2, d0, d1⟩ := HE9.out
                have hlB : B < wr.heap.size := World.block_lt_of_cell? wr _ e2
                have HBX9 := hid (bal (Below.refl wr.heap.size wr) (.cells #[.int .u8 x, .int .u8 xo] 66))
                have HMB := hid (fun W => mbytes_any x xo ⟨x0, x1⟩ ⟨xi0, xi1⟩ W)
                have HS9 := hid (show Reg20 wr (wr.alloc (.cells #[.int .u8 x, .int .u8 xo] 66)) B wr.heap.size x xo from ⟨keepc HBX9.out e2, by simp [go_sem], by simp [go_sem], HBX9.out⟩)
                have HLF : Hid (∀ y ∈ ([255, x, (xo : Int)] : List Int), 0 ≤ y ∧ y < 256) := fun y hy => by simp at hy; omega
                have HSA := hid (fun (W : World) v (h : OwnB W v [255, x, (xo : Int)]) => same_true v (.slice (some ⟨W.heap.size, 0, none⟩) 3 3) [255, x, (xo : Int)] (W.alloc (.cells #[.int .u8 255, .int .u8 x, .int .u8 (xo : Int)] 5)) (OwnB.step h (bal (Below.refl _ _) _)).reads (own_lit W _ 3 _ HLF.out rfl rfl (by omega) _ rfl).reads)
                have HSB := hid (fun W' v (h : OwnB W' v [255, x, (xo : Int)]) (hb : Below (((wr.alloc (.cells #[.int .u8 x, .int .u8 xo] 66)).alloc (.cells #[.int .u8 255, .int .u8 x, .int .u8 xo] 5)).drew).heap.size (((wr.alloc (.cells #[.int .u8 x, .int .u8 xo] 66)).alloc (.cells #[.int .u8 255, .int .u8 x, .int .u8 xo] 5)).drew) W') => same_true v (.slice (some ⟨wr.heap.size + 1, 0, none⟩) 3 3) [255, x, (xo : Int)] W' h.reads (((own_lit (wr.alloc (.cells #[.int .u8 x, .int .u8 xo] 66)) _ 3 _ HLF.out rfl rfl (by omega) (wr.heap.size + 1) (by simp)).step (Below.refl _ _).drew).step hb).reads)
                go_wp2
                go_region_held3 (fun w' => w'.cell? ⟨B, 2, none⟩ = some (.int .u8 xo) ∧ w'.cell? ⟨wr.heap.size, 0, none⟩ = some (.int .u8 x) ∧ w'.cell? ⟨wr.heap.size, 1, none⟩ = some (.int .u8 xo) ∧ Below wr.heap.size wr w') (first | exact Reg20.drew HS9.out | assumption | exact Reg20.kept (by first | assumption | exact Reg20.drew HS9.out) (by assumption) | exact Reg20.alloc (by first | assumption | exact Reg20.drew HS9.out) | exact Reg20.alloc (Reg20.kept (by first | assumption | exact Reg20.drew HS9.out) (by assumption)) | exact Reg20.kept (Reg20.alloc (by first | assumption | exact Reg20.drew HS9.out)) (by assumption) | fail) (first | (go_at_call 25; (with_reducible refine (HMB.out _).mono ?_); rintro e w10 ⟨v10, rfl, ho10, hb10, hk10⟩) | (go_at_call 24; (with_reducible refine (HSA.out _ _ ho10).mono ?_); rintro e w11 ⟨rfl, rfl⟩) | (go_at_call 24; (with_reducible refine (HSB.out _ _ ho10 hb10).mono ?_); rintro e w11 ⟨rfl, rfl⟩) | fail)
                all_goals
                  rename_i hH20
                  have HI10 := hid (HI9.out.step hH20.2.2.2)
                  have HB10 := hid (below_t HB9.out hH20.2.2.2)
                  have HE10 := hid (show _ ∧ _ ∧ _ from ⟨keepc hH20.2.2.2 e2, keepc hH20.2.2.2 d0, keepc hH20.2.2.2 d1⟩)
                  clear hH20 hb10 ho10 hk10
                  go_wp2
                  go_roundw
                  case rel => exact ⟨1, by omega, rfl, HI10.out, HB10.out, HE10.out⟩
                  case measure => simp [intOf]
              · obtain rfl : j = 1 := by omega
                go_wp2
                go_roundw
                case rel => exact ⟨k + 1, by omega, by omega, by go_num, hid (by simpa using HI9.out), HB9.out⟩
                case measure => simp [intOf]; omega
        · have hmm : True := trivial
          have hm1 := hm.step (bal (Below.refl wr.heap.size wr) (.cells #[.bool true, .int .u8 xv, .int .u8 xo, .int .i64 xs', .bool xn] 32))
          have HCALL := hid (hear_step g (agN ua ub) st xv xo f2 _ hm1)
          have HBX := hid (bal HB.out (.cells #[.bool true, .int .u8 xv, .int .u8 xo, .int .i64 xs', .bool xn] 32))
          have HM := hid hm
          clear hm hm1
          go_wp2_with fail
          with_reducible refine HCALL.out.mono ?_
          rintro e w6 ⟨v6, er, m, st', rfl, hmv, hM6, hV6, hk6'⟩
          have b2 := cell_moved hV6 (a := ⟨wr.heap.size, 2, none⟩) (v := .int .u8 xo) (by simp [go_sem]) (fun h => by have h' : wr.heap.size = g := List.mem_singleton.1 h; omega)
          have hH6 := hH.moved ((Moved.alloc wr _ [g]).trans hV6) (fun h => by have h' : G = g := List.mem_singleton.1 h; omega)
          have hS6 := hS.moved ((Moved.alloc wr _ [g]).trans hV6) (fun h => by have h' : G + 1 = g := List.mem_singleton.1 h; omega)
          have hB6 := hid (Moved.grow HBX.out hV6 g0)
          have hbb : wr.heap.size < w6.heap.size := by have := hV6.size; simp at this; omega
          have HM6 := hid hM6
          have HV6 := hid hV6
          clear hM6 hV6
          have ch := hH6.c xo f2
          have fh := hH6.fr xo f2
          have cs := hS6.c xo f2
          have fs := hS6.fr xo f2
          obtain ⟨q1, q2, q3⟩ := hq xo
          have HQ := hid hq
          have HH6 := hid hH6
          have HS6 := hid hS6
          obtain ⟨hh, hhe⟩ : ∃ x, x = H xo := ⟨_, rfl⟩
          obtain ⟨ss, sse⟩ : ∃ x, x = S xo := ⟨_, rfl⟩
          rw [← hhe] at ch q2 q3
          rw [← sse] at cs q1 q2
          have HHE := hid hhe
          have HSE := hid sse
          clear hhe sse hq hH6 hS6 hH hS
          have lgG : g ≠ G := by omega
          have lgS : g ≠ G + 1 := by omega
          have lGS : G ≠ G + 1 := by omega
          have lB1 : wr.heap.size ≠ G := by omega
          have lB2 : wr.heap.size ≠ G + 1 := by omega
          rcases hmv with ⟨rfl, rfl⟩ | ⟨rfl, b, x, x0, x1, rfl, d0, d1⟩
          · have HI7 := hid (few_next (M := 0) HM6.out HH6.out HS6.out HQ.out f2 lgG lgS lGS)
            rw [← HHE.out, ← HSE.out] at HI7
            rw [show ss + ((0 : Nat) : Int) = ss by simp] at HI7
            have HB7 := hid (Below.setCell (Below.setCell hB6.out (p := ⟨G, xo, none⟩) (by show _ ≤ G; omega) (.int .i64 (hh + 1))) (p := ⟨G + 1, xo, none⟩) (by show _ ≤ G + 1; omega) (.int .i64 (ss)))
            have HC7 := hid (few_cells (o := xo) (hh := hh + 1) (ss := ss) ch cs b2 lGS lB1 lB2)
            clear hk6'
            go_wp2
            revert HI7 HB7 HC7
            generalize hW : (w6.setCell ⟨G, xo, none⟩ (.int .i64 (hh + 1))).setCell ⟨G + 1, xo, none⟩ (.int .i64 (ss)) = W7
            intro HI7 HB7 HC7
            clear hW
            have hcmp : ¬ hh + 1 < ss := by omega
            have xi1 : (xo : Int) < 256 := by omega
            have xi0 : (0 : Int) ≤ xo := by omega
            go_region_held3 (fun w' => w'.cell? ⟨wr.heap.size, 2, none⟩ = some (.int .u8 xo) ∧ w'.cell? ⟨G, xo, none⟩ = some (.int .i64 (hh + 1)) ∧ w'.cell? ⟨G + 1, xo, none⟩ = some (.int .i64 (ss))) (first | exact ⟨HC7.out.2.2, HC7.out.1, HC7.out.2.1⟩ | assumption | fail) (first | fail)
            rename_i hH15
            clear hH15
            have HI8 := hid (FewI.step HI7.out (Below.refl W7.heap.size W7).drew)
            have HB8 := hid HB7.out.drew
            have e2 : W7.drew.cell? ⟨wr.heap.size, 2, none⟩ = some (.int .u8 xo) := HC7.out.2.2
            obtain ⟨W8, hW8⟩ : ∃ W, W = W7.drew := ⟨_, rfl⟩
            rw [← hW8] at HI8 HB8 e2 ⊢
            clear hW8 HI7 HB7 HC7 hcmp ch cs fh fs
            go_wp2
            go_loopw [78] (fun i W => i = .int .i64 0 ∧ W = W8) (fun _ _ => 0)
            case atStart => exact ⟨rfl, rfl⟩
            case round =>
              obtain ⟨rfl, rfl⟩ := hrel
              go_wp2
              go_roundw
              case rel => exact ⟨k + 1, by omega, by omega, by go_num, hid (by simpa using HI8.out), HB8.out⟩
              case measure => simp [intOf]; omega
          · have HI7 := hid (few_next (M := 1) HM6.out HH6.out HS6.out HQ.out f2 lgG lgS lGS)
            rw [← HHE.out, ← HSE.out] at HI7
            rw [show ss + ((1 : Nat) : Int) = ss + 1 by simp] at HI7
            have HB7 := hid (Below.setCell (Below.setCell hB6.out (p := ⟨G, xo, none⟩) (by show _ ≤ G; omega) (.int .i64 (hh + 1))) (p := ⟨G + 1, xo, none⟩) (by show _ ≤ G + 1; omega) (.int .i64 (ss + 1)))
            have HC7 := hid (few_cells (o := xo) (hh := hh + 1) (ss := ss + 1) ch cs b2 lGS lB1 lB2)
            have lb1 : b ≠ G := by have := hk6' b (by simp [blkV, Value.ownBlock]); simp at this; omega
            have lb2 : b ≠ G + 1 := by have := hk6' b (by simp [blkV, Value.ownBlock]); simp at this; omega
            have HD7 := hid (few_msg (o := xo) (hh := hh + 1) (ss := ss + 1) (G := G) d0 d1 lb1 lb2)
            clear hk6'
            go_wp2
            revert HI7 HB7 HC7 HD7
            generalize hW : (w6.setCell ⟨G, xo, none⟩ (.int .i64 (hh + 1))).setCell ⟨G + 1, xo, none⟩ (.int .i64 (ss + 1)) = W7
            intro HI7 HB7 HC7 HD7
            clear hW d0 d1
            have hcmp : ¬ hh + 1 < ss + 1 := by omega
            have xi1 : (xo : Int) < 256 := by omega
            have xi0 : (0 : Int) ≤ xo := by omega
            go_region_held3 (fun w' => w'.cell? ⟨wr.heap.size, 2, none⟩ = some (.int .u8 xo) ∧ w'.cell? ⟨G, xo, none⟩ = some (.int .i64 (hh + 1)) ∧ w'.cell? ⟨G + 1, xo, none⟩ = some (.int .i64 (ss + 1))) (first | exact ⟨HC7.out.2.2, HC7.out.1, HC7.out.2.1⟩ | assumption | fail) (first | fail)
            rename_i hH15
            clear hH15
            have HI8 := hid (FewI.step HI7.out (Below.refl W7.heap.size W7).drew)
            have HB8 := hid HB7.out.drew
            have e2 : W7.drew.cell? ⟨wr.heap.size, 2, none⟩ = some (.int .u8 xo) := HC7.out.2.2
            have d0 : W7.drew.cell? ⟨b, 0, none⟩ = some (.int .u8 x) := HD7.out.1
            have d1 : W7.drew.cell? ⟨b, 1, none⟩ = some (.int .u8 xo) := HD7.out.2
            obtain ⟨W8, hW8⟩ : ∃ W, W = W7.drew := ⟨_, rfl⟩
            rw [← hW8] at HI8 HB8 e2 d0 d1 ⊢
            clear hW8 HI7 HB7 HC7 hcmp ch cs fh fs
            go_wp2
            generalize wr.heap.size = B at e2 ⊢
            have HE8 := hid (And.intro e2 (And.intro d0 d1))
            clear e2 d0 d1
            go_loopw [78] (fun i W => ∃ j : Nat, j ≤ 1 ∧ i = .int .i64 j ∧ Hid (FewI W g G (G + 1) (agN ua ub) ((k : Int) + 1)) ∧ Hid (Below w.heap.size w W) ∧ Hid (W.cell? ⟨B, 2, none⟩ = some (.int .u8 xo) ∧ W.cell? ⟨b, 0, none⟩ = some (.int .u8 x) ∧ W.cell? ⟨b, 1, none⟩ = some (.int .u8 xo))) (fun i _ => 1 - (intOf i).toNat)
            case atStart => exact ⟨0, by omega, rfl, HI8.out, HB8.out, HE8.out⟩
            case round =>
              obtain ⟨j, hj, rfl, HI9, HB9, HE9⟩ := hrel
              by_cases hj0 : j = 0
              · subst hj0
                obtain ⟨e2, d0, d1⟩ := HE9.out
                have hlB : B < wr.heap.size := World.block_lt_of_cell? wr _ e2
                have HBX9 := hid (bal (Below.refl wr.heap.size wr) (.cells #[.int .u8 x, .int .u8 xo] 66))
                have HMB := hid (fun W => mbytes_any x xo ⟨x0, x1⟩ ⟨xi0, xi1⟩ W)
                have HS9 := hid (show Reg20 wr (wr.alloc (.cells #[.int .u8 x, .int .u8 xo] 66)) B wr.heap.size x xo from ⟨keepc HBX9.out e2, by simp [go_sem], by simp [go_sem], HBX9.out⟩)
                have HLF : Hid (∀ y ∈ ([255, x, (xo : Int)] : List Int), 0 ≤ y ∧ y < 256) := fun y hy => by simp at hy; omega
                have HSA := hid (fun (W : World) v (h : OwnB W v [255, x, (xo : Int)]) => same_true v (.slice (some ⟨W.heap.size, 0, none⟩) 3 3) [255, x, (xo : Int)] (W.alloc (.cells #[.int .u8 255, .int .u8 x, .int .u8 (xo : Int)] 5)) (OwnB.step h (bal (Below.refl _ _) _)).reads (own_lit W _ 3 _ HLF.out rfl rfl (by omega) _ rfl).reads)
                have HSB := hid (fun W' v (h : OwnB W' v [255, x, (xo : Int)]) (hb : Below (((wr.alloc (.cells #[.int .u8 x, .int .u8 xo] 66)).alloc (.cells #[.int .u8 255, .int .u8 x, .int .u8 xo] 5)).drew).heap.size (((wr.alloc (.cells #[.int .u8 x, .int .u8 xo] 66)).alloc (.cells #[.int .u8 255, .int .u8 x, .int .u8 xo] 5)).drew) W') => same_true v (.slice (some ⟨wr.heap.size + 1, 0, none⟩) 3 3) [255, x, (xo : Int)] W' h.reads (((own_lit (wr.alloc (.cells #[.int .u8 x, .int .u8 xo] 66)) _ 3 _ HLF.out rfl rfl (by omega) (wr.heap.size + 1) (by simp)).step (Below.refl _ _).drew).step hb).reads)
                go_wp2
                go_region_held3 (fun w' => w'.cell? ⟨B, 2, none⟩ = some (.int .u8 xo) ∧ w'.cell? ⟨wr.heap.size, 0, none⟩ = some (.int .u8 x) ∧ w'.cell? ⟨wr.heap.size, 1, none⟩ = some (.int .u8 xo) ∧ Below wr.heap.size wr w') (first | exact Reg20.drew HS9.out | assumption | exact Reg20.kept (by first | assumption | exact Reg20.drew HS9.out) (by assumption) | exact Reg20.alloc (by first | assumption | exact Reg20.drew HS9.out) | exact Reg20.alloc (Reg20.kept (by first | assumption | exact Reg20.drew HS9.out) (by assumption)) | exact Reg20.kept (Reg20.alloc (by first | assumption | exact Reg20.drew HS9.out)) (by assumption) | fail) (first | (go_at_call 25; (with_reducible refine (HMB.out _).mono ?_); rintro e w10 ⟨v10, rfl, ho10, hb10, hk10⟩) | (go_at_call 24; (with_reducible refine (HSA.out _ _ ho10).mono ?_); rintro e w11 ⟨rfl, rfl⟩) | (go_at_call 24; (with_reducible refine (HSB.out _ _ ho10 hb10).mono ?_); rintro e w11 ⟨rfl, rfl⟩) | fail)
                all_goals
                  rename_i hH20
                  have HI10 := hid (HI9.out.step hH20.2.2.2)
                  have HB10 := hid (below_t HB9.out hH20.2.2.2)
                  have HE10 := hid (show _ ∧ _ ∧ _ from ⟨keepc hH20.2.2.2 e2, keepc hH20.2.2.2 d0, keepc hH20.2.2.2 d1⟩)
                  clear hH20 hb10 ho10 hk10
                  go_wp2
                  go_roundw
                  case rel => exact ⟨1, by omega, rfl, HI10.out, HB10.out, HE10.out⟩
                  case measure => simp [intOf]
              · obtain rfl : j = 1 := by omega
                go_wp2
                go_roundw
                case rel => exact ⟨k + 1, by omega, by omega, by go_num, hid (by simpa using HI9.out), HB9.out⟩
                case measure => simp [intOf]; omega
      · have k60 : (60 : Int) ≤ k := by omega
        go_wp2
        go_ret
        exact ⟨rfl, bal HB.out _⟩
    · obtain rfl : k = n := by omega
      go_wp2
      go_ret
      exact ⟨rfl, HB.out⟩
end Go.Proofs.Ytahminbgedmgcaa
