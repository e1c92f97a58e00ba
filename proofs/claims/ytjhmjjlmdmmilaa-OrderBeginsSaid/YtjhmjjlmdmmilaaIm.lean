/-
  OrderBegins: the law's own walk.
-/
import Derived.Test.YtjhmjjlmdmmilaaIl
namespace Go.Proofs.Ytjhmjjlmdmmilaa
open Go.RowKit Go.Lib

theorem same_no {kd1 ad1 cd1 kd2 ad2 cd2 fa1 fa2 : Int} {gr1 gr2 : Bool} {ps1 ps2 : List (Nat × Nat)} {tx1 tx2 : List Int} {k n : Nat}
    (h : OpD.mk kd1 ad1 cd1 gr1 fa1 ps1 tx1 = OpD.mk kd2 ad2 cd2 gr2 fa2 ps2 tx2 ∨ (k + 1 = n ∧ ∃ t j, OpD.mk kd2 ad2 cd2 gr2 fa2 ps2 tx2 = opT t ∧ OpD.mk kd1 ad1 cd1 gr1 fa1 ps1 tx1 = opT (t.take j) ∧ j ≤ t.length))
    (hn : ¬ (k + 1 = n ∧ kd1 = 0 ∧ kd2 = 0 ∧ tx1.length ≤ tx2.length)) : kd1 = kd2 ∧ ad1 = ad2 ∧ cd1 = cd2 ∧ gr1 = gr2 ∧ fa1 = fa2 ∧ ps1 = ps2 ∧ tx1 = tx2 := by
  rcases h with h | ⟨hk, t, j, h2, h1, hj⟩
  · cases h; exact ⟨rfl, rfl, rfl, rfl, rfl, rfl, rfl⟩
  · cases h1
    cases h2
    exact absurd ⟨hk, rfl, rfl, by rw [List.length_take]; omega⟩ hn
theorem same_yes {kd1 ad1 cd1 kd2 ad2 cd2 fa1 fa2 : Int} {gr1 gr2 : Bool} {ps1 ps2 : List (Nat × Nat)} {tx1 tx2 : List Int} {k n : Nat}
    (h : OpD.mk kd1 ad1 cd1 gr1 fa1 ps1 tx1 = OpD.mk kd2 ad2 cd2 gr2 fa2 ps2 tx2 ∨ (k + 1 = n ∧ ∃ t j, OpD.mk kd2 ad2 cd2 gr2 fa2 ps2 tx2 = opT t ∧ OpD.mk kd1 ad1 cd1 gr1 fa1 ps1 tx1 = opT (t.take j) ∧ j ≤ t.length)) :
    kd1 = kd2 ∧ ad1 = ad2 ∧ cd1 = cd2 ∧ gr1 = gr2 ∧ fa1 = fa2 ∧ ps1 = ps2 ∧ tx2.take tx1.length = tx1 := by
  rcases h with h | ⟨hk, t, j, h2, h1, hj⟩
  · cases h; exact ⟨rfl, rfl, rfl, rfl, rfl, rfl, List.take_length⟩
  · cases h1
    cases h2
    exact ⟨rfl, rfl, rfl, rfl, rfl, rfl, by rw [List.length_take, Nat.min_eq_left hj]⟩
set_option maxRecDepth 100000 in
set_option maxHeartbeats 4000000 in
theorem begins_any (v : Value) (zs0 : List Int) (nn : Nat) (hnn : nn < 65536) (w : World) (h : Reads w v zs0) : Calls Try.prog 4 #[v, .int .u16 nn] w fun e w' => e = .returned (.bool true) ∧ Below w.heap.size w w' := by
  have HA := hid (awake_any w)
  have HCU := hid (fun W (hb : Below w.heap.size w W) => show Calls Try.prog 10 #[v, .int .i64 300] W (OwnDone (zs0.take 300) W) from rcut_own v 300 (by omega) zs0 W (reads_below h hb))
  have hlz : (zs0.take 300).length ≤ 300 := by rw [List.length_take]; omega
  generalize zs0.take 300 = zs at HCU hlz
  obtain ⟨x0, c0, rfl⟩ := reads_sl h
  generalize zs0.length = n0 at HCU
  clear h
  obtain ⟨L, hL⟩ : ∃ L, zs.length = L := ⟨_, rfl⟩
  obtain ⟨m, hm⟩ : ∃ m, nn % (L + 1) = m := ⟨_, rfl⟩
  have hmL : m ≤ L := by have := Nat.mod_lt nn (show L + 1 > 0 by omega); omega
  rw [hL] at hlz
  have HEA := hid (show ∀ (xs ys : List OpV), xs.map OpV.d = (allF zs.length zs).1 → ys.map OpV.d = (allF (zs.take m).length (zs.take m)).1 → ys.length ≤ xs.length ∧ ∀ k (h : k < ys.length) (h' : k < xs.length), ys[k].d = xs[k].d ∨ (k + 1 = ys.length ∧ ∃ t j, xs[k].d = opT t ∧ ys[k].d = opT (t.take j) ∧ j ≤ t.length) from fun xs ys hx hy => agree_at (by omega) hx hy)
  have HEE := hid (agree_end (zs := zs) (m := m) (by omega))
  have hr1 : (nn : Int).tmod ((L : Int) + 1) = (m : Int) := by
    rw [Int.tmod_eq_emod_of_nonneg (by omega), ← hm]; push_cast; rfl
  have hr2 : (nn : Int) % ((L : Int) + 1) = (m : Int) := by rw [← hm]; push_cast; rfl
  have hw1 : IntKind.i64.wrap (nn : Int) = nn := IntWalk.i64_in _ (by omega)
  have hw2 : IntKind.i64.wrap ((L : Int) + 1) = (L : Int) + 1 := IntWalk.i64_in _ (by omega)
  have hw3 : IntKind.i64.wrap (m : Int) = m := IntWalk.i64_in _ (by omega)
  have hz1 : ¬ (L : Int) + 1 = 0 := by omega
  have hz2 : ((L : Int) + 1 == 0) = false := by simpa using hz1
  have HLL := hid hL
  have HML := hid hmL
  have HLZ := hid hlz
  clear hm hL hmL
  go_enter Try.func4, Try.ntmps4
  go_wp2_with fail
  with_reducible refine HA.out.mono ?_
  rintro e w1 ⟨rfl, hb1⟩
  have HB1 := hid hb1
  clear hb1
  go_wp2_with fail
  with_reducible refine (HCU.out _ HB1.out).mono ?_
  rintro e w2 ⟨v2, rfl, ho2, hb2, -⟩
  have HR2 := hid ho2.reads
  have HB2 := hid (below_t HB1.out hb2)
  obtain ⟨x2, c2, rfl⟩ := own_len ho2 L HLL.out
  clear ho2 hb2
  have HAL := hid (fun W (hb : Below w2.heap.size w2 W) => all_any _ zs W (reads_below HR2.out hb) (by rw [HLL.out]; have := HLZ.out; omega))
  go_wp2_with fail
  with_reducible refine (HAL.out _ (Below.refl _ _)).mono ?_
  rintro e w3 ⟨l1, xs, rfl, hx, ho, hb3, -⟩
  have HX := hid hx
  have HOX := hid ho
  have HB3 := hid hb3
  obtain ⟨xl, cl, hle⟩ := row_slice ho.row
  subst hle
  obtain ⟨q, hq0, hqr, -⟩ := run_to (reads_below HR2.out HB3.out) m (by rw [HLL.out]; exact HML.out)
  have hqs : (Instr.sliceAt 26 (.slice x2 L c2) none (some (.int .i64 m)) none).run Try.prog w3 = .ok q w3 := hq0
  have HAQ := hid (all_any q (zs.take m) w3 hqr (by rw [List.length_take]; have := HLZ.out; have := HLL.out; omega))
  obtain ⟨xq, cq, rfl⟩ := reads_sl hqr
  generalize (zs.take m).length = nq at HAQ hqs
  clear hx ho hb3 hq0 hqr
  go_wp2_with fail
  with_reducible refine HAQ.out.mono ?_
  rintro e w4 ⟨l2, ys, rfl, hy, ho4, hb4, -⟩
  have HY := hid hy
  have HOY := hid ho4
  have HOX4 := hid (HOX.out.step hb4)
  have HB4 := hid (below_t (below_t HB2.out HB3.out) hb4)
  obtain ⟨xk, ck, hke⟩ := row_slice ho4.row
  subst hke
  have HEA2 := hid (HEA.out xs ys HX.out HY.out)
  have hYX : ¬ xs.length < ys.length := by have := HEA2.out.1; omega
  have HE1 := HEE.out.1
  have HE2 := hid HEE.out.2
  generalize (allF (zs.take m).length (zs.take m)).2.1 = kk at HE1 HE2
  generalize (allF (zs.take m).length (zs.take m)).2.2 = er at HE2
  clear hy ho4 hb4 hqs
  have hkm : ¬ m < kk := by omega
  go_upto_region 6 with fail
  go_cut [66] (fun c wx => c = .bool false ∧ w4 = wx)
  case first =>
    by_cases he : er = 0
    · subst he
      obtain rfl := HE2.out rfl
      go_wp2_with fail
      go_meet
      exact ⟨rfl, rfl⟩
    · have e0 : (er == 0) = false := by simpa using he
      go_wp2_with fail
      go_meet
      exact ⟨rfl, rfl⟩
  case rest =>
    obtain ⟨hc1, hc2⟩ := hcut
    subst hc1 hc2
    clear HE1 HE2 hkm hr1 hr2 hw1 hw2 hw3 hz1 hz2
    have HYL := hid (show (ys.length : Int) ≤ 9223372036854775807 from by
      rcases HOY.out.row.2 with ⟨_, e⟩ | ⟨g, cap, cur, _, _, _, h1, h2, _⟩
      · omega
      · unfold maxLen at h2; omega)
    have HEK := hid (fun k (hk : k < ys.length) => show k < xs.length from by omega)
    go_wp2_with fail
    go_loopw [69] (fun i W => ∃ k : Nat, k ≤ ys.length ∧ i = .int .i64 k ∧ Hid (Below w4.heap.size w4 W)) (fun i _ => ys.length - (intOf i).toNat)
    case atStart => exact ⟨0, Nat.zero_le _, rfl, Below.refl _ _⟩
    case round =>
      obtain ⟨k, hk, rfl, HB⟩ := hrel
      by_cases hlt : k < ys.length
      · have hki : (k : Int) < ys.length := by omega
        have hkx := HEK.out k hlt
        have hkxi : (k : Int) < xs.length := by omega
        have HOYr := hid (HOY.out.step HB.out)
        have HOXr := hid (HOX4.out.step HB.out)
        obtain ⟨xk', ck', hke, hya⟩ := HOYr.out.at
        injection hke with hke1 _ hke3
        subst hke1 hke3
        obtain ⟨g8, hg8, hgl8, hc8⟩ := hya k hlt
        subst hg8
        obtain ⟨xl', cl', hle, hxa⟩ := HOXr.out.at
        injection hle with hle1 _ hle3
        subst hle1 hle3
        obtain ⟨g9, hg9, hgl9, hc9⟩ := hxa k hkx
        subst hg9
        have hag := HEA2.out.2 k hlt hkx
        have hp1 := HOYr.out.prs ys[k] (List.getElem_mem hlt)
        have hp2 := HOXr.out.prs xs[k] (List.getElem_mem hkx)
        have ht1 := HOYr.out.txt ys[k] (List.getElem_mem hlt)
        have ht2 := HOXr.out.txt xs[k] (List.getElem_mem hkx)
        have hf1 := few_of HY.out k hlt
        have hf2 := few_of HX.out k hkx
        have hf1' : ys[k].d.pairs.length ≤ 100000 := by rw [List.length_take] at hf1; have := HLZ.out; have := HLL.out; omega
        have hf2' : xs[k].d.pairs.length ≤ 100000 := by have := HLZ.out; have := HLL.out; omega
        clear hya hxa hf1 hf2
        generalize ys[k] = yk at hp1 ht1 hf1' hc8 hag
        generalize xs[k] = xk2 at hp2 ht2 hf2' hc9 hag
        obtain ⟨⟨kd1, ad1, cd1, gr1, fa1, ps1, tx1⟩, pv1, tv1⟩ := yk
        obtain ⟨⟨kd2, ad2, cd2, gr2, fa2, ps2, tx2⟩, pv2, tv2⟩ := xk2
        dsimp only at hp1 hp2 ht1 ht2 hf1' hf2' hag
        obtain ⟨xp1, cp1, rfl⟩ := row_slice hp1
        obtain ⟨xp2, cp2, rfl⟩ := row_slice hp2
        obtain ⟨xt1, ct1, rfl⟩ := own_len ht1 tx1.length rfl
        obtain ⟨xt2, ct2, rfl⟩ := own_len ht2 tx2.length rfl
        have a0 : wr.cell? ⟨g8, k * 7, none⟩ = some (.int .i64 kd1) := hc8 0 (by omega)
        have e0 : wr.cell? ⟨g9, k * 7, none⟩ = some (.int .i64 kd2) := hc9 0 (by omega)
        have a1 : wr.cell? ⟨g8, k * 7 + 1, none⟩ = some (.int .i64 ad1) := hc8 1 (by omega)
        have e1 : wr.cell? ⟨g9, k * 7 + 1, none⟩ = some (.int .i64 ad2) := hc9 1 (by omega)
        have a2 : wr.cell? ⟨g8, k * 7 + 2, none⟩ = some (.int .u8 cd1) := hc8 2 (by omega)
        have e2 : wr.cell? ⟨g9, k * 7 + 2, none⟩ = some (.int .u8 cd2) := hc9 2 (by omega)
        have a3 : wr.cell? ⟨g8, k * 7 + 3, none⟩ = some (.bool gr1) := hc8 3 (by omega)
        have e3 : wr.cell? ⟨g9, k * 7 + 3, none⟩ = some (.bool gr2) := hc9 3 (by omega)
        have a4 : wr.cell? ⟨g8, k * 7 + 4, none⟩ = some (.int .u8 fa1) := hc8 4 (by omega)
        have e4 : wr.cell? ⟨g9, k * 7 + 4, none⟩ = some (.int .u8 fa2) := hc9 4 (by omega)
        have a5 : wr.cell? ⟨g8, k * 7 + 5, none⟩ = some (.slice xp1 ps1.length cp1) := hc8 5 (by omega)
        have e5 : wr.cell? ⟨g9, k * 7 + 5, none⟩ = some (.slice xp2 ps2.length cp2) := hc9 5 (by omega)
        have a6 : wr.cell? ⟨g8, k * 7 + 6, none⟩ = some (.slice xt1 tx1.length ct1) := hc8 6 (by omega)
        have e6 : wr.cell? ⟨g9, k * 7 + 6, none⟩ = some (.slice xt2 tx2.length ct2) := hc9 6 (by omega)
        have HC1 := hid (fun V (hV : Below wr.heap.size wr V) => back_any kd1 ad1 cd1 gr1 fa1 ps1 tx1 hf1' xp1 _ cp1 xt1 tx1.length ct1 V (pairs_below (pairs_owned hp1) hV))
        have HC2 := hid (fun V (hV : Below wr.heap.size wr V) => back_any kd2 ad2 cd2 gr2 fa2 ps2 tx2 hf2' xp2 _ cp2 xt2 tx2.length ct2 V (pairs_below (pairs_owned hp2) hV))
        have HT1 := hid ht1
        have HAG := hid hag
        have HPS := hid hf1'
        clear hag
        have HT2 := hid ht2
        clear hp1 hp2 ht1 ht2 hf1' hf2' hc8 hc9
        go_upto_region 11 with fail
        have HS0 := hid (show (wr.alloc (.cells #[.int .i64 kd1, .int .i64 ad1, .int .u8 cd1, .bool gr1, .int .u8 fa1, .slice xp1 ps1.length cp1, .slice xt1 tx1.length ct1] 35)).drew.cell? ⟨wr.heap.size, 0, none⟩ = some (.int .i64 kd1) ∧ (wr.alloc (.cells #[.int .i64 kd1, .int .i64 ad1, .int .u8 cd1, .bool gr1, .int .u8 fa1, .slice xp1 ps1.length cp1, .slice xt1 tx1.length ct1] 35)).drew.cell? ⟨wr.heap.size, 1, none⟩ = some (.int .i64 ad1) ∧ (wr.alloc (.cells #[.int .i64 kd1, .int .i64 ad1, .int .u8 cd1, .bool gr1, .int .u8 fa1, .slice xp1 ps1.length cp1, .slice xt1 tx1.length ct1] 35)).drew.cell? ⟨wr.heap.size, 2, none⟩ = some (.int .u8 cd1) ∧ (wr.alloc (.cells #[.int .i64 kd1, .int .i64 ad1, .int .u8 cd1, .bool gr1, .int .u8 fa1, .slice xp1 ps1.length cp1, .slice xt1 tx1.length ct1] 35)).drew.cell? ⟨wr.heap.size, 3, none⟩ = some (.bool gr1) ∧ (wr.alloc (.cells #[.int .i64 kd1, .int .i64 ad1, .int .u8 cd1, .bool gr1, .int .u8 fa1, .slice xp1 ps1.length cp1, .slice xt1 tx1.length ct1] 35)).drew.cell? ⟨wr.heap.size, 4, none⟩ = some (.int .u8 fa1) ∧ (wr.alloc (.cells #[.int .i64 kd1, .int .i64 ad1, .int .u8 cd1, .bool gr1, .int .u8 fa1, .slice xp1 ps1.length cp1, .slice xt1 tx1.length ct1] 35)).drew.cell? ⟨wr.heap.size, 5, none⟩ = some (.slice xp1 ps1.length cp1) ∧ (wr.alloc (.cells #[.int .i64 kd1, .int .i64 ad1, .int .u8 cd1, .bool gr1, .int .u8 fa1, .slice xp1 ps1.length cp1, .slice xt1 tx1.length ct1] 35)).drew.cell? ⟨wr.heap.size, 6, none⟩ = some (.slice xt1 tx1.length ct1) ∧ (wr.alloc (.cells #[.int .i64 kd1, .int .i64 ad1, .int .u8 cd1, .bool gr1, .int .u8 fa1, .slice xp1 ps1.length cp1, .slice xt1 tx1.length ct1] 35)).drew.cell? ⟨g9, k * 7, none⟩ = some (.int .i64 kd2) ∧ (wr.alloc (.cells #[.int .i64 kd1, .int .i64 ad1, .int .u8 cd1, .bool gr1, .int .u8 fa1, .slice xp1 ps1.length cp1, .slice xt1 tx1.length ct1] 35)).drew.cell? ⟨g9, k * 7 + 1, none⟩ = some (.int .i64 ad2) ∧ (wr.alloc (.cells #[.int .i64 kd1, .int .i64 ad1, .int .u8 cd1, .bool gr1, .int .u8 fa1, .slice xp1 ps1.length cp1, .slice xt1 tx1.length ct1] 35)).drew.cell? ⟨g9, k * 7 + 2, none⟩ = some (.int .u8 cd2) ∧ (wr.alloc (.cells #[.int .i64 kd1, .int .i64 ad1, .int .u8 cd1, .bool gr1, .int .u8 fa1, .slice xp1 ps1.length cp1, .slice xt1 tx1.length ct1] 35)).drew.cell? ⟨g9, k * 7 + 3, none⟩ = some (.bool gr2) ∧ (wr.alloc (.cells #[.int .i64 kd1, .int .i64 ad1, .int .u8 cd1, .bool gr1, .int .u8 fa1, .slice xp1 ps1.length cp1, .slice xt1 tx1.length ct1] 35)).drew.cell? ⟨g9, k * 7 + 4, none⟩ = some (.int .u8 fa2) ∧ (wr.alloc (.cells #[.int .i64 kd1, .int .i64 ad1, .int .u8 cd1, .bool gr1, .int .u8 fa1, .slice xp1 ps1.length cp1, .slice xt1 tx1.length ct1] 35)).drew.cell? ⟨g9, k * 7 + 5, none⟩ = some (.slice xp2 ps2.length cp2) ∧ (wr.alloc (.cells #[.int .i64 kd1, .int .i64 ad1, .int .u8 cd1, .bool gr1, .int .u8 fa1, .slice xp1 ps1.length cp1, .slice xt1 tx1.length ct1] 35)).drew.cell? ⟨g9, k * 7 + 6, none⟩ = some (.slice xt2 tx2.length ct2) from ⟨by simp [go_sem], by simp [go_sem], by simp [go_sem], by simp [go_sem], by simp [go_sem], by simp [go_sem], by simp [go_sem], keepc ((bal (Below.refl _ _) _).drew) e0, keepc ((bal (Below.refl _ _) _).drew) e1, keepc ((bal (Below.refl _ _) _).drew) e2, keepc ((bal (Below.refl _ _) _).drew) e3, keepc ((bal (Below.refl _ _) _).drew) e4, keepc ((bal (Below.refl _ _) _).drew) e5, keepc ((bal (Below.refl _ _) _).drew) e6⟩)
        have HBV := hid (show Below wr.heap.size wr (wr.alloc (.cells #[.int .i64 kd1, .int .i64 ad1, .int .u8 cd1, .bool gr1, .int .u8 fa1, .slice xp1 ps1.length cp1, .slice xt1 tx1.length ct1] 35)).drew from (bal (Below.refl _ _) _).drew)
        have HZV := hid (show wr.heap.size + 1 ≤ (wr.alloc (.cells #[.int .i64 kd1, .int .i64 ad1, .int .u8 cd1, .bool gr1, .int .u8 fa1, .slice xp1 ps1.length cp1, .slice xt1 tx1.length ct1] 35)).drew.heap.size by simp)
        generalize wr.alloc (.cells #[.int .i64 kd1, .int .i64 ad1, .int .u8 cd1, .bool gr1, .int .u8 fa1, .slice xp1 ps1.length cp1, .slice xt1 tx1.length ct1] 35) = W1 at HS0 HBV HZV ⊢
        obtain ⟨b12, hb12⟩ : ∃ b, wr.heap.size = b := ⟨_, rfl⟩
        have HG9 := hid (show g9 < b12 from hb12 ▸ hgl9)
        have HB12 := hid (show wr.heap.size ≤ b12 from Nat.le_of_eq hb12)
        have HGW := HB12
        rw [hb12] at HS0 HZV
        rw [hb12]
        clear a0 e0 a1 e1 a2 e2 a3 e3 a4 e4 a5 e5 a6 e6 hb12 hgl8 hgl9
        go_cut [13, 14, 69] (fun x13 x14 x69 wx => MidI wr ⟨kd1, ad1, cd1, gr1, fa1, ps1, tx1⟩ ⟨kd2, ad2, cd2, gr2, fa2, ps2, tx2⟩ (.slice xt1 tx1.length ct1) (.slice xt2 tx2.length ct2) k x13 x14 x69 wx)
        case first =>
          refine wp_region_held_drew (S := fun V => V.cell? ⟨b12, 0, none⟩ = some (.int .i64 kd1) ∧ V.cell? ⟨b12, 1, none⟩ = some (.int .i64 ad1) ∧ V.cell? ⟨b12, 2, none⟩ = some (.int .u8 cd1) ∧ V.cell? ⟨b12, 3, none⟩ = some (.bool gr1) ∧ V.cell? ⟨b12, 4, none⟩ = some (.int .u8 fa1) ∧ V.cell? ⟨b12, 5, none⟩ = some (.slice xp1 ps1.length cp1) ∧ V.cell? ⟨b12, 6, none⟩ = some (.slice xt1 tx1.length ct1) ∧ V.cell? ⟨g9, k * 7, none⟩ = some (.int .i64 kd2) ∧ V.cell? ⟨g9, k * 7 + 1, none⟩ = some (.int .i64 ad2) ∧ V.cell? ⟨g9, k * 7 + 2, none⟩ = some (.int .u8 cd2) ∧ V.cell? ⟨g9, k * 7 + 3, none⟩ = some (.bool gr2) ∧ V.cell? ⟨g9, k * 7 + 4, none⟩ = some (.int .u8 fa2) ∧ V.cell? ⟨g9, k * 7 + 5, none⟩ = some (.slice xp2 ps2.length cp2) ∧ V.cell? ⟨g9, k * 7 + 6, none⟩ = some (.slice xt2 tx2.length ct2)) (by kernel_rfl) ?_ (fun hHeld => ?_)
          · exact HS0.out
          generalize W1.drew = V0 at hHeld HBV HZV ⊢
          refine takeD (i := 0) (v := ?_) 74 rfl rfl (by kernel_rfl) (by kernel_rfl) (by kernel_rfl) (fun _ _ _ h => h) (by assumption) (Or.inl ⟨by rfl, ?_⟩) ?_
          rotate_left
          · intro w hSw
            (try dsimp only at hSw)
            go_simp
            try with_reducible rfl
          simp only [List.setIfInBounds_toArray, List.set_cons_zero, List.set_cons_succ]
          refine takeD (i := 2) (v := ?_) 76 rfl rfl (by kernel_rfl) (by kernel_rfl) (by kernel_rfl) (fun _ _ _ h => h) (by assumption) (Or.inl ⟨by rfl, ?_⟩) ?_
          rotate_left
          · intro w hSw
            (try dsimp only at hSw)
            go_simp
            try with_reducible rfl
          simp only [List.setIfInBounds_toArray, List.set_cons_zero, List.set_cons_succ]
          refine takeD (i := 3) (v := ?_) 77 rfl rfl (by kernel_rfl) (by kernel_rfl) (by kernel_rfl) (fun _ _ _ h => h) (by assumption) (Or.inl ⟨by rfl, ?_⟩) ?_
          rotate_left
          · intro w hSw
            (try dsimp only at hSw)
            go_simp
            try with_reducible rfl
          simp only [List.setIfInBounds_toArray, List.set_cons_zero, List.set_cons_succ]
          refine takeD (i := 4) (v := ?_) 78 rfl rfl (by kernel_rfl) (by kernel_rfl) (by kernel_rfl) (fun _ _ _ h => h) (by assumption) (Or.inl ⟨by rfl, ?_⟩) ?_
          rotate_left
          · intro w hSw
            (try dsimp only at hSw)
            go_simp
            try with_reducible rfl
          simp only [List.setIfInBounds_toArray, List.set_cons_zero, List.set_cons_succ]
          refine takeD (i := 5) (v := ?_) 79 rfl rfl (by kernel_rfl) (by kernel_rfl) (by kernel_rfl) (fun _ _ _ h => h) (by assumption) (Or.inl ⟨by rfl, ?_⟩) ?_
          rotate_left
          · intro w hSw
            (try dsimp only at hSw)
            go_simp
            try with_reducible rfl
          simp only [List.setIfInBounds_toArray, List.set_cons_zero, List.set_cons_succ]
          refine wpAnyH_ready (rs := [1, 7, 8]) (by kernel_rfl) (by simp) ?_
          refine AllReadyH.cons (by simp only [List.getElem?_toArray, List.getElem?_cons_succ, List.getElem?_cons_zero]; rfl) (fun K hK => ?_) (AllReadyH.cons (by simp only [List.getElem?_toArray, List.getElem?_cons_succ, List.getElem?_cons_zero]; rfl) (fun K hK => ?_) (AllReadyH.cons (by simp only [List.getElem?_toArray, List.getElem?_cons_succ, List.getElem?_cons_zero]; rfl) (fun K hK => ?_) AllReadyH.nil))
          · go_simp
            with_reducible refine (HC1.out _ HBV.out).mono ?_
            rintro e v1_ ⟨rv, rfl, ho, hb⟩
            dsimp only at ho
            obtain ⟨xr1, cr1, rfl⟩ := row_slice ho
            have HB1_ := hid hb
            have HO1_ := hid (own_weak (B' := 0) ho (Nat.zero_le _))
            clear ho hb
            (try go_wp2_with fail)
            have HS1bel := hid (below_t HBV.out HB1_.out)
            have HZ1 := hid (Nat.le_trans HZV.out HB1_.out.size)
            refine hK.out _ _ ?_ (fun hHeldN => ?_)
            · exact ⟨keepc HB1_.out hHeld.1, keepc HB1_.out hHeld.2.1, keepc HB1_.out hHeld.2.2.1, keepc HB1_.out hHeld.2.2.2.1, keepc HB1_.out hHeld.2.2.2.2.1, keepc HB1_.out hHeld.2.2.2.2.2.1, keepc HB1_.out hHeld.2.2.2.2.2.2.1, keepc HB1_.out hHeld.2.2.2.2.2.2.2.1, keepc HB1_.out hHeld.2.2.2.2.2.2.2.2.1, keepc HB1_.out hHeld.2.2.2.2.2.2.2.2.2.1, keepc HB1_.out hHeld.2.2.2.2.2.2.2.2.2.2.1, keepc HB1_.out hHeld.2.2.2.2.2.2.2.2.2.2.2.1, keepc HB1_.out hHeld.2.2.2.2.2.2.2.2.2.2.2.2.1, keepc HB1_.out hHeld.2.2.2.2.2.2.2.2.2.2.2.2.2⟩
            clear hK K hHeld
            have hHeld := hHeldN
            clear hHeldN
            (try simp only [Act.put, List.setIfInBounds_toArray, List.set_cons_zero, List.set_cons_succ])
            refine wpAnyH_ready (rs := [6, 7, 8]) (by kernel_rfl) (by simp) ?_
            refine AllReadyH.cons (by simp only [List.getElem?_toArray, List.getElem?_cons_succ, List.getElem?_cons_zero]; rfl) (fun K hK => ?_) (AllReadyH.cons (by simp only [List.getElem?_toArray, List.getElem?_cons_succ, List.getElem?_cons_zero]; rfl) (fun K hK => ?_) (AllReadyH.cons (by simp only [List.getElem?_toArray, List.getElem?_cons_succ, List.getElem?_cons_zero]; rfl) (fun K hK => ?_) AllReadyH.nil))
            · go_simp
              with_reducible refine (HC2.out _ HS1bel.out).mono ?_
              rintro e v2_ ⟨rv, rfl, ho, hb⟩
              dsimp only at ho
              obtain ⟨xr2, cr2, rfl⟩ := row_slice ho
              have HB2_ := hid hb
              have HO2_ := hid (own_weak (B' := 0) ho (Nat.zero_le _))
              clear ho hb
              (try go_wp2_with fail)
              have HS2o1 := hid (own_below HO1_.out HB2_.out)
              have HS2bel := hid (below_t HS1bel.out HB2_.out)
              have HZ2 := hid (Nat.le_trans HZ1.out HB2_.out.size)
              refine hK.out _ _ ?_ (fun hHeldN => ?_)
              · exact ⟨keepc HB2_.out hHeld.1, keepc HB2_.out hHeld.2.1, keepc HB2_.out hHeld.2.2.1, keepc HB2_.out hHeld.2.2.2.1, keepc HB2_.out hHeld.2.2.2.2.1, keepc HB2_.out hHeld.2.2.2.2.2.1, keepc HB2_.out hHeld.2.2.2.2.2.2.1, keepc HB2_.out hHeld.2.2.2.2.2.2.2.1, keepc HB2_.out hHeld.2.2.2.2.2.2.2.2.1, keepc HB2_.out hHeld.2.2.2.2.2.2.2.2.2.1, keepc HB2_.out hHeld.2.2.2.2.2.2.2.2.2.2.1, keepc HB2_.out hHeld.2.2.2.2.2.2.2.2.2.2.2.1, keepc HB2_.out hHeld.2.2.2.2.2.2.2.2.2.2.2.2.1, keepc HB2_.out hHeld.2.2.2.2.2.2.2.2.2.2.2.2.2⟩
              clear hK K hHeld
              have hHeld := hHeldN
              clear hHeldN
              (try simp only [Act.put, List.setIfInBounds_toArray, List.set_cons_zero, List.set_cons_succ])
              refine wpAnyH_ready (rs := [7, 8]) (by kernel_rfl) (by simp) ?_
              refine AllReadyH.cons (by simp only [List.getElem?_toArray, List.getElem?_cons_succ, List.getElem?_cons_zero]; rfl) (fun K hK => ?_) (AllReadyH.cons (by simp only [List.getElem?_toArray, List.getElem?_cons_succ, List.getElem?_cons_zero]; rfl) (fun K hK => ?_) AllReadyH.nil)
              · go_simp
                obtain ⟨v3_, hv⟩ : ∃ V, v2_.alloc (.cells #[.int .i64 0, .int .i64 0, .int .u8 0, .bool false, .int .u8 0, .slice none 0 0, .slice none 0 0] 38) = V := ⟨_, rfl⟩
                have HB3_ := hid (show Below v2_.heap.size v2_ v3_ by rw [← hv]; exact bal (Below.refl _ _) _)
                have HX3_ := hid (show Box7 v3_ v2_.heap.size (.int .i64 0) (.int .i64 0) (.int .u8 0) (.bool false) (.int .u8 0) (.slice none 0 0) (.slice none 0 0) by rw [← hv]; exact Box7.new v2_ 38)
                rw [hv]
                clear hv
                obtain ⟨b13, hb13⟩ : ∃ b, v2_.heap.size = b := ⟨_, rfl⟩
                have HG13 := hid (show wr.heap.size < b13 ∧ b12 < b13 from by have := HZ2.out; have := HB12.out; omega)
                have HN3_1 := hid (show b13 ∉ blkV (.slice xr1 ps1.length cr1) from fun q => by have := own_lt HS2o1.out _ q; omega)
                have HN3_2 := hid (show b13 ∉ blkV (.slice xr2 ps2.length cr2) from fun q => by have := own_lt HO2_.out _ q; omega)
                rw [hb13] at HX3_
                rw [hb13]
                have HBB13 := hid hb13
                clear hb13
                have HS3o1 := hid (own_below HS2o1.out HB3_.out)
                have HS3o2 := hid (own_below HO2_.out HB3_.out)
                have HS3bel := hid (below_t HS2bel.out HB3_.out)
                have HZ3 := hid (Nat.le_trans HZ2.out HB3_.out.size)
                refine hK.out _ _ ?_ (fun hHeldN => ?_)
                · exact ⟨keepc HB3_.out hHeld.1, keepc HB3_.out hHeld.2.1, keepc HB3_.out hHeld.2.2.1, keepc HB3_.out hHeld.2.2.2.1, keepc HB3_.out hHeld.2.2.2.2.1, keepc HB3_.out hHeld.2.2.2.2.2.1, keepc HB3_.out hHeld.2.2.2.2.2.2.1, keepc HB3_.out hHeld.2.2.2.2.2.2.2.1, keepc HB3_.out hHeld.2.2.2.2.2.2.2.2.1, keepc HB3_.out hHeld.2.2.2.2.2.2.2.2.2.1, keepc HB3_.out hHeld.2.2.2.2.2.2.2.2.2.2.1, keepc HB3_.out hHeld.2.2.2.2.2.2.2.2.2.2.2.1, keepc HB3_.out hHeld.2.2.2.2.2.2.2.2.2.2.2.2.1, keepc HB3_.out hHeld.2.2.2.2.2.2.2.2.2.2.2.2.2⟩
                clear hK K hHeld
                have hHeld := hHeldN
                clear hHeldN
                (try simp only [Act.put, List.setIfInBounds_toArray, List.set_cons_zero, List.set_cons_succ])
                refine wpAnyH_ready (rs := [8]) (by kernel_rfl) (by simp) ?_
                refine AllReadyH.cons (by simp only [List.getElem?_toArray, List.getElem?_cons_succ, List.getElem?_cons_zero]; rfl) (fun K hK => ?_) AllReadyH.nil
                · go_simp
                  obtain ⟨v4_, hv⟩ : ∃ V, v3_.alloc (.cells #[.int .i64 0, .int .i64 0, .int .u8 0, .bool false, .int .u8 0, .slice none 0 0, .slice none 0 0] 38) = V := ⟨_, rfl⟩
                  have HB4_ := hid (show Below v3_.heap.size v3_ v4_ by rw [← hv]; exact bal (Below.refl _ _) _)
                  have HX4_ := hid (show Box7 v4_ v3_.heap.size (.int .i64 0) (.int .i64 0) (.int .u8 0) (.bool false) (.int .u8 0) (.slice none 0 0) (.slice none 0 0) by rw [← hv]; exact Box7.new v3_ 38)
                  rw [hv]
                  clear hv
                  obtain ⟨b14, hb14⟩ : ∃ b, v3_.heap.size = b := ⟨_, rfl⟩
                  have HG14 := hid (show wr.heap.size < b14 ∧ b12 < b14 from by have := HZ3.out; have := HB12.out; omega)
                  have HN4_1 := hid (show b14 ∉ blkV (.slice xr1 ps1.length cr1) from fun q => by have := own_lt HS3o1.out _ q; omega)
                  have HN4_2 := hid (show b14 ∉ blkV (.slice xr2 ps2.length cr2) from fun q => by have := own_lt HS3o2.out _ q; omega)
                  have HNE := hid (show b13 ≠ b14 from by have := HX3_.out.lt; omega)
                  rw [hb14] at HX4_
                  rw [hb14]
                  have HBB14 := hid hb14
                  clear hb14
                  have HS4o1 := hid (own_below HS3o1.out HB4_.out)
                  have HS4o2 := hid (own_below HS3o2.out HB4_.out)
                  have HS4B13 := hid (HX3_.out.step HB4_.out)
                  have HS4bel := hid (below_t HS3bel.out HB4_.out)
                  have HZ4 := hid (Nat.le_trans HZ3.out HB4_.out.size)
                  refine hK.out _ _ ?_ (fun hHeldN => ?_)
                  · exact ⟨keepc HB4_.out hHeld.1, keepc HB4_.out hHeld.2.1, keepc HB4_.out hHeld.2.2.1, keepc HB4_.out hHeld.2.2.2.1, keepc HB4_.out hHeld.2.2.2.2.1, keepc HB4_.out hHeld.2.2.2.2.2.1, keepc HB4_.out hHeld.2.2.2.2.2.2.1, keepc HB4_.out hHeld.2.2.2.2.2.2.2.1, keepc HB4_.out hHeld.2.2.2.2.2.2.2.2.1, keepc HB4_.out hHeld.2.2.2.2.2.2.2.2.2.1, keepc HB4_.out hHeld.2.2.2.2.2.2.2.2.2.2.1, keepc HB4_.out hHeld.2.2.2.2.2.2.2.2.2.2.2.1, keepc HB4_.out hHeld.2.2.2.2.2.2.2.2.2.2.2.2.1, keepc HB4_.out hHeld.2.2.2.2.2.2.2.2.2.2.2.2.2⟩
                  clear hK K hHeld
                  have hHeld := hHeldN
                  clear hHeldN
                  (try simp only [Act.put, List.setIfInBounds_toArray, List.set_cons_zero, List.set_cons_succ])
                  obtain ⟨wp13, hwp13⟩ : ∃ V, put7 v4_ b13 (.int .i64 kd1) (.int .i64 ad1) (.int .u8 cd1) (.bool gr1) (.int .u8 fa1) (.slice xr1 ps1.length cr1) (.slice xt1 tx1.length ct1) = V := ⟨_, rfl⟩
                  have mp13 : Moved v4_ wp13 [b13] [b13] := by rw [← hwp13]; exact put7_moved _ _ _ _ _ _ _ _ _
                  have HQ13 := hid (show Box7 wp13 b13 (.int .i64 kd1) (.int .i64 ad1) (.int .u8 cd1) (.bool gr1) (.int .u8 fa1) (.slice xr1 ps1.length cr1) (.slice xt1 tx1.length ct1) by rw [← hwp13]; exact HS4B13.out.put (.int .i64 kd1) (.int .i64 ad1) (.int .u8 cd1) (.bool gr1) (.int .u8 fa1) (.slice xr1 ps1.length cr1) (.slice xt1 tx1.length ct1))
                  have HO14 := hid (HX4_.out.moved mp13 (by have := HNE.out; simp; omega))
                  have HR1 := hid (own_moved HS4o1.out mp13 (fun j hj q => by simp at q; subst q; exact HN3_1.out hj))
                  have HR2 := hid (own_moved HS4o2.out mp13 (fun j hj q => by simp at q; subst q; exact HN3_2.out hj))
                  unfold put7 at hwp13
                  have HW13 := hid hwp13
                  obtain ⟨d0, d1, d2, d3, d4, d5, d6, fc⟩ := HS4B13.out
                  have f0 := fc 0 (by omega)
                  have f1 := fc 1 (by omega)
                  have f2 := fc 2 (by omega)
                  have f3 := fc 3 (by omega)
                  have f4 := fc 4 (by omega)
                  have f5 := fc 5 (by omega)
                  have f6 := fc 6 (by omega)
                  clear fc hwp13
                  refine wpAnyH_ready (rs := [9]) (by kernel_rfl) (by simp) ?_
                  refine AllReadyH.cons (by simp only [List.getElem?_toArray, List.getElem?_cons_succ, List.getElem?_cons_zero]; rfl) (fun K hK => ?_) AllReadyH.nil
                  go_simp
                  rw [HW13.out]
                  refine hK.out _ _ ?_ (fun hHeldN => ?_)
                  · exact ⟨cell_moved mp13 hHeld.1 (by have := HG13.out; have := HG9.out; simp; omega), cell_moved mp13 hHeld.2.1 (by have := HG13.out; have := HG9.out; simp; omega), cell_moved mp13 hHeld.2.2.1 (by have := HG13.out; have := HG9.out; simp; omega), cell_moved mp13 hHeld.2.2.2.1 (by have := HG13.out; have := HG9.out; simp; omega), cell_moved mp13 hHeld.2.2.2.2.1 (by have := HG13.out; have := HG9.out; simp; omega), cell_moved mp13 hHeld.2.2.2.2.2.1 (by have := HG13.out; have := HG9.out; simp; omega), cell_moved mp13 hHeld.2.2.2.2.2.2.1 (by have := HG13.out; have := HG9.out; simp; omega), cell_moved mp13 hHeld.2.2.2.2.2.2.2.1 (by have := HG13.out; have := HG9.out; simp; omega), cell_moved mp13 hHeld.2.2.2.2.2.2.2.2.1 (by have := HG13.out; have := HG9.out; simp; omega), cell_moved mp13 hHeld.2.2.2.2.2.2.2.2.2.1 (by have := HG13.out; have := HG9.out; simp; omega), cell_moved mp13 hHeld.2.2.2.2.2.2.2.2.2.2.1 (by have := HG13.out; have := HG9.out; simp; omega), cell_moved mp13 hHeld.2.2.2.2.2.2.2.2.2.2.2.1 (by have := HG13.out; have := HG9.out; simp; omega), cell_moved mp13 hHeld.2.2.2.2.2.2.2.2.2.2.2.2.1 (by have := HG13.out; have := HG9.out; simp; omega), cell_moved mp13 hHeld.2.2.2.2.2.2.2.2.2.2.2.2.2 (by have := HG13.out; have := HG9.out; simp; omega)⟩
                  clear hK K hHeld
                  have hHeld := hHeldN
                  clear hHeldN
                  (try simp only [Act.put, List.setIfInBounds_toArray, List.set_cons_zero, List.set_cons_succ])
                  clear d0 d1 d2 d3 d4 d5 d6 f0 f1 f2 f3 f4 f5 f6
                  obtain ⟨wp14, hwp14⟩ : ∃ V, put7 wp13 b14 (.int .i64 kd2) (.int .i64 ad2) (.int .u8 cd2) (.bool gr2) (.int .u8 fa2) (.slice xr2 ps2.length cr2) (.slice xt2 tx2.length ct2) = V := ⟨_, rfl⟩
                  have mp14 : Moved wp13 wp14 [b14] [b14] := by rw [← hwp14]; exact put7_moved _ _ _ _ _ _ _ _ _
                  have HQ14 := hid (show Box7 wp14 b14 (.int .i64 kd2) (.int .i64 ad2) (.int .u8 cd2) (.bool gr2) (.int .u8 fa2) (.slice xr2 ps2.length cr2) (.slice xt2 tx2.length ct2) by rw [← hwp14]; exact HO14.out.put (.int .i64 kd2) (.int .i64 ad2) (.int .u8 cd2) (.bool gr2) (.int .u8 fa2) (.slice xr2 ps2.length cr2) (.slice xt2 tx2.length ct2))
                  have HQX := hid (HQ13.out.moved mp14 (by have := HNE.out; simp; omega))
                  have HR3 := hid (own_moved HR1.out mp14 (fun j hj q => by simp at q; subst q; exact HN4_1.out hj))
                  have HR4 := hid (own_moved HR2.out mp14 (fun j hj q => by simp at q; subst q; exact HN4_2.out hj))
                  unfold put7 at hwp14
                  have HW14 := hid hwp14
                  obtain ⟨d0, d1, d2, d3, d4, d5, d6, fc⟩ := HO14.out
                  have f0 := fc 0 (by omega)
                  have f1 := fc 1 (by omega)
                  have f2 := fc 2 (by omega)
                  have f3 := fc 3 (by omega)
                  have f4 := fc 4 (by omega)
                  have f5 := fc 5 (by omega)
                  have f6 := fc 6 (by omega)
                  clear fc hwp14
                  refine wpAnyH_ready (rs := [10]) (by kernel_rfl) (by simp) ?_
                  refine AllReadyH.cons (by simp only [List.getElem?_toArray, List.getElem?_cons_succ, List.getElem?_cons_zero]; rfl) (fun K hK => ?_) AllReadyH.nil
                  go_simp
                  rw [HW14.out]
                  refine hK.out _ _ ?_ (fun hHeldN => ?_)
                  · exact ⟨cell_moved mp14 hHeld.1 (by have := HG14.out; have := HG9.out; simp; omega), cell_moved mp14 hHeld.2.1 (by have := HG14.out; have := HG9.out; simp; omega), cell_moved mp14 hHeld.2.2.1 (by have := HG14.out; have := HG9.out; simp; omega), cell_moved mp14 hHeld.2.2.2.1 (by have := HG14.out; have := HG9.out; simp; omega), cell_moved mp14 hHeld.2.2.2.2.1 (by have := HG14.out; have := HG9.out; simp; omega), cell_moved mp14 hHeld.2.2.2.2.2.1 (by have := HG14.out; have := HG9.out; simp; omega), cell_moved mp14 hHeld.2.2.2.2.2.2.1 (by have := HG14.out; have := HG9.out; simp; omega), cell_moved mp14 hHeld.2.2.2.2.2.2.2.1 (by have := HG14.out; have := HG9.out; simp; omega), cell_moved mp14 hHeld.2.2.2.2.2.2.2.2.1 (by have := HG14.out; have := HG9.out; simp; omega), cell_moved mp14 hHeld.2.2.2.2.2.2.2.2.2.1 (by have := HG14.out; have := HG9.out; simp; omega), cell_moved mp14 hHeld.2.2.2.2.2.2.2.2.2.2.1 (by have := HG14.out; have := HG9.out; simp; omega), cell_moved mp14 hHeld.2.2.2.2.2.2.2.2.2.2.2.1 (by have := HG14.out; have := HG9.out; simp; omega), cell_moved mp14 hHeld.2.2.2.2.2.2.2.2.2.2.2.2.1 (by have := HG14.out; have := HG9.out; simp; omega), cell_moved mp14 hHeld.2.2.2.2.2.2.2.2.2.2.2.2.2 (by have := HG14.out; have := HG9.out; simp; omega)⟩
                  clear hK K hHeld
                  have hHeld := hHeldN
                  clear hHeldN
                  (try simp only [Act.put, List.setIfInBounds_toArray, List.set_cons_zero, List.set_cons_succ])
                  clear d0 d1 d2 d3 d4 d5 d6 f0 f1 f2 f3 f4 f5 f6
                  have HBF := hid (show Below wr.heap.size wr wp14 from (HS4bel.out.trans (mp13.toBelow HS4bel.out.size (fun j hj => by have := HG13.out; have := HGW.out; simp at hj; omega))).trans (mp14.toBelow (Nat.le_trans HS4bel.out.size mp13.size) (fun j hj => by have := HG14.out; have := HGW.out; simp at hj; omega)))
                  refine wpAnyH_done (by kernel_rfl) ?_ _
                  clear hHeld
                  go_wp2_with fail
                  go_meet
                  exact ⟨b13, b14, xr1, _, cr1, xr2, _, cr2, rfl, rfl, rfl, HQX.out, HQ14.out, pairs_owned HR3.out, pairs_owned HR4.out, HNE.out, Nat.le_of_lt HG13.out.1, Nat.le_of_lt HG14.out.1, HN4_1.out, HN4_2.out, HBF.out⟩
              · go_simp
                obtain ⟨v5_, hv⟩ : ∃ V, v2_.alloc (.cells #[.int .i64 0, .int .i64 0, .int .u8 0, .bool false, .int .u8 0, .slice none 0 0, .slice none 0 0] 38) = V := ⟨_, rfl⟩
                have HB5_ := hid (show Below v2_.heap.size v2_ v5_ by rw [← hv]; exact bal (Below.refl _ _) _)
                have HX5_ := hid (show Box7 v5_ v2_.heap.size (.int .i64 0) (.int .i64 0) (.int .u8 0) (.bool false) (.int .u8 0) (.slice none 0 0) (.slice none 0 0) by rw [← hv]; exact Box7.new v2_ 38)
                rw [hv]
                clear hv
                obtain ⟨b14, hb14⟩ : ∃ b, v2_.heap.size = b := ⟨_, rfl⟩
                have HG14 := hid (show wr.heap.size < b14 ∧ b12 < b14 from by have := HZ2.out; have := HB12.out; omega)
                have HN5_1 := hid (show b14 ∉ blkV (.slice xr1 ps1.length cr1) from fun q => by have := own_lt HS2o1.out _ q; omega)
                have HN5_2 := hid (show b14 ∉ blkV (.slice xr2 ps2.length cr2) from fun q => by have := own_lt HO2_.out _ q; omega)
                rw [hb14] at HX5_
                rw [hb14]
                have HBB14 := hid hb14
                clear hb14
                have HS5o1 := hid (own_below HS2o1.out HB5_.out)
                have HS5o2 := hid (own_below HO2_.out HB5_.out)
                have HS5bel := hid (below_t HS2bel.out HB5_.out)
                have HZ5 := hid (Nat.le_trans HZ2.out HB5_.out.size)
                refine hK.out _ _ ?_ (fun hHeldN => ?_)
                · exact ⟨keepc HB5_.out hHeld.1, keepc HB5_.out hHeld.2.1, keepc HB5_.out hHeld.2.2.1, keepc HB5_.out hHeld.2.2.2.1, keepc HB5_.out hHeld.2.2.2.2.1, keepc HB5_.out hHeld.2.2.2.2.2.1, keepc HB5_.out hHeld.2.2.2.2.2.2.1, keepc HB5_.out hHeld.2.2.2.2.2.2.2.1, keepc HB5_.out hHeld.2.2.2.2.2.2.2.2.1, keepc HB5_.out hHeld.2.2.2.2.2.2.2.2.2.1, keepc HB5_.out hHeld.2.2.2.2.2.2.2.2.2.2.1, keepc HB5_.out hHeld.2.2.2.2.2.2.2.2.2.2.2.1, keepc HB5_.out hHeld.2.2.2.2.2.2.2.2.2.2.2.2.1, keepc HB5_.out hHeld.2.2.2.2.2.2.2.2.2.2.2.2.2⟩
                clear hK K hHeld
                have hHeld := hHeldN
                clear hHeldN
                (try simp only [Act.put, List.setIfInBounds_toArray, List.set_cons_zero, List.set_cons_succ])
                refine wpAnyH_ready (rs := [7]) (by kernel_rfl) (by simp) ?_
                refine AllReadyH.cons (by simp only [List.getElem?_toArray, List.getElem?_cons_succ, List.getElem?_cons_zero]; rfl) (fun K hK => ?_) AllReadyH.nil
                · go_simp
                  obtain ⟨v6_, hv⟩ : ∃ V, v5_.alloc (.cells #[.int .i64 0, .int .i64 0, .int .u8 0, .bool false, .int .u8 0, .slice none 0 0, .slice none 0 0] 38) = V := ⟨_, rfl⟩
                  have HB6_ := hid (show Below v5_.heap.size v5_ v6_ by rw [← hv]; exact bal (Below.refl _ _) _)
                  have HX6_ := hid (show Box7 v6_ v5_.heap.size (.int .i64 0) (.int .i64 0) (.int .u8 0) (.bool false) (.int .u8 0) (.slice none 0 0) (.slice none 0 0) by rw [← hv]; exact Box7.new v5_ 38)
                  rw [hv]
                  clear hv
                  obtain ⟨b13, hb13⟩ : ∃ b, v5_.heap.size = b := ⟨_, rfl⟩
                  have HG13 := hid (show wr.heap.size < b13 ∧ b12 < b13 from by have := HZ5.out; have := HB12.out; omega)
                  have HN6_1 := hid (show b13 ∉ blkV (.slice xr1 ps1.length cr1) from fun q => by have := own_lt HS5o1.out _ q; omega)
                  have HN6_2 := hid (show b13 ∉ blkV (.slice xr2 ps2.length cr2) from fun q => by have := own_lt HS5o2.out _ q; omega)
                  have HNE := hid (show b13 ≠ b14 from by have := HX5_.out.lt; omega)
                  rw [hb13] at HX6_
                  rw [hb13]
                  have HBB13 := hid hb13
                  clear hb13
                  have HS6o1 := hid (own_below HS5o1.out HB6_.out)
                  have HS6o2 := hid (own_below HS5o2.out HB6_.out)
                  have HS6B14 := hid (HX5_.out.step HB6_.out)
                  have HS6bel := hid (below_t HS5bel.out HB6_.out)
                  have HZ6 := hid (Nat.le_trans HZ5.out HB6_.out.size)
                  refine hK.out _ _ ?_ (fun hHeldN => ?_)
                  · exact ⟨keepc HB6_.out hHeld.1, keepc HB6_.out hHeld.2.1, keepc HB6_.out hHeld.2.2.1, keepc HB6_.out hHeld.2.2.2.1, keepc HB6_.out hHeld.2.2.2.2.1, keepc HB6_.out hHeld.2.2.2.2.2.1, keepc HB6_.out hHeld.2.2.2.2.2.2.1, keepc HB6_.out hHeld.2.2.2.2.2.2.2.1, keepc HB6_.out hHeld.2.2.2.2.2.2.2.2.1, keepc HB6_.out hHeld.2.2.2.2.2.2.2.2.2.1, keepc HB6_.out hHeld.2.2.2.2.2.2.2.2.2.2.1, keepc HB6_.out hHeld.2.2.2.2.2.2.2.2.2.2.2.1, keepc HB6_.out hHeld.2.2.2.2.2.2.2.2.2.2.2.2.1, keepc HB6_.out hHeld.2.2.2.2.2.2.2.2.2.2.2.2.2⟩
                  clear hK K hHeld
                  have hHeld := hHeldN
                  clear hHeldN
                  (try simp only [Act.put, List.setIfInBounds_toArray, List.set_cons_zero, List.set_cons_succ])
                  obtain ⟨wp13, hwp13⟩ : ∃ V, put7 v6_ b13 (.int .i64 kd1) (.int .i64 ad1) (.int .u8 cd1) (.bool gr1) (.int .u8 fa1) (.slice xr1 ps1.length cr1) (.slice xt1 tx1.length ct1) = V := ⟨_, rfl⟩
                  have mp13 : Moved v6_ wp13 [b13] [b13] := by rw [← hwp13]; exact put7_moved _ _ _ _ _ _ _ _ _
                  have HQ13 := hid (show Box7 wp13 b13 (.int .i64 kd1) (.int .i64 ad1) (.int .u8 cd1) (.bool gr1) (.int .u8 fa1) (.slice xr1 ps1.length cr1) (.slice xt1 tx1.length ct1) by rw [← hwp13]; exact HX6_.out.put (.int .i64 kd1) (.int .i64 ad1) (.int .u8 cd1) (.bool gr1) (.int .u8 fa1) (.slice xr1 ps1.length cr1) (.slice xt1 tx1.length ct1))
                  have HO14 := hid (HS6B14.out.moved mp13 (by have := HNE.out; simp; omega))
                  have HR1 := hid (own_moved HS6o1.out mp13 (fun j hj q => by simp at q; subst q; exact HN6_1.out hj))
                  have HR2 := hid (own_moved HS6o2.out mp13 (fun j hj q => by simp at q; subst q; exact HN6_2.out hj))
                  unfold put7 at hwp13
                  have HW13 := hid hwp13
                  obtain ⟨d0, d1, d2, d3, d4, d5, d6, fc⟩ := HX6_.out
                  have f0 := fc 0 (by omega)
                  have f1 := fc 1 (by omega)
                  have f2 := fc 2 (by omega)
                  have f3 := fc 3 (by omega)
                  have f4 := fc 4 (by omega)
                  have f5 := fc 5 (by omega)
                  have f6 := fc 6 (by omega)
                  clear fc hwp13
                  refine wpAnyH_ready (rs := [9]) (by kernel_rfl) (by simp) ?_
                  refine AllReadyH.cons (by simp only [List.getElem?_toArray, List.getElem?_cons_succ, List.getElem?_cons_zero]; rfl) (fun K hK => ?_) AllReadyH.nil
                  go_simp
                  rw [HW13.out]
                  refine hK.out _ _ ?_ (fun hHeldN => ?_)
                  · exact ⟨cell_moved mp13 hHeld.1 (by have := HG13.out; have := HG9.out; simp; omega), cell_moved mp13 hHeld.2.1 (by have := HG13.out; have := HG9.out; simp; omega), cell_moved mp13 hHeld.2.2.1 (by have := HG13.out; have := HG9.out; simp; omega), cell_moved mp13 hHeld.2.2.2.1 (by have := HG13.out; have := HG9.out; simp; omega), cell_moved mp13 hHeld.2.2.2.2.1 (by have := HG13.out; have := HG9.out; simp; omega), cell_moved mp13 hHeld.2.2.2.2.2.1 (by have := HG13.out; have := HG9.out; simp; omega), cell_moved mp13 hHeld.2.2.2.2.2.2.1 (by have := HG13.out; have := HG9.out; simp; omega), cell_moved mp13 hHeld.2.2.2.2.2.2.2.1 (by have := HG13.out; have := HG9.out; simp; omega), cell_moved mp13 hHeld.2.2.2.2.2.2.2.2.1 (by have := HG13.out; have := HG9.out; simp; omega), cell_moved mp13 hHeld.2.2.2.2.2.2.2.2.2.1 (by have := HG13.out; have := HG9.out; simp; omega), cell_moved mp13 hHeld.2.2.2.2.2.2.2.2.2.2.1 (by have := HG13.out; have := HG9.out; simp; omega), cell_moved mp13 hHeld.2.2.2.2.2.2.2.2.2.2.2.1 (by have := HG13.out; have := HG9.out; simp; omega), cell_moved mp13 hHeld.2.2.2.2.2.2.2.2.2.2.2.2.1 (by have := HG13.out; have := HG9.out; simp; omega), cell_moved mp13 hHeld.2.2.2.2.2.2.2.2.2.2.2.2.2 (by have := HG13.out; have := HG9.out; simp; omega)⟩
                  clear hK K hHeld
                  have hHeld := hHeldN
                  clear hHeldN
                  (try simp only [Act.put, List.setIfInBounds_toArray, List.set_cons_zero, List.set_cons_succ])
                  clear d0 d1 d2 d3 d4 d5 d6 f0 f1 f2 f3 f4 f5 f6
                  obtain ⟨wp14, hwp14⟩ : ∃ V, put7 wp13 b14 (.int .i64 kd2) (.int .i64 ad2) (.int .u8 cd2) (.bool gr2) (.int .u8 fa2) (.slice xr2 ps2.length cr2) (.slice xt2 tx2.length ct2) = V := ⟨_, rfl⟩
                  have mp14 : Moved wp13 wp14 [b14] [b14] := by rw [← hwp14]; exact put7_moved _ _ _ _ _ _ _ _ _
                  have HQ14 := hid (show Box7 wp14 b14 (.int .i64 kd2) (.int .i64 ad2) (.int .u8 cd2) (.bool gr2) (.int .u8 fa2) (.slice xr2 ps2.length cr2) (.slice xt2 tx2.length ct2) by rw [← hwp14]; exact HO14.out.put (.int .i64 kd2) (.int .i64 ad2) (.int .u8 cd2) (.bool gr2) (.int .u8 fa2) (.slice xr2 ps2.length cr2) (.slice xt2 tx2.length ct2))
                  have HQX := hid (HQ13.out.moved mp14 (by have := HNE.out; simp; omega))
                  have HR3 := hid (own_moved HR1.out mp14 (fun j hj q => by simp at q; subst q; exact HN5_1.out hj))
                  have HR4 := hid (own_moved HR2.out mp14 (fun j hj q => by simp at q; subst q; exact HN5_2.out hj))
                  unfold put7 at hwp14
                  have HW14 := hid hwp14
                  obtain ⟨d0, d1, d2, d3, d4, d5, d6, fc⟩ := HO14.out
                  have f0 := fc 0 (by omega)
                  have f1 := fc 1 (by omega)
                  have f2 := fc 2 (by omega)
                  have f3 := fc 3 (by omega)
                  have f4 := fc 4 (by omega)
                  have f5 := fc 5 (by omega)
                  have f6 := fc 6 (by omega)
                  clear fc hwp14
                  refine wpAnyH_ready (rs := [10]) (by kernel_rfl) (by simp) ?_
                  refine AllReadyH.cons (by simp only [List.getElem?_toArray, List.getElem?_cons_succ, List.getElem?_cons_zero]; rfl) (fun K hK => ?_) AllReadyH.nil
                  go_simp
                  rw [HW14.out]
                  refine hK.out _ _ ?_ (fun hHeldN => ?_)
                  · exact ⟨cell_moved mp14 hHeld.1 (by have := HG14.out; have := HG9.out; simp; omega), cell_moved mp14 hHeld.2.1 (by have := HG14.out; have := HG9.out; simp; omega), cell_moved mp14 hHeld.2.2.1 (by have := HG14.out; have := HG9.out; simp; omega), cell_moved mp14 hHeld.2.2.2.1 (by have := HG14.out; have := HG9.out; simp; omega), cell_moved mp14 hHeld.2.2.2.2.1 (by have := HG14.out; have := HG9.out; simp; omega), cell_moved mp14 hHeld.2.2.2.2.2.1 (by have := HG14.out; have := HG9.out; simp; omega), cell_moved mp14 hHeld.2.2.2.2.2.2.1 (by have := HG14.out; have := HG9.out; simp; omega), cell_moved mp14 hHeld.2.2.2.2.2.2.2.1 (by have := HG14.out; have := HG9.out; simp; omega), cell_moved mp14 hHeld.2.2.2.2.2.2.2.2.1 (by have := HG14.out; have := HG9.out; simp; omega), cell_moved mp14 hHeld.2.2.2.2.2.2.2.2.2.1 (by have := HG14.out; have := HG9.out; simp; omega), cell_moved mp14 hHeld.2.2.2.2.2.2.2.2.2.2.1 (by have := HG14.out; have := HG9.out; simp; omega), cell_moved mp14 hHeld.2.2.2.2.2.2.2.2.2.2.2.1 (by have := HG14.out; have := HG9.out; simp; omega), cell_moved mp14 hHeld.2.2.2.2.2.2.2.2.2.2.2.2.1 (by have := HG14.out; have := HG9.out; simp; omega), cell_moved mp14 hHeld.2.2.2.2.2.2.2.2.2.2.2.2.2 (by have := HG14.out; have := HG9.out; simp; omega)⟩
                  clear hK K hHeld
                  have hHeld := hHeldN
                  clear hHeldN
                  (try simp only [Act.put, List.setIfInBounds_toArray, List.set_cons_zero, List.set_cons_succ])
                  clear d0 d1 d2 d3 d4 d5 d6 f0 f1 f2 f3 f4 f5 f6
                  have HBF := hid (show Below wr.heap.size wr wp14 from (HS6bel.out.trans (mp13.toBelow HS6bel.out.size (fun j hj => by have := HG13.out; have := HGW.out; simp at hj; omega))).trans (mp14.toBelow (Nat.le_trans HS6bel.out.size mp13.size) (fun j hj => by have := HG14.out; have := HGW.out; simp at hj; omega)))
                  refine wpAnyH_done (by kernel_rfl) ?_ _
                  clear hHeld
                  go_wp2_with fail
                  go_meet
                  exact ⟨b13, b14, xr1, _, cr1, xr2, _, cr2, rfl, rfl, rfl, HQX.out, HQ14.out, pairs_owned HR3.out, pairs_owned HR4.out, HNE.out, Nat.le_of_lt HG13.out.1, Nat.le_of_lt HG14.out.1, HN5_1.out, HN5_2.out, HBF.out⟩
            · go_simp
              obtain ⟨v7_, hv⟩ : ∃ V, v1_.alloc (.cells #[.int .i64 0, .int .i64 0, .int .u8 0, .bool false, .int .u8 0, .slice none 0 0, .slice none 0 0] 38) = V := ⟨_, rfl⟩
              have HB7_ := hid (show Below v1_.heap.size v1_ v7_ by rw [← hv]; exact bal (Below.refl _ _) _)
              have HX7_ := hid (show Box7 v7_ v1_.heap.size (.int .i64 0) (.int .i64 0) (.int .u8 0) (.bool false) (.int .u8 0) (.slice none 0 0) (.slice none 0 0) by rw [← hv]; exact Box7.new v1_ 38)
              rw [hv]
              clear hv
              obtain ⟨b13, hb13⟩ : ∃ b, v1_.heap.size = b := ⟨_, rfl⟩
              have HG13 := hid (show wr.heap.size < b13 ∧ b12 < b13 from by have := HZ1.out; have := HB12.out; omega)
              have HN7_1 := hid (show b13 ∉ blkV (.slice xr1 ps1.length cr1) from fun q => by have := own_lt HO1_.out _ q; omega)
              rw [hb13] at HX7_
              rw [hb13]
              have HBB13 := hid hb13
              clear hb13
              have HS7o1 := hid (own_below HO1_.out HB7_.out)
              have HS7bel := hid (below_t HS1bel.out HB7_.out)
              have HZ7 := hid (Nat.le_trans HZ1.out HB7_.out.size)
              refine hK.out _ _ ?_ (fun hHeldN => ?_)
              · exact ⟨keepc HB7_.out hHeld.1, keepc HB7_.out hHeld.2.1, keepc HB7_.out hHeld.2.2.1, keepc HB7_.out hHeld.2.2.2.1, keepc HB7_.out hHeld.2.2.2.2.1, keepc HB7_.out hHeld.2.2.2.2.2.1, keepc HB7_.out hHeld.2.2.2.2.2.2.1, keepc HB7_.out hHeld.2.2.2.2.2.2.2.1, keepc HB7_.out hHeld.2.2.2.2.2.2.2.2.1, keepc HB7_.out hHeld.2.2.2.2.2.2.2.2.2.1, keepc HB7_.out hHeld.2.2.2.2.2.2.2.2.2.2.1, keepc HB7_.out hHeld.2.2.2.2.2.2.2.2.2.2.2.1, keepc HB7_.out hHeld.2.2.2.2.2.2.2.2.2.2.2.2.1, keepc HB7_.out hHeld.2.2.2.2.2.2.2.2.2.2.2.2.2⟩
              clear hK K hHeld
              have hHeld := hHeldN
              clear hHeldN
              (try simp only [Act.put, List.setIfInBounds_toArray, List.set_cons_zero, List.set_cons_succ])
              refine wpAnyH_ready (rs := [6, 8]) (by kernel_rfl) (by simp) ?_
              refine AllReadyH.cons (by simp only [List.getElem?_toArray, List.getElem?_cons_succ, List.getElem?_cons_zero]; rfl) (fun K hK => ?_) (AllReadyH.cons (by simp only [List.getElem?_toArray, List.getElem?_cons_succ, List.getElem?_cons_zero]; rfl) (fun K hK => ?_) AllReadyH.nil)
              · go_simp
                with_reducible refine (HC2.out _ HS7bel.out).mono ?_
                rintro e v8_ ⟨rv, rfl, ho, hb⟩
                dsimp only at ho
                obtain ⟨xr2, cr2, rfl⟩ := row_slice ho
                have HB8_ := hid hb
                have HO8_ := hid (own_weak (B' := 0) ho (Nat.zero_le _))
                have HN8_13 := hid (show b13 ∉ blkV (.slice xr2 ps2.length cr2) from fun q => by have := (ho.lt _ (mem_blkV.1 q)).1; have := HX7_.out.lt; omega)
                clear ho hb
                (try go_wp2_with fail)
                have HS8o1 := hid (own_below HS7o1.out HB8_.out)
                have HS8B13 := hid (HX7_.out.step HB8_.out)
                have HS8bel := hid (below_t HS7bel.out HB8_.out)
                have HZ8 := hid (Nat.le_trans HZ7.out HB8_.out.size)
                refine hK.out _ _ ?_ (fun hHeldN => ?_)
                · exact ⟨keepc HB8_.out hHeld.1, keepc HB8_.out hHeld.2.1, keepc HB8_.out hHeld.2.2.1, keepc HB8_.out hHeld.2.2.2.1, keepc HB8_.out hHeld.2.2.2.2.1, keepc HB8_.out hHeld.2.2.2.2.2.1, keepc HB8_.out hHeld.2.2.2.2.2.2.1, keepc HB8_.out hHeld.2.2.2.2.2.2.2.1, keepc HB8_.out hHeld.2.2.2.2.2.2.2.2.1, keepc HB8_.out hHeld.2.2.2.2.2.2.2.2.2.1, keepc HB8_.out hHeld.2.2.2.2.2.2.2.2.2.2.1, keepc HB8_.out hHeld.2.2.2.2.2.2.2.2.2.2.2.1, keepc HB8_.out hHeld.2.2.2.2.2.2.2.2.2.2.2.2.1, keepc HB8_.out hHeld.2.2.2.2.2.2.2.2.2.2.2.2.2⟩
                clear hK K hHeld
                have hHeld := hHeldN
                clear hHeldN
                (try simp only [Act.put, List.setIfInBounds_toArray, List.set_cons_zero, List.set_cons_succ])
                refine wpAnyH_ready (rs := [8]) (by kernel_rfl) (by simp) ?_
                refine AllReadyH.cons (by simp only [List.getElem?_toArray, List.getElem?_cons_succ, List.getElem?_cons_zero]; rfl) (fun K hK => ?_) AllReadyH.nil
                · go_simp
                  obtain ⟨v9_, hv⟩ : ∃ V, v8_.alloc (.cells #[.int .i64 0, .int .i64 0, .int .u8 0, .bool false, .int .u8 0, .slice none 0 0, .slice none 0 0] 38) = V := ⟨_, rfl⟩
                  have HB9_ := hid (show Below v8_.heap.size v8_ v9_ by rw [← hv]; exact bal (Below.refl _ _) _)
                  have HX9_ := hid (show Box7 v9_ v8_.heap.size (.int .i64 0) (.int .i64 0) (.int .u8 0) (.bool false) (.int .u8 0) (.slice none 0 0) (.slice none 0 0) by rw [← hv]; exact Box7.new v8_ 38)
                  rw [hv]
                  clear hv
                  obtain ⟨b14, hb14⟩ : ∃ b, v8_.heap.size = b := ⟨_, rfl⟩
                  have HG14 := hid (show wr.heap.size < b14 ∧ b12 < b14 from by have := HZ8.out; have := HB12.out; omega)
                  have HN9_1 := hid (show b14 ∉ blkV (.slice xr1 ps1.length cr1) from fun q => by have := own_lt HS8o1.out _ q; omega)
                  have HN9_2 := hid (show b14 ∉ blkV (.slice xr2 ps2.length cr2) from fun q => by have := own_lt HO8_.out _ q; omega)
                  have HNE := hid (show b13 ≠ b14 from by have := HS8B13.out.lt; omega)
                  rw [hb14] at HX9_
                  rw [hb14]
                  have HBB14 := hid hb14
                  clear hb14
                  have HS9o1 := hid (own_below HS8o1.out HB9_.out)
                  have HS9o2 := hid (own_below HO8_.out HB9_.out)
                  have HS9B13 := hid (HS8B13.out.step HB9_.out)
                  have HS9bel := hid (below_t HS8bel.out HB9_.out)
                  have HZ9 := hid (Nat.le_trans HZ8.out HB9_.out.size)
                  refine hK.out _ _ ?_ (fun hHeldN => ?_)
                  · exact ⟨keepc HB9_.out hHeld.1, keepc HB9_.out hHeld.2.1, keepc HB9_.out hHeld.2.2.1, keepc HB9_.out hHeld.2.2.2.1, keepc HB9_.out hHeld.2.2.2.2.1, keepc HB9_.out hHeld.2.2.2.2.2.1, keepc HB9_.out hHeld.2.2.2.2.2.2.1, keepc HB9_.out hHeld.2.2.2.2.2.2.2.1, keepc HB9_.out hHeld.2.2.2.2.2.2.2.2.1, keepc HB9_.out hHeld.2.2.2.2.2.2.2.2.2.1, keepc HB9_.out hHeld.2.2.2.2.2.2.2.2.2.2.1, keepc HB9_.out hHeld.2.2.2.2.2.2.2.2.2.2.2.1, keepc HB9_.out hHeld.2.2.2.2.2.2.2.2.2.2.2.2.1, keepc HB9_.out hHeld.2.2.2.2.2.2.2.2.2.2.2.2.2⟩
                  clear hK K hHeld
                  have hHeld := hHeldN
                  clear hHeldN
                  (try simp only [Act.put, List.setIfInBounds_toArray, List.set_cons_zero, List.set_cons_succ])
                  obtain ⟨wp13, hwp13⟩ : ∃ V, put7 v9_ b13 (.int .i64 kd1) (.int .i64 ad1) (.int .u8 cd1) (.bool gr1) (.int .u8 fa1) (.slice xr1 ps1.length cr1) (.slice xt1 tx1.length ct1) = V := ⟨_, rfl⟩
                  have mp13 : Moved v9_ wp13 [b13] [b13] := by rw [← hwp13]; exact put7_moved _ _ _ _ _ _ _ _ _
                  have HQ13 := hid (show Box7 wp13 b13 (.int .i64 kd1) (.int .i64 ad1) (.int .u8 cd1) (.bool gr1) (.int .u8 fa1) (.slice xr1 ps1.length cr1) (.slice xt1 tx1.length ct1) by rw [← hwp13]; exact HS9B13.out.put (.int .i64 kd1) (.int .i64 ad1) (.int .u8 cd1) (.bool gr1) (.int .u8 fa1) (.slice xr1 ps1.length cr1) (.slice xt1 tx1.length ct1))
                  have HO14 := hid (HX9_.out.moved mp13 (by have := HNE.out; simp; omega))
                  have HR1 := hid (own_moved HS9o1.out mp13 (fun j hj q => by simp at q; subst q; exact HN7_1.out hj))
                  have HR2 := hid (own_moved HS9o2.out mp13 (fun j hj q => by simp at q; subst q; exact HN8_13.out hj))
                  unfold put7 at hwp13
                  have HW13 := hid hwp13
                  obtain ⟨d0, d1, d2, d3, d4, d5, d6, fc⟩ := HS9B13.out
                  have f0 := fc 0 (by omega)
                  have f1 := fc 1 (by omega)
                  have f2 := fc 2 (by omega)
                  have f3 := fc 3 (by omega)
                  have f4 := fc 4 (by omega)
                  have f5 := fc 5 (by omega)
                  have f6 := fc 6 (by omega)
                  clear fc hwp13
                  refine wpAnyH_ready (rs := [9]) (by kernel_rfl) (by simp) ?_
                  refine AllReadyH.cons (by simp only [List.getElem?_toArray, List.getElem?_cons_succ, List.getElem?_cons_zero]; rfl) (fun K hK => ?_) AllReadyH.nil
                  go_simp
                  rw [HW13.out]
                  refine hK.out _ _ ?_ (fun hHeldN => ?_)
                  · exact ⟨cell_moved mp13 hHeld.1 (by have := HG13.out; have := HG9.out; simp; omega), cell_moved mp13 hHeld.2.1 (by have := HG13.out; have := HG9.out; simp; omega), cell_moved mp13 hHeld.2.2.1 (by have := HG13.out; have := HG9.out; simp; omega), cell_moved mp13 hHeld.2.2.2.1 (by have := HG13.out; have := HG9.out; simp; omega), cell_moved mp13 hHeld.2.2.2.2.1 (by have := HG13.out; have := HG9.out; simp; omega), cell_moved mp13 hHeld.2.2.2.2.2.1 (by have := HG13.out; have := HG9.out; simp; omega), cell_moved mp13 hHeld.2.2.2.2.2.2.1 (by have := HG13.out; have := HG9.out; simp; omega), cell_moved mp13 hHeld.2.2.2.2.2.2.2.1 (by have := HG13.out; have := HG9.out; simp; omega), cell_moved mp13 hHeld.2.2.2.2.2.2.2.2.1 (by have := HG13.out; have := HG9.out; simp; omega), cell_moved mp13 hHeld.2.2.2.2.2.2.2.2.2.1 (by have := HG13.out; have := HG9.out; simp; omega), cell_moved mp13 hHeld.2.2.2.2.2.2.2.2.2.2.1 (by have := HG13.out; have := HG9.out; simp; omega), cell_moved mp13 hHeld.2.2.2.2.2.2.2.2.2.2.2.1 (by have := HG13.out; have := HG9.out; simp; omega), cell_moved mp13 hHeld.2.2.2.2.2.2.2.2.2.2.2.2.1 (by have := HG13.out; have := HG9.out; simp; omega), cell_moved mp13 hHeld.2.2.2.2.2.2.2.2.2.2.2.2.2 (by have := HG13.out; have := HG9.out; simp; omega)⟩
                  clear hK K hHeld
                  have hHeld := hHeldN
                  clear hHeldN
                  (try simp only [Act.put, List.setIfInBounds_toArray, List.set_cons_zero, List.set_cons_succ])
                  clear d0 d1 d2 d3 d4 d5 d6 f0 f1 f2 f3 f4 f5 f6
                  obtain ⟨wp14, hwp14⟩ : ∃ V, put7 wp13 b14 (.int .i64 kd2) (.int .i64 ad2) (.int .u8 cd2) (.bool gr2) (.int .u8 fa2) (.slice xr2 ps2.length cr2) (.slice xt2 tx2.length ct2) = V := ⟨_, rfl⟩
                  have mp14 : Moved wp13 wp14 [b14] [b14] := by rw [← hwp14]; exact put7_moved _ _ _ _ _ _ _ _ _
                  have HQ14 := hid (show Box7 wp14 b14 (.int .i64 kd2) (.int .i64 ad2) (.int .u8 cd2) (.bool gr2) (.int .u8 fa2) (.slice xr2 ps2.length cr2) (.slice xt2 tx2.length ct2) by rw [← hwp14]; exact HO14.out.put (.int .i64 kd2) (.int .i64 ad2) (.int .u8 cd2) (.bool gr2) (.int .u8 fa2) (.slice xr2 ps2.length cr2) (.slice xt2 tx2.length ct2))
                  have HQX := hid (HQ13.out.moved mp14 (by have := HNE.out; simp; omega))
                  have HR3 := hid (own_moved HR1.out mp14 (fun j hj q => by simp at q; subst q; exact HN9_1.out hj))
                  have HR4 := hid (own_moved HR2.out mp14 (fun j hj q => by simp at q; subst q; exact HN9_2.out hj))
                  unfold put7 at hwp14
                  have HW14 := hid hwp14
                  obtain ⟨d0, d1, d2, d3, d4, d5, d6, fc⟩ := HO14.out
                  have f0 := fc 0 (by omega)
                  have f1 := fc 1 (by omega)
                  have f2 := fc 2 (by omega)
                  have f3 := fc 3 (by omega)
                  have f4 := fc 4 (by omega)
                  have f5 := fc 5 (by omega)
                  have f6 := fc 6 (by omega)
                  clear fc hwp14
                  refine wpAnyH_ready (rs := [10]) (by kernel_rfl) (by simp) ?_
                  refine AllReadyH.cons (by simp only [List.getElem?_toArray, List.getElem?_cons_succ, List.getElem?_cons_zero]; rfl) (fun K hK => ?_) AllReadyH.nil
                  go_simp
                  rw [HW14.out]
                  refine hK.out _ _ ?_ (fun hHeldN => ?_)
                  · exact ⟨cell_moved mp14 hHeld.1 (by have := HG14.out; have := HG9.out; simp; omega), cell_moved mp14 hHeld.2.1 (by have := HG14.out; have := HG9.out; simp; omega), cell_moved mp14 hHeld.2.2.1 (by have := HG14.out; have := HG9.out; simp; omega), cell_moved mp14 hHeld.2.2.2.1 (by have := HG14.out; have := HG9.out; simp; omega), cell_moved mp14 hHeld.2.2.2.2.1 (by have := HG14.out; have := HG9.out; simp; omega), cell_moved mp14 hHeld.2.2.2.2.2.1 (by have := HG14.out; have := HG9.out; simp; omega), cell_moved mp14 hHeld.2.2.2.2.2.2.1 (by have := HG14.out; have := HG9.out; simp; omega), cell_moved mp14 hHeld.2.2.2.2.2.2.2.1 (by have := HG14.out; have := HG9.out; simp; omega), cell_moved mp14 hHeld.2.2.2.2.2.2.2.2.1 (by have := HG14.out; have := HG9.out; simp; omega), cell_moved mp14 hHeld.2.2.2.2.2.2.2.2.2.1 (by have := HG14.out; have := HG9.out; simp; omega), cell_moved mp14 hHeld.2.2.2.2.2.2.2.2.2.2.1 (by have := HG14.out; have := HG9.out; simp; omega), cell_moved mp14 hHeld.2.2.2.2.2.2.2.2.2.2.2.1 (by have := HG14.out; have := HG9.out; simp; omega), cell_moved mp14 hHeld.2.2.2.2.2.2.2.2.2.2.2.2.1 (by have := HG14.out; have := HG9.out; simp; omega), cell_moved mp14 hHeld.2.2.2.2.2.2.2.2.2.2.2.2.2 (by have := HG14.out; have := HG9.out; simp; omega)⟩
                  clear hK K hHeld
                  have hHeld := hHeldN
                  clear hHeldN
                  (try simp only [Act.put, List.setIfInBounds_toArray, List.set_cons_zero, List.set_cons_succ])
                  clear d0 d1 d2 d3 d4 d5 d6 f0 f1 f2 f3 f4 f5 f6
                  have HBF := hid (show Below wr.heap.size wr wp14 from (HS9bel.out.trans (mp13.toBelow HS9bel.out.size (fun j hj => by have := HG13.out; have := HGW.out; simp at hj; omega))).trans (mp14.toBelow (Nat.le_trans HS9bel.out.size mp13.size) (fun j hj => by have := HG14.out; have := HGW.out; simp at hj; omega)))
                  refine wpAnyH_done (by kernel_rfl) ?_ _
                  clear hHeld
                  go_wp2_with fail
                  go_meet
                  exact ⟨b13, b14, xr1, _, cr1, xr2, _, cr2, rfl, rfl, rfl, HQX.out, HQ14.out, pairs_owned HR3.out, pairs_owned HR4.out, HNE.out, Nat.le_of_lt HG13.out.1, Nat.le_of_lt HG14.out.1, HN9_1.out, HN9_2.out, HBF.out⟩
              · go_simp
                obtain ⟨v10_, hv⟩ : ∃ V, v7_.alloc (.cells #[.int .i64 0, .int .i64 0, .int .u8 0, .bool false, .int .u8 0, .slice none 0 0, .slice none 0 0] 38) = V := ⟨_, rfl⟩
                have HB10_ := hid (show Below v7_.heap.size v7_ v10_ by rw [← hv]; exact bal (Below.refl _ _) _)
                have HX10_ := hid (show Box7 v10_ v7_.heap.size (.int .i64 0) (.int .i64 0) (.int .u8 0) (.bool false) (.int .u8 0) (.slice none 0 0) (.slice none 0 0) by rw [← hv]; exact Box7.new v7_ 38)
                rw [hv]
                clear hv
                obtain ⟨b14, hb14⟩ : ∃ b, v7_.heap.size = b := ⟨_, rfl⟩
                have HG14 := hid (show wr.heap.size < b14 ∧ b12 < b14 from by have := HZ7.out; have := HB12.out; omega)
                have HN10_1 := hid (show b14 ∉ blkV (.slice xr1 ps1.length cr1) from fun q => by have := own_lt HS7o1.out _ q; omega)
                have HNE := hid (show b13 ≠ b14 from by have := HX7_.out.lt; omega)
                rw [hb14] at HX10_
                rw [hb14]
                have HBB14 := hid hb14
                clear hb14
                have HS10o1 := hid (own_below HS7o1.out HB10_.out)
                have HS10B13 := hid (HX7_.out.step HB10_.out)
                have HS10bel := hid (below_t HS7bel.out HB10_.out)
                have HZ10 := hid (Nat.le_trans HZ7.out HB10_.out.size)
                refine hK.out _ _ ?_ (fun hHeldN => ?_)
                · exact ⟨keepc HB10_.out hHeld.1, keepc HB10_.out hHeld.2.1, keepc HB10_.out hHeld.2.2.1, keepc HB10_.out hHeld.2.2.2.1, keepc HB10_.out hHeld.2.2.2.2.1, keepc HB10_.out hHeld.2.2.2.2.2.1, keepc HB10_.out hHeld.2.2.2.2.2.2.1, keepc HB10_.out hHeld.2.2.2.2.2.2.2.1, keepc HB10_.out hHeld.2.2.2.2.2.2.2.2.1, keepc HB10_.out hHeld.2.2.2.2.2.2.2.2.2.1, keepc HB10_.out hHeld.2.2.2.2.2.2.2.2.2.2.1, keepc HB10_.out hHeld.2.2.2.2.2.2.2.2.2.2.2.1, keepc HB10_.out hHeld.2.2.2.2.2.2.2.2.2.2.2.2.1, keepc HB10_.out hHeld.2.2.2.2.2.2.2.2.2.2.2.2.2⟩
                clear hK K hHeld
                have hHeld := hHeldN
                clear hHeldN
                (try simp only [Act.put, List.setIfInBounds_toArray, List.set_cons_zero, List.set_cons_succ])
                refine wpAnyH_ready (rs := [6]) (by kernel_rfl) (by simp) ?_
                refine AllReadyH.cons (by simp only [List.getElem?_toArray, List.getElem?_cons_succ, List.getElem?_cons_zero]; rfl) (fun K hK => ?_) AllReadyH.nil
                · go_simp
                  with_reducible refine (HC2.out _ HS10bel.out).mono ?_
                  rintro e v11_ ⟨rv, rfl, ho, hb⟩
                  dsimp only at ho
                  obtain ⟨xr2, cr2, rfl⟩ := row_slice ho
                  have HB11_ := hid hb
                  have HO11_ := hid (own_weak (B' := 0) ho (Nat.zero_le _))
                  have HN11_13 := hid (show b13 ∉ blkV (.slice xr2 ps2.length cr2) from fun q => by have := (ho.lt _ (mem_blkV.1 q)).1; have := HS10B13.out.lt; omega)
                  have HN11_14 := hid (show b14 ∉ blkV (.slice xr2 ps2.length cr2) from fun q => by have := (ho.lt _ (mem_blkV.1 q)).1; have := HX10_.out.lt; omega)
                  clear ho hb
                  (try go_wp2_with fail)
                  have HS11o1 := hid (own_below HS10o1.out HB11_.out)
                  have HS11B13 := hid (HS10B13.out.step HB11_.out)
                  have HS11B14 := hid (HX10_.out.step HB11_.out)
                  have HS11bel := hid (below_t HS10bel.out HB11_.out)
                  have HZ11 := hid (Nat.le_trans HZ10.out HB11_.out.size)
                  refine hK.out _ _ ?_ (fun hHeldN => ?_)
                  · exact ⟨keepc HB11_.out hHeld.1, keepc HB11_.out hHeld.2.1, keepc HB11_.out hHeld.2.2.1, keepc HB11_.out hHeld.2.2.2.1, keepc HB11_.out hHeld.2.2.2.2.1, keepc HB11_.out hHeld.2.2.2.2.2.1, keepc HB11_.out hHeld.2.2.2.2.2.2.1, keepc HB11_.out hHeld.2.2.2.2.2.2.2.1, keepc HB11_.out hHeld.2.2.2.2.2.2.2.2.1, keepc HB11_.out hHeld.2.2.2.2.2.2.2.2.2.1, keepc HB11_.out hHeld.2.2.2.2.2.2.2.2.2.2.1, keepc HB11_.out hHeld.2.2.2.2.2.2.2.2.2.2.2.1, keepc HB11_.out hHeld.2.2.2.2.2.2.2.2.2.2.2.2.1, keepc HB11_.out hHeld.2.2.2.2.2.2.2.2.2.2.2.2.2⟩
                  clear hK K hHeld
                  have hHeld := hHeldN
                  clear hHeldN
                  (try simp only [Act.put, List.setIfInBounds_toArray, List.set_cons_zero, List.set_cons_succ])
                  obtain ⟨wp13, hwp13⟩ : ∃ V, put7 v11_ b13 (.int .i64 kd1) (.int .i64 ad1) (.int .u8 cd1) (.bool gr1) (.int .u8 fa1) (.slice xr1 ps1.length cr1) (.slice xt1 tx1.length ct1) = V := ⟨_, rfl⟩
                  have mp13 : Moved v11_ wp13 [b13] [b13] := by rw [← hwp13]; exact put7_moved _ _ _ _ _ _ _ _ _
                  have HQ13 := hid (show Box7 wp13 b13 (.int .i64 kd1) (.int .i64 ad1) (.int .u8 cd1) (.bool gr1) (.int .u8 fa1) (.slice xr1 ps1.length cr1) (.slice xt1 tx1.length ct1) by rw [← hwp13]; exact HS11B13.out.put (.int .i64 kd1) (.int .i64 ad1) (.int .u8 cd1) (.bool gr1) (.int .u8 fa1) (.slice xr1 ps1.length cr1) (.slice xt1 tx1.length ct1))
                  have HO14 := hid (HS11B14.out.moved mp13 (by have := HNE.out; simp; omega))
                  have HR1 := hid (own_moved HS11o1.out mp13 (fun j hj q => by simp at q; subst q; exact HN7_1.out hj))
                  have HR2 := hid (own_moved HO11_.out mp13 (fun j hj q => by simp at q; subst q; exact HN11_13.out hj))
                  unfold put7 at hwp13
                  have HW13 := hid hwp13
                  obtain ⟨d0, d1, d2, d3, d4, d5, d6, fc⟩ := HS11B13.out
                  have f0 := fc 0 (by omega)
                  have f1 := fc 1 (by omega)
                  have f2 := fc 2 (by omega)
                  have f3 := fc 3 (by omega)
                  have f4 := fc 4 (by omega)
                  have f5 := fc 5 (by omega)
                  have f6 := fc 6 (by omega)
                  clear fc hwp13
                  refine wpAnyH_ready (rs := [9]) (by kernel_rfl) (by simp) ?_
                  refine AllReadyH.cons (by simp only [List.getElem?_toArray, List.getElem?_cons_succ, List.getElem?_cons_zero]; rfl) (fun K hK => ?_) AllReadyH.nil
                  go_simp
                  rw [HW13.out]
                  refine hK.out _ _ ?_ (fun hHeldN => ?_)
                  · exact ⟨cell_moved mp13 hHeld.1 (by have := HG13.out; have := HG9.out; simp; omega), cell_moved mp13 hHeld.2.1 (by have := HG13.out; have := HG9.out; simp; omega), cell_moved mp13 hHeld.2.2.1 (by have := HG13.out; have := HG9.out; simp; omega), cell_moved mp13 hHeld.2.2.2.1 (by have := HG13.out; have := HG9.out; simp; omega), cell_moved mp13 hHeld.2.2.2.2.1 (by have := HG13.out; have := HG9.out; simp; omega), cell_moved mp13 hHeld.2.2.2.2.2.1 (by have := HG13.out; have := HG9.out; simp; omega), cell_moved mp13 hHeld.2.2.2.2.2.2.1 (by have := HG13.out; have := HG9.out; simp; omega), cell_moved mp13 hHeld.2.2.2.2.2.2.2.1 (by have := HG13.out; have := HG9.out; simp; omega), cell_moved mp13 hHeld.2.2.2.2.2.2.2.2.1 (by have := HG13.out; have := HG9.out; simp; omega), cell_moved mp13 hHeld.2.2.2.2.2.2.2.2.2.1 (by have := HG13.out; have := HG9.out; simp; omega), cell_moved mp13 hHeld.2.2.2.2.2.2.2.2.2.2.1 (by have := HG13.out; have := HG9.out; simp; omega), cell_moved mp13 hHeld.2.2.2.2.2.2.2.2.2.2.2.1 (by have := HG13.out; have := HG9.out; simp; omega), cell_moved mp13 hHeld.2.2.2.2.2.2.2.2.2.2.2.2.1 (by have := HG13.out; have := HG9.out; simp; omega), cell_moved mp13 hHeld.2.2.2.2.2.2.2.2.2.2.2.2.2 (by have := HG13.out; have := HG9.out; simp; omega)⟩
                  clear hK K hHeld
                  have hHeld := hHeldN
                  clear hHeldN
                  (try simp only [Act.put, List.setIfInBounds_toArray, List.set_cons_zero, List.set_cons_succ])
                  clear d0 d1 d2 d3 d4 d5 d6 f0 f1 f2 f3 f4 f5 f6
                  obtain ⟨wp14, hwp14⟩ : ∃ V, put7 wp13 b14 (.int .i64 kd2) (.int .i64 ad2) (.int .u8 cd2) (.bool gr2) (.int .u8 fa2) (.slice xr2 ps2.length cr2) (.slice xt2 tx2.length ct2) = V := ⟨_, rfl⟩
                  have mp14 : Moved wp13 wp14 [b14] [b14] := by rw [← hwp14]; exact put7_moved _ _ _ _ _ _ _ _ _
                  have HQ14 := hid (show Box7 wp14 b14 (.int .i64 kd2) (.int .i64 ad2) (.int .u8 cd2) (.bool gr2) (.int .u8 fa2) (.slice xr2 ps2.length cr2) (.slice xt2 tx2.length ct2) by rw [← hwp14]; exact HO14.out.put (.int .i64 kd2) (.int .i64 ad2) (.int .u8 cd2) (.bool gr2) (.int .u8 fa2) (.slice xr2 ps2.length cr2) (.slice xt2 tx2.length ct2))
                  have HQX := hid (HQ13.out.moved mp14 (by have := HNE.out; simp; omega))
                  have HR3 := hid (own_moved HR1.out mp14 (fun j hj q => by simp at q; subst q; exact HN10_1.out hj))
                  have HR4 := hid (own_moved HR2.out mp14 (fun j hj q => by simp at q; subst q; exact HN11_14.out hj))
                  unfold put7 at hwp14
                  have HW14 := hid hwp14
                  obtain ⟨d0, d1, d2, d3, d4, d5, d6, fc⟩ := HO14.out
                  have f0 := fc 0 (by omega)
                  have f1 := fc 1 (by omega)
                  have f2 := fc 2 (by omega)
                  have f3 := fc 3 (by omega)
                  have f4 := fc 4 (by omega)
                  have f5 := fc 5 (by omega)
                  have f6 := fc 6 (by omega)
                  clear fc hwp14
                  refine wpAnyH_ready (rs := [10]) (by kernel_rfl) (by simp) ?_
                  refine AllReadyH.cons (by simp only [List.getElem?_toArray, List.getElem?_cons_succ, List.getElem?_cons_zero]; rfl) (fun K hK => ?_) AllReadyH.nil
                  go_simp
                  rw [HW14.out]
                  refine hK.out _ _ ?_ (fun hHeldN => ?_)
                  · exact ⟨cell_moved mp14 hHeld.1 (by have := HG14.out; have := HG9.out; simp; omega), cell_moved mp14 hHeld.2.1 (by have := HG14.out; have := HG9.out; simp; omega), cell_moved mp14 hHeld.2.2.1 (by have := HG14.out; have := HG9.out; simp; omega), cell_moved mp14 hHeld.2.2.2.1 (by have := HG14.out; have := HG9.out; simp; omega), cell_moved mp14 hHeld.2.2.2.2.1 (by have := HG14.out; have := HG9.out; simp; omega), cell_moved mp14 hHeld.2.2.2.2.2.1 (by have := HG14.out; have := HG9.out; simp; omega), cell_moved mp14 hHeld.2.2.2.2.2.2.1 (by have := HG14.out; have := HG9.out; simp; omega), cell_moved mp14 hHeld.2.2.2.2.2.2.2.1 (by have := HG14.out; have := HG9.out; simp; omega), cell_moved mp14 hHeld.2.2.2.2.2.2.2.2.1 (by have := HG14.out; have := HG9.out; simp; omega), cell_moved mp14 hHeld.2.2.2.2.2.2.2.2.2.1 (by have := HG14.out; have := HG9.out; simp; omega), cell_moved mp14 hHeld.2.2.2.2.2.2.2.2.2.2.1 (by have := HG14.out; have := HG9.out; simp; omega), cell_moved mp14 hHeld.2.2.2.2.2.2.2.2.2.2.2.1 (by have := HG14.out; have := HG9.out; simp; omega), cell_moved mp14 hHeld.2.2.2.2.2.2.2.2.2.2.2.2.1 (by have := HG14.out; have := HG9.out; simp; omega), cell_moved mp14 hHeld.2.2.2.2.2.2.2.2.2.2.2.2.2 (by have := HG14.out; have := HG9.out; simp; omega)⟩
                  clear hK K hHeld
                  have hHeld := hHeldN
                  clear hHeldN
                  (try simp only [Act.put, List.setIfInBounds_toArray, List.set_cons_zero, List.set_cons_succ])
                  clear d0 d1 d2 d3 d4 d5 d6 f0 f1 f2 f3 f4 f5 f6
                  have HBF := hid (show Below wr.heap.size wr wp14 from (HS11bel.out.trans (mp13.toBelow HS11bel.out.size (fun j hj => by have := HG13.out; have := HGW.out; simp at hj; omega))).trans (mp14.toBelow (Nat.le_trans HS11bel.out.size mp13.size) (fun j hj => by have := HG14.out; have := HGW.out; simp at hj; omega)))
                  refine wpAnyH_done (by kernel_rfl) ?_ _
                  clear hHeld
                  go_wp2_with fail
                  go_meet
                  exact ⟨b13, b14, xr1, _, cr1, xr2, _, cr2, rfl, rfl, rfl, HQX.out, HQ14.out, pairs_owned HR3.out, pairs_owned HR4.out, HNE.out, Nat.le_of_lt HG13.out.1, Nat.le_of_lt HG14.out.1, HN10_1.out, HN11_14.out, HBF.out⟩
            · go_simp
              obtain ⟨v12_, hv⟩ : ∃ V, v1_.alloc (.cells #[.int .i64 0, .int .i64 0, .int .u8 0, .bool false, .int .u8 0, .slice none 0 0, .slice none 0 0] 38) = V := ⟨_, rfl⟩
              have HB12_ := hid (show Below v1_.heap.size v1_ v12_ by rw [← hv]; exact bal (Below.refl _ _) _)
              have HX12_ := hid (show Box7 v12_ v1_.heap.size (.int .i64 0) (.int .i64 0) (.int .u8 0) (.bool false) (.int .u8 0) (.slice none 0 0) (.slice none 0 0) by rw [← hv]; exact Box7.new v1_ 38)
              rw [hv]
              clear hv
              obtain ⟨b14, hb14⟩ : ∃ b, v1_.heap.size = b := ⟨_, rfl⟩
              have HG14 := hid (show wr.heap.size < b14 ∧ b12 < b14 from by have := HZ1.out; have := HB12.out; omega)
              have HN12_1 := hid (show b14 ∉ blkV (.slice xr1 ps1.length cr1) from fun q => by have := own_lt HO1_.out _ q; omega)
              rw [hb14] at HX12_
              rw [hb14]
              have HBB14 := hid hb14
              clear hb14
              have HS12o1 := hid (own_below HO1_.out HB12_.out)
              have HS12bel := hid (below_t HS1bel.out HB12_.out)
              have HZ12 := hid (Nat.le_trans HZ1.out HB12_.out.size)
              refine hK.out _ _ ?_ (fun hHeldN => ?_)
              · exact ⟨keepc HB12_.out hHeld.1, keepc HB12_.out hHeld.2.1, keepc HB12_.out hHeld.2.2.1, keepc HB12_.out hHeld.2.2.2.1, keepc HB12_.out hHeld.2.2.2.2.1, keepc HB12_.out hHeld.2.2.2.2.2.1, keepc HB12_.out hHeld.2.2.2.2.2.2.1, keepc HB12_.out hHeld.2.2.2.2.2.2.2.1, keepc HB12_.out hHeld.2.2.2.2.2.2.2.2.1, keepc HB12_.out hHeld.2.2.2.2.2.2.2.2.2.1, keepc HB12_.out hHeld.2.2.2.2.2.2.2.2.2.2.1, keepc HB12_.out hHeld.2.2.2.2.2.2.2.2.2.2.2.1, keepc HB12_.out hHeld.2.2.2.2.2.2.2.2.2.2.2.2.1, keepc HB12_.out hHeld.2.2.2.2.2.2.2.2.2.2.2.2.2⟩
              clear hK K hHeld
              have hHeld := hHeldN
              clear hHeldN
              (try simp only [Act.put, List.setIfInBounds_toArray, List.set_cons_zero, List.set_cons_succ])
              refine wpAnyH_ready (rs := [6, 7]) (by kernel_rfl) (by simp) ?_
              refine AllReadyH.cons (by simp only [List.getElem?_toArray, List.getElem?_cons_succ, List.getElem?_cons_zero]; rfl) (fun K hK => ?_) (AllReadyH.cons (by simp only [List.getElem?_toArray, List.getElem?_cons_succ, List.getElem?_cons_zero]; rfl) (fun K hK => ?_) AllReadyH.nil)
              · go_simp
                with_reducible refine (HC2.out _ HS12bel.out).mono ?_
                rintro e v13_ ⟨rv, rfl, ho, hb⟩
                dsimp only at ho
                obtain ⟨xr2, cr2, rfl⟩ := row_slice ho
                have HB13_ := hid hb
                have HO13_ := hid (own_weak (B' := 0) ho (Nat.zero_le _))
                have HN13_14 := hid (show b14 ∉ blkV (.slice xr2 ps2.length cr2) from fun q => by have := (ho.lt _ (mem_blkV.1 q)).1; have := HX12_.out.lt; omega)
                clear ho hb
                (try go_wp2_with fail)
                have HS13o1 := hid (own_below HS12o1.out HB13_.out)
                have HS13B14 := hid (HX12_.out.step HB13_.out)
                have HS13bel := hid (below_t HS12bel.out HB13_.out)
                have HZ13 := hid (Nat.le_trans HZ12.out HB13_.out.size)
                refine hK.out _ _ ?_ (fun hHeldN => ?_)
                · exact ⟨keepc HB13_.out hHeld.1, keepc HB13_.out hHeld.2.1, keepc HB13_.out hHeld.2.2.1, keepc HB13_.out hHeld.2.2.2.1, keepc HB13_.out hHeld.2.2.2.2.1, keepc HB13_.out hHeld.2.2.2.2.2.1, keepc HB13_.out hHeld.2.2.2.2.2.2.1, keepc HB13_.out hHeld.2.2.2.2.2.2.2.1, keepc HB13_.out hHeld.2.2.2.2.2.2.2.2.1, keepc HB13_.out hHeld.2.2.2.2.2.2.2.2.2.1, keepc HB13_.out hHeld.2.2.2.2.2.2.2.2.2.2.1, keepc HB13_.out hHeld.2.2.2.2.2.2.2.2.2.2.2.1, keepc HB13_.out hHeld.2.2.2.2.2.2.2.2.2.2.2.2.1, keepc HB13_.out hHeld.2.2.2.2.2.2.2.2.2.2.2.2.2⟩
                clear hK K hHeld
                have hHeld := hHeldN
                clear hHeldN
                (try simp only [Act.put, List.setIfInBounds_toArray, List.set_cons_zero, List.set_cons_succ])
                refine wpAnyH_ready (rs := [7]) (by kernel_rfl) (by simp) ?_
                refine AllReadyH.cons (by simp only [List.getElem?_toArray, List.getElem?_cons_succ, List.getElem?_cons_zero]; rfl) (fun K hK => ?_) AllReadyH.nil
                · go_simp
                  obtain ⟨v14_, hv⟩ : ∃ V, v13_.alloc (.cells #[.int .i64 0, .int .i64 0, .int .u8 0, .bool false, .int .u8 0, .slice none 0 0, .slice none 0 0] 38) = V := ⟨_, rfl⟩
                  have HB14_ := hid (show Below v13_.heap.size v13_ v14_ by rw [← hv]; exact bal (Below.refl _ _) _)
                  have HX14_ := hid (show Box7 v14_ v13_.heap.size (.int .i64 0) (.int .i64 0) (.int .u8 0) (.bool false) (.int .u8 0) (.slice none 0 0) (.slice none 0 0) by rw [← hv]; exact Box7.new v13_ 38)
                  rw [hv]
                  clear hv
                  obtain ⟨b13, hb13⟩ : ∃ b, v13_.heap.size = b := ⟨_, rfl⟩
                  have HG13 := hid (show wr.heap.size < b13 ∧ b12 < b13 from by have := HZ13.out; have := HB12.out; omega)
                  have HN14_1 := hid (show b13 ∉ blkV (.slice xr1 ps1.length cr1) from fun q => by have := own_lt HS13o1.out _ q; omega)
                  have HN14_2 := hid (show b13 ∉ blkV (.slice xr2 ps2.length cr2) from fun q => by have := own_lt HO13_.out _ q; omega)
                  have HNE := hid (show b13 ≠ b14 from by have := HS13B14.out.lt; omega)
                  rw [hb13] at HX14_
                  rw [hb13]
                  have HBB13 := hid hb13
                  clear hb13
                  have HS14o1 := hid (own_below HS13o1.out HB14_.out)
                  have HS14o2 := hid (own_below HO13_.out HB14_.out)
                  have HS14B14 := hid (HS13B14.out.step HB14_.out)
                  have HS14bel := hid (below_t HS13bel.out HB14_.out)
                  have HZ14 := hid (Nat.le_trans HZ13.out HB14_.out.size)
                  refine hK.out _ _ ?_ (fun hHeldN => ?_)
                  · exact ⟨keepc HB14_.out hHeld.1, keepc HB14_.out hHeld.2.1, keepc HB14_.out hHeld.2.2.1, keepc HB14_.out hHeld.2.2.2.1, keepc HB14_.out hHeld.2.2.2.2.1, keepc HB14_.out hHeld.2.2.2.2.2.1, keepc HB14_.out hHeld.2.2.2.2.2.2.1, keepc HB14_.out hHeld.2.2.2.2.2.2.2.1, keepc HB14_.out hHeld.2.2.2.2.2.2.2.2.1, keepc HB14_.out hHeld.2.2.2.2.2.2.2.2.2.1, keepc HB14_.out hHeld.2.2.2.2.2.2.2.2.2.2.1, keepc HB14_.out hHeld.2.2.2.2.2.2.2.2.2.2.2.1, keepc HB14_.out hHeld.2.2.2.2.2.2.2.2.2.2.2.2.1, keepc HB14_.out hHeld.2.2.2.2.2.2.2.2.2.2.2.2.2⟩
                  clear hK K hHeld
                  have hHeld := hHeldN
                  clear hHeldN
                  (try simp only [Act.put, List.setIfInBounds_toArray, List.set_cons_zero, List.set_cons_succ])
                  obtain ⟨wp13, hwp13⟩ : ∃ V, put7 v14_ b13 (.int .i64 kd1) (.int .i64 ad1) (.int .u8 cd1) (.bool gr1) (.int .u8 fa1) (.slice xr1 ps1.length cr1) (.slice xt1 tx1.length ct1) = V := ⟨_, rfl⟩
                  have mp13 : Moved v14_ wp13 [b13] [b13] := by rw [← hwp13]; exact put7_moved _ _ _ _ _ _ _ _ _
                  have HQ13 := hid (show Box7 wp13 b13 (.int .i64 kd1) (.int .i64 ad1) (.int .u8 cd1) (.bool gr1) (.int .u8 fa1) (.slice xr1 ps1.length cr1) (.slice xt1 tx1.length ct1) by rw [← hwp13]; exact HX14_.out.put (.int .i64 kd1) (.int .i64 ad1) (.int .u8 cd1) (.bool gr1) (.int .u8 fa1) (.slice xr1 ps1.length cr1) (.slice xt1 tx1.length ct1))
                  have HO14 := hid (HS14B14.out.moved mp13 (by have := HNE.out; simp; omega))
                  have HR1 := hid (own_moved HS14o1.out mp13 (fun j hj q => by simp at q; subst q; exact HN14_1.out hj))
                  have HR2 := hid (own_moved HS14o2.out mp13 (fun j hj q => by simp at q; subst q; exact HN14_2.out hj))
                  unfold put7 at hwp13
                  have HW13 := hid hwp13
                  obtain ⟨d0, d1, d2, d3, d4, d5, d6, fc⟩ := HX14_.out
                  have f0 := fc 0 (by omega)
                  have f1 := fc 1 (by omega)
                  have f2 := fc 2 (by omega)
                  have f3 := fc 3 (by omega)
                  have f4 := fc 4 (by omega)
                  have f5 := fc 5 (by omega)
                  have f6 := fc 6 (by omega)
                  clear fc hwp13
                  refine wpAnyH_ready (rs := [9]) (by kernel_rfl) (by simp) ?_
                  refine AllReadyH.cons (by simp only [List.getElem?_toArray, List.getElem?_cons_succ, List.getElem?_cons_zero]; rfl) (fun K hK => ?_) AllReadyH.nil
                  go_simp
                  rw [HW13.out]
                  refine hK.out _ _ ?_ (fun hHeldN => ?_)
                  · exact ⟨cell_moved mp13 hHeld.1 (by have := HG13.out; have := HG9.out; simp; omega), cell_moved mp13 hHeld.2.1 (by have := HG13.out; have := HG9.out; simp; omega), cell_moved mp13 hHeld.2.2.1 (by have := HG13.out; have := HG9.out; simp; omega), cell_moved mp13 hHeld.2.2.2.1 (by have := HG13.out; have := HG9.out; simp; omega), cell_moved mp13 hHeld.2.2.2.2.1 (by have := HG13.out; have := HG9.out; simp; omega), cell_moved mp13 hHeld.2.2.2.2.2.1 (by have := HG13.out; have := HG9.out; simp; omega), cell_moved mp13 hHeld.2.2.2.2.2.2.1 (by have := HG13.out; have := HG9.out; simp; omega), cell_moved mp13 hHeld.2.2.2.2.2.2.2.1 (by have := HG13.out; have := HG9.out; simp; omega), cell_moved mp13 hHeld.2.2.2.2.2.2.2.2.1 (by have := HG13.out; have := HG9.out; simp; omega), cell_moved mp13 hHeld.2.2.2.2.2.2.2.2.2.1 (by have := HG13.out; have := HG9.out; simp; omega), cell_moved mp13 hHeld.2.2.2.2.2.2.2.2.2.2.1 (by have := HG13.out; have := HG9.out; simp; omega), cell_moved mp13 hHeld.2.2.2.2.2.2.2.2.2.2.2.1 (by have := HG13.out; have := HG9.out; simp; omega), cell_moved mp13 hHeld.2.2.2.2.2.2.2.2.2.2.2.2.1 (by have := HG13.out; have := HG9.out; simp; omega), cell_moved mp13 hHeld.2.2.2.2.2.2.2.2.2.2.2.2.2 (by have := HG13.out; have := HG9.out; simp; omega)⟩
                  clear hK K hHeld
                  have hHeld := hHeldN
                  clear hHeldN
                  (try simp only [Act.put, List.setIfInBounds_toArray, List.set_cons_zero, List.set_cons_succ])
                  clear d0 d1 d2 d3 d4 d5 d6 f0 f1 f2 f3 f4 f5 f6
                  obtain ⟨wp14, hwp14⟩ : ∃ V, put7 wp13 b14 (.int .i64 kd2) (.int .i64 ad2) (.int .u8 cd2) (.bool gr2) (.int .u8 fa2) (.slice xr2 ps2.length cr2) (.slice xt2 tx2.length ct2) = V := ⟨_, rfl⟩
                  have mp14 : Moved wp13 wp14 [b14] [b14] := by rw [← hwp14]; exact put7_moved _ _ _ _ _ _ _ _ _
                  have HQ14 := hid (show Box7 wp14 b14 (.int .i64 kd2) (.int .i64 ad2) (.int .u8 cd2) (.bool gr2) (.int .u8 fa2) (.slice xr2 ps2.length cr2) (.slice xt2 tx2.length ct2) by rw [← hwp14]; exact HO14.out.put (.int .i64 kd2) (.int .i64 ad2) (.int .u8 cd2) (.bool gr2) (.int .u8 fa2) (.slice xr2 ps2.length cr2) (.slice xt2 tx2.length ct2))
                  have HQX := hid (HQ13.out.moved mp14 (by have := HNE.out; simp; omega))
                  have HR3 := hid (own_moved HR1.out mp14 (fun j hj q => by simp at q; subst q; exact HN12_1.out hj))
                  have HR4 := hid (own_moved HR2.out mp14 (fun j hj q => by simp at q; subst q; exact HN13_14.out hj))
                  unfold put7 at hwp14
                  have HW14 := hid hwp14
                  obtain ⟨d0, d1, d2, d3, d4, d5, d6, fc⟩ := HO14.out
                  have f0 := fc 0 (by omega)
                  have f1 := fc 1 (by omega)
                  have f2 := fc 2 (by omega)
                  have f3 := fc 3 (by omega)
                  have f4 := fc 4 (by omega)
                  have f5 := fc 5 (by omega)
                  have f6 := fc 6 (by omega)
                  clear fc hwp14
                  refine wpAnyH_ready (rs := [10]) (by kernel_rfl) (by simp) ?_
                  refine AllReadyH.cons (by simp only [List.getElem?_toArray, List.getElem?_cons_succ, List.getElem?_cons_zero]; rfl) (fun K hK => ?_) AllReadyH.nil
                  go_simp
                  rw [HW14.out]
                  refine hK.out _ _ ?_ (fun hHeldN => ?_)
                  · exact ⟨cell_moved mp14 hHeld.1 (by have := HG14.out; have := HG9.out; simp; omega), cell_moved mp14 hHeld.2.1 (by have := HG14.out; have := HG9.out; simp; omega), cell_moved mp14 hHeld.2.2.1 (by have := HG14.out; have := HG9.out; simp; omega), cell_moved mp14 hHeld.2.2.2.1 (by have := HG14.out; have := HG9.out; simp; omega), cell_moved mp14 hHeld.2.2.2.2.1 (by have := HG14.out; have := HG9.out; simp; omega), cell_moved mp14 hHeld.2.2.2.2.2.1 (by have := HG14.out; have := HG9.out; simp; omega), cell_moved mp14 hHeld.2.2.2.2.2.2.1 (by have := HG14.out; have := HG9.out; simp; omega), cell_moved mp14 hHeld.2.2.2.2.2.2.2.1 (by have := HG14.out; have := HG9.out; simp; omega), cell_moved mp14 hHeld.2.2.2.2.2.2.2.2.1 (by have := HG14.out; have := HG9.out; simp; omega), cell_moved mp14 hHeld.2.2.2.2.2.2.2.2.2.1 (by have := HG14.out; have := HG9.out; simp; omega), cell_moved mp14 hHeld.2.2.2.2.2.2.2.2.2.2.1 (by have := HG14.out; have := HG9.out; simp; omega), cell_moved mp14 hHeld.2.2.2.2.2.2.2.2.2.2.2.1 (by have := HG14.out; have := HG9.out; simp; omega), cell_moved mp14 hHeld.2.2.2.2.2.2.2.2.2.2.2.2.1 (by have := HG14.out; have := HG9.out; simp; omega), cell_moved mp14 hHeld.2.2.2.2.2.2.2.2.2.2.2.2.2 (by have := HG14.out; have := HG9.out; simp; omega)⟩
                  clear hK K hHeld
                  have hHeld := hHeldN
                  clear hHeldN
                  (try simp only [Act.put, List.setIfInBounds_toArray, List.set_cons_zero, List.set_cons_succ])
                  clear d0 d1 d2 d3 d4 d5 d6 f0 f1 f2 f3 f4 f5 f6
                  have HBF := hid (show Below wr.heap.size wr wp14 from (HS14bel.out.trans (mp13.toBelow HS14bel.out.size (fun j hj => by have := HG13.out; have := HGW.out; simp at hj; omega))).trans (mp14.toBelow (Nat.le_trans HS14bel.out.size mp13.size) (fun j hj => by have := HG14.out; have := HGW.out; simp at hj; omega)))
                  refine wpAnyH_done (by kernel_rfl) ?_ _
                  clear hHeld
                  go_wp2_with fail
                  go_meet
                  exact ⟨b13, b14, xr1, _, cr1, xr2, _, cr2, rfl, rfl, rfl, HQX.out, HQ14.out, pairs_owned HR3.out, pairs_owned HR4.out, HNE.out, Nat.le_of_lt HG13.out.1, Nat.le_of_lt HG14.out.1, HN12_1.out, HN13_14.out, HBF.out⟩
              · go_simp
                obtain ⟨v15_, hv⟩ : ∃ V, v12_.alloc (.cells #[.int .i64 0, .int .i64 0, .int .u8 0, .bool false, .int .u8 0, .slice none 0 0, .slice none 0 0] 38) = V := ⟨_, rfl⟩
                have HB15_ := hid (show Below v12_.heap.size v12_ v15_ by rw [← hv]; exact bal (Below.refl _ _) _)
                have HX15_ := hid (show Box7 v15_ v12_.heap.size (.int .i64 0) (.int .i64 0) (.int .u8 0) (.bool false) (.int .u8 0) (.slice none 0 0) (.slice none 0 0) by rw [← hv]; exact Box7.new v12_ 38)
                rw [hv]
                clear hv
                obtain ⟨b13, hb13⟩ : ∃ b, v12_.heap.size = b := ⟨_, rfl⟩
                have HG13 := hid (show wr.heap.size < b13 ∧ b12 < b13 from by have := HZ12.out; have := HB12.out; omega)
                have HN15_1 := hid (show b13 ∉ blkV (.slice xr1 ps1.length cr1) from fun q => by have := own_lt HS12o1.out _ q; omega)
                have HNE := hid (show b13 ≠ b14 from by have := HX12_.out.lt; omega)
                rw [hb13] at HX15_
                rw [hb13]
                have HBB13 := hid hb13
                clear hb13
                have HS15o1 := hid (own_below HS12o1.out HB15_.out)
                have HS15B14 := hid (HX12_.out.step HB15_.out)
                have HS15bel := hid (below_t HS12bel.out HB15_.out)
                have HZ15 := hid (Nat.le_trans HZ12.out HB15_.out.size)
                refine hK.out _ _ ?_ (fun hHeldN => ?_)
                · exact ⟨keepc HB15_.out hHeld.1, keepc HB15_.out hHeld.2.1, keepc HB15_.out hHeld.2.2.1, keepc HB15_.out hHeld.2.2.2.1, keepc HB15_.out hHeld.2.2.2.2.1, keepc HB15_.out hHeld.2.2.2.2.2.1, keepc HB15_.out hHeld.2.2.2.2.2.2.1, keepc HB15_.out hHeld.2.2.2.2.2.2.2.1, keepc HB15_.out hHeld.2.2.2.2.2.2.2.2.1, keepc HB15_.out hHeld.2.2.2.2.2.2.2.2.2.1, keepc HB15_.out hHeld.2.2.2.2.2.2.2.2.2.2.1, keepc HB15_.out hHeld.2.2.2.2.2.2.2.2.2.2.2.1, keepc HB15_.out hHeld.2.2.2.2.2.2.2.2.2.2.2.2.1, keepc HB15_.out hHeld.2.2.2.2.2.2.2.2.2.2.2.2.2⟩
                clear hK K hHeld
                have hHeld := hHeldN
                clear hHeldN
                (try simp only [Act.put, List.setIfInBounds_toArray, List.set_cons_zero, List.set_cons_succ])
                refine wpAnyH_ready (rs := [6]) (by kernel_rfl) (by simp) ?_
                refine AllReadyH.cons (by simp only [List.getElem?_toArray, List.getElem?_cons_succ, List.getElem?_cons_zero]; rfl) (fun K hK => ?_) AllReadyH.nil
                · go_simp
                  with_reducible refine (HC2.out _ HS15bel.out).mono ?_
                  rintro e v16_ ⟨rv, rfl, ho, hb⟩
                  dsimp only at ho
                  obtain ⟨xr2, cr2, rfl⟩ := row_slice ho
                  have HB16_ := hid hb
                  have HO16_ := hid (own_weak (B' := 0) ho (Nat.zero_le _))
                  have HN16_13 := hid (show b13 ∉ blkV (.slice xr2 ps2.length cr2) from fun q => by have := (ho.lt _ (mem_blkV.1 q)).1; have := HX15_.out.lt; omega)
                  have HN16_14 := hid (show b14 ∉ blkV (.slice xr2 ps2.length cr2) from fun q => by have := (ho.lt _ (mem_blkV.1 q)).1; have := HS15B14.out.lt; omega)
                  clear ho hb
                  (try go_wp2_with fail)
                  have HS16o1 := hid (own_below HS15o1.out HB16_.out)
                  have HS16B13 := hid (HX15_.out.step HB16_.out)
                  have HS16B14 := hid (HS15B14.out.step HB16_.out)
                  have HS16bel := hid (below_t HS15bel.out HB16_.out)
                  have HZ16 := hid (Nat.le_trans HZ15.out HB16_.out.size)
                  refine hK.out _ _ ?_ (fun hHeldN => ?_)
                  · exact ⟨keepc HB16_.out hHeld.1, keepc HB16_.out hHeld.2.1, keepc HB16_.out hHeld.2.2.1, keepc HB16_.out hHeld.2.2.2.1, keepc HB16_.out hHeld.2.2.2.2.1, keepc HB16_.out hHeld.2.2.2.2.2.1, keepc HB16_.out hHeld.2.2.2.2.2.2.1, keepc HB16_.out hHeld.2.2.2.2.2.2.2.1, keepc HB16_.out hHeld.2.2.2.2.2.2.2.2.1, keepc HB16_.out hHeld.2.2.2.2.2.2.2.2.2.1, keepc HB16_.out hHeld.2.2.2.2.2.2.2.2.2.2.1, keepc HB16_.out hHeld.2.2.2.2.2.2.2.2.2.2.2.1, keepc HB16_.out hHeld.2.2.2.2.2.2.2.2.2.2.2.2.1, keepc HB16_.out hHeld.2.2.2.2.2.2.2.2.2.2.2.2.2⟩
                  clear hK K hHeld
                  have hHeld := hHeldN
                  clear hHeldN
                  (try simp only [Act.put, List.setIfInBounds_toArray, List.set_cons_zero, List.set_cons_succ])
                  obtain ⟨wp13, hwp13⟩ : ∃ V, put7 v16_ b13 (.int .i64 kd1) (.int .i64 ad1) (.int .u8 cd1) (.bool gr1) (.int .u8 fa1) (.slice xr1 ps1.length cr1) (.slice xt1 tx1.length ct1) = V := ⟨_, rfl⟩
                  have mp13 : Moved v16_ wp13 [b13] [b13] := by rw [← hwp13]; exact put7_moved _ _ _ _ _ _ _ _ _
                  have HQ13 := hid (show Box7 wp13 b13 (.int .i64 kd1) (.int .i64 ad1) (.int .u8 cd1) (.bool gr1) (.int .u8 fa1) (.slice xr1 ps1.length cr1) (.slice xt1 tx1.length ct1) by rw [← hwp13]; exact HS16B13.out.put (.int .i64 kd1) (.int .i64 ad1) (.int .u8 cd1) (.bool gr1) (.int .u8 fa1) (.slice xr1 ps1.length cr1) (.slice xt1 tx1.length ct1))
                  have HO14 := hid (HS16B14.out.moved mp13 (by have := HNE.out; simp; omega))
                  have HR1 := hid (own_moved HS16o1.out mp13 (fun j hj q => by simp at q; subst q; exact HN15_1.out hj))
                  have HR2 := hid (own_moved HO16_.out mp13 (fun j hj q => by simp at q; subst q; exact HN16_13.out hj))
                  unfold put7 at hwp13
                  have HW13 := hid hwp13
                  obtain ⟨d0, d1, d2, d3, d4, d5, d6, fc⟩ := HS16B13.out
                  have f0 := fc 0 (by omega)
                  have f1 := fc 1 (by omega)
                  have f2 := fc 2 (by omega)
                  have f3 := fc 3 (by omega)
                  have f4 := fc 4 (by omega)
                  have f5 := fc 5 (by omega)
                  have f6 := fc 6 (by omega)
                  clear fc hwp13
                  refine wpAnyH_ready (rs := [9]) (by kernel_rfl) (by simp) ?_
                  refine AllReadyH.cons (by simp only [List.getElem?_toArray, List.getElem?_cons_succ, List.getElem?_cons_zero]; rfl) (fun K hK => ?_) AllReadyH.nil
                  go_simp
                  rw [HW13.out]
                  refine hK.out _ _ ?_ (fun hHeldN => ?_)
                  · exact ⟨cell_moved mp13 hHeld.1 (by have := HG13.out; have := HG9.out; simp; omega), cell_moved mp13 hHeld.2.1 (by have := HG13.out; have := HG9.out; simp; omega), cell_moved mp13 hHeld.2.2.1 (by have := HG13.out; have := HG9.out; simp; omega), cell_moved mp13 hHeld.2.2.2.1 (by have := HG13.out; have := HG9.out; simp; omega), cell_moved mp13 hHeld.2.2.2.2.1 (by have := HG13.out; have := HG9.out; simp; omega), cell_moved mp13 hHeld.2.2.2.2.2.1 (by have := HG13.out; have := HG9.out; simp; omega), cell_moved mp13 hHeld.2.2.2.2.2.2.1 (by have := HG13.out; have := HG9.out; simp; omega), cell_moved mp13 hHeld.2.2.2.2.2.2.2.1 (by have := HG13.out; have := HG9.out; simp; omega), cell_moved mp13 hHeld.2.2.2.2.2.2.2.2.1 (by have := HG13.out; have := HG9.out; simp; omega), cell_moved mp13 hHeld.2.2.2.2.2.2.2.2.2.1 (by have := HG13.out; have := HG9.out; simp; omega), cell_moved mp13 hHeld.2.2.2.2.2.2.2.2.2.2.1 (by have := HG13.out; have := HG9.out; simp; omega), cell_moved mp13 hHeld.2.2.2.2.2.2.2.2.2.2.2.1 (by have := HG13.out; have := HG9.out; simp; omega), cell_moved mp13 hHeld.2.2.2.2.2.2.2.2.2.2.2.2.1 (by have := HG13.out; have := HG9.out; simp; omega), cell_moved mp13 hHeld.2.2.2.2.2.2.2.2.2.2.2.2.2 (by have := HG13.out; have := HG9.out; simp; omega)⟩
                  clear hK K hHeld
                  have hHeld := hHeldN
                  clear hHeldN
                  (try simp only [Act.put, List.setIfInBounds_toArray, List.set_cons_zero, List.set_cons_succ])
                  clear d0 d1 d2 d3 d4 d5 d6 f0 f1 f2 f3 f4 f5 f6
                  obtain ⟨wp14, hwp14⟩ : ∃ V, put7 wp13 b14 (.int .i64 kd2) (.int .i64 ad2) (.int .u8 cd2) (.bool gr2) (.int .u8 fa2) (.slice xr2 ps2.length cr2) (.slice xt2 tx2.length ct2) = V := ⟨_, rfl⟩
                  have mp14 : Moved wp13 wp14 [b14] [b14] := by rw [← hwp14]; exact put7_moved _ _ _ _ _ _ _ _ _
                  have HQ14 := hid (show Box7 wp14 b14 (.int .i64 kd2) (.int .i64 ad2) (.int .u8 cd2) (.bool gr2) (.int .u8 fa2) (.slice xr2 ps2.length cr2) (.slice xt2 tx2.length ct2) by rw [← hwp14]; exact HO14.out.put (.int .i64 kd2) (.int .i64 ad2) (.int .u8 cd2) (.bool gr2) (.int .u8 fa2) (.slice xr2 ps2.length cr2) (.slice xt2 tx2.length ct2))
                  have HQX := hid (HQ13.out.moved mp14 (by have := HNE.out; simp; omega))
                  have HR3 := hid (own_moved HR1.out mp14 (fun j hj q => by simp at q; subst q; exact HN12_1.out hj))
                  have HR4 := hid (own_moved HR2.out mp14 (fun j hj q => by simp at q; subst q; exact HN16_14.out hj))
                  unfold put7 at hwp14
                  have HW14 := hid hwp14
                  obtain ⟨d0, d1, d2, d3, d4, d5, d6, fc⟩ := HO14.out
                  have f0 := fc 0 (by omega)
                  have f1 := fc 1 (by omega)
                  have f2 := fc 2 (by omega)
                  have f3 := fc 3 (by omega)
                  have f4 := fc 4 (by omega)
                  have f5 := fc 5 (by omega)
                  have f6 := fc 6 (by omega)
                  clear fc hwp14
                  refine wpAnyH_ready (rs := [10]) (by kernel_rfl) (by simp) ?_
                  refine AllReadyH.cons (by simp only [List.getElem?_toArray, List.getElem?_cons_succ, List.getElem?_cons_zero]; rfl) (fun K hK => ?_) AllReadyH.nil
                  go_simp
                  rw [HW14.out]
                  refine hK.out _ _ ?_ (fun hHeldN => ?_)
                  · exact ⟨cell_moved mp14 hHeld.1 (by have := HG14.out; have := HG9.out; simp; omega), cell_moved mp14 hHeld.2.1 (by have := HG14.out; have := HG9.out; simp; omega), cell_moved mp14 hHeld.2.2.1 (by have := HG14.out; have := HG9.out; simp; omega), cell_moved mp14 hHeld.2.2.2.1 (by have := HG14.out; have := HG9.out; simp; omega), cell_moved mp14 hHeld.2.2.2.2.1 (by have := HG14.out; have := HG9.out; simp; omega), cell_moved mp14 hHeld.2.2.2.2.2.1 (by have := HG14.out; have := HG9.out; simp; omega), cell_moved mp14 hHeld.2.2.2.2.2.2.1 (by have := HG14.out; have := HG9.out; simp; omega), cell_moved mp14 hHeld.2.2.2.2.2.2.2.1 (by have := HG14.out; have := HG9.out; simp; omega), cell_moved mp14 hHeld.2.2.2.2.2.2.2.2.1 (by have := HG14.out; have := HG9.out; simp; omega), cell_moved mp14 hHeld.2.2.2.2.2.2.2.2.2.1 (by have := HG14.out; have := HG9.out; simp; omega), cell_moved mp14 hHeld.2.2.2.2.2.2.2.2.2.2.1 (by have := HG14.out; have := HG9.out; simp; omega), cell_moved mp14 hHeld.2.2.2.2.2.2.2.2.2.2.2.1 (by have := HG14.out; have := HG9.out; simp; omega), cell_moved mp14 hHeld.2.2.2.2.2.2.2.2.2.2.2.2.1 (by have := HG14.out; have := HG9.out; simp; omega), cell_moved mp14 hHeld.2.2.2.2.2.2.2.2.2.2.2.2.2 (by have := HG14.out; have := HG9.out; simp; omega)⟩
                  clear hK K hHeld
                  have hHeld := hHeldN
                  clear hHeldN
                  (try simp only [Act.put, List.setIfInBounds_toArray, List.set_cons_zero, List.set_cons_succ])
                  clear d0 d1 d2 d3 d4 d5 d6 f0 f1 f2 f3 f4 f5 f6
                  have HBF := hid (show Below wr.heap.size wr wp14 from (HS16bel.out.trans (mp13.toBelow HS16bel.out.size (fun j hj => by have := HG13.out; have := HGW.out; simp at hj; omega))).trans (mp14.toBelow (Nat.le_trans HS16bel.out.size mp13.size) (fun j hj => by have := HG14.out; have := HGW.out; simp at hj; omega)))
                  refine wpAnyH_done (by kernel_rfl) ?_ _
                  clear hHeld
                  go_wp2_with fail
                  go_meet
                  exact ⟨b13, b14, xr1, _, cr1, xr2, _, cr2, rfl, rfl, rfl, HQX.out, HQ14.out, pairs_owned HR3.out, pairs_owned HR4.out, HNE.out, Nat.le_of_lt HG13.out.1, Nat.le_of_lt HG14.out.1, HN12_1.out, HN16_14.out, HBF.out⟩
          · go_simp
            obtain ⟨v17_, hv⟩ : ∃ V, V0.alloc (.cells #[.int .i64 0, .int .i64 0, .int .u8 0, .bool false, .int .u8 0, .slice none 0 0, .slice none 0 0] 38) = V := ⟨_, rfl⟩
            have HB17_ := hid (show Below V0.heap.size V0 v17_ by rw [← hv]; exact bal (Below.refl _ _) _)
            have HX17_ := hid (show Box7 v17_ V0.heap.size (.int .i64 0) (.int .i64 0) (.int .u8 0) (.bool false) (.int .u8 0) (.slice none 0 0) (.slice none 0 0) by rw [← hv]; exact Box7.new V0 38)
            rw [hv]
            clear hv
            obtain ⟨b13, hb13⟩ : ∃ b, V0.heap.size = b := ⟨_, rfl⟩
            have HG13 := hid (show wr.heap.size < b13 ∧ b12 < b13 from by have := HZV.out; have := HB12.out; omega)
            rw [hb13] at HX17_
            rw [hb13]
            have HBB13 := hid hb13
            clear hb13
            have HS17bel := hid (below_t HBV.out HB17_.out)
            have HZ17 := hid (Nat.le_trans HZV.out HB17_.out.size)
            refine hK.out _ _ ?_ (fun hHeldN => ?_)
            · exact ⟨keepc HB17_.out hHeld.1, keepc HB17_.out hHeld.2.1, keepc HB17_.out hHeld.2.2.1, keepc HB17_.out hHeld.2.2.2.1, keepc HB17_.out hHeld.2.2.2.2.1, keepc HB17_.out hHeld.2.2.2.2.2.1, keepc HB17_.out hHeld.2.2.2.2.2.2.1, keepc HB17_.out hHeld.2.2.2.2.2.2.2.1, keepc HB17_.out hHeld.2.2.2.2.2.2.2.2.1, keepc HB17_.out hHeld.2.2.2.2.2.2.2.2.2.1, keepc HB17_.out hHeld.2.2.2.2.2.2.2.2.2.2.1, keepc HB17_.out hHeld.2.2.2.2.2.2.2.2.2.2.2.1, keepc HB17_.out hHeld.2.2.2.2.2.2.2.2.2.2.2.2.1, keepc HB17_.out hHeld.2.2.2.2.2.2.2.2.2.2.2.2.2⟩
            clear hK K hHeld
            have hHeld := hHeldN
            clear hHeldN
            (try simp only [Act.put, List.setIfInBounds_toArray, List.set_cons_zero, List.set_cons_succ])
            refine wpAnyH_ready (rs := [1, 8]) (by kernel_rfl) (by simp) ?_
            refine AllReadyH.cons (by simp only [List.getElem?_toArray, List.getElem?_cons_succ, List.getElem?_cons_zero]; rfl) (fun K hK => ?_) (AllReadyH.cons (by simp only [List.getElem?_toArray, List.getElem?_cons_succ, List.getElem?_cons_zero]; rfl) (fun K hK => ?_) AllReadyH.nil)
            · go_simp
              with_reducible refine (HC1.out _ HS17bel.out).mono ?_
              rintro e v18_ ⟨rv, rfl, ho, hb⟩
              dsimp only at ho
              obtain ⟨xr1, cr1, rfl⟩ := row_slice ho
              have HB18_ := hid hb
              have HO18_ := hid (own_weak (B' := 0) ho (Nat.zero_le _))
              have HN18_13 := hid (show b13 ∉ blkV (.slice xr1 ps1.length cr1) from fun q => by have := (ho.lt _ (mem_blkV.1 q)).1; have := HX17_.out.lt; omega)
              clear ho hb
              (try go_wp2_with fail)
              have HS18B13 := hid (HX17_.out.step HB18_.out)
              have HS18bel := hid (below_t HS17bel.out HB18_.out)
              have HZ18 := hid (Nat.le_trans HZ17.out HB18_.out.size)
              refine hK.out _ _ ?_ (fun hHeldN => ?_)
              · exact ⟨keepc HB18_.out hHeld.1, keepc HB18_.out hHeld.2.1, keepc HB18_.out hHeld.2.2.1, keepc HB18_.out hHeld.2.2.2.1, keepc HB18_.out hHeld.2.2.2.2.1, keepc HB18_.out hHeld.2.2.2.2.2.1, keepc HB18_.out hHeld.2.2.2.2.2.2.1, keepc HB18_.out hHeld.2.2.2.2.2.2.2.1, keepc HB18_.out hHeld.2.2.2.2.2.2.2.2.1, keepc HB18_.out hHeld.2.2.2.2.2.2.2.2.2.1, keepc HB18_.out hHeld.2.2.2.2.2.2.2.2.2.2.1, keepc HB18_.out hHeld.2.2.2.2.2.2.2.2.2.2.2.1, keepc HB18_.out hHeld.2.2.2.2.2.2.2.2.2.2.2.2.1, keepc HB18_.out hHeld.2.2.2.2.2.2.2.2.2.2.2.2.2⟩
              clear hK K hHeld
              have hHeld := hHeldN
              clear hHeldN
              (try simp only [Act.put, List.setIfInBounds_toArray, List.set_cons_zero, List.set_cons_succ])
              refine wpAnyH_ready (rs := [6, 8]) (by kernel_rfl) (by simp) ?_
              refine AllReadyH.cons (by simp only [List.getElem?_toArray, List.getElem?_cons_succ, List.getElem?_cons_zero]; rfl) (fun K hK => ?_) (AllReadyH.cons (by simp only [List.getElem?_toArray, List.getElem?_cons_succ, List.getElem?_cons_zero]; rfl) (fun K hK => ?_) AllReadyH.nil)
              · go_simp
                with_reducible refine (HC2.out _ HS18bel.out).mono ?_
                rintro e v19_ ⟨rv, rfl, ho, hb⟩
                dsimp only at ho
                obtain ⟨xr2, cr2, rfl⟩ := row_slice ho
                have HB19_ := hid hb
                have HO19_ := hid (own_weak (B' := 0) ho (Nat.zero_le _))
                have HN19_13 := hid (show b13 ∉ blkV (.slice xr2 ps2.length cr2) from fun q => by have := (ho.lt _ (mem_blkV.1 q)).1; have := HS18B13.out.lt; omega)
                clear ho hb
                (try go_wp2_with fail)
                have HS19o1 := hid (own_below HO18_.out HB19_.out)
                have HS19B13 := hid (HS18B13.out.step HB19_.out)
                have HS19bel := hid (below_t HS18bel.out HB19_.out)
                have HZ19 := hid (Nat.le_trans HZ18.out HB19_.out.size)
                refine hK.out _ _ ?_ (fun hHeldN => ?_)
                · exact ⟨keepc HB19_.out hHeld.1, keepc HB19_.out hHeld.2.1, keepc HB19_.out hHeld.2.2.1, keepc HB19_.out hHeld.2.2.2.1, keepc HB19_.out hHeld.2.2.2.2.1, keepc HB19_.out hHeld.2.2.2.2.2.1, keepc HB19_.out hHeld.2.2.2.2.2.2.1, keepc HB19_.out hHeld.2.2.2.2.2.2.2.1, keepc HB19_.out hHeld.2.2.2.2.2.2.2.2.1, keepc HB19_.out hHeld.2.2.2.2.2.2.2.2.2.1, keepc HB19_.out hHeld.2.2.2.2.2.2.2.2.2.2.1, keepc HB19_.out hHeld.2.2.2.2.2.2.2.2.2.2.2.1, keepc HB19_.out hHeld.2.2.2.2.2.2.2.2.2.2.2.2.1, keepc HB19_.out hHeld.2.2.2.2.2.2.2.2.2.2.2.2.2⟩
                clear hK K hHeld
                have hHeld := hHeldN
                clear hHeldN
                (try simp only [Act.put, List.setIfInBounds_toArray, List.set_cons_zero, List.set_cons_succ])
                refine wpAnyH_ready (rs := [8]) (by kernel_rfl) (by simp) ?_
                refine AllReadyH.cons (by simp only [List.getElem?_toArray, List.getElem?_cons_succ, List.getElem?_cons_zero]; rfl) (fun K hK => ?_) AllReadyH.nil
                · go_simp
                  obtain ⟨v20_, hv⟩ : ∃ V, v19_.alloc (.cells #[.int .i64 0, .int .i64 0, .int .u8 0, .bool false, .int .u8 0, .slice none 0 0, .slice none 0 0] 38) = V := ⟨_, rfl⟩
                  have HB20_ := hid (show Below v19_.heap.size v19_ v20_ by rw [← hv]; exact bal (Below.refl _ _) _)
                  have HX20_ := hid (show Box7 v20_ v19_.heap.size (.int .i64 0) (.int .i64 0) (.int .u8 0) (.bool false) (.int .u8 0) (.slice none 0 0) (.slice none 0 0) by rw [← hv]; exact Box7.new v19_ 38)
                  rw [hv]
                  clear hv
                  obtain ⟨b14, hb14⟩ : ∃ b, v19_.heap.size = b := ⟨_, rfl⟩
                  have HG14 := hid (show wr.heap.size < b14 ∧ b12 < b14 from by have := HZ19.out; have := HB12.out; omega)
                  have HN20_1 := hid (show b14 ∉ blkV (.slice xr1 ps1.length cr1) from fun q => by have := own_lt HS19o1.out _ q; omega)
                  have HN20_2 := hid (show b14 ∉ blkV (.slice xr2 ps2.length cr2) from fun q => by have := own_lt HO19_.out _ q; omega)
                  have HNE := hid (show b13 ≠ b14 from by have := HS19B13.out.lt; omega)
                  rw [hb14] at HX20_
                  rw [hb14]
                  have HBB14 := hid hb14
                  clear hb14
                  have HS20o1 := hid (own_below HS19o1.out HB20_.out)
                  have HS20o2 := hid (own_below HO19_.out HB20_.out)
                  have HS20B13 := hid (HS19B13.out.step HB20_.out)
                  have HS20bel := hid (below_t HS19bel.out HB20_.out)
                  have HZ20 := hid (Nat.le_trans HZ19.out HB20_.out.size)
                  refine hK.out _ _ ?_ (fun hHeldN => ?_)
                  · exact ⟨keepc HB20_.out hHeld.1, keepc HB20_.out hHeld.2.1, keepc HB20_.out hHeld.2.2.1, keepc HB20_.out hHeld.2.2.2.1, keepc HB20_.out hHeld.2.2.2.2.1, keepc HB20_.out hHeld.2.2.2.2.2.1, keepc HB20_.out hHeld.2.2.2.2.2.2.1, keepc HB20_.out hHeld.2.2.2.2.2.2.2.1, keepc HB20_.out hHeld.2.2.2.2.2.2.2.2.1, keepc HB20_.out hHeld.2.2.2.2.2.2.2.2.2.1, keepc HB20_.out hHeld.2.2.2.2.2.2.2.2.2.2.1, keepc HB20_.out hHeld.2.2.2.2.2.2.2.2.2.2.2.1, keepc HB20_.out hHeld.2.2.2.2.2.2.2.2.2.2.2.2.1, keepc HB20_.out hHeld.2.2.2.2.2.2.2.2.2.2.2.2.2⟩
                  clear hK K hHeld
                  have hHeld := hHeldN
                  clear hHeldN
                  (try simp only [Act.put, List.setIfInBounds_toArray, List.set_cons_zero, List.set_cons_succ])
                  obtain ⟨wp13, hwp13⟩ : ∃ V, put7 v20_ b13 (.int .i64 kd1) (.int .i64 ad1) (.int .u8 cd1) (.bool gr1) (.int .u8 fa1) (.slice xr1 ps1.length cr1) (.slice xt1 tx1.length ct1) = V := ⟨_, rfl⟩
                  have mp13 : Moved v20_ wp13 [b13] [b13] := by rw [← hwp13]; exact put7_moved _ _ _ _ _ _ _ _ _
                  have HQ13 := hid (show Box7 wp13 b13 (.int .i64 kd1) (.int .i64 ad1) (.int .u8 cd1) (.bool gr1) (.int .u8 fa1) (.slice xr1 ps1.length cr1) (.slice xt1 tx1.length ct1) by rw [← hwp13]; exact HS20B13.out.put (.int .i64 kd1) (.int .i64 ad1) (.int .u8 cd1) (.bool gr1) (.int .u8 fa1) (.slice xr1 ps1.length cr1) (.slice xt1 tx1.length ct1))
                  have HO14 := hid (HX20_.out.moved mp13 (by have := HNE.out; simp; omega))
                  have HR1 := hid (own_moved HS20o1.out mp13 (fun j hj q => by simp at q; subst q; exact HN18_13.out hj))
                  have HR2 := hid (own_moved HS20o2.out mp13 (fun j hj q => by simp at q; subst q; exact HN19_13.out hj))
                  unfold put7 at hwp13
                  have HW13 := hid hwp13
                  obtain ⟨d0, d1, d2, d3, d4, d5, d6, fc⟩ := HS20B13.out
                  have f0 := fc 0 (by omega)
                  have f1 := fc 1 (by omega)
                  have f2 := fc 2 (by omega)
                  have f3 := fc 3 (by omega)
                  have f4 := fc 4 (by omega)
                  have f5 := fc 5 (by omega)
                  have f6 := fc 6 (by omega)
                  clear fc hwp13
                  refine wpAnyH_ready (rs := [9]) (by kernel_rfl) (by simp) ?_
                  refine AllReadyH.cons (by simp only [List.getElem?_toArray, List.getElem?_cons_succ, List.getElem?_cons_zero]; rfl) (fun K hK => ?_) AllReadyH.nil
                  go_simp
                  rw [HW13.out]
                  refine hK.out _ _ ?_ (fun hHeldN => ?_)
                  · exact ⟨cell_moved mp13 hHeld.1 (by have := HG13.out; have := HG9.out; simp; omega), cell_moved mp13 hHeld.2.1 (by have := HG13.out; have := HG9.out; simp; omega), cell_moved mp13 hHeld.2.2.1 (by have := HG13.out; have := HG9.out; simp; omega), cell_moved mp13 hHeld.2.2.2.1 (by have := HG13.out; have := HG9.out; simp; omega), cell_moved mp13 hHeld.2.2.2.2.1 (by have := HG13.out; have := HG9.out; simp; omega), cell_moved mp13 hHeld.2.2.2.2.2.1 (by have := HG13.out; have := HG9.out; simp; omega), cell_moved mp13 hHeld.2.2.2.2.2.2.1 (by have := HG13.out; have := HG9.out; simp; omega), cell_moved mp13 hHeld.2.2.2.2.2.2.2.1 (by have := HG13.out; have := HG9.out; simp; omega), cell_moved mp13 hHeld.2.2.2.2.2.2.2.2.1 (by have := HG13.out; have := HG9.out; simp; omega), cell_moved mp13 hHeld.2.2.2.2.2.2.2.2.2.1 (by have := HG13.out; have := HG9.out; simp; omega), cell_moved mp13 hHeld.2.2.2.2.2.2.2.2.2.2.1 (by have := HG13.out; have := HG9.out; simp; omega), cell_moved mp13 hHeld.2.2.2.2.2.2.2.2.2.2.2.1 (by have := HG13.out; have := HG9.out; simp; omega), cell_moved mp13 hHeld.2.2.2.2.2.2.2.2.2.2.2.2.1 (by have := HG13.out; have := HG9.out; simp; omega), cell_moved mp13 hHeld.2.2.2.2.2.2.2.2.2.2.2.2.2 (by have := HG13.out; have := HG9.out; simp; omega)⟩
                  clear hK K hHeld
                  have hHeld := hHeldN
                  clear hHeldN
                  (try simp only [Act.put, List.setIfInBounds_toArray, List.set_cons_zero, List.set_cons_succ])
                  clear d0 d1 d2 d3 d4 d5 d6 f0 f1 f2 f3 f4 f5 f6
                  obtain ⟨wp14, hwp14⟩ : ∃ V, put7 wp13 b14 (.int .i64 kd2) (.int .i64 ad2) (.int .u8 cd2) (.bool gr2) (.int .u8 fa2) (.slice xr2 ps2.length cr2) (.slice xt2 tx2.length ct2) = V := ⟨_, rfl⟩
                  have mp14 : Moved wp13 wp14 [b14] [b14] := by rw [← hwp14]; exact put7_moved _ _ _ _ _ _ _ _ _
                  have HQ14 := hid (show Box7 wp14 b14 (.int .i64 kd2) (.int .i64 ad2) (.int .u8 cd2) (.bool gr2) (.int .u8 fa2) (.slice xr2 ps2.length cr2) (.slice xt2 tx2.length ct2) by rw [← hwp14]; exact HO14.out.put (.int .i64 kd2) (.int .i64 ad2) (.int .u8 cd2) (.bool gr2) (.int .u8 fa2) (.slice xr2 ps2.length cr2) (.slice xt2 tx2.length ct2))
                  have HQX := hid (HQ13.out.moved mp14 (by have := HNE.out; simp; omega))
                  have HR3 := hid (own_moved HR1.out mp14 (fun j hj q => by simp at q; subst q; exact HN20_1.out hj))
                  have HR4 := hid (own_moved HR2.out mp14 (fun j hj q => by simp at q; subst q; exact HN20_2.out hj))
                  unfold put7 at hwp14
                  have HW14 := hid hwp14
                  obtain ⟨d0, d1, d2, d3, d4, d5, d6, fc⟩ := HO14.out
                  have f0 := fc 0 (by omega)
                  have f1 := fc 1 (by omega)
                  have f2 := fc 2 (by omega)
                  have f3 := fc 3 (by omega)
                  have f4 := fc 4 (by omega)
                  have f5 := fc 5 (by omega)
                  have f6 := fc 6 (by omega)
                  clear fc hwp14
                  refine wpAnyH_ready (rs := [10]) (by kernel_rfl) (by simp) ?_
                  refine AllReadyH.cons (by simp only [List.getElem?_toArray, List.getElem?_cons_succ, List.getElem?_cons_zero]; rfl) (fun K hK => ?_) AllReadyH.nil
                  go_simp
                  rw [HW14.out]
                  refine hK.out _ _ ?_ (fun hHeldN => ?_)
                  · exact ⟨cell_moved mp14 hHeld.1 (by have := HG14.out; have := HG9.out; simp; omega), cell_moved mp14 hHeld.2.1 (by have := HG14.out; have := HG9.out; simp; omega), cell_moved mp14 hHeld.2.2.1 (by have := HG14.out; have := HG9.out; simp; omega), cell_moved mp14 hHeld.2.2.2.1 (by have := HG14.out; have := HG9.out; simp; omega), cell_moved mp14 hHeld.2.2.2.2.1 (by have := HG14.out; have := HG9.out; simp; omega), cell_moved mp14 hHeld.2.2.2.2.2.1 (by have := HG14.out; have := HG9.out; simp; omega), cell_moved mp14 hHeld.2.2.2.2.2.2.1 (by have := HG14.out; have := HG9.out; simp; omega), cell_moved mp14 hHeld.2.2.2.2.2.2.2.1 (by have := HG14.out; have := HG9.out; simp; omega), cell_moved mp14 hHeld.2.2.2.2.2.2.2.2.1 (by have := HG14.out; have := HG9.out; simp; omega), cell_moved mp14 hHeld.2.2.2.2.2.2.2.2.2.1 (by have := HG14.out; have := HG9.out; simp; omega), cell_moved mp14 hHeld.2.2.2.2.2.2.2.2.2.2.1 (by have := HG14.out; have := HG9.out; simp; omega), cell_moved mp14 hHeld.2.2.2.2.2.2.2.2.2.2.2.1 (by have := HG14.out; have := HG9.out; simp; omega), cell_moved mp14 hHeld.2.2.2.2.2.2.2.2.2.2.2.2.1 (by have := HG14.out; have := HG9.out; simp; omega), cell_moved mp14 hHeld.2.2.2.2.2.2.2.2.2.2.2.2.2 (by have := HG14.out; have := HG9.out; simp; omega)⟩
                  clear hK K hHeld
                  have hHeld := hHeldN
                  clear hHeldN
                  (try simp only [Act.put, List.setIfInBounds_toArray, List.set_cons_zero, List.set_cons_succ])
                  clear d0 d1 d2 d3 d4 d5 d6 f0 f1 f2 f3 f4 f5 f6
                  have HBF := hid (show Below wr.heap.size wr wp14 from (HS20bel.out.trans (mp13.toBelow HS20bel.out.size (fun j hj => by have := HG13.out; have := HGW.out; simp at hj; omega))).trans (mp14.toBelow (Nat.le_trans HS20bel.out.size mp13.size) (fun j hj => by have := HG14.out; have := HGW.out; simp at hj; omega)))
                  refine wpAnyH_done (by kernel_rfl) ?_ _
                  clear hHeld
                  go_wp2_with fail
                  go_meet
                  exact ⟨b13, b14, xr1, _, cr1, xr2, _, cr2, rfl, rfl, rfl, HQX.out, HQ14.out, pairs_owned HR3.out, pairs_owned HR4.out, HNE.out, Nat.le_of_lt HG13.out.1, Nat.le_of_lt HG14.out.1, HN20_1.out, HN20_2.out, HBF.out⟩
              · go_simp
                obtain ⟨v21_, hv⟩ : ∃ V, v18_.alloc (.cells #[.int .i64 0, .int .i64 0, .int .u8 0, .bool false, .int .u8 0, .slice none 0 0, .slice none 0 0] 38) = V := ⟨_, rfl⟩
                have HB21_ := hid (show Below v18_.heap.size v18_ v21_ by rw [← hv]; exact bal (Below.refl _ _) _)
                have HX21_ := hid (show Box7 v21_ v18_.heap.size (.int .i64 0) (.int .i64 0) (.int .u8 0) (.bool false) (.int .u8 0) (.slice none 0 0) (.slice none 0 0) by rw [← hv]; exact Box7.new v18_ 38)
                rw [hv]
                clear hv
                obtain ⟨b14, hb14⟩ : ∃ b, v18_.heap.size = b := ⟨_, rfl⟩
                have HG14 := hid (show wr.heap.size < b14 ∧ b12 < b14 from by have := HZ18.out; have := HB12.out; omega)
                have HN21_1 := hid (show b14 ∉ blkV (.slice xr1 ps1.length cr1) from fun q => by have := own_lt HO18_.out _ q; omega)
                have HNE := hid (show b13 ≠ b14 from by have := HS18B13.out.lt; omega)
                rw [hb14] at HX21_
                rw [hb14]
                have HBB14 := hid hb14
                clear hb14
                have HS21o1 := hid (own_below HO18_.out HB21_.out)
                have HS21B13 := hid (HS18B13.out.step HB21_.out)
                have HS21bel := hid (below_t HS18bel.out HB21_.out)
                have HZ21 := hid (Nat.le_trans HZ18.out HB21_.out.size)
                refine hK.out _ _ ?_ (fun hHeldN => ?_)
                · exact ⟨keepc HB21_.out hHeld.1, keepc HB21_.out hHeld.2.1, keepc HB21_.out hHeld.2.2.1, keepc HB21_.out hHeld.2.2.2.1, keepc HB21_.out hHeld.2.2.2.2.1, keepc HB21_.out hHeld.2.2.2.2.2.1, keepc HB21_.out hHeld.2.2.2.2.2.2.1, keepc HB21_.out hHeld.2.2.2.2.2.2.2.1, keepc HB21_.out hHeld.2.2.2.2.2.2.2.2.1, keepc HB21_.out hHeld.2.2.2.2.2.2.2.2.2.1, keepc HB21_.out hHeld.2.2.2.2.2.2.2.2.2.2.1, keepc HB21_.out hHeld.2.2.2.2.2.2.2.2.2.2.2.1, keepc HB21_.out hHeld.2.2.2.2.2.2.2.2.2.2.2.2.1, keepc HB21_.out hHeld.2.2.2.2.2.2.2.2.2.2.2.2.2⟩
                clear hK K hHeld
                have hHeld := hHeldN
                clear hHeldN
                (try simp only [Act.put, List.setIfInBounds_toArray, List.set_cons_zero, List.set_cons_succ])
                refine wpAnyH_ready (rs := [6]) (by kernel_rfl) (by simp) ?_
                refine AllReadyH.cons (by simp only [List.getElem?_toArray, List.getElem?_cons_succ, List.getElem?_cons_zero]; rfl) (fun K hK => ?_) AllReadyH.nil
                · go_simp
                  with_reducible refine (HC2.out _ HS21bel.out).mono ?_
                  rintro e v22_ ⟨rv, rfl, ho, hb⟩
                  dsimp only at ho
                  obtain ⟨xr2, cr2, rfl⟩ := row_slice ho
                  have HB22_ := hid hb
                  have HO22_ := hid (own_weak (B' := 0) ho (Nat.zero_le _))
                  have HN22_13 := hid (show b13 ∉ blkV (.slice xr2 ps2.length cr2) from fun q => by have := (ho.lt _ (mem_blkV.1 q)).1; have := HS21B13.out.lt; omega)
                  have HN22_14 := hid (show b14 ∉ blkV (.slice xr2 ps2.length cr2) from fun q => by have := (ho.lt _ (mem_blkV.1 q)).1; have := HX21_.out.lt; omega)
                  clear ho hb
                  (try go_wp2_with fail)
                  have HS22o1 := hid (own_below HS21o1.out HB22_.out)
                  have HS22B13 := hid (HS21B13.out.step HB22_.out)
                  have HS22B14 := hid (HX21_.out.step HB22_.out)
                  have HS22bel := hid (below_t HS21bel.out HB22_.out)
                  have HZ22 := hid (Nat.le_trans HZ21.out HB22_.out.size)
                  refine hK.out _ _ ?_ (fun hHeldN => ?_)
                  · exact ⟨keepc HB22_.out hHeld.1, keepc HB22_.out hHeld.2.1, keepc HB22_.out hHeld.2.2.1, keepc HB22_.out hHeld.2.2.2.1, keepc HB22_.out hHeld.2.2.2.2.1, keepc HB22_.out hHeld.2.2.2.2.2.1, keepc HB22_.out hHeld.2.2.2.2.2.2.1, keepc HB22_.out hHeld.2.2.2.2.2.2.2.1, keepc HB22_.out hHeld.2.2.2.2.2.2.2.2.1, keepc HB22_.out hHeld.2.2.2.2.2.2.2.2.2.1, keepc HB22_.out hHeld.2.2.2.2.2.2.2.2.2.2.1, keepc HB22_.out hHeld.2.2.2.2.2.2.2.2.2.2.2.1, keepc HB22_.out hHeld.2.2.2.2.2.2.2.2.2.2.2.2.1, keepc HB22_.out hHeld.2.2.2.2.2.2.2.2.2.2.2.2.2⟩
                  clear hK K hHeld
                  have hHeld := hHeldN
                  clear hHeldN
                  (try simp only [Act.put, List.setIfInBounds_toArray, List.set_cons_zero, List.set_cons_succ])
                  obtain ⟨wp13, hwp13⟩ : ∃ V, put7 v22_ b13 (.int .i64 kd1) (.int .i64 ad1) (.int .u8 cd1) (.bool gr1) (.int .u8 fa1) (.slice xr1 ps1.length cr1) (.slice xt1 tx1.length ct1) = V := ⟨_, rfl⟩
                  have mp13 : Moved v22_ wp13 [b13] [b13] := by rw [← hwp13]; exact put7_moved _ _ _ _ _ _ _ _ _
                  have HQ13 := hid (show Box7 wp13 b13 (.int .i64 kd1) (.int .i64 ad1) (.int .u8 cd1) (.bool gr1) (.int .u8 fa1) (.slice xr1 ps1.length cr1) (.slice xt1 tx1.length ct1) by rw [← hwp13]; exact HS22B13.out.put (.int .i64 kd1) (.int .i64 ad1) (.int .u8 cd1) (.bool gr1) (.int .u8 fa1) (.slice xr1 ps1.length cr1) (.slice xt1 tx1.length ct1))
                  have HO14 := hid (HS22B14.out.moved mp13 (by have := HNE.out; simp; omega))
                  have HR1 := hid (own_moved HS22o1.out mp13 (fun j hj q => by simp at q; subst q; exact HN18_13.out hj))
                  have HR2 := hid (own_moved HO22_.out mp13 (fun j hj q => by simp at q; subst q; exact HN22_13.out hj))
                  unfold put7 at hwp13
                  have HW13 := hid hwp13
                  obtain ⟨d0, d1, d2, d3, d4, d5, d6, fc⟩ := HS22B13.out
                  have f0 := fc 0 (by omega)
                  have f1 := fc 1 (by omega)
                  have f2 := fc 2 (by omega)
                  have f3 := fc 3 (by omega)
                  have f4 := fc 4 (by omega)
                  have f5 := fc 5 (by omega)
                  have f6 := fc 6 (by omega)
                  clear fc hwp13
                  refine wpAnyH_ready (rs := [9]) (by kernel_rfl) (by simp) ?_
                  refine AllReadyH.cons (by simp only [List.getElem?_toArray, List.getElem?_cons_succ, List.getElem?_cons_zero]; rfl) (fun K hK => ?_) AllReadyH.nil
                  go_simp
                  rw [HW13.out]
                  refine hK.out _ _ ?_ (fun hHeldN => ?_)
                  · exact ⟨cell_moved mp13 hHeld.1 (by have := HG13.out; have := HG9.out; simp; omega), cell_moved mp13 hHeld.2.1 (by have := HG13.out; have := HG9.out; simp; omega), cell_moved mp13 hHeld.2.2.1 (by have := HG13.out; have := HG9.out; simp; omega), cell_moved mp13 hHeld.2.2.2.1 (by have := HG13.out; have := HG9.out; simp; omega), cell_moved mp13 hHeld.2.2.2.2.1 (by have := HG13.out; have := HG9.out; simp; omega), cell_moved mp13 hHeld.2.2.2.2.2.1 (by have := HG13.out; have := HG9.out; simp; omega), cell_moved mp13 hHeld.2.2.2.2.2.2.1 (by have := HG13.out; have := HG9.out; simp; omega), cell_moved mp13 hHeld.2.2.2.2.2.2.2.1 (by have := HG13.out; have := HG9.out; simp; omega), cell_moved mp13 hHeld.2.2.2.2.2.2.2.2.1 (by have := HG13.out; have := HG9.out; simp; omega), cell_moved mp13 hHeld.2.2.2.2.2.2.2.2.2.1 (by have := HG13.out; have := HG9.out; simp; omega), cell_moved mp13 hHeld.2.2.2.2.2.2.2.2.2.2.1 (by have := HG13.out; have := HG9.out; simp; omega), cell_moved mp13 hHeld.2.2.2.2.2.2.2.2.2.2.2.1 (by have := HG13.out; have := HG9.out; simp; omega), cell_moved mp13 hHeld.2.2.2.2.2.2.2.2.2.2.2.2.1 (by have := HG13.out; have := HG9.out; simp; omega), cell_moved mp13 hHeld.2.2.2.2.2.2.2.2.2.2.2.2.2 (by have := HG13.out; have := HG9.out; simp; omega)⟩
                  clear hK K hHeld
                  have hHeld := hHeldN
                  clear hHeldN
                  (try simp only [Act.put, List.setIfInBounds_toArray, List.set_cons_zero, List.set_cons_succ])
                  clear d0 d1 d2 d3 d4 d5 d6 f0 f1 f2 f3 f4 f5 f6
                  obtain ⟨wp14, hwp14⟩ : ∃ V, put7 wp13 b14 (.int .i64 kd2) (.int .i64 ad2) (.int .u8 cd2) (.bool gr2) (.int .u8 fa2) (.slice xr2 ps2.length cr2) (.slice xt2 tx2.length ct2) = V := ⟨_, rfl⟩
                  have mp14 : Moved wp13 wp14 [b14] [b14] := by rw [← hwp14]; exact put7_moved _ _ _ _ _ _ _ _ _
                  have HQ14 := hid (show Box7 wp14 b14 (.int .i64 kd2) (.int .i64 ad2) (.int .u8 cd2) (.bool gr2) (.int .u8 fa2) (.slice xr2 ps2.length cr2) (.slice xt2 tx2.length ct2) by rw [← hwp14]; exact HO14.out.put (.int .i64 kd2) (.int .i64 ad2) (.int .u8 cd2) (.bool gr2) (.int .u8 fa2) (.slice xr2 ps2.length cr2) (.slice xt2 tx2.length ct2))
                  have HQX := hid (HQ13.out.moved mp14 (by have := HNE.out; simp; omega))
                  have HR3 := hid (own_moved HR1.out mp14 (fun j hj q => by simp at q; subst q; exact HN21_1.out hj))
                  have HR4 := hid (own_moved HR2.out mp14 (fun j hj q => by simp at q; subst q; exact HN22_14.out hj))
                  unfold put7 at hwp14
                  have HW14 := hid hwp14
                  obtain ⟨d0, d1, d2, d3, d4, d5, d6, fc⟩ := HO14.out
                  have f0 := fc 0 (by omega)
                  have f1 := fc 1 (by omega)
                  have f2 := fc 2 (by omega)
                  have f3 := fc 3 (by omega)
                  have f4 := fc 4 (by omega)
                  have f5 := fc 5 (by omega)
                  have f6 := fc 6 (by omega)
                  clear fc hwp14
                  refine wpAnyH_ready (rs := [10]) (by kernel_rfl) (by simp) ?_
                  refine AllReadyH.cons (by simp only [List.getElem?_toArray, List.getElem?_cons_succ, List.getElem?_cons_zero]; rfl) (fun K hK => ?_) AllReadyH.nil
                  go_simp
                  rw [HW14.out]
                  refine hK.out _ _ ?_ (fun hHeldN => ?_)
                  · exact ⟨cell_moved mp14 hHeld.1 (by have := HG14.out; have := HG9.out; simp; omega), cell_moved mp14 hHeld.2.1 (by have := HG14.out; have := HG9.out; simp; omega), cell_moved mp14 hHeld.2.2.1 (by have := HG14.out; have := HG9.out; simp; omega), cell_moved mp14 hHeld.2.2.2.1 (by have := HG14.out; have := HG9.out; simp; omega), cell_moved mp14 hHeld.2.2.2.2.1 (by have := HG14.out; have := HG9.out; simp; omega), cell_moved mp14 hHeld.2.2.2.2.2.1 (by have := HG14.out; have := HG9.out; simp; omega), cell_moved mp14 hHeld.2.2.2.2.2.2.1 (by have := HG14.out; have := HG9.out; simp; omega), cell_moved mp14 hHeld.2.2.2.2.2.2.2.1 (by have := HG14.out; have := HG9.out; simp; omega), cell_moved mp14 hHeld.2.2.2.2.2.2.2.2.1 (by have := HG14.out; have := HG9.out; simp; omega), cell_moved mp14 hHeld.2.2.2.2.2.2.2.2.2.1 (by have := HG14.out; have := HG9.out; simp; omega), cell_moved mp14 hHeld.2.2.2.2.2.2.2.2.2.2.1 (by have := HG14.out; have := HG9.out; simp; omega), cell_moved mp14 hHeld.2.2.2.2.2.2.2.2.2.2.2.1 (by have := HG14.out; have := HG9.out; simp; omega), cell_moved mp14 hHeld.2.2.2.2.2.2.2.2.2.2.2.2.1 (by have := HG14.out; have := HG9.out; simp; omega), cell_moved mp14 hHeld.2.2.2.2.2.2.2.2.2.2.2.2.2 (by have := HG14.out; have := HG9.out; simp; omega)⟩
                  clear hK K hHeld
                  have hHeld := hHeldN
                  clear hHeldN
                  (try simp only [Act.put, List.setIfInBounds_toArray, List.set_cons_zero, List.set_cons_succ])
                  clear d0 d1 d2 d3 d4 d5 d6 f0 f1 f2 f3 f4 f5 f6
                  have HBF := hid (show Below wr.heap.size wr wp14 from (HS22bel.out.trans (mp13.toBelow HS22bel.out.size (fun j hj => by have := HG13.out; have := HGW.out; simp at hj; omega))).trans (mp14.toBelow (Nat.le_trans HS22bel.out.size mp13.size) (fun j hj => by have := HG14.out; have := HGW.out; simp at hj; omega)))
                  refine wpAnyH_done (by kernel_rfl) ?_ _
                  clear hHeld
                  go_wp2_with fail
                  go_meet
                  exact ⟨b13, b14, xr1, _, cr1, xr2, _, cr2, rfl, rfl, rfl, HQX.out, HQ14.out, pairs_owned HR3.out, pairs_owned HR4.out, HNE.out, Nat.le_of_lt HG13.out.1, Nat.le_of_lt HG14.out.1, HN21_1.out, HN22_14.out, HBF.out⟩
            · go_simp
              obtain ⟨v23_, hv⟩ : ∃ V, v17_.alloc (.cells #[.int .i64 0, .int .i64 0, .int .u8 0, .bool false, .int .u8 0, .slice none 0 0, .slice none 0 0] 38) = V := ⟨_, rfl⟩
              have HB23_ := hid (show Below v17_.heap.size v17_ v23_ by rw [← hv]; exact bal (Below.refl _ _) _)
              have HX23_ := hid (show Box7 v23_ v17_.heap.size (.int .i64 0) (.int .i64 0) (.int .u8 0) (.bool false) (.int .u8 0) (.slice none 0 0) (.slice none 0 0) by rw [← hv]; exact Box7.new v17_ 38)
              rw [hv]
              clear hv
              obtain ⟨b14, hb14⟩ : ∃ b, v17_.heap.size = b := ⟨_, rfl⟩
              have HG14 := hid (show wr.heap.size < b14 ∧ b12 < b14 from by have := HZ17.out; have := HB12.out; omega)
              have HNE := hid (show b13 ≠ b14 from by have := HX17_.out.lt; omega)
              rw [hb14] at HX23_
              rw [hb14]
              have HBB14 := hid hb14
              clear hb14
              have HS23B13 := hid (HX17_.out.step HB23_.out)
              have HS23bel := hid (below_t HS17bel.out HB23_.out)
              have HZ23 := hid (Nat.le_trans HZ17.out HB23_.out.size)
              refine hK.out _ _ ?_ (fun hHeldN => ?_)
              · exact ⟨keepc HB23_.out hHeld.1, keepc HB23_.out hHeld.2.1, keepc HB23_.out hHeld.2.2.1, keepc HB23_.out hHeld.2.2.2.1, keepc HB23_.out hHeld.2.2.2.2.1, keepc HB23_.out hHeld.2.2.2.2.2.1, keepc HB23_.out hHeld.2.2.2.2.2.2.1, keepc HB23_.out hHeld.2.2.2.2.2.2.2.1, keepc HB23_.out hHeld.2.2.2.2.2.2.2.2.1, keepc HB23_.out hHeld.2.2.2.2.2.2.2.2.2.1, keepc HB23_.out hHeld.2.2.2.2.2.2.2.2.2.2.1, keepc HB23_.out hHeld.2.2.2.2.2.2.2.2.2.2.2.1, keepc HB23_.out hHeld.2.2.2.2.2.2.2.2.2.2.2.2.1, keepc HB23_.out hHeld.2.2.2.2.2.2.2.2.2.2.2.2.2⟩
              clear hK K hHeld
              have hHeld := hHeldN
              clear hHeldN
              (try simp only [Act.put, List.setIfInBounds_toArray, List.set_cons_zero, List.set_cons_succ])
              refine wpAnyH_ready (rs := [1]) (by kernel_rfl) (by simp) ?_
              refine AllReadyH.cons (by simp only [List.getElem?_toArray, List.getElem?_cons_succ, List.getElem?_cons_zero]; rfl) (fun K hK => ?_) AllReadyH.nil
              · go_simp
                with_reducible refine (HC1.out _ HS23bel.out).mono ?_
                rintro e v24_ ⟨rv, rfl, ho, hb⟩
                dsimp only at ho
                obtain ⟨xr1, cr1, rfl⟩ := row_slice ho
                have HB24_ := hid hb
                have HO24_ := hid (own_weak (B' := 0) ho (Nat.zero_le _))
                have HN24_13 := hid (show b13 ∉ blkV (.slice xr1 ps1.length cr1) from fun q => by have := (ho.lt _ (mem_blkV.1 q)).1; have := HS23B13.out.lt; omega)
                have HN24_14 := hid (show b14 ∉ blkV (.slice xr1 ps1.length cr1) from fun q => by have := (ho.lt _ (mem_blkV.1 q)).1; have := HX23_.out.lt; omega)
                clear ho hb
                (try go_wp2_with fail)
                have HS24B13 := hid (HS23B13.out.step HB24_.out)
                have HS24B14 := hid (HX23_.out.step HB24_.out)
                have HS24bel := hid (below_t HS23bel.out HB24_.out)
                have HZ24 := hid (Nat.le_trans HZ23.out HB24_.out.size)
                refine hK.out _ _ ?_ (fun hHeldN => ?_)
                · exact ⟨keepc HB24_.out hHeld.1, keepc HB24_.out hHeld.2.1, keepc HB24_.out hHeld.2.2.1, keepc HB24_.out hHeld.2.2.2.1, keepc HB24_.out hHeld.2.2.2.2.1, keepc HB24_.out hHeld.2.2.2.2.2.1, keepc HB24_.out hHeld.2.2.2.2.2.2.1, keepc HB24_.out hHeld.2.2.2.2.2.2.2.1, keepc HB24_.out hHeld.2.2.2.2.2.2.2.2.1, keepc HB24_.out hHeld.2.2.2.2.2.2.2.2.2.1, keepc HB24_.out hHeld.2.2.2.2.2.2.2.2.2.2.1, keepc HB24_.out hHeld.2.2.2.2.2.2.2.2.2.2.2.1, keepc HB24_.out hHeld.2.2.2.2.2.2.2.2.2.2.2.2.1, keepc HB24_.out hHeld.2.2.2.2.2.2.2.2.2.2.2.2.2⟩
                clear hK K hHeld
                have hHeld := hHeldN
                clear hHeldN
                (try simp only [Act.put, List.setIfInBounds_toArray, List.set_cons_zero, List.set_cons_succ])
                refine wpAnyH_ready (rs := [6]) (by kernel_rfl) (by simp) ?_
                refine AllReadyH.cons (by simp only [List.getElem?_toArray, List.getElem?_cons_succ, List.getElem?_cons_zero]; rfl) (fun K hK => ?_) AllReadyH.nil
                · go_simp
                  with_reducible refine (HC2.out _ HS24bel.out).mono ?_
                  rintro e v25_ ⟨rv, rfl, ho, hb⟩
                  dsimp only at ho
                  obtain ⟨xr2, cr2, rfl⟩ := row_slice ho
                  have HB25_ := hid hb
                  have HO25_ := hid (own_weak (B' := 0) ho (Nat.zero_le _))
                  have HN25_13 := hid (show b13 ∉ blkV (.slice xr2 ps2.length cr2) from fun q => by have := (ho.lt _ (mem_blkV.1 q)).1; have := HS24B13.out.lt; omega)
                  have HN25_14 := hid (show b14 ∉ blkV (.slice xr2 ps2.length cr2) from fun q => by have := (ho.lt _ (mem_blkV.1 q)).1; have := HS24B14.out.lt; omega)
                  clear ho hb
                  (try go_wp2_with fail)
                  have HS25o1 := hid (own_below HO24_.out HB25_.out)
                  have HS25B13 := hid (HS24B13.out.step HB25_.out)
                  have HS25B14 := hid (HS24B14.out.step HB25_.out)
                  have HS25bel := hid (below_t HS24bel.out HB25_.out)
                  have HZ25 := hid (Nat.le_trans HZ24.out HB25_.out.size)
                  refine hK.out _ _ ?_ (fun hHeldN => ?_)
                  · exact ⟨keepc HB25_.out hHeld.1, keepc HB25_.out hHeld.2.1, keepc HB25_.out hHeld.2.2.1, keepc HB25_.out hHeld.2.2.2.1, keepc HB25_.out hHeld.2.2.2.2.1, keepc HB25_.out hHeld.2.2.2.2.2.1, keepc HB25_.out hHeld.2.2.2.2.2.2.1, keepc HB25_.out hHeld.2.2.2.2.2.2.2.1, keepc HB25_.out hHeld.2.2.2.2.2.2.2.2.1, keepc HB25_.out hHeld.2.2.2.2.2.2.2.2.2.1, keepc HB25_.out hHeld.2.2.2.2.2.2.2.2.2.2.1, keepc HB25_.out hHeld.2.2.2.2.2.2.2.2.2.2.2.1, keepc HB25_.out hHeld.2.2.2.2.2.2.2.2.2.2.2.2.1, keepc HB25_.out hHeld.2.2.2.2.2.2.2.2.2.2.2.2.2⟩
                  clear hK K hHeld
                  have hHeld := hHeldN
                  clear hHeldN
                  (try simp only [Act.put, List.setIfInBounds_toArray, List.set_cons_zero, List.set_cons_succ])
                  obtain ⟨wp13, hwp13⟩ : ∃ V, put7 v25_ b13 (.int .i64 kd1) (.int .i64 ad1) (.int .u8 cd1) (.bool gr1) (.int .u8 fa1) (.slice xr1 ps1.length cr1) (.slice xt1 tx1.length ct1) = V := ⟨_, rfl⟩
                  have mp13 : Moved v25_ wp13 [b13] [b13] := by rw [← hwp13]; exact put7_moved _ _ _ _ _ _ _ _ _
                  have HQ13 := hid (show Box7 wp13 b13 (.int .i64 kd1) (.int .i64 ad1) (.int .u8 cd1) (.bool gr1) (.int .u8 fa1) (.slice xr1 ps1.length cr1) (.slice xt1 tx1.length ct1) by rw [← hwp13]; exact HS25B13.out.put (.int .i64 kd1) (.int .i64 ad1) (.int .u8 cd1) (.bool gr1) (.int .u8 fa1) (.slice xr1 ps1.length cr1) (.slice xt1 tx1.length ct1))
                  have HO14 := hid (HS25B14.out.moved mp13 (by have := HNE.out; simp; omega))
                  have HR1 := hid (own_moved HS25o1.out mp13 (fun j hj q => by simp at q; subst q; exact HN24_13.out hj))
                  have HR2 := hid (own_moved HO25_.out mp13 (fun j hj q => by simp at q; subst q; exact HN25_13.out hj))
                  unfold put7 at hwp13
                  have HW13 := hid hwp13
                  obtain ⟨d0, d1, d2, d3, d4, d5, d6, fc⟩ := HS25B13.out
                  have f0 := fc 0 (by omega)
                  have f1 := fc 1 (by omega)
                  have f2 := fc 2 (by omega)
                  have f3 := fc 3 (by omega)
                  have f4 := fc 4 (by omega)
                  have f5 := fc 5 (by omega)
                  have f6 := fc 6 (by omega)
                  clear fc hwp13
                  refine wpAnyH_ready (rs := [9]) (by kernel_rfl) (by simp) ?_
                  refine AllReadyH.cons (by simp only [List.getElem?_toArray, List.getElem?_cons_succ, List.getElem?_cons_zero]; rfl) (fun K hK => ?_) AllReadyH.nil
                  go_simp
                  rw [HW13.out]
                  refine hK.out _ _ ?_ (fun hHeldN => ?_)
                  · exact ⟨cell_moved mp13 hHeld.1 (by have := HG13.out; have := HG9.out; simp; omega), cell_moved mp13 hHeld.2.1 (by have := HG13.out; have := HG9.out; simp; omega), cell_moved mp13 hHeld.2.2.1 (by have := HG13.out; have := HG9.out; simp; omega), cell_moved mp13 hHeld.2.2.2.1 (by have := HG13.out; have := HG9.out; simp; omega), cell_moved mp13 hHeld.2.2.2.2.1 (by have := HG13.out; have := HG9.out; simp; omega), cell_moved mp13 hHeld.2.2.2.2.2.1 (by have := HG13.out; have := HG9.out; simp; omega), cell_moved mp13 hHeld.2.2.2.2.2.2.1 (by have := HG13.out; have := HG9.out; simp; omega), cell_moved mp13 hHeld.2.2.2.2.2.2.2.1 (by have := HG13.out; have := HG9.out; simp; omega), cell_moved mp13 hHeld.2.2.2.2.2.2.2.2.1 (by have := HG13.out; have := HG9.out; simp; omega), cell_moved mp13 hHeld.2.2.2.2.2.2.2.2.2.1 (by have := HG13.out; have := HG9.out; simp; omega), cell_moved mp13 hHeld.2.2.2.2.2.2.2.2.2.2.1 (by have := HG13.out; have := HG9.out; simp; omega), cell_moved mp13 hHeld.2.2.2.2.2.2.2.2.2.2.2.1 (by have := HG13.out; have := HG9.out; simp; omega), cell_moved mp13 hHeld.2.2.2.2.2.2.2.2.2.2.2.2.1 (by have := HG13.out; have := HG9.out; simp; omega), cell_moved mp13 hHeld.2.2.2.2.2.2.2.2.2.2.2.2.2 (by have := HG13.out; have := HG9.out; simp; omega)⟩
                  clear hK K hHeld
                  have hHeld := hHeldN
                  clear hHeldN
                  (try simp only [Act.put, List.setIfInBounds_toArray, List.set_cons_zero, List.set_cons_succ])
                  clear d0 d1 d2 d3 d4 d5 d6 f0 f1 f2 f3 f4 f5 f6
                  obtain ⟨wp14, hwp14⟩ : ∃ V, put7 wp13 b14 (.int .i64 kd2) (.int .i64 ad2) (.int .u8 cd2) (.bool gr2) (.int .u8 fa2) (.slice xr2 ps2.length cr2) (.slice xt2 tx2.length ct2) = V := ⟨_, rfl⟩
                  have mp14 : Moved wp13 wp14 [b14] [b14] := by rw [← hwp14]; exact put7_moved _ _ _ _ _ _ _ _ _
                  have HQ14 := hid (show Box7 wp14 b14 (.int .i64 kd2) (.int .i64 ad2) (.int .u8 cd2) (.bool gr2) (.int .u8 fa2) (.slice xr2 ps2.length cr2) (.slice xt2 tx2.length ct2) by rw [← hwp14]; exact HO14.out.put (.int .i64 kd2) (.int .i64 ad2) (.int .u8 cd2) (.bool gr2) (.int .u8 fa2) (.slice xr2 ps2.length cr2) (.slice xt2 tx2.length ct2))
                  have HQX := hid (HQ13.out.moved mp14 (by have := HNE.out; simp; omega))
                  have HR3 := hid (own_moved HR1.out mp14 (fun j hj q => by simp at q; subst q; exact HN24_14.out hj))
                  have HR4 := hid (own_moved HR2.out mp14 (fun j hj q => by simp at q; subst q; exact HN25_14.out hj))
                  unfold put7 at hwp14
                  have HW14 := hid hwp14
                  obtain ⟨d0, d1, d2, d3, d4, d5, d6, fc⟩ := HO14.out
                  have f0 := fc 0 (by omega)
                  have f1 := fc 1 (by omega)
                  have f2 := fc 2 (by omega)
                  have f3 := fc 3 (by omega)
                  have f4 := fc 4 (by omega)
                  have f5 := fc 5 (by omega)
                  have f6 := fc 6 (by omega)
                  clear fc hwp14
                  refine wpAnyH_ready (rs := [10]) (by kernel_rfl) (by simp) ?_
                  refine AllReadyH.cons (by simp only [List.getElem?_toArray, List.getElem?_cons_succ, List.getElem?_cons_zero]; rfl) (fun K hK => ?_) AllReadyH.nil
                  go_simp
                  rw [HW14.out]
                  refine hK.out _ _ ?_ (fun hHeldN => ?_)
                  · exact ⟨cell_moved mp14 hHeld.1 (by have := HG14.out; have := HG9.out; simp; omega), cell_moved mp14 hHeld.2.1 (by have := HG14.out; have := HG9.out; simp; omega), cell_moved mp14 hHeld.2.2.1 (by have := HG14.out; have := HG9.out; simp; omega), cell_moved mp14 hHeld.2.2.2.1 (by have := HG14.out; have := HG9.out; simp; omega), cell_moved mp14 hHeld.2.2.2.2.1 (by have := HG14.out; have := HG9.out; simp; omega), cell_moved mp14 hHeld.2.2.2.2.2.1 (by have := HG14.out; have := HG9.out; simp; omega), cell_moved mp14 hHeld.2.2.2.2.2.2.1 (by have := HG14.out; have := HG9.out; simp; omega), cell_moved mp14 hHeld.2.2.2.2.2.2.2.1 (by have := HG14.out; have := HG9.out; simp; omega), cell_moved mp14 hHeld.2.2.2.2.2.2.2.2.1 (by have := HG14.out; have := HG9.out; simp; omega), cell_moved mp14 hHeld.2.2.2.2.2.2.2.2.2.1 (by have := HG14.out; have := HG9.out; simp; omega), cell_moved mp14 hHeld.2.2.2.2.2.2.2.2.2.2.1 (by have := HG14.out; have := HG9.out; simp; omega), cell_moved mp14 hHeld.2.2.2.2.2.2.2.2.2.2.2.1 (by have := HG14.out; have := HG9.out; simp; omega), cell_moved mp14 hHeld.2.2.2.2.2.2.2.2.2.2.2.2.1 (by have := HG14.out; have := HG9.out; simp; omega), cell_moved mp14 hHeld.2.2.2.2.2.2.2.2.2.2.2.2.2 (by have := HG14.out; have := HG9.out; simp; omega)⟩
                  clear hK K hHeld
                  have hHeld := hHeldN
                  clear hHeldN
                  (try simp only [Act.put, List.setIfInBounds_toArray, List.set_cons_zero, List.set_cons_succ])
                  clear d0 d1 d2 d3 d4 d5 d6 f0 f1 f2 f3 f4 f5 f6
                  have HBF := hid (show Below wr.heap.size wr wp14 from (HS25bel.out.trans (mp13.toBelow HS25bel.out.size (fun j hj => by have := HG13.out; have := HGW.out; simp at hj; omega))).trans (mp14.toBelow (Nat.le_trans HS25bel.out.size mp13.size) (fun j hj => by have := HG14.out; have := HGW.out; simp at hj; omega)))
                  refine wpAnyH_done (by kernel_rfl) ?_ _
                  clear hHeld
                  go_wp2_with fail
                  go_meet
                  exact ⟨b13, b14, xr1, _, cr1, xr2, _, cr2, rfl, rfl, rfl, HQX.out, HQ14.out, pairs_owned HR3.out, pairs_owned HR4.out, HNE.out, Nat.le_of_lt HG13.out.1, Nat.le_of_lt HG14.out.1, HN24_14.out, HN25_14.out, HBF.out⟩
          · go_simp
            obtain ⟨v26_, hv⟩ : ∃ V, V0.alloc (.cells #[.int .i64 0, .int .i64 0, .int .u8 0, .bool false, .int .u8 0, .slice none 0 0, .slice none 0 0] 38) = V := ⟨_, rfl⟩
            have HB26_ := hid (show Below V0.heap.size V0 v26_ by rw [← hv]; exact bal (Below.refl _ _) _)
            have HX26_ := hid (show Box7 v26_ V0.heap.size (.int .i64 0) (.int .i64 0) (.int .u8 0) (.bool false) (.int .u8 0) (.slice none 0 0) (.slice none 0 0) by rw [← hv]; exact Box7.new V0 38)
            rw [hv]
            clear hv
            obtain ⟨b14, hb14⟩ : ∃ b, V0.heap.size = b := ⟨_, rfl⟩
            have HG14 := hid (show wr.heap.size < b14 ∧ b12 < b14 from by have := HZV.out; have := HB12.out; omega)
            rw [hb14] at HX26_
            rw [hb14]
            have HBB14 := hid hb14
            clear hb14
            have HS26bel := hid (below_t HBV.out HB26_.out)
            have HZ26 := hid (Nat.le_trans HZV.out HB26_.out.size)
            refine hK.out _ _ ?_ (fun hHeldN => ?_)
            · exact ⟨keepc HB26_.out hHeld.1, keepc HB26_.out hHeld.2.1, keepc HB26_.out hHeld.2.2.1, keepc HB26_.out hHeld.2.2.2.1, keepc HB26_.out hHeld.2.2.2.2.1, keepc HB26_.out hHeld.2.2.2.2.2.1, keepc HB26_.out hHeld.2.2.2.2.2.2.1, keepc HB26_.out hHeld.2.2.2.2.2.2.2.1, keepc HB26_.out hHeld.2.2.2.2.2.2.2.2.1, keepc HB26_.out hHeld.2.2.2.2.2.2.2.2.2.1, keepc HB26_.out hHeld.2.2.2.2.2.2.2.2.2.2.1, keepc HB26_.out hHeld.2.2.2.2.2.2.2.2.2.2.2.1, keepc HB26_.out hHeld.2.2.2.2.2.2.2.2.2.2.2.2.1, keepc HB26_.out hHeld.2.2.2.2.2.2.2.2.2.2.2.2.2⟩
            clear hK K hHeld
            have hHeld := hHeldN
            clear hHeldN
            (try simp only [Act.put, List.setIfInBounds_toArray, List.set_cons_zero, List.set_cons_succ])
            refine wpAnyH_ready (rs := [1, 7]) (by kernel_rfl) (by simp) ?_
            refine AllReadyH.cons (by simp only [List.getElem?_toArray, List.getElem?_cons_succ, List.getElem?_cons_zero]; rfl) (fun K hK => ?_) (AllReadyH.cons (by simp only [List.getElem?_toArray, List.getElem?_cons_succ, List.getElem?_cons_zero]; rfl) (fun K hK => ?_) AllReadyH.nil)
            · go_simp
              with_reducible refine (HC1.out _ HS26bel.out).mono ?_
              rintro e v27_ ⟨rv, rfl, ho, hb⟩
              dsimp only at ho
              obtain ⟨xr1, cr1, rfl⟩ := row_slice ho
              have HB27_ := hid hb
              have HO27_ := hid (own_weak (B' := 0) ho (Nat.zero_le _))
              have HN27_14 := hid (show b14 ∉ blkV (.slice xr1 ps1.length cr1) from fun q => by have := (ho.lt _ (mem_blkV.1 q)).1; have := HX26_.out.lt; omega)
              clear ho hb
              (try go_wp2_with fail)
              have HS27B14 := hid (HX26_.out.step HB27_.out)
              have HS27bel := hid (below_t HS26bel.out HB27_.out)
              have HZ27 := hid (Nat.le_trans HZ26.out HB27_.out.size)
              refine hK.out _ _ ?_ (fun hHeldN => ?_)
              · exact ⟨keepc HB27_.out hHeld.1, keepc HB27_.out hHeld.2.1, keepc HB27_.out hHeld.2.2.1, keepc HB27_.out hHeld.2.2.2.1, keepc HB27_.out hHeld.2.2.2.2.1, keepc HB27_.out hHeld.2.2.2.2.2.1, keepc HB27_.out hHeld.2.2.2.2.2.2.1, keepc HB27_.out hHeld.2.2.2.2.2.2.2.1, keepc HB27_.out hHeld.2.2.2.2.2.2.2.2.1, keepc HB27_.out hHeld.2.2.2.2.2.2.2.2.2.1, keepc HB27_.out hHeld.2.2.2.2.2.2.2.2.2.2.1, keepc HB27_.out hHeld.2.2.2.2.2.2.2.2.2.2.2.1, keepc HB27_.out hHeld.2.2.2.2.2.2.2.2.2.2.2.2.1, keepc HB27_.out hHeld.2.2.2.2.2.2.2.2.2.2.2.2.2⟩
              clear hK K hHeld
              have hHeld := hHeldN
              clear hHeldN
              (try simp only [Act.put, List.setIfInBounds_toArray, List.set_cons_zero, List.set_cons_succ])
              refine wpAnyH_ready (rs := [6, 7]) (by kernel_rfl) (by simp) ?_
              refine AllReadyH.cons (by simp only [List.getElem?_toArray, List.getElem?_cons_succ, List.getElem?_cons_zero]; rfl) (fun K hK => ?_) (AllReadyH.cons (by simp only [List.getElem?_toArray, List.getElem?_cons_succ, List.getElem?_cons_zero]; rfl) (fun K hK => ?_) AllReadyH.nil)
              · go_simp
                with_reducible refine (HC2.out _ HS27bel.out).mono ?_
                rintro e v28_ ⟨rv, rfl, ho, hb⟩
                dsimp only at ho
                obtain ⟨xr2, cr2, rfl⟩ := row_slice ho
                have HB28_ := hid hb
                have HO28_ := hid (own_weak (B' := 0) ho (Nat.zero_le _))
                have HN28_14 := hid (show b14 ∉ blkV (.slice xr2 ps2.length cr2) from fun q => by have := (ho.lt _ (mem_blkV.1 q)).1; have := HS27B14.out.lt; omega)
                clear ho hb
                (try go_wp2_with fail)
                have HS28o1 := hid (own_below HO27_.out HB28_.out)
                have HS28B14 := hid (HS27B14.out.step HB28_.out)
                have HS28bel := hid (below_t HS27bel.out HB28_.out)
                have HZ28 := hid (Nat.le_trans HZ27.out HB28_.out.size)
                refine hK.out _ _ ?_ (fun hHeldN => ?_)
                · exact ⟨keepc HB28_.out hHeld.1, keepc HB28_.out hHeld.2.1, keepc HB28_.out hHeld.2.2.1, keepc HB28_.out hHeld.2.2.2.1, keepc HB28_.out hHeld.2.2.2.2.1, keepc HB28_.out hHeld.2.2.2.2.2.1, keepc HB28_.out hHeld.2.2.2.2.2.2.1, keepc HB28_.out hHeld.2.2.2.2.2.2.2.1, keepc HB28_.out hHeld.2.2.2.2.2.2.2.2.1, keepc HB28_.out hHeld.2.2.2.2.2.2.2.2.2.1, keepc HB28_.out hHeld.2.2.2.2.2.2.2.2.2.2.1, keepc HB28_.out hHeld.2.2.2.2.2.2.2.2.2.2.2.1, keepc HB28_.out hHeld.2.2.2.2.2.2.2.2.2.2.2.2.1, keepc HB28_.out hHeld.2.2.2.2.2.2.2.2.2.2.2.2.2⟩
                clear hK K hHeld
                have hHeld := hHeldN
                clear hHeldN
                (try simp only [Act.put, List.setIfInBounds_toArray, List.set_cons_zero, List.set_cons_succ])
                refine wpAnyH_ready (rs := [7]) (by kernel_rfl) (by simp) ?_
                refine AllReadyH.cons (by simp only [List.getElem?_toArray, List.getElem?_cons_succ, List.getElem?_cons_zero]; rfl) (fun K hK => ?_) AllReadyH.nil
                · go_simp
                  obtain ⟨v29_, hv⟩ : ∃ V, v28_.alloc (.cells #[.int .i64 0, .int .i64 0, .int .u8 0, .bool false, .int .u8 0, .slice none 0 0, .slice none 0 0] 38) = V := ⟨_, rfl⟩
                  have HB29_ := hid (show Below v28_.heap.size v28_ v29_ by rw [← hv]; exact bal (Below.refl _ _) _)
                  have HX29_ := hid (show Box7 v29_ v28_.heap.size (.int .i64 0) (.int .i64 0) (.int .u8 0) (.bool false) (.int .u8 0) (.slice none 0 0) (.slice none 0 0) by rw [← hv]; exact Box7.new v28_ 38)
                  rw [hv]
                  clear hv
                  obtain ⟨b13, hb13⟩ : ∃ b, v28_.heap.size = b := ⟨_, rfl⟩
                  have HG13 := hid (show wr.heap.size < b13 ∧ b12 < b13 from by have := HZ28.out; have := HB12.out; omega)
                  have HN29_1 := hid (show b13 ∉ blkV (.slice xr1 ps1.length cr1) from fun q => by have := own_lt HS28o1.out _ q; omega)
                  have HN29_2 := hid (show b13 ∉ blkV (.slice xr2 ps2.length cr2) from fun q => by have := own_lt HO28_.out _ q; omega)
                  have HNE := hid (show b13 ≠ b14 from by have := HS28B14.out.lt; omega)
                  rw [hb13] at HX29_
                  rw [hb13]
                  have HBB13 := hid hb13
                  clear hb13
                  have HS29o1 := hid (own_below HS28o1.out HB29_.out)
                  have HS29o2 := hid (own_below HO28_.out HB29_.out)
                  have HS29B14 := hid (HS28B14.out.step HB29_.out)
                  have HS29bel := hid (below_t HS28bel.out HB29_.out)
                  have HZ29 := hid (Nat.le_trans HZ28.out HB29_.out.size)
                  refine hK.out _ _ ?_ (fun hHeldN => ?_)
                  · exact ⟨keepc HB29_.out hHeld.1, keepc HB29_.out hHeld.2.1, keepc HB29_.out hHeld.2.2.1, keepc HB29_.out hHeld.2.2.2.1, keepc HB29_.out hHeld.2.2.2.2.1, keepc HB29_.out hHeld.2.2.2.2.2.1, keepc HB29_.out hHeld.2.2.2.2.2.2.1, keepc HB29_.out hHeld.2.2.2.2.2.2.2.1, keepc HB29_.out hHeld.2.2.2.2.2.2.2.2.1, keepc HB29_.out hHeld.2.2.2.2.2.2.2.2.2.1, keepc HB29_.out hHeld.2.2.2.2.2.2.2.2.2.2.1, keepc HB29_.out hHeld.2.2.2.2.2.2.2.2.2.2.2.1, keepc HB29_.out hHeld.2.2.2.2.2.2.2.2.2.2.2.2.1, keepc HB29_.out hHeld.2.2.2.2.2.2.2.2.2.2.2.2.2⟩
                  clear hK K hHeld
                  have hHeld := hHeldN
                  clear hHeldN
                  (try simp only [Act.put, List.setIfInBounds_toArray, List.set_cons_zero, List.set_cons_succ])
                  obtain ⟨wp13, hwp13⟩ : ∃ V, put7 v29_ b13 (.int .i64 kd1) (.int .i64 ad1) (.int .u8 cd1) (.bool gr1) (.int .u8 fa1) (.slice xr1 ps1.length cr1) (.slice xt1 tx1.length ct1) = V := ⟨_, rfl⟩
                  have mp13 : Moved v29_ wp13 [b13] [b13] := by rw [← hwp13]; exact put7_moved _ _ _ _ _ _ _ _ _
                  have HQ13 := hid (show Box7 wp13 b13 (.int .i64 kd1) (.int .i64 ad1) (.int .u8 cd1) (.bool gr1) (.int .u8 fa1) (.slice xr1 ps1.length cr1) (.slice xt1 tx1.length ct1) by rw [← hwp13]; exact HX29_.out.put (.int .i64 kd1) (.int .i64 ad1) (.int .u8 cd1) (.bool gr1) (.int .u8 fa1) (.slice xr1 ps1.length cr1) (.slice xt1 tx1.length ct1))
                  have HO14 := hid (HS29B14.out.moved mp13 (by have := HNE.out; simp; omega))
                  have HR1 := hid (own_moved HS29o1.out mp13 (fun j hj q => by simp at q; subst q; exact HN29_1.out hj))
                  have HR2 := hid (own_moved HS29o2.out mp13 (fun j hj q => by simp at q; subst q; exact HN29_2.out hj))
                  unfold put7 at hwp13
                  have HW13 := hid hwp13
                  obtain ⟨d0, d1, d2, d3, d4, d5, d6, fc⟩ := HX29_.out
                  have f0 := fc 0 (by omega)
                  have f1 := fc 1 (by omega)
                  have f2 := fc 2 (by omega)
                  have f3 := fc 3 (by omega)
                  have f4 := fc 4 (by omega)
                  have f5 := fc 5 (by omega)
                  have f6 := fc 6 (by omega)
                  clear fc hwp13
                  refine wpAnyH_ready (rs := [9]) (by kernel_rfl) (by simp) ?_
                  refine AllReadyH.cons (by simp only [List.getElem?_toArray, List.getElem?_cons_succ, List.getElem?_cons_zero]; rfl) (fun K hK => ?_) AllReadyH.nil
                  go_simp
                  rw [HW13.out]
                  refine hK.out _ _ ?_ (fun hHeldN => ?_)
                  · exact ⟨cell_moved mp13 hHeld.1 (by have := HG13.out; have := HG9.out; simp; omega), cell_moved mp13 hHeld.2.1 (by have := HG13.out; have := HG9.out; simp; omega), cell_moved mp13 hHeld.2.2.1 (by have := HG13.out; have := HG9.out; simp; omega), cell_moved mp13 hHeld.2.2.2.1 (by have := HG13.out; have := HG9.out; simp; omega), cell_moved mp13 hHeld.2.2.2.2.1 (by have := HG13.out; have := HG9.out; simp; omega), cell_moved mp13 hHeld.2.2.2.2.2.1 (by have := HG13.out; have := HG9.out; simp; omega), cell_moved mp13 hHeld.2.2.2.2.2.2.1 (by have := HG13.out; have := HG9.out; simp; omega), cell_moved mp13 hHeld.2.2.2.2.2.2.2.1 (by have := HG13.out; have := HG9.out; simp; omega), cell_moved mp13 hHeld.2.2.2.2.2.2.2.2.1 (by have := HG13.out; have := HG9.out; simp; omega), cell_moved mp13 hHeld.2.2.2.2.2.2.2.2.2.1 (by have := HG13.out; have := HG9.out; simp; omega), cell_moved mp13 hHeld.2.2.2.2.2.2.2.2.2.2.1 (by have := HG13.out; have := HG9.out; simp; omega), cell_moved mp13 hHeld.2.2.2.2.2.2.2.2.2.2.2.1 (by have := HG13.out; have := HG9.out; simp; omega), cell_moved mp13 hHeld.2.2.2.2.2.2.2.2.2.2.2.2.1 (by have := HG13.out; have := HG9.out; simp; omega), cell_moved mp13 hHeld.2.2.2.2.2.2.2.2.2.2.2.2.2 (by have := HG13.out; have := HG9.out; simp; omega)⟩
                  clear hK K hHeld
                  have hHeld := hHeldN
                  clear hHeldN
                  (try simp only [Act.put, List.setIfInBounds_toArray, List.set_cons_zero, List.set_cons_succ])
                  clear d0 d1 d2 d3 d4 d5 d6 f0 f1 f2 f3 f4 f5 f6
                  obtain ⟨wp14, hwp14⟩ : ∃ V, put7 wp13 b14 (.int .i64 kd2) (.int .i64 ad2) (.int .u8 cd2) (.bool gr2) (.int .u8 fa2) (.slice xr2 ps2.length cr2) (.slice xt2 tx2.length ct2) = V := ⟨_, rfl⟩
                  have mp14 : Moved wp13 wp14 [b14] [b14] := by rw [← hwp14]; exact put7_moved _ _ _ _ _ _ _ _ _
                  have HQ14 := hid (show Box7 wp14 b14 (.int .i64 kd2) (.int .i64 ad2) (.int .u8 cd2) (.bool gr2) (.int .u8 fa2) (.slice xr2 ps2.length cr2) (.slice xt2 tx2.length ct2) by rw [← hwp14]; exact HO14.out.put (.int .i64 kd2) (.int .i64 ad2) (.int .u8 cd2) (.bool gr2) (.int .u8 fa2) (.slice xr2 ps2.length cr2) (.slice xt2 tx2.length ct2))
                  have HQX := hid (HQ13.out.moved mp14 (by have := HNE.out; simp; omega))
                  have HR3 := hid (own_moved HR1.out mp14 (fun j hj q => by simp at q; subst q; exact HN27_14.out hj))
                  have HR4 := hid (own_moved HR2.out mp14 (fun j hj q => by simp at q; subst q; exact HN28_14.out hj))
                  unfold put7 at hwp14
                  have HW14 := hid hwp14
                  obtain ⟨d0, d1, d2, d3, d4, d5, d6, fc⟩ := HO14.out
                  have f0 := fc 0 (by omega)
                  have f1 := fc 1 (by omega)
                  have f2 := fc 2 (by omega)
                  have f3 := fc 3 (by omega)
                  have f4 := fc 4 (by omega)
                  have f5 := fc 5 (by omega)
                  have f6 := fc 6 (by omega)
                  clear fc hwp14
                  refine wpAnyH_ready (rs := [10]) (by kernel_rfl) (by simp) ?_
                  refine AllReadyH.cons (by simp only [List.getElem?_toArray, List.getElem?_cons_succ, List.getElem?_cons_zero]; rfl) (fun K hK => ?_) AllReadyH.nil
                  go_simp
                  rw [HW14.out]
                  refine hK.out _ _ ?_ (fun hHeldN => ?_)
                  · exact ⟨cell_moved mp14 hHeld.1 (by have := HG14.out; have := HG9.out; simp; omega), cell_moved mp14 hHeld.2.1 (by have := HG14.out; have := HG9.out; simp; omega), cell_moved mp14 hHeld.2.2.1 (by have := HG14.out; have := HG9.out; simp; omega), cell_moved mp14 hHeld.2.2.2.1 (by have := HG14.out; have := HG9.out; simp; omega), cell_moved mp14 hHeld.2.2.2.2.1 (by have := HG14.out; have := HG9.out; simp; omega), cell_moved mp14 hHeld.2.2.2.2.2.1 (by have := HG14.out; have := HG9.out; simp; omega), cell_moved mp14 hHeld.2.2.2.2.2.2.1 (by have := HG14.out; have := HG9.out; simp; omega), cell_moved mp14 hHeld.2.2.2.2.2.2.2.1 (by have := HG14.out; have := HG9.out; simp; omega), cell_moved mp14 hHeld.2.2.2.2.2.2.2.2.1 (by have := HG14.out; have := HG9.out; simp; omega), cell_moved mp14 hHeld.2.2.2.2.2.2.2.2.2.1 (by have := HG14.out; have := HG9.out; simp; omega), cell_moved mp14 hHeld.2.2.2.2.2.2.2.2.2.2.1 (by have := HG14.out; have := HG9.out; simp; omega), cell_moved mp14 hHeld.2.2.2.2.2.2.2.2.2.2.2.1 (by have := HG14.out; have := HG9.out; simp; omega), cell_moved mp14 hHeld.2.2.2.2.2.2.2.2.2.2.2.2.1 (by have := HG14.out; have := HG9.out; simp; omega), cell_moved mp14 hHeld.2.2.2.2.2.2.2.2.2.2.2.2.2 (by have := HG14.out; have := HG9.out; simp; omega)⟩
                  clear hK K hHeld
                  have hHeld := hHeldN
                  clear hHeldN
                  (try simp only [Act.put, List.setIfInBounds_toArray, List.set_cons_zero, List.set_cons_succ])
                  clear d0 d1 d2 d3 d4 d5 d6 f0 f1 f2 f3 f4 f5 f6
                  have HBF := hid (show Below wr.heap.size wr wp14 from (HS29bel.out.trans (mp13.toBelow HS29bel.out.size (fun j hj => by have := HG13.out; have := HGW.out; simp at hj; omega))).trans (mp14.toBelow (Nat.le_trans HS29bel.out.size mp13.size) (fun j hj => by have := HG14.out; have := HGW.out; simp at hj; omega)))
                  refine wpAnyH_done (by kernel_rfl) ?_ _
                  clear hHeld
                  go_wp2_with fail
                  go_meet
                  exact ⟨b13, b14, xr1, _, cr1, xr2, _, cr2, rfl, rfl, rfl, HQX.out, HQ14.out, pairs_owned HR3.out, pairs_owned HR4.out, HNE.out, Nat.le_of_lt HG13.out.1, Nat.le_of_lt HG14.out.1, HN27_14.out, HN28_14.out, HBF.out⟩
              · go_simp
                obtain ⟨v30_, hv⟩ : ∃ V, v27_.alloc (.cells #[.int .i64 0, .int .i64 0, .int .u8 0, .bool false, .int .u8 0, .slice none 0 0, .slice none 0 0] 38) = V := ⟨_, rfl⟩
                have HB30_ := hid (show Below v27_.heap.size v27_ v30_ by rw [← hv]; exact bal (Below.refl _ _) _)
                have HX30_ := hid (show Box7 v30_ v27_.heap.size (.int .i64 0) (.int .i64 0) (.int .u8 0) (.bool false) (.int .u8 0) (.slice none 0 0) (.slice none 0 0) by rw [← hv]; exact Box7.new v27_ 38)
                rw [hv]
                clear hv
                obtain ⟨b13, hb13⟩ : ∃ b, v27_.heap.size = b := ⟨_, rfl⟩
                have HG13 := hid (show wr.heap.size < b13 ∧ b12 < b13 from by have := HZ27.out; have := HB12.out; omega)
                have HN30_1 := hid (show b13 ∉ blkV (.slice xr1 ps1.length cr1) from fun q => by have := own_lt HO27_.out _ q; omega)
                have HNE := hid (show b13 ≠ b14 from by have := HS27B14.out.lt; omega)
                rw [hb13] at HX30_
                rw [hb13]
                have HBB13 := hid hb13
                clear hb13
                have HS30o1 := hid (own_below HO27_.out HB30_.out)
                have HS30B14 := hid (HS27B14.out.step HB30_.out)
                have HS30bel := hid (below_t HS27bel.out HB30_.out)
                have HZ30 := hid (Nat.le_trans HZ27.out HB30_.out.size)
                refine hK.out _ _ ?_ (fun hHeldN => ?_)
                · exact ⟨keepc HB30_.out hHeld.1, keepc HB30_.out hHeld.2.1, keepc HB30_.out hHeld.2.2.1, keepc HB30_.out hHeld.2.2.2.1, keepc HB30_.out hHeld.2.2.2.2.1, keepc HB30_.out hHeld.2.2.2.2.2.1, keepc HB30_.out hHeld.2.2.2.2.2.2.1, keepc HB30_.out hHeld.2.2.2.2.2.2.2.1, keepc HB30_.out hHeld.2.2.2.2.2.2.2.2.1, keepc HB30_.out hHeld.2.2.2.2.2.2.2.2.2.1, keepc HB30_.out hHeld.2.2.2.2.2.2.2.2.2.2.1, keepc HB30_.out hHeld.2.2.2.2.2.2.2.2.2.2.2.1, keepc HB30_.out hHeld.2.2.2.2.2.2.2.2.2.2.2.2.1, keepc HB30_.out hHeld.2.2.2.2.2.2.2.2.2.2.2.2.2⟩
                clear hK K hHeld
                have hHeld := hHeldN
                clear hHeldN
                (try simp only [Act.put, List.setIfInBounds_toArray, List.set_cons_zero, List.set_cons_succ])
                refine wpAnyH_ready (rs := [6]) (by kernel_rfl) (by simp) ?_
                refine AllReadyH.cons (by simp only [List.getElem?_toArray, List.getElem?_cons_succ, List.getElem?_cons_zero]; rfl) (fun K hK => ?_) AllReadyH.nil
                · go_simp
                  with_reducible refine (HC2.out _ HS30bel.out).mono ?_
                  rintro e v31_ ⟨rv, rfl, ho, hb⟩
                  dsimp only at ho
                  obtain ⟨xr2, cr2, rfl⟩ := row_slice ho
                  have HB31_ := hid hb
                  have HO31_ := hid (own_weak (B' := 0) ho (Nat.zero_le _))
                  have HN31_13 := hid (show b13 ∉ blkV (.slice xr2 ps2.length cr2) from fun q => by have := (ho.lt _ (mem_blkV.1 q)).1; have := HX30_.out.lt; omega)
                  have HN31_14 := hid (show b14 ∉ blkV (.slice xr2 ps2.length cr2) from fun q => by have := (ho.lt _ (mem_blkV.1 q)).1; have := HS30B14.out.lt; omega)
                  clear ho hb
                  (try go_wp2_with fail)
                  have HS31o1 := hid (own_below HS30o1.out HB31_.out)
                  have HS31B13 := hid (HX30_.out.step HB31_.out)
                  have HS31B14 := hid (HS30B14.out.step HB31_.out)
                  have HS31bel := hid (below_t HS30bel.out HB31_.out)
                  have HZ31 := hid (Nat.le_trans HZ30.out HB31_.out.size)
                  refine hK.out _ _ ?_ (fun hHeldN => ?_)
                  · exact ⟨keepc HB31_.out hHeld.1, keepc HB31_.out hHeld.2.1, keepc HB31_.out hHeld.2.2.1, keepc HB31_.out hHeld.2.2.2.1, keepc HB31_.out hHeld.2.2.2.2.1, keepc HB31_.out hHeld.2.2.2.2.2.1, keepc HB31_.out hHeld.2.2.2.2.2.2.1, keepc HB31_.out hHeld.2.2.2.2.2.2.2.1, keepc HB31_.out hHeld.2.2.2.2.2.2.2.2.1, keepc HB31_.out hHeld.2.2.2.2.2.2.2.2.2.1, keepc HB31_.out hHeld.2.2.2.2.2.2.2.2.2.2.1, keepc HB31_.out hHeld.2.2.2.2.2.2.2.2.2.2.2.1, keepc HB31_.out hHeld.2.2.2.2.2.2.2.2.2.2.2.2.1, keepc HB31_.out hHeld.2.2.2.2.2.2.2.2.2.2.2.2.2⟩
                  clear hK K hHeld
                  have hHeld := hHeldN
                  clear hHeldN
                  (try simp only [Act.put, List.setIfInBounds_toArray, List.set_cons_zero, List.set_cons_succ])
                  obtain ⟨wp13, hwp13⟩ : ∃ V, put7 v31_ b13 (.int .i64 kd1) (.int .i64 ad1) (.int .u8 cd1) (.bool gr1) (.int .u8 fa1) (.slice xr1 ps1.length cr1) (.slice xt1 tx1.length ct1) = V := ⟨_, rfl⟩
                  have mp13 : Moved v31_ wp13 [b13] [b13] := by rw [← hwp13]; exact put7_moved _ _ _ _ _ _ _ _ _
                  have HQ13 := hid (show Box7 wp13 b13 (.int .i64 kd1) (.int .i64 ad1) (.int .u8 cd1) (.bool gr1) (.int .u8 fa1) (.slice xr1 ps1.length cr1) (.slice xt1 tx1.length ct1) by rw [← hwp13]; exact HS31B13.out.put (.int .i64 kd1) (.int .i64 ad1) (.int .u8 cd1) (.bool gr1) (.int .u8 fa1) (.slice xr1 ps1.length cr1) (.slice xt1 tx1.length ct1))
                  have HO14 := hid (HS31B14.out.moved mp13 (by have := HNE.out; simp; omega))
                  have HR1 := hid (own_moved HS31o1.out mp13 (fun j hj q => by simp at q; subst q; exact HN30_1.out hj))
                  have HR2 := hid (own_moved HO31_.out mp13 (fun j hj q => by simp at q; subst q; exact HN31_13.out hj))
                  unfold put7 at hwp13
                  have HW13 := hid hwp13
                  obtain ⟨d0, d1, d2, d3, d4, d5, d6, fc⟩ := HS31B13.out
                  have f0 := fc 0 (by omega)
                  have f1 := fc 1 (by omega)
                  have f2 := fc 2 (by omega)
                  have f3 := fc 3 (by omega)
                  have f4 := fc 4 (by omega)
                  have f5 := fc 5 (by omega)
                  have f6 := fc 6 (by omega)
                  clear fc hwp13
                  refine wpAnyH_ready (rs := [9]) (by kernel_rfl) (by simp) ?_
                  refine AllReadyH.cons (by simp only [List.getElem?_toArray, List.getElem?_cons_succ, List.getElem?_cons_zero]; rfl) (fun K hK => ?_) AllReadyH.nil
                  go_simp
                  rw [HW13.out]
                  refine hK.out _ _ ?_ (fun hHeldN => ?_)
                  · exact ⟨cell_moved mp13 hHeld.1 (by have := HG13.out; have := HG9.out; simp; omega), cell_moved mp13 hHeld.2.1 (by have := HG13.out; have := HG9.out; simp; omega), cell_moved mp13 hHeld.2.2.1 (by have := HG13.out; have := HG9.out; simp; omega), cell_moved mp13 hHeld.2.2.2.1 (by have := HG13.out; have := HG9.out; simp; omega), cell_moved mp13 hHeld.2.2.2.2.1 (by have := HG13.out; have := HG9.out; simp; omega), cell_moved mp13 hHeld.2.2.2.2.2.1 (by have := HG13.out; have := HG9.out; simp; omega), cell_moved mp13 hHeld.2.2.2.2.2.2.1 (by have := HG13.out; have := HG9.out; simp; omega), cell_moved mp13 hHeld.2.2.2.2.2.2.2.1 (by have := HG13.out; have := HG9.out; simp; omega), cell_moved mp13 hHeld.2.2.2.2.2.2.2.2.1 (by have := HG13.out; have := HG9.out; simp; omega), cell_moved mp13 hHeld.2.2.2.2.2.2.2.2.2.1 (by have := HG13.out; have := HG9.out; simp; omega), cell_moved mp13 hHeld.2.2.2.2.2.2.2.2.2.2.1 (by have := HG13.out; have := HG9.out; simp; omega), cell_moved mp13 hHeld.2.2.2.2.2.2.2.2.2.2.2.1 (by have := HG13.out; have := HG9.out; simp; omega), cell_moved mp13 hHeld.2.2.2.2.2.2.2.2.2.2.2.2.1 (by have := HG13.out; have := HG9.out; simp; omega), cell_moved mp13 hHeld.2.2.2.2.2.2.2.2.2.2.2.2.2 (by have := HG13.out; have := HG9.out; simp; omega)⟩
                  clear hK K hHeld
                  have hHeld := hHeldN
                  clear hHeldN
                  (try simp only [Act.put, List.setIfInBounds_toArray, List.set_cons_zero, List.set_cons_succ])
                  clear d0 d1 d2 d3 d4 d5 d6 f0 f1 f2 f3 f4 f5 f6
                  obtain ⟨wp14, hwp14⟩ : ∃ V, put7 wp13 b14 (.int .i64 kd2) (.int .i64 ad2) (.int .u8 cd2) (.bool gr2) (.int .u8 fa2) (.slice xr2 ps2.length cr2) (.slice xt2 tx2.length ct2) = V := ⟨_, rfl⟩
                  have mp14 : Moved wp13 wp14 [b14] [b14] := by rw [← hwp14]; exact put7_moved _ _ _ _ _ _ _ _ _
                  have HQ14 := hid (show Box7 wp14 b14 (.int .i64 kd2) (.int .i64 ad2) (.int .u8 cd2) (.bool gr2) (.int .u8 fa2) (.slice xr2 ps2.length cr2) (.slice xt2 tx2.length ct2) by rw [← hwp14]; exact HO14.out.put (.int .i64 kd2) (.int .i64 ad2) (.int .u8 cd2) (.bool gr2) (.int .u8 fa2) (.slice xr2 ps2.length cr2) (.slice xt2 tx2.length ct2))
                  have HQX := hid (HQ13.out.moved mp14 (by have := HNE.out; simp; omega))
                  have HR3 := hid (own_moved HR1.out mp14 (fun j hj q => by simp at q; subst q; exact HN27_14.out hj))
                  have HR4 := hid (own_moved HR2.out mp14 (fun j hj q => by simp at q; subst q; exact HN31_14.out hj))
                  unfold put7 at hwp14
                  have HW14 := hid hwp14
                  obtain ⟨d0, d1, d2, d3, d4, d5, d6, fc⟩ := HO14.out
                  have f0 := fc 0 (by omega)
                  have f1 := fc 1 (by omega)
                  have f2 := fc 2 (by omega)
                  have f3 := fc 3 (by omega)
                  have f4 := fc 4 (by omega)
                  have f5 := fc 5 (by omega)
                  have f6 := fc 6 (by omega)
                  clear fc hwp14
                  refine wpAnyH_ready (rs := [10]) (by kernel_rfl) (by simp) ?_
                  refine AllReadyH.cons (by simp only [List.getElem?_toArray, List.getElem?_cons_succ, List.getElem?_cons_zero]; rfl) (fun K hK => ?_) AllReadyH.nil
                  go_simp
                  rw [HW14.out]
                  refine hK.out _ _ ?_ (fun hHeldN => ?_)
                  · exact ⟨cell_moved mp14 hHeld.1 (by have := HG14.out; have := HG9.out; simp; omega), cell_moved mp14 hHeld.2.1 (by have := HG14.out; have := HG9.out; simp; omega), cell_moved mp14 hHeld.2.2.1 (by have := HG14.out; have := HG9.out; simp; omega), cell_moved mp14 hHeld.2.2.2.1 (by have := HG14.out; have := HG9.out; simp; omega), cell_moved mp14 hHeld.2.2.2.2.1 (by have := HG14.out; have := HG9.out; simp; omega), cell_moved mp14 hHeld.2.2.2.2.2.1 (by have := HG14.out; have := HG9.out; simp; omega), cell_moved mp14 hHeld.2.2.2.2.2.2.1 (by have := HG14.out; have := HG9.out; simp; omega), cell_moved mp14 hHeld.2.2.2.2.2.2.2.1 (by have := HG14.out; have := HG9.out; simp; omega), cell_moved mp14 hHeld.2.2.2.2.2.2.2.2.1 (by have := HG14.out; have := HG9.out; simp; omega), cell_moved mp14 hHeld.2.2.2.2.2.2.2.2.2.1 (by have := HG14.out; have := HG9.out; simp; omega), cell_moved mp14 hHeld.2.2.2.2.2.2.2.2.2.2.1 (by have := HG14.out; have := HG9.out; simp; omega), cell_moved mp14 hHeld.2.2.2.2.2.2.2.2.2.2.2.1 (by have := HG14.out; have := HG9.out; simp; omega), cell_moved mp14 hHeld.2.2.2.2.2.2.2.2.2.2.2.2.1 (by have := HG14.out; have := HG9.out; simp; omega), cell_moved mp14 hHeld.2.2.2.2.2.2.2.2.2.2.2.2.2 (by have := HG14.out; have := HG9.out; simp; omega)⟩
                  clear hK K hHeld
                  have hHeld := hHeldN
                  clear hHeldN
                  (try simp only [Act.put, List.setIfInBounds_toArray, List.set_cons_zero, List.set_cons_succ])
                  clear d0 d1 d2 d3 d4 d5 d6 f0 f1 f2 f3 f4 f5 f6
                  have HBF := hid (show Below wr.heap.size wr wp14 from (HS31bel.out.trans (mp13.toBelow HS31bel.out.size (fun j hj => by have := HG13.out; have := HGW.out; simp at hj; omega))).trans (mp14.toBelow (Nat.le_trans HS31bel.out.size mp13.size) (fun j hj => by have := HG14.out; have := HGW.out; simp at hj; omega)))
                  refine wpAnyH_done (by kernel_rfl) ?_ _
                  clear hHeld
                  go_wp2_with fail
                  go_meet
                  exact ⟨b13, b14, xr1, _, cr1, xr2, _, cr2, rfl, rfl, rfl, HQX.out, HQ14.out, pairs_owned HR3.out, pairs_owned HR4.out, HNE.out, Nat.le_of_lt HG13.out.1, Nat.le_of_lt HG14.out.1, HN27_14.out, HN31_14.out, HBF.out⟩
            · go_simp
              obtain ⟨v32_, hv⟩ : ∃ V, v26_.alloc (.cells #[.int .i64 0, .int .i64 0, .int .u8 0, .bool false, .int .u8 0, .slice none 0 0, .slice none 0 0] 38) = V := ⟨_, rfl⟩
              have HB32_ := hid (show Below v26_.heap.size v26_ v32_ by rw [← hv]; exact bal (Below.refl _ _) _)
              have HX32_ := hid (show Box7 v32_ v26_.heap.size (.int .i64 0) (.int .i64 0) (.int .u8 0) (.bool false) (.int .u8 0) (.slice none 0 0) (.slice none 0 0) by rw [← hv]; exact Box7.new v26_ 38)
              rw [hv]
              clear hv
              obtain ⟨b13, hb13⟩ : ∃ b, v26_.heap.size = b := ⟨_, rfl⟩
              have HG13 := hid (show wr.heap.size < b13 ∧ b12 < b13 from by have := HZ26.out; have := HB12.out; omega)
              have HNE := hid (show b13 ≠ b14 from by have := HX26_.out.lt; omega)
              rw [hb13] at HX32_
              rw [hb13]
              have HBB13 := hid hb13
              clear hb13
              have HS32B14 := hid (HX26_.out.step HB32_.out)
              have HS32bel := hid (below_t HS26bel.out HB32_.out)
              have HZ32 := hid (Nat.le_trans HZ26.out HB32_.out.size)
              refine hK.out _ _ ?_ (fun hHeldN => ?_)
              · exact ⟨keepc HB32_.out hHeld.1, keepc HB32_.out hHeld.2.1, keepc HB32_.out hHeld.2.2.1, keepc HB32_.out hHeld.2.2.2.1, keepc HB32_.out hHeld.2.2.2.2.1, keepc HB32_.out hHeld.2.2.2.2.2.1, keepc HB32_.out hHeld.2.2.2.2.2.2.1, keepc HB32_.out hHeld.2.2.2.2.2.2.2.1, keepc HB32_.out hHeld.2.2.2.2.2.2.2.2.1, keepc HB32_.out hHeld.2.2.2.2.2.2.2.2.2.1, keepc HB32_.out hHeld.2.2.2.2.2.2.2.2.2.2.1, keepc HB32_.out hHeld.2.2.2.2.2.2.2.2.2.2.2.1, keepc HB32_.out hHeld.2.2.2.2.2.2.2.2.2.2.2.2.1, keepc HB32_.out hHeld.2.2.2.2.2.2.2.2.2.2.2.2.2⟩
              clear hK K hHeld
              have hHeld := hHeldN
              clear hHeldN
              (try simp only [Act.put, List.setIfInBounds_toArray, List.set_cons_zero, List.set_cons_succ])
              refine wpAnyH_ready (rs := [1]) (by kernel_rfl) (by simp) ?_
              refine AllReadyH.cons (by simp only [List.getElem?_toArray, List.getElem?_cons_succ, List.getElem?_cons_zero]; rfl) (fun K hK => ?_) AllReadyH.nil
              · go_simp
                with_reducible refine (HC1.out _ HS32bel.out).mono ?_
                rintro e v33_ ⟨rv, rfl, ho, hb⟩
                dsimp only at ho
                obtain ⟨xr1, cr1, rfl⟩ := row_slice ho
                have HB33_ := hid hb
                have HO33_ := hid (own_weak (B' := 0) ho (Nat.zero_le _))
                have HN33_13 := hid (show b13 ∉ blkV (.slice xr1 ps1.length cr1) from fun q => by have := (ho.lt _ (mem_blkV.1 q)).1; have := HX32_.out.lt; omega)
                have HN33_14 := hid (show b14 ∉ blkV (.slice xr1 ps1.length cr1) from fun q => by have := (ho.lt _ (mem_blkV.1 q)).1; have := HS32B14.out.lt; omega)
                clear ho hb
                (try go_wp2_with fail)
                have HS33B13 := hid (HX32_.out.step HB33_.out)
                have HS33B14 := hid (HS32B14.out.step HB33_.out)
                have HS33bel := hid (below_t HS32bel.out HB33_.out)
                have HZ33 := hid (Nat.le_trans HZ32.out HB33_.out.size)
                refine hK.out _ _ ?_ (fun hHeldN => ?_)
                · exact ⟨keepc HB33_.out hHeld.1, keepc HB33_.out hHeld.2.1, keepc HB33_.out hHeld.2.2.1, keepc HB33_.out hHeld.2.2.2.1, keepc HB33_.out hHeld.2.2.2.2.1, keepc HB33_.out hHeld.2.2.2.2.2.1, keepc HB33_.out hHeld.2.2.2.2.2.2.1, keepc HB33_.out hHeld.2.2.2.2.2.2.2.1, keepc HB33_.out hHeld.2.2.2.2.2.2.2.2.1, keepc HB33_.out hHeld.2.2.2.2.2.2.2.2.2.1, keepc HB33_.out hHeld.2.2.2.2.2.2.2.2.2.2.1, keepc HB33_.out hHeld.2.2.2.2.2.2.2.2.2.2.2.1, keepc HB33_.out hHeld.2.2.2.2.2.2.2.2.2.2.2.2.1, keepc HB33_.out hHeld.2.2.2.2.2.2.2.2.2.2.2.2.2⟩
                clear hK K hHeld
                have hHeld := hHeldN
                clear hHeldN
                (try simp only [Act.put, List.setIfInBounds_toArray, List.set_cons_zero, List.set_cons_succ])
                refine wpAnyH_ready (rs := [6]) (by kernel_rfl) (by simp) ?_
                refine AllReadyH.cons (by simp only [List.getElem?_toArray, List.getElem?_cons_succ, List.getElem?_cons_zero]; rfl) (fun K hK => ?_) AllReadyH.nil
                · go_simp
                  with_reducible refine (HC2.out _ HS33bel.out).mono ?_
                  rintro e v34_ ⟨rv, rfl, ho, hb⟩
                  dsimp only at ho
                  obtain ⟨xr2, cr2, rfl⟩ := row_slice ho
                  have HB34_ := hid hb
                  have HO34_ := hid (own_weak (B' := 0) ho (Nat.zero_le _))
                  have HN34_13 := hid (show b13 ∉ blkV (.slice xr2 ps2.length cr2) from fun q => by have := (ho.lt _ (mem_blkV.1 q)).1; have := HS33B13.out.lt; omega)
                  have HN34_14 := hid (show b14 ∉ blkV (.slice xr2 ps2.length cr2) from fun q => by have := (ho.lt _ (mem_blkV.1 q)).1; have := HS33B14.out.lt; omega)
                  clear ho hb
                  (try go_wp2_with fail)
                  have HS34o1 := hid (own_below HO33_.out HB34_.out)
                  have HS34B13 := hid (HS33B13.out.step HB34_.out)
                  have HS34B14 := hid (HS33B14.out.step HB34_.out)
                  have HS34bel := hid (below_t HS33bel.out HB34_.out)
                  have HZ34 := hid (Nat.le_trans HZ33.out HB34_.out.size)
                  refine hK.out _ _ ?_ (fun hHeldN => ?_)
                  · exact ⟨keepc HB34_.out hHeld.1, keepc HB34_.out hHeld.2.1, keepc HB34_.out hHeld.2.2.1, keepc HB34_.out hHeld.2.2.2.1, keepc HB34_.out hHeld.2.2.2.2.1, keepc HB34_.out hHeld.2.2.2.2.2.1, keepc HB34_.out hHeld.2.2.2.2.2.2.1, keepc HB34_.out hHeld.2.2.2.2.2.2.2.1, keepc HB34_.out hHeld.2.2.2.2.2.2.2.2.1, keepc HB34_.out hHeld.2.2.2.2.2.2.2.2.2.1, keepc HB34_.out hHeld.2.2.2.2.2.2.2.2.2.2.1, keepc HB34_.out hHeld.2.2.2.2.2.2.2.2.2.2.2.1, keepc HB34_.out hHeld.2.2.2.2.2.2.2.2.2.2.2.2.1, keepc HB34_.out hHeld.2.2.2.2.2.2.2.2.2.2.2.2.2⟩
                  clear hK K hHeld
                  have hHeld := hHeldN
                  clear hHeldN
                  (try simp only [Act.put, List.setIfInBounds_toArray, List.set_cons_zero, List.set_cons_succ])
                  obtain ⟨wp13, hwp13⟩ : ∃ V, put7 v34_ b13 (.int .i64 kd1) (.int .i64 ad1) (.int .u8 cd1) (.bool gr1) (.int .u8 fa1) (.slice xr1 ps1.length cr1) (.slice xt1 tx1.length ct1) = V := ⟨_, rfl⟩
                  have mp13 : Moved v34_ wp13 [b13] [b13] := by rw [← hwp13]; exact put7_moved _ _ _ _ _ _ _ _ _
                  have HQ13 := hid (show Box7 wp13 b13 (.int .i64 kd1) (.int .i64 ad1) (.int .u8 cd1) (.bool gr1) (.int .u8 fa1) (.slice xr1 ps1.length cr1) (.slice xt1 tx1.length ct1) by rw [← hwp13]; exact HS34B13.out.put (.int .i64 kd1) (.int .i64 ad1) (.int .u8 cd1) (.bool gr1) (.int .u8 fa1) (.slice xr1 ps1.length cr1) (.slice xt1 tx1.length ct1))
                  have HO14 := hid (HS34B14.out.moved mp13 (by have := HNE.out; simp; omega))
                  have HR1 := hid (own_moved HS34o1.out mp13 (fun j hj q => by simp at q; subst q; exact HN33_13.out hj))
                  have HR2 := hid (own_moved HO34_.out mp13 (fun j hj q => by simp at q; subst q; exact HN34_13.out hj))
                  unfold put7 at hwp13
                  have HW13 := hid hwp13
                  obtain ⟨d0, d1, d2, d3, d4, d5, d6, fc⟩ := HS34B13.out
                  have f0 := fc 0 (by omega)
                  have f1 := fc 1 (by omega)
                  have f2 := fc 2 (by omega)
                  have f3 := fc 3 (by omega)
                  have f4 := fc 4 (by omega)
                  have f5 := fc 5 (by omega)
                  have f6 := fc 6 (by omega)
                  clear fc hwp13
                  refine wpAnyH_ready (rs := [9]) (by kernel_rfl) (by simp) ?_
                  refine AllReadyH.cons (by simp only [List.getElem?_toArray, List.getElem?_cons_succ, List.getElem?_cons_zero]; rfl) (fun K hK => ?_) AllReadyH.nil
                  go_simp
                  rw [HW13.out]
                  refine hK.out _ _ ?_ (fun hHeldN => ?_)
                  · exact ⟨cell_moved mp13 hHeld.1 (by have := HG13.out; have := HG9.out; simp; omega), cell_moved mp13 hHeld.2.1 (by have := HG13.out; have := HG9.out; simp; omega), cell_moved mp13 hHeld.2.2.1 (by have := HG13.out; have := HG9.out; simp; omega), cell_moved mp13 hHeld.2.2.2.1 (by have := HG13.out; have := HG9.out; simp; omega), cell_moved mp13 hHeld.2.2.2.2.1 (by have := HG13.out; have := HG9.out; simp; omega), cell_moved mp13 hHeld.2.2.2.2.2.1 (by have := HG13.out; have := HG9.out; simp; omega), cell_moved mp13 hHeld.2.2.2.2.2.2.1 (by have := HG13.out; have := HG9.out; simp; omega), cell_moved mp13 hHeld.2.2.2.2.2.2.2.1 (by have := HG13.out; have := HG9.out; simp; omega), cell_moved mp13 hHeld.2.2.2.2.2.2.2.2.1 (by have := HG13.out; have := HG9.out; simp; omega), cell_moved mp13 hHeld.2.2.2.2.2.2.2.2.2.1 (by have := HG13.out; have := HG9.out; simp; omega), cell_moved mp13 hHeld.2.2.2.2.2.2.2.2.2.2.1 (by have := HG13.out; have := HG9.out; simp; omega), cell_moved mp13 hHeld.2.2.2.2.2.2.2.2.2.2.2.1 (by have := HG13.out; have := HG9.out; simp; omega), cell_moved mp13 hHeld.2.2.2.2.2.2.2.2.2.2.2.2.1 (by have := HG13.out; have := HG9.out; simp; omega), cell_moved mp13 hHeld.2.2.2.2.2.2.2.2.2.2.2.2.2 (by have := HG13.out; have := HG9.out; simp; omega)⟩
                  clear hK K hHeld
                  have hHeld := hHeldN
                  clear hHeldN
                  (try simp only [Act.put, List.setIfInBounds_toArray, List.set_cons_zero, List.set_cons_succ])
                  clear d0 d1 d2 d3 d4 d5 d6 f0 f1 f2 f3 f4 f5 f6
                  obtain ⟨wp14, hwp14⟩ : ∃ V, put7 wp13 b14 (.int .i64 kd2) (.int .i64 ad2) (.int .u8 cd2) (.bool gr2) (.int .u8 fa2) (.slice xr2 ps2.length cr2) (.slice xt2 tx2.length ct2) = V := ⟨_, rfl⟩
                  have mp14 : Moved wp13 wp14 [b14] [b14] := by rw [← hwp14]; exact put7_moved _ _ _ _ _ _ _ _ _
                  have HQ14 := hid (show Box7 wp14 b14 (.int .i64 kd2) (.int .i64 ad2) (.int .u8 cd2) (.bool gr2) (.int .u8 fa2) (.slice xr2 ps2.length cr2) (.slice xt2 tx2.length ct2) by rw [← hwp14]; exact HO14.out.put (.int .i64 kd2) (.int .i64 ad2) (.int .u8 cd2) (.bool gr2) (.int .u8 fa2) (.slice xr2 ps2.length cr2) (.slice xt2 tx2.length ct2))
                  have HQX := hid (HQ13.out.moved mp14 (by have := HNE.out; simp; omega))
                  have HR3 := hid (own_moved HR1.out mp14 (fun j hj q => by simp at q; subst q; exact HN33_14.out hj))
                  have HR4 := hid (own_moved HR2.out mp14 (fun j hj q => by simp at q; subst q; exact HN34_14.out hj))
                  unfold put7 at hwp14
                  have HW14 := hid hwp14
                  obtain ⟨d0, d1, d2, d3, d4, d5, d6, fc⟩ := HO14.out
                  have f0 := fc 0 (by omega)
                  have f1 := fc 1 (by omega)
                  have f2 := fc 2 (by omega)
                  have f3 := fc 3 (by omega)
                  have f4 := fc 4 (by omega)
                  have f5 := fc 5 (by omega)
                  have f6 := fc 6 (by omega)
                  clear fc hwp14
                  refine wpAnyH_ready (rs := [10]) (by kernel_rfl) (by simp) ?_
                  refine AllReadyH.cons (by simp only [List.getElem?_toArray, List.getElem?_cons_succ, List.getElem?_cons_zero]; rfl) (fun K hK => ?_) AllReadyH.nil
                  go_simp
                  rw [HW14.out]
                  refine hK.out _ _ ?_ (fun hHeldN => ?_)
                  · exact ⟨cell_moved mp14 hHeld.1 (by have := HG14.out; have := HG9.out; simp; omega), cell_moved mp14 hHeld.2.1 (by have := HG14.out; have := HG9.out; simp; omega), cell_moved mp14 hHeld.2.2.1 (by have := HG14.out; have := HG9.out; simp; omega), cell_moved mp14 hHeld.2.2.2.1 (by have := HG14.out; have := HG9.out; simp; omega), cell_moved mp14 hHeld.2.2.2.2.1 (by have := HG14.out; have := HG9.out; simp; omega), cell_moved mp14 hHeld.2.2.2.2.2.1 (by have := HG14.out; have := HG9.out; simp; omega), cell_moved mp14 hHeld.2.2.2.2.2.2.1 (by have := HG14.out; have := HG9.out; simp; omega), cell_moved mp14 hHeld.2.2.2.2.2.2.2.1 (by have := HG14.out; have := HG9.out; simp; omega), cell_moved mp14 hHeld.2.2.2.2.2.2.2.2.1 (by have := HG14.out; have := HG9.out; simp; omega), cell_moved mp14 hHeld.2.2.2.2.2.2.2.2.2.1 (by have := HG14.out; have := HG9.out; simp; omega), cell_moved mp14 hHeld.2.2.2.2.2.2.2.2.2.2.1 (by have := HG14.out; have := HG9.out; simp; omega), cell_moved mp14 hHeld.2.2.2.2.2.2.2.2.2.2.2.1 (by have := HG14.out; have := HG9.out; simp; omega), cell_moved mp14 hHeld.2.2.2.2.2.2.2.2.2.2.2.2.1 (by have := HG14.out; have := HG9.out; simp; omega), cell_moved mp14 hHeld.2.2.2.2.2.2.2.2.2.2.2.2.2 (by have := HG14.out; have := HG9.out; simp; omega)⟩
                  clear hK K hHeld
                  have hHeld := hHeldN
                  clear hHeldN
                  (try simp only [Act.put, List.setIfInBounds_toArray, List.set_cons_zero, List.set_cons_succ])
                  clear d0 d1 d2 d3 d4 d5 d6 f0 f1 f2 f3 f4 f5 f6
                  have HBF := hid (show Below wr.heap.size wr wp14 from (HS34bel.out.trans (mp13.toBelow HS34bel.out.size (fun j hj => by have := HG13.out; have := HGW.out; simp at hj; omega))).trans (mp14.toBelow (Nat.le_trans HS34bel.out.size mp13.size) (fun j hj => by have := HG14.out; have := HGW.out; simp at hj; omega)))
                  refine wpAnyH_done (by kernel_rfl) ?_ _
                  clear hHeld
                  go_wp2_with fail
                  go_meet
                  exact ⟨b13, b14, xr1, _, cr1, xr2, _, cr2, rfl, rfl, rfl, HQX.out, HQ14.out, pairs_owned HR3.out, pairs_owned HR4.out, HNE.out, Nat.le_of_lt HG13.out.1, Nat.le_of_lt HG14.out.1, HN33_14.out, HN34_14.out, HBF.out⟩

        case rest =>
          obtain ⟨b13, b14, y1, m1, e1, y2, m2, e2, hc1, hc2, hc3, HM⟩ := hcut
          subst hc1 hc2 hc3
          have HMM := hid HM
          clear HM
          have HM := HMM
          have hbwr := HM.out.bel
          have HTX1 := hid (reads_below HT1.out.reads hbwr)
          have HTX2 := hid (reads_below HT2.out.reads hbwr)
          have HL1 := hid HT1.out.lt
          have HL2 := hid HT2.out.lt
          have HNO := hid (same_no HAG.out)
          have HYE := hid (same_yes HAG.out)
          have hyl := HYL.out
          have hk1 : (1 : Int) ≤ ys.length := by omega
          have hk1' : (0 : Int) ≤ (ys.length : Int) - 1 := by omega
          clear hbwr HMM
          by_cases hl : k + 1 = ys.length
          · have g1 : (ys.length : Int) - 1 = (k : Int) := by omega
            by_cases h1 : kd1 = 0
            · by_cases h2 : kd2 = 0
              · by_cases hle : tx1.length ≤ tx2.length
                · have hlei : (tx1.length : Int) ≤ tx2.length := by omega
                  obtain ⟨q1, q2, q3, q4, q5, q6, q7⟩ := HYE.out
                  subst h1
                  subst q1 q2 q3 q4 q5 q6
                  obtain ⟨sq, hsq0, hsr, hsb⟩ := run_to HTX2.out tx1.length (by omega)
                  have hsq : (Instr.sliceAt 26 (.slice xt2 tx2.length ct2) none (some (.int .i64 tx1.length)) none).run Try.prog wc = .ok sq wc := hsq0
                  rw [q7] at hsr
                  obtain ⟨xs6, cs6, rfl⟩ := reads_sl hsr
                  have hmv : Moved wc (wc.setCell ⟨b14, 6, none⟩ (.slice xs6 tx1.length cs6)) [b14] [b14] := Moved.set (by simp) 6 _
                  have HYB := hid (HM.out.y.set6 (.slice xs6 tx1.length cs6))
                  have HXB := hid (HM.out.x.moved hmv (by have := HM.out.ne; simpa using this))
                  have HSM := hid (sameO_true 0 ad1 cd1 gr1 fa1 ps1 tx1 y1 m1 e1 xt1 tx1.length ct1 y2 m2 e2 xs6 tx1.length cs6 (wc.setCell ⟨b14, 6, none⟩ (.slice xs6 tx1.length cs6)) HPS.out (pairs_moved HM.out.px hmv (fun j hj q => by simp at q; subst q; exact HM.out.n1 hj)) (pairs_moved HM.out.py hmv (fun j hj q => by simp at q; subst q; exact HM.out.n2 hj)) (reads_moved HTX1.out hmv (fun j hj q => by simp at q; subst q; have := HL1.out _ hj; have := HM.out.l14; omega)) (reads_moved hsr hmv (fun j hj q => by simp at q; subst q; have := HL2.out _ (hsb _ hj); have := HM.out.l14; omega)))
                  have HBS := hid (show Below w4.heap.size w4 (wc.setCell ⟨b14, 6, none⟩ (.slice xs6 tx1.length cs6)) from (below_t HB.out HM.out.bel).setCell (by have := HB.out.size; have := HM.out.l14; show w4.heap.size ≤ b14; omega) _)
                  obtain ⟨p0, p1, p2, p3, p4, p5, p6, -⟩ := HM.out.x
                  obtain ⟨r0, r1, r2, r3, r4, r5, r6, rf⟩ := HM.out.y
                  have rf6 := rf 6 (by omega)
                  have hne := HM.out.ne
                  have hne' : b14 ≠ b13 := fun e => hne e.symm
                  clear rf hmv hsq0 hsr hsb hl hle hk1'
                  go_wp2_with fail
                  with_reducible refine HSM.out.mono ?_
                  rintro e w6 ⟨rfl, hb6⟩
                  have HB6 := hid (below_t HBS.out hb6)
                  clear hb6
                  go_wp2
                  go_roundw
                  case rel => exact ⟨k + 1, by omega, by go_num, HB6.out⟩
                  case measure => simp [intOf]; omega
                · exact absurd (Nat.le_of_eq (congrArg List.length (HNO.out (fun q => hle q.2.2.2)).2.2.2.2.2.2)) hle
              · exact absurd (HYE.out.1.symm.trans h1) h2
            · have g2 : (kd1 == 0) = false := by simpa using h1
              obtain ⟨q1, q2, q3, q4, q5, q6, q7⟩ := HNO.out (fun q => by omega)
              subst q1 q2 q3 q4 q5 q6 q7
              have HSM := hid (sameO_true kd1 ad1 cd1 gr1 fa1 ps1 tx1 y1 m1 e1 xt1 tx1.length ct1 y2 m2 e2 xt2 tx1.length ct2 wc HPS.out HM.out.px HM.out.py HTX1.out HTX2.out)
              obtain ⟨p0, p1, p2, p3, p4, p5, p6, -⟩ := HM.out.x
              obtain ⟨r0, r1, r2, r3, r4, r5, r6, -⟩ := HM.out.y
              clear hl h1 hk1'
              go_wp2_with fail
              with_reducible refine HSM.out.mono ?_
              rintro e w6 ⟨rfl, hb6⟩
              have HB6 := hid (below_t (below_t HB.out HM.out.bel) hb6)
              clear hb6
              go_wp2
              go_roundw
              case rel => exact ⟨k + 1, by omega, by go_num, HB6.out⟩
              case measure => simp [intOf]; omega
          · have g1 : ((k : Int) == (ys.length : Int) - 1) = false := by simp; omega
            obtain ⟨q1, q2, q3, q4, q5, q6, q7⟩ := HNO.out (fun q => by omega)
            subst q1 q2 q3 q4 q5 q6 q7
            have HSM := hid (sameO_true kd1 ad1 cd1 gr1 fa1 ps1 tx1 y1 m1 e1 xt1 tx1.length ct1 y2 m2 e2 xt2 tx1.length ct2 wc HPS.out HM.out.px HM.out.py HTX1.out HTX2.out)
            obtain ⟨p0, p1, p2, p3, p4, p5, p6, -⟩ := HM.out.x
            obtain ⟨r0, r1, r2, r3, r4, r5, r6, -⟩ := HM.out.y
            clear hl
            go_wp2_with fail
            with_reducible refine HSM.out.mono ?_
            rintro e w6 ⟨rfl, hb6⟩
            have HB6 := hid (below_t (below_t HB.out HM.out.bel) hb6)
            clear hb6
            go_wp2
            go_roundw
            case rel => exact ⟨k + 1, by omega, by go_num, HB6.out⟩
            case measure => simp [intOf]; omega
      · go_wp2
        go_ret
        exact ⟨rfl, below_t HB4.out HB.out⟩
end Go.Proofs.Ytjhmjjlmdmmilaa
