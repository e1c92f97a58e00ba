/-
  slices.Contains of kinds; entry.inbound; entry.Parse.
-/
import Derived.Test.YtlhaefgchmakfaaPg
namespace Go.Proofs.Ytlhaefgchmakfaa
open Go.RowKit Go.Lib

/-- Kinds in memory. -/
def KindsIn (w : World) (v : Value) (ks : List Int) : Prop := ∃ g c, v = .slice (some ⟨g, 0, none⟩) ks.length c ∧ g < w.heap.size ∧ ∀ i, i < ks.length → w.cell? ⟨g, i, none⟩ = some (.int .i64 (ks.getD i 0))
theorem KindsIn.step {w w' : World} {v : Value} {ks : List Int} (h : KindsIn w v ks) (hb : Below w.heap.size w w') : KindsIn w' v ks := by
  obtain ⟨g, c, hv, hg, hc⟩ := h
  exact ⟨g, c, hv, Nat.lt_of_lt_of_le hg hb.size, fun i hi => keepc hb (hc i hi)⟩
def IdxI (ks : List Int) (o : Int) (w : World) (e : Ending) (w' : World) : Prop := ∃ r : Int, e = .returned (.int .i64 r) ∧ ((0 ≤ r ∧ ks.contains o = true) ∨ (r = -1 ∧ ks.contains o = false)) ∧ w = w'
theorem cont_at {ks : List Int} {o : Int} {k : Nat} (h : k < ks.length) (hi : ks.getD k 0 = o) : ks.contains o = true := by
  rw [List.contains_iff_mem]
  rw [List.getD, List.getElem?_eq_getElem h] at hi
  rw [← show ks[k] = o from hi]
  exact List.getElem_mem h
theorem cont_not {ks : List Int} {o : Int} (h : ∀ j, j < ks.length → ks.getD j 0 ≠ o) : ks.contains o = false := by
  cases hc : ks.contains o
  · rfl
  · obtain ⟨i, hi, e⟩ := List.getElem_of_mem (List.contains_iff_mem.1 hc)
    exact absurd (by rw [List.getD, List.getElem?_eq_getElem hi]; exact e) (h i hi)
set_option maxRecDepth 100000 in
set_option maxHeartbeats 1000000 in
theorem idxI_any (v : Value) (ks : List Int) (o : Int) (w : World) (h : KindsIn w v ks) (hl : ks.length ≤ 1000) : Calls Try.prog 112 #[v, .int .i64 o] w (IdxI ks o w) := by
  obtain ⟨g, c, rfl, hg, hc⟩ := h
  obtain ⟨n, hn⟩ : ∃ n, ks.length = n := ⟨_, rfl⟩
  rw [hn] at hl hc ⊢
  have HC := hid hc
  have HAT := hid (fun k (h : k < n) (hi : ks.getD k 0 = o) => cont_at (hn ▸ h) hi)
  have HNO := hid (fun (h : ∀ j, j < n → ks.getD j 0 ≠ o) => cont_not (ks := ks) (o := o) (hn ▸ h))
  clear hc hn hg
  go_enter Try.func112, Try.ntmps112
  go_wp2
  go_loopw [8] (fun i W => ∃ k : Nat, k ≤ n ∧ i = .int .i64 k ∧ Hid (∀ j, j < k → ks.getD j 0 ≠ o) ∧ W = w) (fun i _ => n - (intOf i).toNat)
  case atStart => exact ⟨0, Nat.zero_le _, rfl, fun j hj => absurd hj (Nat.not_lt_zero _), rfl⟩
  case round =>
    obtain ⟨k, hk, rfl, HK, rfl⟩ := hrel
    by_cases hlt : k < n
    · have c0 := HC.out k hlt
      have hki : (k : Int) < n := by omega
      by_cases e : ks.getD k 0 = o
      · rw [e] at c0
        have HR := hid (HAT.out k hlt e)
        clear e
        go_wp2
        go_ret
        exact ⟨k, rfl, .inl ⟨by omega, HR.out⟩, rfl⟩
      · have HR := hid (show ∀ j, j < k + 1 → ks.getD j 0 ≠ o from fun j hj => by
          by_cases ej : j = k
          · rw [ej]; exact e
          · exact HK.out j (by omega))
        have e' : (o == ks.getD k 0) = false := by simpa using fun h => e h.symm
        generalize ks.getD k 0 = y at c0 e'
        clear e HK
        go_wp2
        go_roundw
        case rel => exact ⟨k + 1, by omega, by go_num, HR.out, trivial⟩
        case measure => simp [intOf]; omega
    · obtain rfl : k = n := by omega
      have HF := hid (HNO.out HK.out)
      go_wp2
      go_ret
      exact ⟨-1, rfl, .inr ⟨rfl, HF.out⟩, rfl⟩
set_option maxRecDepth 100000 in
set_option maxHeartbeats 1000000 in
theorem contI_any (v : Value) (ks : List Int) (o : Int) (w : World) (h : KindsIn w v ks) (hl : ks.length ≤ 1000) : Calls Try.prog 91 #[v, .int .i64 o] w fun e w' => e = .returned (.bool (ks.contains o)) ∧ w = w' := by
  have HI := hid (idxI_any v ks o w h hl)
  obtain ⟨g, c, rfl, _, _⟩ := h
  generalize ks.length = n at HI
  generalize hb : ks.contains o = b
  have HB := hid hb
  clear hb hl
  go_enter Try.func91, Try.ntmps91
  go_wp2_with fail
  with_reducible refine HI.out.mono ?_
  rintro e w1 ⟨r, rfl, hr, rfl⟩
  rcases hr with ⟨hr, h2⟩ | ⟨rfl, h2⟩
  · have HR := hid (HB.out.symm.trans h2)
    clear h2
    go_wp2
    go_ret
    exact ⟨by rw [HR.out]; rfl, rfl⟩
  · have HR := hid (HB.out.symm.trans h2)
    clear h2
    go_wp2
    go_ret
    exact ⟨by rw [HR.out]; rfl, rfl⟩
/-- Cursor and orders. -/
def InbD (r : Int × Int × List OpD) (w : World) (e : Ending) (w' : World) : Prop := ∃ l os, e = .returned (.tuple #[.int .i64 r.2.1, l, .int .i64 r.1]) ∧ OpsM w' l os ∧ os.map OpV.d = r.2.2 ∧ Below w.heap.size w w'
theorem inb_no (er : Int) {w w' : World} (hb : Below w.heap.size w w') : InbD (er, 0, []) w (.returned (.tuple #[.int .i64 0, .slice none 0 0, .int .i64 er])) w' := ⟨_, [], rfl, OpsM.nil _, rfl, hb⟩
theorem all_takeV {os : List OpV} {ks : List Int} {k : Nat} (hk : k < os.length) : ((os.map OpV.d).take (k + 1)).all (fun o => ks.contains o.kind) = (((os.map OpV.d).take k).all (fun o => ks.contains o.kind) && ks.contains os[k].d.kind) := by
  have q := take_snoc_at (xs := os.map OpV.d) (k := k) (by simpa using hk)
  rw [List.getElem_map] at q
  rw [q, List.all_append]
  simp
theorem all_bad {os : List OpV} {ks : List Int} {k : Nat} (hk : k < os.length) (h : ks.contains os[k].d.kind = false) : (os.map OpV.d).all (fun o => ks.contains o.kind) = false := by
  rw [List.all_eq_false]
  exact ⟨os[k].d, List.mem_map_of_mem (List.getElem_mem hk), by rw [h]; decide⟩
set_option maxRecDepth 100000 in
set_option maxHeartbeats 4000000 in
theorem inb_any (v kv : Value) (ks xs : List Int) (w : World) (h : Reads w v xs) (hk : KindsIn w kv ks) (hkl : ks.length ≤ 1000) (hl : xs.length ≤ 100000) : Calls Try.prog 61 #[v, kv] w (InbD (inbF ks xs) w) := by
  obtain ⟨gk, ck, rfl, hgk, hck⟩ := hk
  have HK := hid (fun W (hb : Below w.heap.size w W) o => contI_any _ ks o W (KindsIn.step ⟨gk, ck, rfl, hgk, hck⟩ hb) hkl)
  generalize ks.length = m at HK
  clear hgk hck hkl
  by_cases h3 : xs.length < 3
  · have e : inbF ks xs = (2, 0, []) := by unfold inbF; rw [if_pos h3]
    rw [e]
    have HF := hid (inb_no 2 (Below.refl w.heap.size w))
    obtain ⟨x, c, rfl⟩ := reads_sl h
    generalize xs.length = n at h3
    have h3' : (n : Int) < 3 := by omega
    clear h hl e h3
    go_enter Try.func61, Try.ntmps61
    go_wp2
    go_ret3
    exact HF.out
  · have HR := hid h
    obtain ⟨q1, hs1, hq1⟩ := run_from_all h 1 (by omega)
    obtain ⟨q3, hs3, hq3⟩ := run_from_all h 3 (by omega)
    have HD := hid (fun W (hb : Below w.heap.size w W) => decode_any 12 q1 (xs.drop 1) W (reads_below hq1 hb))
    have HA := hid (fun W (hb : Below w.heap.size w W) => all_any_o q3 (xs.drop 3) W (reads_below hq3 hb) (by rw [List.length_drop]; omega))
    have hu0 : ∀ r, inbF ks xs = r → r = if (decZ 12 (xs.drop 1)).2 ≠ 0 then ((decZ 12 (xs.drop 1)).2, 0, []) else if (allF (xs.drop 3).length (xs.drop 3)).2.2 ≠ 0 then ((allF (xs.drop 3).length (xs.drop 3)).2.2, 0, []) else if (allF (xs.drop 3).length (xs.drop 3)).1.all (fun o => ks.contains o.kind) then (0, (decZ 12 (xs.drop 1)).1, (allF (xs.drop 3).length (xs.drop 3)).1) else (4, 0, []) := by
      intro r hr
      rw [← hr]
      unfold inbF
      rw [if_neg h3]
    unfold DecDone at HD
    unfold AllD at HA
    generalize inbF ks xs = r at hu0 ⊢
    have hu := hu0 r rfl
    clear hu0
    generalize decZ 12 (xs.drop 1) = dz at hu HD
    generalize allF (xs.drop 3).length (xs.drop 3) = az at hu HA
    obtain ⟨x, c, rfl⟩ := reads_sl h
    obtain ⟨x1, c1, rfl⟩ := reads_sl hq1
    obtain ⟨x3, c3, rfl⟩ := reads_sl hq3
    generalize (xs.drop 1).length = n1 at hs1 HD
    generalize (xs.drop 3).length = n3 at hs3 HA
    generalize xs.length = n at h3 hs1 hs3 hl
    have h3' : ¬ (n : Int) < 3 := by omega
    obtain ⟨cu, er⟩ := dz
    obtain ⟨ds, kk, er2⟩ := az
    dsimp only at hu HD HA
    clear h hq1 hq3 h3 HR
    have HS1 := hid (show ∀ w', (Instr.sliceAt 31 (.slice x n c) (some (.int .i64 1)) none none).run Try.prog w' = .ok (.slice x1 n1 c1) w' from hs1)
    have HS3 := hid (show ∀ w', (Instr.sliceAt 31 (.slice x n c) (some (.int .i64 3)) none none).run Try.prog w' = .ok (.slice x3 n3 c3) w' from hs3)
    clear hs1 hs3
    have hs1 := HS1.out w
    by_cases he : er = 0
    · subst he
      rw [if_neg (by simp)] at hu
      have HU := hid hu
      clear hu
      go_enter Try.func61, Try.ntmps61
      go_wp2_with fail
      with_reducible refine (HD.out _ (Below.refl _ _)).mono ?_
      rintro e w1 ⟨rfl, hb1⟩
      have HB1 := hid hb1
      have hs3 := HS3.out w1
      clear hb1 hs1
      go_wp2_with fail
      with_reducible refine (HA.out _ HB1.out).mono ?_
      rintro e w2 ⟨l, os, rfl, hx, ho, hb2, -⟩
      have HX := hid hx
      have HO := hid ho
      have HB2 := hid (below_t HB1.out hb2)
      obtain ⟨xl, cl, rfl⟩ := row_slice ho.row
      clear hx ho hb2 hs3
      by_cases he2 : er2 = 0
      · subst he2
        have hu := HU.out
        rw [if_neg (by simp)] at hu
        have HU2 := hid hu
        have hnl : (os.length : Int) ≤ 9223372036854775807 := by
          rcases HO.out.row.2 with ⟨_, e⟩ | ⟨g, cap, cur, _, _, _, h1, h2, _⟩
          · omega
          · unfold maxLen at h2; omega
        clear hu HU
        go_wp2_with fail
        go_loopw [37] (fun i W => ∃ k : Nat, k ≤ os.length ∧ i = .int .i64 k ∧ Hid (((os.map OpV.d).take k).all (fun o => ks.contains o.kind) = true) ∧ Hid (Below w2.heap.size w2 W)) (fun i _ => os.length - (intOf i).toNat)
        case atStart => exact ⟨0, Nat.zero_le _, rfl, rfl, Below.refl _ _⟩
        case round =>
          obtain ⟨k, hk, rfl, H0, HB⟩ := hrel
          by_cases hlt : k < os.length
          · have hki : (k : Int) < os.length := by omega
            obtain ⟨xl', cl', hle, hat⟩ := (HO.out.step HB.out).at
            injection hle with hle1 _ hle3
            subst hle1 hle3
            obtain ⟨g, hg, hgl, hc⟩ := hat k hlt
            subst hg
            have HT := hid (all_takeV (ks := ks) hlt)
            have HBD := hid (fun h => all_bad (ks := ks) hlt h)
            have hp := (HO.out.step HB.out).prs _ (List.getElem_mem hlt)
            have ht := (HO.out.step HB.out).txt _ (List.getElem_mem hlt)
            generalize os[k] = y at hc HT HBD hp ht
            obtain ⟨⟨kd, ad, cd, gr, fa, ps, tx⟩, pv, tv⟩ := y
            dsimp only at HT HBD hp ht
            obtain ⟨xp, cp, rfl⟩ := row_slice hp
            obtain ⟨xt, ct, rfl⟩ := own_len ht tx.length rfl
            clear hp ht
            have a0 : wr.cell? ⟨g, k * 7, none⟩ = some (.int .i64 kd) := hc 0 (by omega)
            have a1 : wr.cell? ⟨g, k * 7 + 1, none⟩ = some (.int .i64 ad) := hc 1 (by omega)
            have a2 : wr.cell? ⟨g, k * 7 + 2, none⟩ = some (.int .u8 cd) := hc 2 (by omega)
            have a3 : wr.cell? ⟨g, k * 7 + 3, none⟩ = some (.bool gr) := hc 3 (by omega)
            have a4 : wr.cell? ⟨g, k * 7 + 4, none⟩ = some (.int .u8 fa) := hc 4 (by omega)
            have a5 : wr.cell? ⟨g, k * 7 + 5, none⟩ = some (.slice xp ps.length cp) := hc 5 (by omega)
            have a6 : wr.cell? ⟨g, k * 7 + 6, none⟩ = some (.slice xt tx.length ct) := hc 6 (by omega)
            have HB3 := hid (bal HB.out (.cells #[.int .i64 kd, .int .i64 ad, .int .u8 cd, .bool gr, .int .u8 fa, .slice xp ps.length cp, .slice xt tx.length ct] 144))
            have HC := hid (HK.out _ (below_t HB2.out HB3.out) kd)
            clear hat hc
            cases hcn : ks.contains kd
            · rw [hcn] at HC
              have HE := hid (HBD.out hcn)
              have HF := hid (show InbD r w (.returned (.tuple #[.int .i64 0, .slice none 0 0, .int .i64 4])) (wr.alloc (.cells #[.int .i64 kd, .int .i64 ad, .int .u8 cd, .bool gr, .int .u8 fa, .slice xp ps.length cp, .slice xt tx.length ct] 144)) by
                have hu := HU2.out
                rw [← HX.out, HE.out] at hu
                rw [hu]
                exact inb_no 4 (below_t HB2.out HB3.out))
              clear hcn
              go_wp2_with fail
              with_reducible refine HC.out.mono ?_
              rintro e w3 ⟨rfl, rfl⟩
              go_wp2
              go_ret3
              exact HF.out
            · rw [hcn] at HC
              have HT1 := hid (show ((os.map OpV.d).take (k + 1)).all (fun o => ks.contains o.kind) = true by rw [HT.out, H0.out, hcn]; rfl)
              clear hcn
              go_wp2_with fail
              with_reducible refine HC.out.mono ?_
              rintro e w3 ⟨rfl, rfl⟩
              go_wp2
              go_roundw
              case rel => exact ⟨k + 1, by omega, by go_num, HT1.out, HB3.out⟩
              case measure => simp [intOf]; omega
          · obtain rfl : k = os.length := by omega
            have HF := hid (show InbD r w (.returned (.tuple #[.int .i64 cu, .slice xl os.length cl, .int .i64 0])) wr by
              have hu := HU2.out
              have ht := H0.out
              rw [show (os.map OpV.d).take os.length = os.map OpV.d by rw [← List.length_map (f := OpV.d), List.take_length], HX.out] at ht
              rw [ht] at hu
              rw [hu]
              exact ⟨_, os, rfl, HO.out.step HB.out, HX.out, below_t HB2.out HB.out⟩)
            go_wp2
            go_ret3
            exact HF.out
      · have hu := HU.out
        rw [if_pos he2] at hu
        have e0 : (er2 == 0) = false := by simpa using he2
        have e1 : (er2 != 0) = true := by simpa using he2
        have HF := hid (show InbD r w (.returned (.tuple #[.int .i64 0, .slice none 0 0, .int .i64 er2])) w2 by rw [hu]; exact inb_no er2 HB2.out)
        clear hu he2
        go_wp2
        go_ret3
        exact HF.out
    · rw [if_pos he] at hu
      have e0 : (er == 0) = false := by simpa using he
      have e1 : (er != 0) = true := by simpa using he
      clear he
      have HU := hid hu
      clear hu
      go_enter Try.func61, Try.ntmps61
      go_wp2_with fail
      with_reducible refine (HD.out _ (Below.refl _ _)).mono ?_
      rintro e w1 ⟨rfl, hb1⟩
      have HF := hid (show InbD r w (.returned (.tuple #[.int .i64 0, .slice none 0 0, .int .i64 er])) w1 by rw [HU.out]; exact inb_no er hb1)
      clear hb1 hs1
      go_wp2
      go_ret3
      exact HF.out
end Go.Proofs.Ytlhaefgchmakfaa
