/-
  QueryReads: what a terminal says is read again.
-/
import Derived.Test.YtdpgmepblmlaaaaDoorTi
import Derived.Test.YtdpgmepblmlaaaaDoorRv
namespace Go.Proofs.YtdpgmepblmlaaaaDoor
open Go.RowKit Go.Lib Go.Deep

theorem sfA_reps (r c num : Int) : ∀ ks : List Int, (∀ k ∈ ks, k ∈ codesL) → sfA (ks.flatMap (fun x => repL x r c num)) = (ks.map (fun k => (⟨129, k :: contL k r c num⟩ : SfD)), 0)
  | [], _ => sfA_nil
  | k :: ks, h => by
    have hk := contL_len (h k List.mem_cons_self) r c num
    have ih := sfA_reps r c num ks (fun x hx => h x (List.mem_cons_of_mem _ hx))
    rw [List.flatMap_cons]
    show sfA ((byteF ⟨129, k :: contL k r c num⟩).2 ++ _) = _
    rw [sfA_front (show ¬ 8192 < 3 + (k :: contL k r c num).length by rw [List.length_cons]; omega), ih]
    rfl
theorem repF_reps (r c num : Int) (ks : List Int) (h : ∀ k ∈ ks, k ∈ codesL) : repF ([136] ++ ks.flatMap (fun x => repL x r c num)) = (0, ks.map (fun k => k :: contL k r c num)) := by
  show repF (136 :: ks.flatMap (fun x => repL x r c num)) = _
  rw [repF_cons, if_neg (fun q => q rfl), sfA_reps r c num ks h]
  rw [repG_ok (fun d hd => ?_) rfl]
  · dsimp only
    rw [List.map_map]
    rfl
  · obtain ⟨k, _, rfl⟩ := List.mem_map.1 hd
    rfl
theorem parF_reps (r c num : Int) (ks : List Int) (h : ∀ k ∈ ks, k ∈ codesL) : parF ([136] ++ ks.flatMap (fun x => repL x r c num)) = (0, ks) := by
  unfold parF
  rw [repF_reps r c num ks h]
  dsimp only
  rw [List.map_map, show ((fun d : List Int => d.getD 0 0) ∘ fun k => k :: contL k r c num) = id from rfl, List.map_id]
theorem ansF_all (r c num : Int) : ansF codesL r c num = [136] ++ codesL.flatMap (fun x => repL x r c num) := by
  have e : ansB codesL r c num 7 = [136] ++ codesL.flatMap (fun x => repL x r c num) := by
    unfold ansB
    rw [show (codesL.take 7).filter (fun x => decide (x ∈ codesL)) = codesL by decide]
  unfold ansF
  rw [e, if_neg]
  have h := (repL_len (k := 128) (by decide) r c num).1
  rw [List.length_append, show codesL = 128 :: [129, 133, 134, 135, 136, 166] from rfl, List.flatMap_cons, List.length_append]
  show ¬ 1 + (_ + _) = 1
  omega
/-- Of a list's answer: what is parsed of it, and whether that is the null reply. -/
theorem ansF_par (asked : List Int) (r c num : Int) : ∃ L : List Int, parF (ansF asked r c num) = (0, L) ∧ 1 ≤ L.length ∧ L.length ≤ 7 ∧ (L.getD 0 0 = 255 ↔ ansF asked r c num = [136, 0, 4, 129, 255]) := by
  have hks : ∀ k ∈ (codesL.take 7).filter (fun x => decide (x ∈ asked)), k ∈ codesL := fun k hk => List.mem_of_mem_take (List.mem_filter.1 hk).1
  have hlen : ((codesL.take 7).filter (fun x => decide (x ∈ asked))).length ≤ 7 := Nat.le_trans (List.length_filter_le _ _) (by decide)
  have e0 : ansF asked r c num = if (ansB asked r c num 7).length = 1 then ansB asked r c num 7 ++ nulL else ansB asked r c num 7 := rfl
  have e1 : ansB asked r c num 7 = [136] ++ ((codesL.take 7).filter (fun x => decide (x ∈ asked))).flatMap (fun x => repL x r c num) := rfl
  rw [e0, e1]
  generalize (codesL.take 7).filter (fun x => decide (x ∈ asked)) = ks at hks hlen
  have hnul : parF [136, 0, 4, 129, 255] = (0, [255]) := by decide +kernel
  rcases ks with _ | ⟨k, ks⟩
  · exact ⟨[255], hnul, by decide, by decide, fun _ => rfl, fun _ => rfl⟩
  · have hk := hks k List.mem_cons_self
    have h4 := (repL_len hk r c num).1
    rw [if_neg (by rw [List.flatMap_cons, List.length_append, List.length_append]; show ¬ 1 + (_ + _) = 1; omega)]
    have hp := parF_reps r c num (k :: ks) hks
    refine ⟨k :: ks, hp, by rw [List.length_cons]; omega, hlen, ?_⟩
    constructor
    · intro q
      have q : k = 255 := q
      subst q
      exact absurd hk (by decide)
    · intro q
      rw [q, hnul] at hp
      have e := (Prod.mk.inj hp).2
      injection e with e _
      rw [← e] at hk
      exact absurd hk (by decide)
theorem siz_all (r c num : Int) : sizF (ansF codesL r c num) = (r, c, true) := by
  have e : fnd (repF (ansF codesL r c num)).2 129 7 = some (129 :: areaL r c) := by
    rw [ansF_all, repF_reps r c num codesL (fun _ h => h)]
    rfl
  unfold sizF
  rw [e]
  show (256 * (r / 256) + r % 256, 256 * (c / 256) + c % 256, true) = _
  rw [show 256 * (r / 256) + r % 256 = r by omega, show 256 * (c / 256) + c % 256 = c by omega]
theorem nmb_all (r c num : Int) : nmbF (ansF codesL r c num) = (num, true) := by
  have e : fnd (repF (ansF codesL r c num)).2 133 15 = some (133 :: setsL num) := by
    rw [ansF_all, repF_reps r c num codesL (fun _ h => h)]
    rfl
  unfold nmbF
  rw [e]
  show (256 * (num / 256) + num % 256, true) = _
  rw [show 256 * (num / 256) + num % 256 = num by omega]
theorem ansF_len (asked : List Int) (r c num : Int) : (ansF asked r c num).length ≤ 1000 := by
  have h := (ansB_len asked r c num 7 (Nat.le_refl _)).2
  unfold ansF
  split
  · rw [List.length_append]
    show _ + 4 ≤ 1000
    omega
  · omega
def pkN (n : Nat) : Int := if n % 7 = 6 then 37 else pagesL.getD (n % 7) 0
theorem pkN_mem (n : Nat) : pkN n ∈ pagesL := by
  unfold pkN
  split
  · decide
  · have h : n % 7 < pagesL.length := by show n % 7 < 6; omega
    rw [List.getD, List.getElem?_eq_getElem h]
    simp
/-- A page, or none, and its number. -/
def PkD (num : Int) (w : World) (e : Ending) (w' : World) : Prop := ∃ p, e = .returned (.tuple #[.pointer p, .int .i64 num]) ∧ PgV w' (.pointer p) num ∧ Below w.heap.size w w'
set_option maxRecDepth 100000 in
set_option maxHeartbeats 4000000 in
theorem pick_any (n : Nat) (hn : n < 256) (w : World) (hN : Numbers w) : Calls Tryd.prog 35 #[.int .u8 n] w (PkD (pkN n) w) := by
  have hB0 : Below w.heap.size w (w.alloc (.cells #[.int .i64 37, .int .i64 273, .int .i64 297, .int .i64 500, .int .i64 1047, .int .i64 1140] 3)) := bal (Below.refl _ _) _
  by_cases h6 : n % 7 = 6
  · have e : pkN n = 37 := if_pos h6
    rw [e]
    have q : ((n : Int) % 7 == 6) = true := by simp; omega
    have FIN : Hid (PkD 37 w (.returned (.tuple #[.pointer none, .int .i64 37])) (w.alloc (.cells #[.int .i64 37, .int .i64 273, .int .i64 297, .int .i64 500, .int .i64 1047, .int .i64 1140] 3))) := ⟨none, rfl, ⟨⟨by decide, by decide⟩, .inl ⟨rfl, rfl⟩⟩, hB0⟩
    clear e h6 hB0 hN
    go_enter Tryd.func35, Tryd.ntmps35
    go_wp2
    go_ret2
    exact FIN.out
  · have e : pkN n = pagesL.getD (n % 7) 0 := if_neg h6
    have q : ((n : Int) % 7 == 6) = false := by simp; omega
    have h7 : n % 7 < 6 := by omega
    have hc : (w.alloc (.cells #[.int .i64 37, .int .i64 273, .int .i64 297, .int .i64 500, .int .i64 1047, .int .i64 1140] 3)).cell? ⟨w.heap.size, n % 7, none⟩ = some (.int .i64 (pkN n)) := by
      have h : n % 7 = 0 ∨ n % 7 = 1 ∨ n % 7 = 2 ∨ n % 7 = 3 ∨ n % 7 = 4 ∨ n % 7 = 5 := by omega
      rw [e]
      rcases h with h | h | h | h | h | h <;> rw [h] <;> simp [go_sem, pagesL]
    have HK := hid (pkN_mem n)
    have HN := hid hN
    have HB0 := hid hB0
    obtain ⟨k, hk⟩ : ∃ k, k = pkN n := ⟨_, rfl⟩
    rw [← hk] at hc HK ⊢
    clear hk e h6 hN hB0
    go_enter Tryd.func35, Tryd.ntmps35
    go_wp2_with fail
    have HNP := hid (new_page k HK.out _ (HN.out.go HB0.out))
    with_reducible refine HNP.out.mono ?_
    rintro e w1 ⟨b, rfl, hP, hB⟩
    have HB1 := hid (below_t HB0.out hB)
    have hc1 : w1.cell? ⟨w.heap.size, n % 7, none⟩ = some (.int .i64 k) := keepc hB hc
    have HP := hid hP
    clear hP hB hc
    go_wp2_with fail
    go_quiet (fail)
    go_wp2
    go_ret2
    exact ⟨_, rfl, ⟨pages_bd HK.out, .inr ⟨b, rfl, keepc (below_drewN (Below.refl _ _) _) HP.out⟩⟩, below_drewN HB1.out _⟩
set_option maxRecDepth 100000 in
set_option maxHeartbeats 4000000 in
theorem rmodel_of (m r c : Int) (h : MdL m r c) (w : World) : Calls Tryd.prog 36 #[.int .i64 m] w fun e w' => e = .returned (.tuple #[.agg #[.int .i64 r, .int .i64 c], .bool true]) ∧ Below w.heap.size w w' := by
  rcases h with ⟨rfl, rfl, rfl⟩ | ⟨rfl, rfl, rfl⟩ | ⟨rfl, rfl, rfl⟩ | ⟨rfl, rfl, rfl⟩
  · go_enter Tryd.func36, Tryd.ntmps36
    go_wp2
    refine bodyPost_ret (v := .tuple #[.agg #[.int .i64 24, .int .i64 80], .bool true]) (by simp [results, Tryd.results36, go_sem]) rfl ⟨rfl, ?_⟩
    exact bal (bal (Below.refl _ _) _) _
  · go_enter Tryd.func36, Tryd.ntmps36
    go_wp2
    refine bodyPost_ret (v := .tuple #[.agg #[.int .i64 32, .int .i64 80], .bool true]) (by simp [results, Tryd.results36, go_sem]) rfl ⟨rfl, ?_⟩
    exact bal (bal (Below.refl _ _) _) _
  · go_enter Tryd.func36, Tryd.ntmps36
    go_wp2
    refine bodyPost_ret (v := .tuple #[.agg #[.int .i64 43, .int .i64 80], .bool true]) (by simp [results, Tryd.results36, go_sem]) rfl ⟨rfl, ?_⟩
    exact bal (bal (Below.refl _ _) _) _
  · go_enter Tryd.func36, Tryd.ntmps36
    go_wp2
    refine bodyPost_ret (v := .tuple #[.agg #[.int .i64 27, .int .i64 132], .bool true]) (by simp [results, Tryd.results36, go_sem]) rfl ⟨rfl, ?_⟩
    exact bal (bal (Below.refl _ _) _) _
set_option maxRecDepth 100000 in
set_option maxHeartbeats 4000000 in
theorem queryReads_walk (n1 : Nat) (n2 : Nat) (hn2 : n2 < 256) (v : Value) (zs : List Int) (w : World) (h : Reads w v zs) (hN : Numbers w) : Calls Tryd.prog 8 #[.int .u8 n1, .int .u8 n2, v] w fun e w' => e = .returned (.bool true) ∧ Below w.heap.size w w' := by
  obtain ⟨r, c, hM⟩ : ∃ r c, MdL (2 + (n1 : Int) % 4) r c := by
    have hq : (n1 : Int) % 4 = 0 ∨ (n1 : Int) % 4 = 1 ∨ (n1 : Int) % 4 = 2 ∨ (n1 : Int) % 4 = 3 := by omega
    rcases hq with q | q | q | q <;> rw [q]
    · exact ⟨24, 80, .inl ⟨rfl, rfl, rfl⟩⟩
    · exact ⟨32, 80, .inr (.inl ⟨rfl, rfl, rfl⟩)⟩
    · exact ⟨43, 80, .inr (.inr (.inl ⟨rfl, rfl, rfl⟩))⟩
    · exact ⟨27, 132, .inr (.inr (.inr ⟨rfl, rfl, rfl⟩))⟩
  have HM := hid hM
  have HAW := hid (awake22 w hN)
  have HPK := hid (fun W (hW : Below w.heap.size w W) => pick_any n2 hn2 W (hN.go hW))
  generalize pkN n2 = num at HPK
  have HRM := hid (fun W => rmodel_of _ r c hM W)
  have HCU := hid (fun W (hW : Below w.heap.size w W) => (show Calls Tryd.prog 11 #[v, .int .i64 20] W (OwnDone (zs.take 20) W) from rcut_own v 20 (by omega) zs W (reads_below h hW)))
  generalize zs.take 20 = asked at HCU
  have HAL := hid (fun pv W (hp : PgV W pv num) => all_of _ r c num hM pv W hp)
  have HLI := hid (fun av pv W (ha : Reads W av asked) (hp : PgV W pv num) => list_of av asked _ r c num hM pv W ha hp)
  have hp1 : parF (ansF codesL r c num) = (0, codesL) := by rw [ansF_all]; exact parF_reps r c num codesL (fun _ h => h)
  have hp2 := siz_all r c num
  have hp3 := nmb_all r c num
  have hp4 := ansF_len codesL r c num
  have hp5 := ansF_len asked r c num
  obtain ⟨L, hp6, hL1, hL7, hiff⟩ := ansF_par asked r c num
  generalize ansF codesL r c num = AN at HAL hp1 hp2 hp3 hp4
  generalize ansF asked r c num = FE at HLI hp5 hp6 hiff
  have HPA := hid (fun u W (hu : Reads W u AN) => (show Calls Tryd.prog 38 #[u] W (BysD (0, codesL) W) from by
    have q := parse_any u AN W hu (by omega)
    rwa [hp1] at q))
  have HSZ := hid (fun u W (hu : Reads W u AN) => (show Calls Tryd.prog 39 #[u] W (fun e w' => e = .returned (.tuple #[.int .i64 r, .int .i64 c, .bool true]) ∧ Below W.heap.size W w') from by
    have q := size_of u AN W hu (by omega)
    rwa [hp2] at q))
  have HNB := hid (fun u W (hu : Reads W u AN) => (show Calls Tryd.prog 40 #[u] W (fun e w' => e = .returned (.tuple #[.int .i64 num, .bool true]) ∧ Below W.heap.size W w') from by
    have q := number_of u AN W hu (by omega)
    rwa [hp3] at q))
  have HPF := hid (fun u W (hu : Reads W u FE) => (show Calls Tryd.prog 38 #[u] W (BysD (0, L) W) from by
    have q := parse_any u FE W hu (by omega)
    rwa [hp6] at q))
  have HIFF := hid hiff
  obtain ⟨x0, c0, rfl⟩ := reads_sl h
  have hmw : IntKind.i64.wrap (2 + (n1 : Int) % 4) = 2 + (n1 : Int) % 4 := IntWalk.i64_in _ (by omega)
  clear h hN hM hp1 hp2 hp3 hp4 hp5 hp6 hiff hn2 HM
  go_enter Tryd.func8, Tryd.ntmps8
  go_wp2_with fail
  with_reducible refine HAW.out.mono ?_
  rintro e w1 ⟨rfl, hb1⟩
  have HB1 := hid hb1
  have HP0 := hid (HPK.out w1 hb1)
  clear hb1 HAW HPK
  go_wp2_with fail
  with_reducible refine HP0.out.mono ?_
  rintro e w2 ⟨p, rfl, hpg, hb2⟩
  have HB2 := hid (below_t HB1.out hb2)
  have HPG := hid hpg
  have HRM0 := hid (HRM.out w2)
  clear hpg hb2 HP0
  go_wp2_with fail
  with_reducible refine HRM0.out.mono ?_
  rintro e w3 ⟨rfl, hb3⟩
  have hba : Below w3.heap.size w3 (w3.alloc (.cells #[.int .i64 r, .int .i64 c] 75)) := bal (Below.refl _ _) _
  have hz0 : (w3.alloc (.cells #[.int .i64 r, .int .i64 c] 75)).cell? ⟨w3.heap.size, 0, none⟩ = some (.int .i64 r) := by simp [go_sem]
  have hz1 : (w3.alloc (.cells #[.int .i64 r, .int .i64 c] 75)).cell? ⟨w3.heap.size, 1, none⟩ = some (.int .i64 c) := by simp [go_sem]
  have HB3 := hid (below_t HB2.out (below_t hb3 hba))
  have HPG3 := hid (HPG.out.go (below_t hb3 hba))
  have HZ := hid (And.intro hz0 hz1)
  have HAL0 := hid (HAL.out (.pointer p) _ HPG3.out)
  clear hb3 hba hz0 hz1 HRM0 HRM
  obtain ⟨b3, hb3⟩ : ∃ b3, w3.heap.size = b3 := ⟨_, rfl⟩
  go_wp2_with fail
  with_reducible refine HAL0.out.mono ?_
  rintro e w4 ⟨av, rfl, h4⟩
  have HA4 := hid h4.own
  have HB4 := hid (below_t HB3.out h4.bel)
  have HZ4 := hid (And.intro (keepc h4.bel HZ.out.1) (keepc h4.bel HZ.out.2))
  have HPG4 := hid (HPG3.out.go h4.bel)
  have HP4 := hid (HPA.out av w4 h4.own.reads)
  obtain ⟨xa, na, ca, rfl⟩ := own_slice h4.own
  rw [hb3] at HZ4
  clear h4 HAL0 HAL hb3
  go_wp2_with fail
  with_reducible refine HP4.out.mono ?_
  rintro e w5 ⟨lv, rfl, hlo, hb5, -⟩
  dsimp only at hlo ⊢
  have HL5 := hid hlo
  have HB5 := hid hb5
  have HS5 := hid (HSZ.out _ w5 (HA4.out.step hb5).reads)
  obtain ⟨xl, cl, rfl⟩ := own_len hlo 7 rfl
  clear hlo hb5 HP4
  go_wp2_with fail
  with_reducible refine HS5.out.mono ?_
  rintro e w6 ⟨rfl, hb6⟩
  have HB6 := hid (below_t HB5.out hb6)
  have HN6 := hid (HNB.out _ w6 (HA4.out.step HB6.out).reads)
  have HL6 := hid (HL5.out.step hb6)
  clear hb6 HS5 HL5 HB5
  go_wp2_with fail
  with_reducible refine HN6.out.mono ?_
  rintro e w7 ⟨rfl, hb7⟩
  have HB7 := hid (below_t HB6.out hb7)
  have HL7 := hid (HL6.out.step hb7)
  have HRC := hid (rcodes_any w7)
  have z0 := keepc HB7.out HZ4.out.1
  have z1 := keepc HB7.out HZ4.out.2
  clear hb7 HN6 HL6 HB6
  go_wp2_with fail
  with_reducible refine HRC.out.mono ?_
  rintro e w8 ⟨cv, rfl, hco, hb8, -⟩
  have HSC := hid (same_true (.slice xl 7 cl) cv codesL w8 (HL7.out.step hb8).reads hco.reads)
  have z0 := keepc hb8 z0
  have z1 := keepc hb8 z1
  have HB8 := hid (below_t HB7.out hb8)
  obtain ⟨xc, cc, rfl⟩ := own_len hco 7 rfl
  clear hco hb8 HRC HL7
  go_wp2_with fail
  with_reducible refine HSC.out.mono ?_
  rintro e w8 ⟨rfl, rfl⟩
  have HW8 := hid (below_t HB1.out (Below.refl _ _))
  have HT8 := hid (below_t HB4.out HB8.out)
  have HCT := hid (HCU.out _ HT8.out)
  clear HSC
  go_wp2_with fail
  with_reducible refine HCT.out.mono ?_
  rintro e w10 ⟨kv, rfl, hko, hb10, -⟩
  have HT10 := hid (below_t HT8.out hb10)
  have HLL := hid (HLI.out kv (.pointer p) w10 hko.reads (HPG4.out.go (below_t HB8.out hb10)))
  obtain ⟨xk, nk, ck, rfl⟩ := own_slice hko
  clear hko hb10 HCT z0 z1
  go_wp2_with fail
  with_reducible refine HLL.out.mono ?_
  rintro e w11 ⟨fv, rfl, h11⟩
  have HT11 := hid (below_t HT10.out h11.bel)
  have HF11 := hid h11.own
  have HPP := hid (HPF.out fv w11 h11.own.reads)
  obtain ⟨xf, nf, cf, rfl⟩ := own_slice h11.own
  clear h11 HLL
  go_wp2_with fail
  with_reducible refine HPP.out.mono ?_
  rintro e w9 ⟨mv, rfl, hmo, hb9, -⟩
  dsimp only at hmo ⊢
  have HT9 := hid (below_t HT11.out hb9)
  have hmr : Reads w9 mv L := hmo.reads
  obtain ⟨nl, hnl⟩ : ∃ nl, L.length = nl := ⟨_, rfl⟩
  obtain ⟨xm, cm, rfl⟩ := own_len hmo nl hnl
  obtain ⟨gl, ol, rfl, d0, -, -⟩ := reads_at hmr 0 (by omega)
  rw [Nat.add_zero] at d0
  have hnl1 : 1 ≤ nl := by omega
  have hnl1i : (1 : Int) ≤ nl := by omega
  have hnl0i : (0 : Int) < nl := by omega
  have hnl0 : 0 < nl := by omega
  have hdr : Below w9.heap.size w9 w9.drew := (Below.refl _ _).drew
  have hal : Below w9.heap.size w9 (w9.alloc (.cells #[.int .u8 136, .int .u8 0, .int .u8 4, .int .u8 129, .int .u8 255] 5)).drew := (bal (Below.refl _ _) _).drew
  have HSM := hid (vsame_any (.slice xf nf cf) (.slice (some ⟨w9.heap.size, 0, none⟩) 5 5) FE [136, 0, 4, 129, 255] (w9.alloc (.cells #[.int .u8 136, .int .u8 0, .int .u8 4, .int .u8 129, .int .u8 255] 5)).drew ((HF11.out.step hb9).step hal).reads (reads_below (own_lit w9 #[.int .u8 136, .int .u8 0, .int .u8 4, .int .u8 129, .int .u8 255] 5 [136, 0, 4, 129, 255] (by decide) rfl rfl (by omega) w9.heap.size rfl).reads ((Below.refl _ _).drew)))
  have HFIN := hid (below_t HT9.out hal)
  obtain ⟨z, hz, hz2⟩ : ∃ z : Bool, (L.getD 0 0 == 255) = z ∧ (FE = [136, 0, 4, 129, 255] ↔ z = true) := by
    by_cases q : L.getD 0 0 = 255
    · exact ⟨true, by simpa using q, by simpa using HIFF.out.1 q⟩
    · exact ⟨false, by simpa using q, by simpa using fun n => q (HIFF.out.2 n)⟩
  have HZR := hid (fun (rr : Bool) (q : rr = true ↔ FE = [136, 0, 4, 129, 255]) => (show rr = z from Bool.eq_iff_iff.2 (q.trans hz2)))
  generalize L.getD 0 0 = b0 at d0 hz
  clear hmo hmr hnl hb9 hal HPP hz2
  go_upto_region 14 with fail
  refine wp_region_held_drew (S := fun V => V.cell? ⟨gl, ol, none⟩ = some (.int .u8 b0) ∧ Below w9.heap.size w9 V) (by kernel_rfl) ?_ (fun hHeld => ?_)
  · exact ⟨keepc hdr d0, hdr⟩
  refine takeD (i := 0) (v := ?_) 99 rfl rfl (by kernel_rfl) (by kernel_rfl) (by kernel_rfl) (fun _ _ _ h => h) (by assumption) (Or.inl ⟨by rfl, ?_⟩) ?_
  rotate_left
  · intro w hSw
    (try dsimp only at hSw)
    go_simp
    try with_reducible rfl
  simp only [List.setIfInBounds_toArray, List.set_cons_zero, List.set_cons_succ]
  refine takeD (i := 1) (v := ?_) 100 rfl rfl (by kernel_rfl) (by kernel_rfl) (by kernel_rfl) (fun _ _ _ h => h) (by assumption) (Or.inl ⟨by rfl, ?_⟩) ?_
  rotate_left
  · intro w hSw
    (try dsimp only at hSw)
    go_simp
    try with_reducible rfl
  simp only [List.setIfInBounds_toArray, List.set_cons_zero, List.set_cons_succ]
  refine takeD (i := 2) (v := ?_) 101 rfl rfl (by kernel_rfl) (by kernel_rfl) (by kernel_rfl) (fun _ _ _ h => h) (by assumption) (Or.inl ⟨by rfl, ?_⟩) ?_
  rotate_left
  · intro w hSw
    (try dsimp only at hSw)
    go_simp
    try with_reducible rfl
  simp only [List.setIfInBounds_toArray, List.set_cons_zero, List.set_cons_succ]
  refine takeD (i := 3) (v := ?_) 102 rfl rfl (by kernel_rfl) (by kernel_rfl) (by kernel_rfl) (fun _ _ _ h => h) (by assumption) (Or.inl ⟨by rfl, ?_⟩) ?_
  rotate_left
  · intro w hSw
    (try dsimp only at hSw)
    go_simp
    try with_reducible rfl
  simp only [List.setIfInBounds_toArray, List.set_cons_zero, List.set_cons_succ]
  refine takeD (i := 4) (v := ?_) 103 rfl rfl (by kernel_rfl) (by kernel_rfl) (by kernel_rfl) (fun _ _ _ h => h) (by assumption) (Or.inl ⟨by rfl, ?_⟩) ?_
  rotate_left
  · intro w hSw
    (try dsimp only at hSw)
    go_simp
    try with_reducible rfl
  simp only [List.setIfInBounds_toArray, List.set_cons_zero, List.set_cons_succ]
  refine takeD (i := 5) (v := ?_) 104 rfl rfl (by kernel_rfl) (by kernel_rfl) (by kernel_rfl) (fun _ _ _ h => h) (by assumption) (Or.inl ⟨by rfl, ?_⟩) ?_
  rotate_left
  · intro w hSw
    (try dsimp only at hSw)
    go_simp
    try with_reducible rfl
  simp only [List.setIfInBounds_toArray, List.set_cons_zero, List.set_cons_succ]
  refine takeD (i := 6) (v := ?_) 105 rfl rfl (by kernel_rfl) (by kernel_rfl) (by kernel_rfl) (fun _ _ _ h => h) (by assumption) (Or.inl ⟨by rfl, ?_⟩) ?_
  rotate_left
  · intro w hSw
    (try dsimp only at hSw)
    go_simp
    try with_reducible rfl
  simp only [List.setIfInBounds_toArray, List.set_cons_zero, List.set_cons_succ]
  refine takeD (i := 7) (v := ?_) 106 rfl rfl (by kernel_rfl) (by kernel_rfl) (by kernel_rfl) (fun _ _ _ h => h) (by assumption) (Or.inl ⟨by rfl, ?_⟩) ?_
  rotate_left
  · intro w hSw
    (try dsimp only at hSw)
    go_simp
    try with_reducible rfl
  simp only [List.setIfInBounds_toArray, List.set_cons_zero, List.set_cons_succ]
  refine takeD (i := 8) (v := ?_) 107 rfl rfl (by kernel_rfl) (by kernel_rfl) (by kernel_rfl) (fun _ _ _ h => h) (by assumption) (Or.inl ⟨by rfl, ?_⟩) ?_
  rotate_left
  · intro w hSw
    (try dsimp only at hSw)
    go_simp
    try with_reducible rfl
  simp only [List.setIfInBounds_toArray, List.set_cons_zero, List.set_cons_succ]
  refine takeD (i := 9) (v := ?_) 108 rfl rfl (by kernel_rfl) (by kernel_rfl) (by kernel_rfl) (fun _ _ _ h => h) (by assumption) (Or.inl ⟨by rfl, ?_⟩) ?_
  rotate_left
  · intro w hSw
    (try dsimp only at hSw)
    go_simp
    try with_reducible rfl
  simp only [List.setIfInBounds_toArray, List.set_cons_zero, List.set_cons_succ]
  refine takeD (i := 10) (v := ?_) 109 rfl rfl (by kernel_rfl) (by kernel_rfl) (by kernel_rfl) (fun _ _ _ h => h) (by assumption) (Or.inl ⟨by rfl, ?_⟩) ?_
  rotate_left
  · intro w hSw
    (try dsimp only at hSw)
    go_simp
    try with_reducible rfl
  simp only [List.setIfInBounds_toArray, List.set_cons_zero, List.set_cons_succ]
  refine takeD (i := 11) (v := ?_) 110 rfl rfl (by kernel_rfl) (by kernel_rfl) (by kernel_rfl) (fun _ _ _ h => h) (by assumption) (Or.inl ⟨by rfl, ?_⟩) ?_
  rotate_left
  · intro w hSw
    (try dsimp only at hSw)
    go_simp
    try with_reducible rfl
  simp only [List.setIfInBounds_toArray, List.set_cons_zero, List.set_cons_succ]
  refine takeD (i := 12) (v := ?_) 111 rfl rfl (by kernel_rfl) (by kernel_rfl) (by kernel_rfl) (fun _ _ _ h => h) (by assumption) (Or.inl ⟨by rfl, ?_⟩) ?_
  rotate_left
  · intro w hSw
    (try dsimp only at hSw)
    go_simp
    try with_reducible rfl
  simp only [List.setIfInBounds_toArray, List.set_cons_zero, List.set_cons_succ]
  refine wpAnyH_ready (rs := [13]) (by kernel_rfl) (by simp) ?_
  refine AllReadyH.cons (by simp only [List.getElem?_toArray, List.getElem?_cons_succ, List.getElem?_cons_zero]; rfl) (fun K hK => ?_) AllReadyH.nil
  go_simp
  refine hK.out _ _ ?_ (fun hHeldN => ?_)
  · exact ⟨keepc (bal (Below.refl _ _) _) hHeld.1, bal hHeld.2 _⟩
  clear hK K hHeld
  have hHeld := hHeldN
  clear hHeldN
  (try simp only [Act.put, List.setIfInBounds_toArray, List.set_cons_zero, List.set_cons_succ])
  refine wpAnyH_ready (rs := [14]) (by kernel_rfl) (by simp) ?_
  refine AllReadyH.cons (by simp only [List.getElem?_toArray, List.getElem?_cons_succ, List.getElem?_cons_zero]; rfl) (fun K hK => ?_) AllReadyH.nil
  go_simp
  go_at_call 26; (with_reducible refine HSM.out.mono ?_); rintro e w10 ⟨⟨rr, rfl, hrr⟩, rfl⟩
  refine hK.out _ _ ?_ (fun hHeldN => ?_)
  · exact hHeld
  have HRR := hid hrr
  clear hrr
  clear hK K hHeld
  have hHeld := hHeldN
  clear hHeldN
  (try simp only [Act.put, List.setIfInBounds_toArray, List.set_cons_zero, List.set_cons_succ])
  refine takeD (i := 15) (v := ?_) 114 rfl rfl (by kernel_rfl) (by kernel_rfl) (by kernel_rfl) (fun _ _ _ h => h) (by assumption) (Or.inl ⟨by rfl, ?_⟩) ?_
  rotate_left
  · intro w hSw
    (try dsimp only at hSw)
    go_simp
    try with_reducible rfl
  simp only [List.setIfInBounds_toArray, List.set_cons_zero, List.set_cons_succ]
  refine takeD (i := 16) (v := ?_) 115 rfl rfl (by kernel_rfl) (by kernel_rfl) (by kernel_rfl) (fun _ _ _ h => h) (by assumption) (Or.inl ⟨by rfl, ?_⟩) ?_
  rotate_left
  · intro w hSw
    (try dsimp only at hSw)
    go_simp
    try with_reducible rfl
  simp only [List.setIfInBounds_toArray, List.set_cons_zero, List.set_cons_succ]
  refine takeD (i := 17) (v := ?_) 6 rfl rfl (by kernel_rfl) (by kernel_rfl) (by kernel_rfl) (fun _ _ _ h => h) (by assumption) (Or.inl ⟨by rfl, ?_⟩) ?_
  rotate_left
  · intro w hSw
    (try dsimp only at hSw)
    go_simp
    try with_reducible rfl
  simp only [List.setIfInBounds_toArray, List.set_cons_zero, List.set_cons_succ]
  refine wpAnyH_done (by kernel_rfl) ?_ _
  clear hHeld
  obtain rfl : rr = z := HZR.out rr HRR.out
  go_wp2
  go_ret
  exact ⟨by simp, HFIN.out⟩

end Go.Proofs.YtdpgmepblmlaaaaDoor
