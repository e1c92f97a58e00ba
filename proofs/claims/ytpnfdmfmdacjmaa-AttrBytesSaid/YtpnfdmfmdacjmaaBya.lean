/-
  Attributes as bytes: the program's and the reference's Bytes.
-/
import Derived.Test.YtpnfdmfmdacjmaaPrw
namespace Go.Proofs.Ytpnfdmfmdacjmaa
open Go.RowKit Go.Lib

/-- Pairs' bytes. -/
def flatB (ps : List (Nat × Nat)) : List Int := ps.flatMap fun p => [(p.1 : Int), (p.2 : Int)]
def bytesL (n : Nat) (ps : List (Nat × Nat)) : List Int := (n : Int) :: flatB ps
/-- Are all attributes? -/
def allP (ps : List (Nat × Nat)) : Bool := ps.all fun p => knownB p.1 p.2
theorem flatB_one (a : List (Nat × Nat)) (p : Nat × Nat) : flatB (a ++ [p]) = flatB a ++ [(p.1 : Int), (p.2 : Int)] := by simp [flatB]
theorem allP_one (a : List (Nat × Nat)) (p : Nat × Nat) : allP (a ++ [p]) = (allP a && knownB p.1 p.2) := by simp [allP]
theorem flatB_snoc (ps : List (Nat × Nat)) (k : Nat) (h : k < ps.length) : (bytesL ps.length (ps.take (k + 1))).map (Value.int .u8) = (bytesL ps.length (ps.take k)).map (Value.int .u8) ++ [.int .u8 (ps.getD k (0, 0)).1, .int .u8 (ps.getD k (0, 0)).2] := by
  rw [List.take_succ_eq_append_getElem h, List.getD, List.getElem?_eq_getElem h]
  unfold bytesL
  rw [flatB_one]
  generalize flatB (ps.take k) = A
  generalize ps[k] = p
  simp only [List.map_cons, List.map_append, List.map_nil, List.cons_append, Option.getD_some]
theorem allP_snoc (ps : List (Nat × Nat)) (k : Nat) (h : k < ps.length) : allP (ps.take (k + 1)) = (allP (ps.take k) && knownB (ps.getD k (0, 0)).1 (ps.getD k (0, 0)).2) := by
  rw [List.take_succ_eq_append_getElem h, List.getD, List.getElem?_eq_getElem h]
  exact allP_one _ _
theorem allP_bad {ps : List (Nat × Nat)} {k : Nat} (h : k < ps.length) (hk : knownB (ps.getD k (0, 0)).1 (ps.getD k (0, 0)).2 = false) : allP ps = false := by
  rw [List.getD, List.getElem?_eq_getElem h] at hk
  unfold allP
  rw [List.all_eq_false]
  exact ⟨ps[k], List.getElem_mem h, by simpa using hk⟩
theorem flatB_length (ps : List (Nat × Nat)) : (flatB ps).length = 2 * ps.length := by
  induction ps with
  | nil => rfl
  | cons p ps ih => simp [flatB] at ih ⊢; omega
/-- Told. -/
def BytesDone (ps : List (Nat × Nat)) (w : World) (e : Ending) (w' : World) : Prop :=
  (allP ps = true ∧ ∃ v, e = .returned (.tuple #[v, .int .i64 0]) ∧ w'.ownsRow w.heap.size 5 1 v (1 + 2 * ps.length) ((bytesL ps.length ps).map (Value.int .u8)) ∧ Below w.heap.size w w') ∨
  (allP ps = false ∧ e = .returned (.tuple #[.slice none 0 0, .int .i64 10]) ∧ Below w.heap.size w w')
theorem bytes_good {ps : List (Nat × Nat)} {w w' : World} {v : Value} (h : allP ps = true) (ho : w'.ownsRow w.heap.size 5 1 v (1 + 2 * ps.length) ((bytesL ps.length ps).map (Value.int .u8))) (hb : Below w.heap.size w w') : BytesDone ps w (.returned (.tuple #[v, .int .i64 0])) w' := .inl ⟨h, v, rfl, ho, hb⟩
theorem bytes_bad {ps : List (Nat × Nat)} {w w' : World} (h : allP ps = false) (hb : Below w.heap.size w w') : BytesDone ps w (.returned (.tuple #[.slice none 0 0, .int .i64 10])) w' := .inr ⟨h, rfl, hb⟩
theorem info5' : (Try.prog.info? 5).map (fun i => (i.zero, i.size, i.bytes)) = some (some (.int .u8 0), 1, 1) := by kernel_rfl
theorem news_one (W : World) (x : Value) (t : TypeId) : ∀ j u, [x][j]? = some u → (W.alloc (.cells #[x] t)).cell? ((⟨W.heap.size, 0, none⟩ : Addr).add j) = some u := by
  intro j u hu
  match j, hu with
  | 0, hu => simp only [List.getElem?_cons_zero, Option.some.injEq] at hu; subst hu; rw [show (⟨W.heap.size, 0, none⟩ : Addr).add 0 = ⟨W.heap.size, 0, none⟩ from rfl]; simp [go_sem]
  | j + 1, hu => simp at hu
theorem one_one (x : Int) : ∀ u ∈ [Value.int .u8 x], u.oneCell' = true := by
  intro u hu
  simp only [List.mem_cons, List.not_mem_nil, or_false] at hu
  subst hu
  rfl
set_option maxRecDepth 100000 in
set_option maxHeartbeats 2000000 in
theorem bytes_row (g off cap : Nat) (ps : List (Nat × Nat)) (hn : ps.length ≤ 255) (hb : ∀ i, i < ps.length → (ps.getD i (0, 0)).2 < 256) (w : World) (hc : ∀ i, i < ps.length → w.cell? ⟨g, off + i * 2, none⟩ = some (.int .u8 (ps.getD i (0, 0)).1) ∧ w.cell? ⟨g, off + i * 2 + 1, none⟩ = some (.int .u8 (ps.getD i (0, 0)).2)) : Calls Try.prog 64 #[.slice (some ⟨g, off, none⟩) ps.length cap] w (BytesDone ps w) := by
  obtain ⟨i0, hi, hz0, hz1, hz2⟩ := info_parts info5'
  have HC := hid hc
  have HBT := hid hb
  have HSN := hid (flatB_snoc ps)
  have HAS := hid (allP_snoc ps)
  have HAB := hid (fun k h => @allP_bad ps k h)
  have HEND := hid (show ps.take ps.length = ps from List.take_length)
  clear hc hb
  obtain ⟨n, hln⟩ : ∃ n, n = ps.length := ⟨_, rfl⟩
  rw [← hln] at hn HC HSN HAS HAB HBT HEND ⊢
  have HLN := hid hln
  clear hln
  have n1 : ¬ (255 : Int) < n := by omega
  have n2 : (n : Int) % 256 = n := by omega
  have HM2 : Hid (i0.bytes * (1 + 2 * n) ≤ 281474976710656) := by show _ ≤ _; rw [hz2]; omega
  have HM3 : Hid (1 + 2 * n ≤ maxLen) := by show _ ≤ _; unfold maxLen; omega
  go_enter Try.func64, Try.ntmps64
  go_wp2_with (first
    | (at_make; refine wpList_make_own _ rfl _ _ 52 rfl w.heap.size 5 i0 (.int .u8 0) 1 Try.underlying52 hi hz0 hz1 .i64 .i64 _ (1 + 2 * n) rfl rfl (by omega) HM2.out HM3.out (Nat.le_refl _) ?_; intro w1 hown1 hgrow1; have HO0 := hid hown1; have HB0 := hid (((Below.refl w.heap.size w).grown hgrow1 (Nat.le_refl _) (fun k hk => by cases hk))); have HOx := hid (HO0.out.alloc (.cells #[.int .u8 n] 5)); have HNx := hid (news_one w1 (.int .u8 n) 5); have HSx := hid (show w.heap.size ≤ (w1.alloc (.cells #[.int .u8 n] 5)).heap.size by have := HB0.out.size; simp; omega); clear hown1 hgrow1)
    | (at_builtin; refine wpList_append_own _ rfl _ _ 52 rfl w.heap.size 5 i0 (.int .u8 0) 1 1 Try.underlying52 hi hz0 hz1 hz2 rfl (by decide) _ 0 [] rfl HOx.out ⟨w1.heap.size, 0, none⟩ 1 1 [.int .u8 n] rfl rfl HNx.out (one_one n) (by unfold maxLen; decide) (by decide) HSx.out ?_; intro v2 w2 hown2 hgrow2 hnil2; have HOy := hid hown2; have HGy := hid hgrow2; clear hown2 hgrow2 hnil2))
  have HB1 := hid ((HB0.out.alloc HB0.out.size (.cells #[.int .u8 n] 5)).grown HGy.out HSx.out (own_ge HO0.out))
  have HO1 : Hid (w2.ownsRow w.heap.size 5 1 v2 (1 + 2 * 0) ((bytesL n (ps.take 0)).map (Value.int .u8))) := HOy.out
  go_loopw [4, 24] (fun v i w' => ∃ k : Nat, k ≤ n ∧ i = .int .i64 k ∧ Hid (w'.ownsRow w.heap.size 5 1 v (1 + 2 * k) ((bytesL n (ps.take k)).map (Value.int .u8))) ∧ Hid (Below w.heap.size w w') ∧ Hid (allP (ps.take k) = true)) (fun _ i _ => n - (intOf i).toNat)
  case atStart => exact ⟨0, Nat.zero_le _, rfl, HO1.out, HB1.out, rfl⟩
  case round =>
    obtain ⟨k, hk, rfl, HO, HB, HK⟩ := hrel
    by_cases hlt : k < n
    · have c0 := keepc HB.out (HC.out k hlt).1
      have c1 := keepc HB.out (HC.out k hlt).2
      have HS := hid (HSN.out k hlt)
      have HKS := hid (HAS.out k hlt)
      have HBK := hid (HAB.out k hlt)
      have HY := hid (HBT.out k hlt)
      generalize (ps.getD k (0, 0)).1 = x at c0 HS HKS HBK
      generalize (ps.getD k (0, 0)).2 = y at c1 HS HKS HBK HY
      have HCH := hid (check_any x y HY.out)
      have hki : (k : Int) < n := by omega
      have HB0 := hid (HB.out.alloc HB.out.size (.cells #[.int .u8 x, .int .u8 y] 82))
      have HOA := hid (HO.out.alloc (.cells #[.int .u8 x, .int .u8 y] 82))
      go_wp2_with fail
      cases hkn : knownB x y
      · have HBAD := hid (HBK.out hkn)
        rw [hkn] at HCH
        simp only [Bool.false_eq_true, if_false] at HCH
        clear hkn
        with_reducible refine (HCH.out _).mono ?_
        rintro e w2 ⟨rfl, hb2⟩
        have HB2 := hid (below_t HB0.out hb2)
        clear hb2
        go_wp2
        go_ret2
        exact bytes_bad HBAD.out HB2.out
      · rw [hkn] at HCH HKS
        simp only [if_true] at HCH
        clear hkn
        with_reducible refine (HCH.out _).mono ?_
        rintro e w2 ⟨rfl, hb2⟩
        have q0 := keepc (a := ⟨wr.heap.size, 0, none⟩) (v := .int .u8 x) hb2 (by simp [go_sem])
        have q1 := keepc (a := ⟨wr.heap.size, 1, none⟩) (v := .int .u8 y) hb2 (by simp [go_sem])
        have HB2 := hid (below_t HB0.out hb2)
        have HO2 := hid ((own_below HOA.out hb2).alloc (.cells #[.int .u8 x, .int .u8 y] 5))
        have HSZ := hid (show w.heap.size ≤ (w2.alloc (.cells #[.int .u8 x, .int .u8 y] 5)).heap.size by have := HB2.out.size; simp; omega)
        have HNW := hid (news_two w2 (.int .u8 x) (.int .u8 y) 5)
        have HB3 := hid (HB2.out.alloc HB2.out.size (.cells #[.int .u8 x, .int .u8 y] 5))
        have HM : Hid (1 + 2 * k + 2 ≤ maxLen) := by show _ ≤ _; unfold maxLen; omega
        have HL : Hid ((1 + 2 * k + 2) * 1 ≤ 140737488355328) := by show _ ≤ _; omega
        clear hb2
        go_wp2_with (first
          | (at_builtin; refine wpList_append_own _ rfl _ _ 52 rfl w.heap.size 5 i0 (.int .u8 0) 1 1 Try.underlying52 hi hz0 hz1 hz2 rfl (by decide) _ (1 + 2 * k) ((bytesL n (ps.take k)).map (Value.int .u8)) rfl HO2.out ⟨w2.heap.size, 0, none⟩ 2 2 [.int .u8 x, .int .u8 y] rfl rfl HNW.out (one_two x y) HM.out HL.out HSZ.out ?_; intro v3 w3 hown3 hgrow3 hnil3; have HO4 := hid hown3; have HG4 := hid hgrow3; clear hown3 hgrow3 hnil3))
        go_roundw
        case rel =>
          refine ⟨k + 1, by omega, by go_num, ?_, ?_, ?_⟩
          · show World.ownsRow _ _ _ _ _ _ _
            rw [HS.out, show 1 + 2 * (k + 1) = 1 + 2 * k + 2 by omega]
            exact HO4.out
          · exact HB3.out.grown HG4.out HSZ.out (own_ge HO.out)
          · show _ = _
            rw [HKS.out, HK.out]
            rfl
        case measure => simp [intOf]; omega
    · obtain rfl : k = n := by omega
      have HO3 := HO.out
      have HK3 := HK.out
      rw [HEND.out] at HO3 HK3
      have HO5 := hid HO3
      have HK5 := hid HK3
      clear HO3 HK3
      go_wp2
      go_ret2
      exact bytes_good HK5.out (by rw [← HLN.out]; exact HO5.out) HB.out
set_option maxRecDepth 100000 in
set_option maxHeartbeats 2000000 in
theorem rbytes_row (g off cap : Nat) (ps : List (Nat × Nat)) (hn : ps.length ≤ 255) (hb : ∀ i, i < ps.length → (ps.getD i (0, 0)).2 < 256) (w : World) (hc : ∀ i, i < ps.length → w.cell? ⟨g, off + i * 2, none⟩ = some (.int .u8 (ps.getD i (0, 0)).1) ∧ w.cell? ⟨g, off + i * 2 + 1, none⟩ = some (.int .u8 (ps.getD i (0, 0)).2)) : Calls Try.prog 65 #[.slice (some ⟨g, off, none⟩) ps.length cap] w (BytesDone ps w) := by
  obtain ⟨i0, hi, hz0, hz1, hz2⟩ := info_parts info5'
  have HC := hid hc
  have HBT := hid hb
  have HSN := hid (flatB_snoc ps)
  have HAS := hid (allP_snoc ps)
  have HAB := hid (fun k h => @allP_bad ps k h)
  have HEND := hid (show ps.take ps.length = ps from List.take_length)
  clear hc hb
  obtain ⟨n, hln⟩ : ∃ n, n = ps.length := ⟨_, rfl⟩
  rw [← hln] at hn HC HSN HAS HAB HBT HEND ⊢
  have HLN := hid hln
  clear hln
  have n1 : ¬ (255 : Int) < n := by omega
  have n2 : (n : Int) % 256 = n := by omega
  go_enter Try.func65, Try.ntmps65
  go_wp2
  have HO1 : Hid ((w.alloc (.cells #[.int .u8 n] 5)).ownsRow w.heap.size 5 1 (.slice (some ⟨w.heap.size, 0, none⟩) 1 1) (1 + 2 * 0) ((bytesL n (ps.take 0)).map (Value.int .u8))) := World.ownsRow_lit _ #[.int .u8 n] 1 (Nat.le_refl _) (by unfold maxLen; decide) rfl
  have HB1 := hid ((Below.refl w.heap.size w).alloc (Nat.le_refl _) (.cells #[.int .u8 n] 5))
  generalize w.alloc (.cells #[.int .u8 n] 5) = w1 at HO1 HB1 ⊢
  go_loopw [4, 16] (fun v i w' => ∃ k : Nat, k ≤ n ∧ i = .int .i64 k ∧ Hid (w'.ownsRow w.heap.size 5 1 v (1 + 2 * k) ((bytesL n (ps.take k)).map (Value.int .u8))) ∧ Hid (Below w.heap.size w w') ∧ Hid (allP (ps.take k) = true)) (fun _ i _ => n - (intOf i).toNat)
  case atStart => exact ⟨0, Nat.zero_le _, rfl, HO1.out, HB1.out, rfl⟩
  case round =>
    obtain ⟨k, hk, rfl, HO, HB, HK⟩ := hrel
    by_cases hlt : k < n
    · have c0 := keepc HB.out (HC.out k hlt).1
      have c1 := keepc HB.out (HC.out k hlt).2
      have HS := hid (HSN.out k hlt)
      have HKS := hid (HAS.out k hlt)
      have HBK := hid (HAB.out k hlt)
      have HY := hid (HBT.out k hlt)
      generalize (ps.getD k (0, 0)).1 = x at c0 HS HKS HBK
      generalize (ps.getD k (0, 0)).2 = y at c1 HS HKS HBK HY
      have HCH := hid (right_any x y HY.out)
      have hki : (k : Int) < n := by omega
      have HB0 := hid (HB.out.alloc HB.out.size (.cells #[.int .u8 x, .int .u8 y] 78))
      have HOA := hid (HO.out.alloc (.cells #[.int .u8 x, .int .u8 y] 78))
      go_wp2_with fail
      cases hkn : knownB x y
      · have HBAD := hid (HBK.out hkn)
        rw [hkn] at HCH
        skip
        clear hkn
        with_reducible refine (HCH.out _).mono ?_
        rintro e w2 ⟨rfl, hb2⟩
        have HB2 := hid (below_t HB0.out hb2)
        clear hb2
        go_wp2
        go_ret2
        exact bytes_bad HBAD.out HB2.out
      · rw [hkn] at HCH HKS
        skip
        clear hkn
        with_reducible refine (HCH.out _).mono ?_
        rintro e w2 ⟨rfl, hb2⟩
        have q0 := keepc (a := ⟨wr.heap.size, 0, none⟩) (v := .int .u8 x) hb2 (by simp [go_sem])
        have q1 := keepc (a := ⟨wr.heap.size, 1, none⟩) (v := .int .u8 y) hb2 (by simp [go_sem])
        have HB2 := hid (below_t HB0.out hb2)
        have HO2 := hid ((own_below HOA.out hb2).alloc (.cells #[.int .u8 x, .int .u8 y] 5))
        have HSZ := hid (show w.heap.size ≤ (w2.alloc (.cells #[.int .u8 x, .int .u8 y] 5)).heap.size by have := HB2.out.size; simp; omega)
        have HNW := hid (news_two w2 (.int .u8 x) (.int .u8 y) 5)
        have HB3 := hid (HB2.out.alloc HB2.out.size (.cells #[.int .u8 x, .int .u8 y] 5))
        have HM : Hid (1 + 2 * k + 2 ≤ maxLen) := by show _ ≤ _; unfold maxLen; omega
        have HL : Hid ((1 + 2 * k + 2) * 1 ≤ 140737488355328) := by show _ ≤ _; omega
        clear hb2
        go_wp2_with (first
          | (at_builtin; refine wpList_append_own _ rfl _ _ 52 rfl w.heap.size 5 i0 (.int .u8 0) 1 1 Try.underlying52 hi hz0 hz1 hz2 rfl (by decide) _ (1 + 2 * k) ((bytesL n (ps.take k)).map (Value.int .u8)) rfl HO2.out ⟨w2.heap.size, 0, none⟩ 2 2 [.int .u8 x, .int .u8 y] rfl rfl HNW.out (one_two x y) HM.out HL.out HSZ.out ?_; intro v3 w3 hown3 hgrow3 hnil3; have HO4 := hid hown3; have HG4 := hid hgrow3; clear hown3 hgrow3 hnil3))
        go_roundw
        case rel =>
          refine ⟨k + 1, by omega, by go_num, ?_, ?_, ?_⟩
          · show World.ownsRow _ _ _ _ _ _ _
            rw [HS.out, show 1 + 2 * (k + 1) = 1 + 2 * k + 2 by omega]
            exact HO4.out
          · exact HB3.out.grown HG4.out HSZ.out (own_ge HO.out)
          · show _ = _
            rw [HKS.out, HK.out]
            rfl
        case measure => simp [intOf]; omega
    · obtain rfl : k = n := by omega
      have HO3 := HO.out
      have HK3 := HK.out
      rw [HEND.out] at HO3 HK3
      have HO5 := hid HO3
      have HK5 := hid HK3
      clear HO3 HK3
      go_wp2
      go_ret2
      exact bytes_good HK5.out (by rw [← HLN.out]; exact HO5.out) HB.out
end Go.Proofs.Ytpnfdmfmdacjmaa
