/-
  The reference's sign of a code on a page is the page's own.
-/
import Derived.Test.YtadoiplfglaonaaDoorRefa
import Derived.Deep.QuietTactic
import Derived.BigQuiet
namespace Go.Proofs.YtadoiplfglaonaaDoor
open Go.RowKit Go.Lib

theorem slice_str (s : ByteArray) (x y : Int) (h0 : 0 ≤ x) (h1 : x ≤ y) (h2 : y ≤ s.size) (w : World) : (Instr.slice 9 (.string s) (some (.int .i64 x)) (some (.int .i64 y)) none).run Tryd.prog w = .ok (.string (s.extract x.toNat y.toNat)) w := by
  have h3 : 0 ≤ y := by omega
  obtain ⟨a, rfl⟩ : ∃ a : Nat, x = (a : Int) := ⟨x.toNat, by omega⟩
  obtain ⟨b, rfl⟩ : ∃ b : Nat, y = (b : Int) := ⟨y.toNat, by omega⟩
  have h5 : a ≤ b := by omega
  have h6 : b ≤ s.size := by omega
  simp [Instr.slice, run_underlying Tryd.underlying9, Instr.sliceBounds, Instr.sliceBound, asIntOf, h5, h6]
set_option maxRecDepth 100000 in
/-- A piece of a string, for the walk. -/
theorem wpList_slice_str (w : World) {ops : Array Oper} {rest : List Oper} {o : Oper} {a : Act} {Q : Exit → Act → World → Prop}
    (hg : o.guard = none) (x l h : Operand) (hop : o.op = Op.slice 9 x (some l) (some h) none) (s : ByteArray) (lo hi : Int) (hx : a.eval x = .string s) (hl : a.eval l = .int .i64 lo) (hh : a.eval h = .int .i64 hi)
    (h0 : 0 ≤ lo) (h1 : lo ≤ hi) (h2 : hi ≤ s.size) (hK : ∀ p, p = s.extract lo.toNat hi.toNat → wpList Tryd.prog ops Q rest (a.put o.dst (.string p)) w) :
    wpList Tryd.prog ops Q (o :: rest) a w := by
  refine wpList_plain hg fun K hK' => ?_
  have hrun : (Instr.sliceAt 9 (.string s) (some (.int .i64 lo)) (some (.int .i64 hi)) none).run Tryd.prog w = .ok (.string (s.extract lo.toNat hi.toNat)) w := by
    have := slice_str s lo hi h0 h1 h2 w
    simp [Instr.sliceAt, run_underlying Tryd.underlying9, this]
  unfold Oper.wp
  simp [execOp, hop, hx, hl, hh, hrun, Result.andThen]
  exact hK' _ _ (hK _ rfl)
theorem piece_extract (l : List UInt8) (i k : Nat) : ((⟨l.toArray⟩ : ByteArray).extract i (i + k)).data.toList = piece l i k := by
  simp [piece]
theorem extract_size (l : List UInt8) (i k : Nat) (h : i + k ≤ l.length) : ((⟨l.toArray⟩ : ByteArray).extract i (i + k)).size = k := by
  have e : ((⟨l.toArray⟩ : ByteArray).extract i (i + k)).size = ((⟨l.toArray⟩ : ByteArray).extract i (i + k)).data.toList.length := by rw [Array.length_toList]; rfl
  rw [e, piece_extract, piece, List.length_take, List.length_drop]
  omega

theorem find_first : ∀ (l : List (Int × Int)) (c : Int) (j : Nat), j < l.length → (l.getD j (0, 0)).1 = c → (∀ i, i < j → (l.getD i (0, 0)).1 ≠ c) → l.find? (fun p => p.1 == c) = some (l.getD j (0, 0))
  | [], _, _, h, _, _ => by simp at h
  | p :: l, c, 0, _, hc, _ => by
    simp only [List.getD_cons_zero] at hc ⊢
    rw [List.find?_cons_of_pos (by simpa using hc)]
  | p :: l, c, j + 1, h, hc, hno => by
    have h0 := hno 0 (by omega)
    simp only [List.getD_cons_zero] at h0
    rw [List.find?_cons_of_neg (by simpa using h0), List.getD_cons_succ]
    exact find_first l c j (by simpa using h) (by simpa using hc) (fun i hi => by have := hno (i + 1) (by omega); simpa using this)
theorem find_none (l : List (Int × Int)) (c : Int) (hno : ∀ i, i < l.length → (l.getD i (0, 0)).1 ≠ c) : l.find? (fun p => p.1 == c) = none := by
  rw [List.find?_eq_none]
  intro p hp
  obtain ⟨i, hi, e⟩ := List.getElem_of_mem hp
  have := hno i hi
  rw [List.getD, List.getElem?_eq_getElem hi, e] at this
  simpa using this
theorem refSign_hit (n : Int) (c j : Nat) (hj : j < (changesL n).length) (hc : ((changesL n).getD j (0, 0)).1 = c) (hno : ∀ i, i < j → ((changesL n).getD i (0, 0)).1 ≠ c) : refSign n c = ((changesL n).getD j (0, 0)).2 := by
  unfold refSign
  rw [find_first _ _ j hj hc hno]
theorem refSign_miss (n : Int) (c : Nat) (hno : ∀ i, i < (changesL n).length → ((changesL n).getD i (0, 0)).1 ≠ c) : refSign n c = baseL.getD c 0 := by
  unfold refSign
  rw [find_none _ _ hno]

theorem base_size : (⟨baseS.toArray⟩ : ByteArray).size = 1024 := by kernel_rfl
set_option maxRecDepth 100000 in
set_option maxHeartbeats 1000000 in
theorem sign_ref (n : Int) (hn : n ∈ pagesL) (c : Nat) (hc : c < 256) (w : World) : Calls Tryd.prog 19 #[.int .i64 n, .int .u8 c] w fun e w' => e = .returned (.int .i32 ((signsL n).getD c 0)) ∧ w = w' := by
  have HE := hid (refSign_eq n hn c hc)
  have HO := hid (others_any n hn w)
  have HLn := hid (others_length n hn)
  have HCO := hid (others_codes n hn)
  have HF := hid (changes_few n)
  obtain ⟨L, hL⟩ : ∃ L, L = (changesL n).length := ⟨_, rfl⟩
  rw [← hL] at HLn
  obtain ⟨lb, hlb⟩ : ∃ lb, lb = othersB n := ⟨_, rfl⟩
  rw [← hlb] at HO
  have hsz : lb.size = 6 * L := by rw [hlb]; show (othersL n).toArray.size = _; rw [List.size_toArray]; exact HLn.out
  have HSZ := hid hsz
  have hL25 : L ≤ 25 := by rw [hL]; exact changes_few n
  have HL := hid hL
  have HB := hid hlb
  clear hL hlb hsz
  go_enter Tryd.func19, Tryd.ntmps19
  go_wp2_with fail
  refine HO.out.mono ?_
  rintro e w' ⟨rfl, rfl⟩
  go_wp2_with fail
  go_loop [7] (fun i => ∃ j : Nat, j ≤ L ∧ i = .int .i64 ((6 * j : Nat) : Int) ∧ Hid (∀ i, i < j → ((changesL n).getD i (0, 0)).1 ≠ c)) (fun i => 6 * L - (intOf i).toNat)
  case atStart => exact ⟨0, Nat.zero_le _, rfl, fun i h => absurd h (Nat.not_lt_zero _)⟩
  case round =>
    obtain ⟨j, hj, rfl, HNO⟩ := hrel
    by_cases hlt : j < L
    · have h6 : 6 * j + 6 ≤ (othersL n).length := by rw [HLn.out]; omega
      have hltz : 6 * j < lb.size := by rw [HSZ.out]; omega
      have hjc : j < (changesL n).length := by rw [← HL.out]; exact hlt
      obtain ⟨hcd, hsg⟩ := HCO.out j (by omega) hjc
      have hok := changes_ok n j ((changesL n).getD j (0, 0)).1 ((changesL n).getD j (0, 0)).2 (by rw [List.getElem?_eq_getElem hjc, List.getD, List.getElem?_eq_getElem hjc]; rfl)
      obtain ⟨p1, hp1⟩ : ∃ p1, p1 = lb.extract (6 * j) (6 * j + 2) := ⟨_, rfl⟩
      obtain ⟨p2, hp2⟩ : ∃ p2, p2 = lb.extract (6 * j + 2) (6 * j + 2 + 4) := ⟨_, rfl⟩
      have hs1 : (Instr.slice 9 (.string lb) (some (.int .i64 (6 * (j : Int)))) (some (.int .i64 (6 * (j : Int) + 2))) none).run Tryd.prog w = .ok (.string p1) w := by
        rw [slice_str lb _ _ (by omega) (by omega) (by rw [HSZ.out]; omega) w, hp1]
        congr 3 <;> omega
      have hs2 : (Instr.slice 9 (.string lb) (some (.int .i64 (6 * (j : Int) + 2))) (some (.int .i64 (6 * (j : Int) + 6))) none).run Tryd.prog w = .ok (.string p2) w := by
        rw [slice_str lb _ _ (by omega) (by omega) (by rw [HSZ.out]; omega) w, hp2]
        congr 3 <;> omega
      have n1 : numL p1.data.toList = ((changesL n).getD j (0, 0)).1 := by rw [hp1, HB.out, othersB, piece_extract]; exact hcd
      have n2 : numL p2.data.toList = ((changesL n).getD j (0, 0)).2 := by rw [hp2, HB.out, othersB, piece_extract]; exact hsg
      have z1 : p1.size ≤ 4 := by rw [hp1, HB.out, othersB, extract_size _ _ _ (by omega)]; omega
      have z2 : p2.size ≤ 4 := by rw [hp2, HB.out, othersB, extract_size _ _ _ (by omega)]; omega
      have C1 := num_any p1 w z1
      have C2 := num_any p2 w z2
      rw [n1] at C1
      rw [n2] at C2
      have HH := hid (refSign_hit n c j hjc)
      obtain ⟨q, hq⟩ : ∃ q, q = (changesL n).getD j (0, 0) := ⟨_, rfl⟩
      rw [← hq] at C1 C2 HH hok
      obtain ⟨qc, qs⟩ := q
      have HC1 := hid C1
      have HC2 := hid C2
      have HQ := hid hq
      obtain ⟨o1, o2, o3, o4⟩ := hok
      simp only at o1 o2 o3 o4
      clear hp1 hp2 n1 n2 z1 z2 C1 C2 hcd hsg hq h6
      by_cases hqc : qc = c
      · have hqb : (qc == (c : Int)) = true := by simpa using hqc
        have HQC := hid hqc
        clear hqc
        go_wp2_with fail
        with_reducible refine HC1.out.mono ?_
        rintro e w' ⟨rfl, rfl⟩
        go_wp2_with fail
        with_reducible refine HC2.out.mono ?_
        rintro e w' ⟨rfl, rfl⟩
        go_wp2
        go_ret
        exact ⟨by rw [← HE.out, HH.out HQC.out HNO.out]; rfl, rfl⟩
      · have hqb : (qc == (c : Int)) = false := by simpa using hqc
        have HQC := hid hqc
        clear hqc
        go_wp2_with fail
        with_reducible refine HC1.out.mono ?_
        rintro e w' ⟨rfl, rfl⟩
        go_wp2
        go_round
        case rel => exact ⟨j + 1, by omega, by go_num, fun i hi => by
          by_cases hij : i = j
          · rw [hij, ← HQ.out]; exact HQC.out
          · exact HNO.out i (by omega)⟩
        case measure => simp [intOf]; omega
    · obtain rfl : j = L := by omega
      have hge : lb.size ≤ 6 * j := by rw [HSZ.out]; exact Nat.le_refl _
      go_wp2_with (refine wpList_slice_str _ rfl _ _ _ rfl ⟨baseS.toArray⟩ (4 * (c : Int)) (4 * (c : Int) + 4) (by kernel_rfl) rfl rfl (by omega) (by omega) (by rw [base_size]; omega) ?_; intro p hp; have HPP := hid hp; clear hp)
      have hp : p = (⟨baseS.toArray⟩ : ByteArray).extract (4 * c) (4 * c + 4) := by rw [HPP.out]; congr 1 <;> omega
      have z : p.size ≤ 4 := by rw [hp, extract_size _ _ _ (by rw [baseS_length]; omega)]; omega
      have nn : numL p.data.toList = (signsL n).getD c 0 := by
        rw [hp, piece_extract, base_signs c hc, ← HE.out]
        exact (refSign_miss n c (fun i hi => HNO.out i (by rw [HL.out]; exact hi))).symm
      have C := num_any p w z
      rw [nn] at C
      have hbd := List.all_eq_true.1 (signs_ok n hn) ((signsL n).getD c 0) (by rw [List.getD, List.getElem?_eq_getElem (show c < (signsL n).length by rw [signsL, signsAt_length]; exact hc)]; simp)
      simp only [decide_eq_true_eq] at hbd
      obtain ⟨v, hv⟩ : ∃ v, v = (signsL n).getD c 0 := ⟨_, rfl⟩
      rw [← hv] at C hbd
      have HV := hid hv
      obtain ⟨hv0, hv1⟩ := hbd
      have HC := hid C
      clear C nn z hp HPP hv
      with_reducible refine HC.out.mono ?_
      rintro e w' ⟨rfl, rfl⟩
      go_wp2
      go_ret
      exact ⟨by rw [← HV.out]; rfl, rfl⟩
end Go.Proofs.YtadoiplfglaonaaDoor
