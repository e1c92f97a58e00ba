/-
  The reference: functions that are common, sorted; names.
-/
import Derived.Test.YtdpfjbpfafekfaaRa
import Derived.Deep.QuietTactic
import Derived.BigQuiet
namespace Go.Proofs.Ytdpfjbpfafekfaa
open Go.RowKit Go.Lib

theorem quiet_same {f : FuncId} {args : Array Value} {W : World} {n : Nat} {v : Value} (h : Calls Try.prog f args (W.drewN n) fun e w' => e = .returned v ∧ W.drewN n = w') : Calls Try.prog f args (W.drewN n) fun e w'' => e = .returned v ∧ ∃ m, w'' = W.drewN m := h.mono fun _ _ ⟨he, hw⟩ => ⟨he, n, hw.symm⟩
theorem bdn (W : World) (n : Nat) : Below W.heap.size W (W.drewN n) := below_dn (Below.refl _ _) n
theorem once_succ {r : List Int} {k : Nat} (hk : k < r.length) : onceL (r.take (k + 1)) = (onceL (r.take k) && !((r.take k).any fun y => y == r.getD k 0)) := by
  rw [take_succD hk]
  cases ha : ((r.take k).any fun y => y == r.getD k 0)
  · cases ho : onceL (r.take k)
    · refine decide_eq_false fun q => ?_
      have h1 := (List.nodup_append.1 q).1
      unfold onceL at ho
      exact absurd h1 (of_decide_eq_false ho)
    · exact decide_eq_true (nodup_snoc (of_decide_eq_true ho) (any_not.1 ha))
  · rw [Bool.not_true, Bool.and_false]
    refine decide_eq_false fun q => ?_
    exact (List.nodup_append.1 q).2.2 _ (any_mem.1 ha) _ (List.mem_singleton.2 rfl) rfl
theorem all_succ {fs r : List Int} {k : Nat} (hk : k < r.length) : allF fs (r.take (k + 1)) = (allF fs (r.take k) && inF fs (r.getD k 0)) := by
  unfold allF
  rw [take_succD hk, List.all_append]
  simp
/-- What is common. -/
def CommD (fs r : List Int) (w : World) (e : Ending) (w' : World) : Prop := ∃ v, e = .returned (.tuple #[v, .bool (allF fs r), .bool (onceL r)]) ∧ OwnB w' v (keepL fs r) ∧ Below w.heap.size w w' ∧ ∀ k ∈ blkV v, w.heap.size ≤ k
set_option maxRecDepth 100000 in
set_option maxHeartbeats 4000000 in
theorem rcommon_any (g : Nat) (sv av : Value) (T D : ByteArray) (fs : List Int) (st : Int) (dev : ByteArray) (ag : List Int) (w : World) (h : EndM w g sv av T D fs st dev ag) (y : Option Addr) (n c : Nat) (r : List Int) (hr : RdG w (.slice y n c) r) (hn : n = r.length) (hl : n ≤ 1000) (hfl : fs.length ≤ 1000) : Calls Try.prog 66 #[.pointer (some ⟨g, 0, none⟩), .slice y n c] w (CommD fs r w) := by
  have HH := hid h
  have HRD := hid hr
  have HN := hid hn
  obtain ⟨sx, sc, rfl⟩ := own_len h.rs _ rfl
  have hcap := hr.cap
  have hto := fun k (hk : k ≤ n) => run_toA y n c k hk hcap.1
  have HTO := hid hto
  clear h hr hn hto
  go_enter Try.func66, Try.ntmps66
  go_wp2
  go_loopw [7, 8, 9, 14] (fun o al on i W => ∃ (k : Nat) (x3 : Option Addr) (q c3 : Nat), k ≤ n ∧ i = .int .i64 k ∧ o = .slice x3 q c3 ∧ al = .bool (allF fs (r.take k)) ∧ on = .bool (onceL (r.take k)) ∧ Hid (q = (keepL fs (r.take k)).length) ∧ Hid (Fresh w W (.slice x3 q c3) (keepL fs (r.take k)))) (fun _ _ _ i _ => n - (RowKit.intOf i).toNat)
  case atStart => exact ⟨0, none, 0, 0, Nat.zero_le _, rfl, rfl, rfl, rfl, hid rfl, fresh_nil w⟩
  case round =>
    obtain ⟨k, x3, q, c3, hk, rfl, rfl, rfl, rfl, HQ, HF⟩ := hrel
    have hqk : q ≤ k := by
      rw [HQ.out]
      refine Nat.le_trans (keep_le _ _) ?_
      rw [List.length_take]
      omega
    by_cases hkn : k < n
    · have hkx : k < r.length := by rw [← HN.out]; exact hkn
      have hki : (k : Int) < n := by omega
      obtain ⟨g2, o2, cap2, e2, _, _, h2⟩ := HRD.out.row (fun q => by rw [q] at hkx; cases hkx)
      cases e2
      have c0 := keepc HF.out.2.1 (h2 k hkx)
      have s2 := (HH.out.step HF.out.2.1).c2
      have hto := HTO.out k (by omega)
      obtain ⟨b0, b1⟩ := getD_byte HRD.out.1 k hkx
      have HKT := hid (keep_take (fs := fs) hkx)
      have HOS := hid (once_succ hkx)
      have HAS := hid (all_succ (fs := fs) hkx)
      have HI1 := hid (rin_any _ (r.take k) (r.getD k 0) wr ((HRD.out.step HF.out.2.1).take HN.out k (by omega)) (by rw [List.length_take]; omega))
      have HI2 := hid (rin_any _ fs (r.getD k 0) wr (HH.out.step HF.out.2.1).rs.rdg (by omega))
      have HF1 := hid (HF.out.step (bal (Below.refl wr.heap.size wr) (.cells #[.int .u8 (r.getD k 0)] 5)))
      have HLT := hid (own_lit wr #[.int .u8 (r.getD k 0)] 1 [r.getD k 0] (fun q hq => by simp at hq; subst hq; exact ⟨b0, b1⟩) rfl rfl (by omega) wr.heap.size rfl).reads
      clear h2
      generalize r.getD k 0 = z at *
      generalize hO : onceL (r.take k) = O at *
      generalize hA : allF fs (r.take k) = A at *
      generalize keepL fs (r.take k) = P at *
      generalize ((r.take k).any fun y => y == z) = I1 at *
      have hin : (fs.any fun x => x == z) = inF fs z := rfl
      rw [hin] at HI2
      generalize inF fs z = I2 at *
      clear hO hA hin
      have HA2 := hid HAS.out
      cases O
      · cases I2
        · have hmm : True := trivial
          go_wp2_with fail
          with_reducible refine HI2.out.mono ?_
          rintro e w1 ⟨rfl, rfl⟩
          go_wp2
          go_roundw
          case rel => exact ⟨k + 1, x3, q, c3, by omega, by go_num, rfl, (by rw [HAS.out, Bool.and_false]), (by rw [HOS.out]; rfl), hid (by rw [HKT.out, if_neg (by decide), List.append_nil]; exact HQ.out), hid (by rw [HKT.out, if_neg (by decide), List.append_nil]; exact HF.out)⟩
          case measure => simp [RowKit.intOf]; omega
        · have hmm : True := trivial
          go_wp2_with fail
          with_reducible refine HI2.out.mono ?_
          rintro e w1 ⟨rfl, rfl⟩
          go_wp2_with (first
            | (at_builtin; refine wpList_append_rd rfl _ _ rfl rfl HF1.out _ [z] rfl HLT.out (by rw [← HQ.out]; simp; omega) ?_; intro x' c' w' hF'; have HF' := hid hF'; clear hF'))
          go_roundw
          case rel => exact ⟨k + 1, x', _, c', by omega, by go_num, rfl, (by rw [HAS.out]; simp), (by rw [HOS.out]; rfl), hid (by rw [HKT.out]; simp), hid (by rw [HKT.out]; simpa using HF'.out)⟩
          case measure => simp [RowKit.intOf]; omega
      · cases I1
        · cases I2
          · have hmm : True := trivial
            go_wp2_with fail
            with_reducible refine HI1.out.mono ?_
            rintro e w1 ⟨rfl, rfl⟩
            go_wp2_with fail
            with_reducible refine HI2.out.mono ?_
            rintro e w1 ⟨rfl, rfl⟩
            go_wp2
            go_roundw
            case rel => exact ⟨k + 1, x3, q, c3, by omega, by go_num, rfl, (by rw [HAS.out, Bool.and_false]), (by rw [HOS.out]; rfl), hid (by rw [HKT.out, if_neg (by decide), List.append_nil]; exact HQ.out), hid (by rw [HKT.out, if_neg (by decide), List.append_nil]; exact HF.out)⟩
            case measure => simp [RowKit.intOf]; omega
          · have hmm : True := trivial
            go_wp2_with fail
            with_reducible refine HI1.out.mono ?_
            rintro e w1 ⟨rfl, rfl⟩
            go_wp2_with fail
            with_reducible refine HI2.out.mono ?_
            rintro e w1 ⟨rfl, rfl⟩
            go_wp2_with (first
              | (at_builtin; refine wpList_append_rd rfl _ _ rfl rfl HF1.out _ [z] rfl HLT.out (by rw [← HQ.out]; simp; omega) ?_; intro x' c' w' hF'; have HF' := hid hF'; clear hF'))
            go_roundw
            case rel => exact ⟨k + 1, x', _, c', by omega, by go_num, rfl, (by rw [HAS.out]; simp), (by rw [HOS.out]; rfl), hid (by rw [HKT.out]; simp), hid (by rw [HKT.out]; simpa using HF'.out)⟩
            case measure => simp [RowKit.intOf]; omega
        · cases I2
          · have hmm : True := trivial
            go_wp2_with fail
            with_reducible refine HI1.out.mono ?_
            rintro e w1 ⟨rfl, rfl⟩
            go_wp2_with fail
            with_reducible refine HI2.out.mono ?_
            rintro e w1 ⟨rfl, rfl⟩
            go_wp2
            go_roundw
            case rel => exact ⟨k + 1, x3, q, c3, by omega, by go_num, rfl, (by rw [HAS.out, Bool.and_false]), (by rw [HOS.out]; rfl), hid (by rw [HKT.out, if_neg (by decide), List.append_nil]; exact HQ.out), hid (by rw [HKT.out, if_neg (by decide), List.append_nil]; exact HF.out)⟩
            case measure => simp [RowKit.intOf]; omega
          · have hmm : True := trivial
            go_wp2_with fail
            with_reducible refine HI1.out.mono ?_
            rintro e w1 ⟨rfl, rfl⟩
            go_wp2_with fail
            with_reducible refine HI2.out.mono ?_
            rintro e w1 ⟨rfl, rfl⟩
            go_wp2_with (first
              | (at_builtin; refine wpList_append_rd rfl _ _ rfl rfl HF1.out _ [z] rfl HLT.out (by rw [← HQ.out]; simp; omega) ?_; intro x' c' w' hF'; have HF' := hid hF'; clear hF'))
            go_roundw
            case rel => exact ⟨k + 1, x', _, c', by omega, by go_num, rfl, (by rw [HAS.out]; simp), (by rw [HOS.out]; rfl), hid (by rw [HKT.out]; simp), hid (by rw [HKT.out]; simpa using HF'.out)⟩
            case measure => simp [RowKit.intOf]; omega
    · obtain rfl : k = n := by omega
      have HD := hid (show CommD fs r w (.returned (.tuple #[.slice x3 q c3, .bool (allF fs (r.take k)), .bool (onceL (r.take k))])) wr by
        have h1 := HF.out
        have e : r.take k = r := by rw [HN.out, List.take_length]
        rw [e] at h1 ⊢
        exact ⟨_, rfl, h1.1, h1.2.1, h1.2.2⟩)
      generalize allF fs (r.take k) = A at *
      generalize onceL (r.take k) = O at *
      go_wp2
      go_ret3
      exact HD.out
def sortK (l : List Int) (k : Nat) : List Int := ((List.range k).map fun (i : Nat) => (i : Int)).filter fun f => l.any fun x => x == f
theorem sortK_succ (l : List Int) (k : Nat) : sortK l (k + 1) = sortK l k ++ (if (l.any fun x => x == (k : Int)) = true then [(k : Int)] else []) := by
  unfold sortK
  rw [List.range_succ, List.map_append, List.filter_append]
  congr 1
  by_cases h : (l.any fun x => x == (k : Int)) = true
  · rw [if_pos h, List.map_cons, List.map_nil, List.filter_cons, if_pos h, List.filter_nil]
  · rw [if_neg h, List.map_cons, List.map_nil, List.filter_cons, if_neg h, List.filter_nil]
theorem sortK_le (l : List Int) (k : Nat) : (sortK l k).length ≤ k := by
  unfold sortK
  refine Nat.le_trans (List.length_filter_le _ _) ?_
  simp
set_option maxRecDepth 100000 in
set_option maxHeartbeats 2000000 in
theorem rsorted_any (y : Option Addr) (n c : Nat) (r : List Int) (w : World) (hr : RdG w (.slice y n c) r) (hl : r.length ≤ 1000) : Calls Try.prog 67 #[.slice y n c] w (OwnDone (sortL r) w) := by
  have HRD := hid hr
  clear hr
  go_enter Try.func67, Try.ntmps67
  go_wp2
  go_loopw [3, 4] (fun o fv W => ∃ (k : Nat) (x2 : Option Addr) (m c2 : Nat), k ≤ 5 ∧ fv = .int .u8 k ∧ o = .slice x2 m c2 ∧ Hid (m = (sortK r k).length) ∧ Hid (Fresh w W (.slice x2 m c2) (sortK r k))) (fun _ fv _ => 5 - (RowKit.intOf fv).toNat)
  case atStart => exact ⟨0, none, 0, 0, Nat.zero_le _, rfl, rfl, hid rfl, fresh_nil w⟩
  case round =>
    obtain ⟨k, x2, m, c2, hk, rfl, rfl, HMM, HF⟩ := hrel
    have hmk : m ≤ 5 := by rw [HMM.out]; exact Nat.le_trans (sortK_le _ _) hk
    by_cases h5 : k < 5
    · have hle : (k : Int) ≤ 4 := by omega
      have hk8 : IntKind.u8.wrap ((k : Int) + 1) = (k : Int) + 1 := by
        have : k = 0 ∨ k = 1 ∨ k = 2 ∨ k = 3 ∨ k = 4 := by omega
        rcases this with rfl | rfl | rfl | rfl | rfl <;> decide
      have HKS := hid (sortK_succ r k)
      have HI := hid (rin_any _ r (k : Int) wr (HRD.out.step HF.out.2.1) (by omega))
      cases hin : (r.any fun x => x == (k : Int))
      · rw [hin, if_neg (by decide), List.append_nil] at HKS
        rw [hin] at HI
        clear hin
        go_wp2_with fail
        with_reducible refine HI.out.mono ?_
        rintro e w1 ⟨rfl, rfl⟩
        go_wp2
        go_roundw
        case rel => exact ⟨k + 1, x2, m, c2, by omega, by go_num, rfl, hid (by rw [HKS.out]; exact HMM.out), hid (by rw [HKS.out]; exact HF.out)⟩
        case measure => simp [RowKit.intOf]; omega
      · rw [hin, if_pos rfl] at HKS
        rw [hin] at HI
        clear hin
        have HF1 := hid (HF.out.step (bal (Below.refl wr.heap.size wr) (.cells #[.int .u8 k] 5)))
        have HRE := hid (own_lit wr #[.int .u8 k] 1 [(k : Int)] (fun q hq => by simp at hq; omega) rfl rfl (by omega) wr.heap.size rfl).reads
        go_wp2_with fail
        with_reducible refine HI.out.mono ?_
        rintro e w1 ⟨rfl, rfl⟩
        go_wp2_with (first
          | (at_builtin; refine wpList_append_rd rfl _ _ rfl rfl HF1.out _ [(k : Int)] rfl HRE.out (by rw [← HMM.out]; simp; omega) ?_; intro x' c' w' hF'; have HF' := hid hF'; clear hF'))
        go_roundw
        case rel => exact ⟨k + 1, x', _, c', by omega, by go_num, rfl, hid (by rw [HKS.out]; simp), hid (by rw [HKS.out]; exact HF'.out)⟩
        case measure => simp [RowKit.intOf]; omega
    · obtain rfl : k = 5 := by omega
      have HD := hid (show OwnDone (sortL r) w (.returned (.slice x2 m c2)) wr from HF.out.done)
      go_wp2
      go_ret
      exact HD.out
/-- Names that were read. -/
def NamD (r : List Int) (w : World) (e : Ending) (w' : World) : Prop := ∃ s, e = .returned (.tuple #[.string s, .bool (namesOk r)]) ∧ (namesOk r = true → s = secondN r) ∧ Below w.heap.size w w'
theorem at1_hit {r : List Int} {k : Nat} (hk : k < r.length) (h : ∀ i, i < k → r.getD i 0 ≠ 1) (he : r.getD k 0 = 1) : at1 r = k := by
  unfold at1
  rw [List.findIdx_eq hk]
  refine ⟨?_, fun j hj => ?_⟩
  · rw [List.getD, List.getElem?_eq_getElem hk] at he
    simpa using he
  · have := h j hj
    rw [List.getD, List.getElem?_eq_getElem (by omega)] at this
    simpa using this
theorem at1_none {r : List Int} (h : ∀ i, i < r.length → r.getD i 0 ≠ 1) : ¬ at1 r < r.length := fun q => by
  unfold at1 at q
  have h1 := List.findIdx_getElem (w := q)
  have := h _ q
  rw [List.getD, List.getElem?_eq_getElem q] at this
  exact this (by simpa using h1)
set_option maxRecDepth 100000 in
set_option maxHeartbeats 4000000 in
theorem rnames_row (g2 o2 c : Nat) (r : List Int) (hne : r ≠ []) (w : World) (hr : RdG w (.slice (some ⟨g2, o2, none⟩) r.length c) r) (hl : r.length ≤ 1000) : Calls Try.prog 65 #[.slice (some ⟨g2, o2, none⟩) r.length c] w (NamD r w) := by
  have HRD := hid hr
  have hcap := hr.cap
  clear hr
  go_enter Try.func65, Try.ntmps65
  go_wp2
  go_loop [8] (fun i => ∃ k : Nat, k ≤ r.length ∧ i = .int .i64 k ∧ Hid (∀ i, i < k → r.getD i 0 ≠ 1)) (fun i => r.length - (RowKit.intOf i).toNat)
  case atStart => exact ⟨0, Nat.zero_le _, rfl, hid (fun i h => absurd h (by omega))⟩
  case round =>
    obtain ⟨k, hk, rfl, HA⟩ := hrel
    by_cases hkx : k < r.length
    · obtain ⟨g3, o3, cap2, e2, _, _, h2⟩ := HRD.out.row hne
      cases e2
      have c0 := h2 k hkx
      have hki : (k : Int) < r.length := by omega
      clear h2
      by_cases he : r.getD k 0 = 1
      · have HAT := hid (at1_hit hkx HA.out he)
        have hto := run_toA (some ⟨g2, o2, none⟩) r.length c k (by omega) hcap.1
        have hfr : ∀ w, (Instr.sliceAt 22 (.slice (some ⟨g2, o2, none⟩) r.length c) (some (.int .i64 ((k : Int) + 1))) none none).run Try.prog w = .ok (.slice (fromA (some ⟨g2, o2, none⟩) c (k + 1)) (r.length - (k + 1)) (c - (k + 1))) w := fun w => by
          rw [show ((k : Int) + 1) = ((k + 1 : Nat) : Int) by omega]
          exact run_fromA _ r.length c (k + 1) (by omega) (fun q => by cases q) w
        have hw1 : IntKind.i64.wrap ((k : Int) + 1) = (k : Int) + 1 := IntWalk.i64_in _ (by omega)
        have hk1 := fun n => reads_conv ((HRD.out.step (bdn w n)).take rfl k (by omega)).reads
        have hk2 := fun n => reads_conv ((HRD.out.step (bdn w n)).from' rfl (k + 1) (by omega)).reads
        have HN1 := hid (fun n => quiet_same (rname_any (strOfNums (r.take k)) (w.drewN n) (by rw [strOf_size, List.length_take]; unfold maxLen; omega)))
        have HN2 := hid (fun n => quiet_same (rname_any (strOfNums (r.drop (k + 1))) (w.drewN n) (by rw [strOf_size, List.length_drop]; unfold maxLen; omega)))
        have HOK := hid (show namesOk r = (nameB (strOfNums (r.take k)) && nameB (strOfNums (r.drop (k + 1)))) by unfold namesOk; rw [HAT.out, show decide (k < r.length) = true from decide_eq_true hkx, Bool.true_and])
        have HSN := hid (show secondN r = strOfNums (r.drop (k + 1)) by unfold secondN; rw [HAT.out])
        have hb1 : (r.getD k 0 == 1) = true := by simpa using he
        have hki2 : (k : Int) < r.length := by omega
        generalize r.getD k 0 = z at *
        generalize strOfNums (r.take k) = s1 at *
        generalize strOfNums (r.drop (k + 1)) = s2 at *
        generalize fromA (some ⟨g2, o2, none⟩) c (k + 1) = y2 at *
        clear he
        cases h1 : nameB s1
        · have HX := hid (fun m => show NamD r w (.returned (.tuple #[.string s2, .bool false])) (w.drewN m) from ⟨s2, (by rw [HOK.out, h1]; rfl), (fun q => HSN.out.symm), bdn w m⟩)
          rw [h1] at HN1
          clear h1 HOK HSN HAT HN2
          go_wp2
          go_quiet ((first | (go_at_call 42; exact HN1.out _)))
          go_wp2
          go_ret2
          exact HX.out _
        · cases h2 : nameB s2
          · have HX := hid (fun m => show NamD r w (.returned (.tuple #[.string s2, .bool false])) (w.drewN m) from ⟨s2, (by rw [HOK.out, h1, h2]; rfl), (fun q => HSN.out.symm), bdn w m⟩)
            rw [h1] at HN1
            rw [h2] at HN2
            clear h1 h2 HOK HSN HAT
            go_wp2
            go_quiet ((first | (go_at_call 42; (with_reducible exact HN1.out _)) | (go_at_call 42; (with_reducible exact HN2.out _))))
            go_wp2
            go_ret2
            exact HX.out _
          · have HX := hid (fun m => show NamD r w (.returned (.tuple #[.string s2, .bool true])) (w.drewN m) from ⟨s2, (by rw [HOK.out, h1, h2]; rfl), (fun q => HSN.out.symm), bdn w m⟩)
            rw [h1] at HN1
            rw [h2] at HN2
            clear h1 h2 HOK HSN HAT
            go_wp2
            go_quiet ((first | (go_at_call 42; (with_reducible exact HN1.out _)) | (go_at_call 42; (with_reducible exact HN2.out _))))
            go_wp2
            go_ret2
            exact HX.out _
      · have hb1 : (r.getD k 0 == 1) = false := by simpa using he
        have HA2 := hid (show ∀ i, i < k + 1 → r.getD i 0 ≠ 1 from fun i hi => by
          by_cases hik : i < k
          · exact HA.out i hik
          · obtain rfl : i = k := by omega
            exact he)
        clear he
        generalize r.getD k 0 = z at c0 hb1
        go_wp2
        go_round
        case rel => exact ⟨k + 1, by omega, by go_num, HA2.out⟩
        case measure => simp [RowKit.intOf]; omega
    · have HX := hid (show NamD r w (.returned (.tuple #[.string ⟨#[]⟩, .bool false])) w by
        have h1 : namesOk r = false := by
          unfold namesOk
          rw [show decide (at1 r < r.length) = false from decide_eq_false (at1_none (fun i hi => HA.out i (by omega)))]
          rfl
        exact ⟨_, (by rw [h1]), (fun q => by rw [h1] at q; cases q), Below.refl _ _⟩)
      have hki : ¬ (k : Int) < r.length := by omega
      go_wp2
      go_ret2
      exact HX.out
set_option maxRecDepth 100000 in
set_option maxHeartbeats 2000000 in
theorem rnames_any (y : Option Addr) (n c : Nat) (r : List Int) (hn : n = r.length) (hl : n ≤ 1000) (w : World) (hr : RdG w (.slice y n c) r) : Calls Try.prog 65 #[.slice y n c] w (NamD r w) := by
  by_cases hx : r = []
  · subst hx
    obtain rfl : n = 0 := hn
    have HX := hid (show NamD [] w (.returned (.tuple #[.string ⟨#[]⟩, .bool false])) w from ⟨_, rfl, (fun q => by cases q), Below.refl _ _⟩)
    clear hr hl
    go_enter Try.func65, Try.ntmps65
    go_wp2
    go_loop [8] (fun i => i = .int .i64 0) (fun _ => 0)
    case atStart => rfl
    case round =>
      obtain rfl := hrel
      go_wp2
      go_ret2
      exact HX.out
  · obtain ⟨g2, off, cap, e, h1, h2, h3⟩ := hr.row hx
    cases e
    exact rnames_row g2 off c r hx w hr (by omega)
end Go.Proofs.Ytdpfjbpfafekfaa
