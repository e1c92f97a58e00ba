/-
  A terminal's end: what it supports of a list, and how it answers.
-/
import Derived.Test.YtdpfjbpfafekfaaNl
import Derived.Test.YtdpfjbpfafekfaaNk
namespace Go.Proofs.Ytdpfjbpfafekfaa
open Go.RowKit Go.Lib

/-- Of functions those that are supported. -/
def inF (fs : List Int) (x : Int) : Bool := fs.any fun y => y == x
def keepL (fs r : List Int) : List Int := r.filter (inF fs)
def allF (fs r : List Int) : Bool := r.all (inF fs)
theorem keep_lt {fs r : List Int} : (keepL fs r).length < r.length ↔ allF fs r = false := by
  unfold keepL allF
  rw [List.all_eq_false]
  constructor
  · intro h
    apply Classical.byContradiction
    intro hn
    have : r.filter (inF fs) = r := List.filter_eq_self.2 fun a ha => by
      cases hb : inF fs a with
      | true => rfl
      | false => exact absurd ⟨a, ha, by simp [hb]⟩ hn
    rw [this] at h
    omega
  · rintro ⟨x, hx, hf⟩
    exact List.length_filter_lt_length_iff_exists.2 ⟨x, hx, hf⟩
theorem keep_take {fs r : List Int} {k : Nat} (hk : k < r.length) : keepL fs (r.take (k + 1)) = keepL fs (r.take k) ++ (if inF fs (r.getD k 0) = true then [r.getD k 0] else []) := by
  unfold keepL
  rw [take_succD hk, List.filter_append]
  congr 1
  by_cases h : inF fs (r.getD k 0) = true
  · rw [if_pos h, List.filter_cons_of_pos h, List.filter_nil]
  · rw [if_neg h, List.filter_cons_of_neg h, List.filter_nil]
theorem keep_le (fs r : List Int) : (keepL fs r).length ≤ r.length := List.length_filter_le _ _
theorem fresh_nil (w : World) : Fresh w w (.slice none 0 0) [] := ⟨OwnB.nil w, Below.refl _ _, fun k hk => by cases hk⟩
set_option maxRecDepth 100000 in
set_option maxHeartbeats 2000000 in
theorem supported_any (g : Nat) (sv av : Value) (T D : ByteArray) (fs : List Int) (st : Int) (dev : ByteArray) (ag : List Int) (w : World) (h : EndM w g sv av T D fs st dev ag) (y : Option Addr) (n c : Nat) (r : List Int) (hr : RdG w (.slice y n c) r) (hn : n = r.length) (hl : n ≤ 1000) (hfl : fs.length ≤ 1000) : Calls Try.prog 88 #[.pointer (some ⟨g, 0, none⟩), .slice y n c] w (OwnDone (keepL fs r) w) := by
  have HH := hid h
  obtain ⟨sx, sc, rfl⟩ := own_len h.rs _ rfl
  by_cases hx : r = []
  · subst hx
    obtain rfl : n = 0 := by simpa using hn
    clear h hr hn hl
    go_enter Try.func88, Try.ntmps88
    go_wp2
    go_loopw [5, 10] (fun kn i W => kn = .slice none 0 0 ∧ i = .int .i64 0 ∧ W = w) (fun _ _ _ => 0)
    case atStart => exact ⟨rfl, rfl, rfl⟩
    case round =>
      obtain ⟨rfl, rfl, hw⟩ := hrel
      subst hw
      go_wp2
      go_ret
      exact (fresh_nil _).done
  obtain ⟨g2, off, cap, e, h1, h2, h3⟩ := hr.row hx
  cases e
  have HC := hid h3
  have HBY := hid (getD_byte hr.1)
  have HCT := hid (fun (W : World) (o : Nat) (hW : OwnB W (.slice sx fs.length sc) fs) => contains_any _ fs o W hW.reads (by omega))
  obtain ⟨n, hn'⟩ : ∃ n, n = r.length := ⟨_, rfl⟩
  have HN := hid hn'
  rw [← hn'] at hl ⊢
  clear h hr h3 hx h1 h2 hn hn'
  go_enter Try.func88, Try.ntmps88
  go_wp2
  go_loopw [5, 10] (fun kn i W => ∃ (k : Nat) (x : Option Addr) (m c2 : Nat), k ≤ n ∧ i = .int .i64 k ∧ kn = .slice x m c2 ∧ Hid (m = (keepL fs (r.take k)).length) ∧ Hid (Fresh w W (.slice x m c2) (keepL fs (r.take k)))) (fun _ i _ => n - (RowKit.intOf i).toNat)
  case atStart => exact ⟨0, none, 0, 0, Nat.zero_le _, rfl, rfl, hid (by simp [keepL]), fresh_nil w⟩
  case round =>
    obtain ⟨k, x, m, c2, hk, rfl, rfl, HMM, HF⟩ := hrel
    have HB := hid HF.out.2.1
    by_cases hlt : k < n
    · have hlx : k < r.length := by rw [← HN.out]; exact hlt
      have c0 := keepc HB.out (HC.out k hlx)
      obtain ⟨b0, b1⟩ := HBY.out k hlx
      have hki : (k : Int) < n := by omega
      obtain ⟨z, hz⟩ : ∃ z : Nat, r.getD k 0 = z := ⟨(r.getD k 0).toNat, by omega⟩
      rw [hz] at c0 b0 b1
      have s2 := (HH.out.step HB.out).c2
      have HKT := hid (keep_take (fs := fs) hlx)
      have HCC := hid (HCT.out wr z (HH.out.step HB.out).rs)
      have hmk : m ≤ k := by
        rw [HMM.out]
        refine Nat.le_trans (keep_le _ _) ?_
        rw [List.length_take]
        omega
      rw [hz] at HKT
      clear hz
      cases hin : inF fs z
      · rw [hin, if_neg (by decide), List.append_nil] at HKT
        rw [show (fs.any fun y => y == (z : Int)) = false from hin] at HCC
        clear hin
        go_wp2_with fail
        with_reducible refine HCC.out.mono ?_
        rintro e w1 ⟨rfl, rfl⟩
        go_wp2
        go_roundw
        case rel => exact ⟨k + 1, x, m, c2, by omega, by go_num, rfl, hid (by rw [HKT.out]; exact HMM.out), hid (by rw [HKT.out]; exact HF.out)⟩
        case measure => simp [RowKit.intOf]; omega
      · rw [hin, if_pos rfl] at HKT
        rw [show (fs.any fun y => y == (z : Int)) = true from hin] at HCC
        clear hin
        have HF1 := hid (HF.out.step (bal (Below.refl wr.heap.size wr) (.cells #[.int .u8 z] 5)))
        have HRD := hid (own_lit wr #[.int .u8 z] 1 [(z : Int)] (fun q hq => by simp at hq; omega) rfl rfl (by omega) wr.heap.size rfl).reads
        go_wp2_with fail
        with_reducible refine HCC.out.mono ?_
        rintro e w1 ⟨rfl, rfl⟩
        go_wp2_with (first
          | (at_builtin; refine wpList_append_rd rfl _ _ rfl rfl HF1.out _ [(z : Int)] rfl HRD.out (by rw [← HMM.out]; simp; omega) ?_; intro x' c' w' hF'; have HF' := hid hF'; clear hF'))
        go_roundw
        case rel => exact ⟨k + 1, x', _, c', by omega, by go_num, rfl, hid (by rw [HKT.out]; simp), hid (by rw [HKT.out]; exact HF'.out)⟩
        case measure => simp [RowKit.intOf]; omega
    · obtain rfl : k = n := by omega
      have HD := hid (show OwnDone (keepL fs r) w (.returned (.slice x m c2)) wr by have := HF.out.done; rw [HN.out, List.take_length] at this; exact this)
      go_wp2
      go_ret
      exact HD.out
/-- What is agreed on lies where it lay, or in new memory. -/
def OldNew (w : World) (g : Nat) (av : Value) : Prop := w.cell? ⟨g, 5, none⟩ = some av ∨ ∀ k ∈ blkV av, w.heap.size ≤ k
theorem OldNew.since {w w1 : World} {g : Nat} {av : Value} (hb : Below w.heap.size w w1) (hg : g < w.heap.size) (h : OldNew w1 g av) : OldNew w g av := h.elim (fun q => .inl ((hb.cell (p := ⟨g, 5, none⟩) hg).symm.trans q)) (fun q => .inr fun k hk => Nat.le_trans hb.size (q k hk))
/-- An answer, and an end that has moved. -/
def EDone (g : Nat) (sv : Value) (T D : ByteArray) (fs : List Int) (st : Int) (dev : ByteArray) (ag : List Int) (ans : List Int) (w : World) (e : Ending) (w' : World) : Prop :=
  ∃ v av', e = .returned v ∧ OwnB w' v ans ∧ EndM w' g sv av' T D fs st dev ag ∧ Moved w w' [g] [g] ∧ (∀ k ∈ blkV v, w.heap.size ≤ k ∧ k ∉ blkV av') ∧ OldNew w g av'
set_option maxRecDepth 100000 in
set_option maxHeartbeats 2000000 in
theorem askFunctions_any (g : Nat) (sv av : Value) (T D : ByteArray) (fs : List Int) (st : Int) (dev : ByteArray) (ag : List Int) (w : World) (h : EndM w g sv av T D fs st dev ag) (y : Option Addr) (n c : Nat) (r : List Int) (hr : Reads w (.slice y n c) r) (hg : g ∉ blkV (.slice y n c)) (hn : r.length ≤ 1000) : Calls Try.prog 83 #[.pointer (some ⟨g, 0, none⟩), .slice y n c] w (EDone g sv T D fs 2 dev [] (3 :: 7 :: r) w) := by
  have c3 := h.c3
  have c5 := h.c5
  have f3 := h.fr 3 (by omega)
  have f5 := h.fr 5 (by omega)
  obtain ⟨ax, ac, rfl⟩ := own_len h.ra _ rfl
  have HE := hid ((h.set3 2).set5n)
  have hm := (set_moved w g 3 (.int .i64 2)).trans (set_moved _ g 5 (.slice none 0 0))
  have HR := hid (reads_moved hr hm (fun k hk q => hg (by rw [← List.mem_singleton.1 q]; exact hk)))
  have HM := hid hm
  clear h hr hg hm
  go_enter Try.func83, Try.ntmps83
  obtain ⟨W, hW⟩ : ∃ W, W = (w.setCell ⟨g, 3, none⟩ (.int .i64 2)).setCell ⟨g, 5, none⟩ (.slice none 0 0) := ⟨_, rfl⟩
  rw [← hW] at HE HR HM
  have HW := hid hW
  clear hW
  have HF := hid (Fresh.lit W #[.int .u8 3, .int .u8 7] 2 [3, 7] (fun q hq => by simp at hq; omega) rfl rfl (by omega) W.heap.size rfl)
  have HR1 := hid (reads_below HR.out HF.out.2.1)
  have HS := hid (show W.heap.size = w.heap.size by rw [HW.out]; simp)
  rw [HS.out] at HF
  rw [HW.out] at HF HR1
  go_wp2_with (first
    | (at_builtin; refine wpList_append_rd rfl _ _ rfl rfl HF.out _ r rfl HR1.out (by simp; omega) ?_; intro x' c' w' hF'; have HF' := hid hF'; clear hF'))
  go_ret
  have hF := HF'.out
  rw [← HW.out] at hF
  exact ⟨_, _, rfl, hF.1, HE.out.step hF.2.1, HM.out.trans (Moved.below hF.2.1 _), (fun k hk => ⟨by rw [← HS.out]; exact hF.2.2 k hk, fun q => by cases q⟩), .inr (fun k q => by cases q)⟩
/-- The device that is asked for. -/
def devT (D : ByteArray) : List Int := if D.size = 0 then [] else 1 :: strL D
theorem eq_empty {D : ByteArray} (h : D.size = 0) : D = ⟨#[]⟩ := by
  obtain ⟨a⟩ := D
  have : a.size = 0 := h
  rw [Array.eq_empty_of_size_eq_zero this]
set_option maxRecDepth 100000 in
set_option maxHeartbeats 2000000 in
theorem askDevice_none (g : Nat) (sv av : Value) (T D : ByteArray) (fs : List Int) (st : Int) (dev : ByteArray) (ag : List Int) (w : World) (h : EndM w g sv av T D fs st dev ag) (hT : T.size ≤ 1000) (hD : D.size ≤ 1000) (hd : D.size = 0) : Calls Try.prog 82 #[.pointer (some ⟨g, 0, none⟩)] w (EDone g sv T D fs 1 ⟨#[]⟩ [] (2 :: 7 :: (strL T ++ devT D)) w) := by
  have H := hid (reset_any g sv av T D fs st dev ag w h)
  have HDV := hid (show devT D = [] from if_pos hd)
  obtain rfl := eq_empty hd
  rw [HDV.out]
  clear h hd HDV
  go_enter Try.func82, Try.ntmps82
  go_wp2_with fail
  with_reducible refine H.out.mono ?_
  rintro e w1 ⟨rfl, hE, hM⟩
  have c3 := hE.c3
  have f3 := hE.fr 3 (by omega)
  have HE1 := hid (hE.set3 1)
  have HM1 := hid (hM.trans (set_moved w1 g 3 (.int .i64 1)))
  have c0 := HE1.out.c0
  have c1 := HE1.out.c1
  clear hE hM H
  obtain ⟨W, hW⟩ : ∃ W, W = w1.setCell ⟨g, 3, none⟩ (.int .i64 1) := ⟨_, rfl⟩
  rw [← hW] at HE1 HM1 c0 c1
  have hgl := HE1.out.lt
  have HW := hid hW
  have HS := hid (show W.heap.size = w1.heap.size by rw [hW]; simp)
  have HF := hid (Fresh.lit W #[.int .u8 2, .int .u8 7] 2 [2, 7] (fun q hq => by simp at hq; omega) rfl rfl (by omega) W.heap.size rfl)
  have hwl := HM1.out.size
  rw [hW] at c0 c1
  clear hW
  rw [HS.out] at HF hgl hwl
  rw [HW.out] at HF
  go_wp2_with (first
    | (at_builtin; refine wpList_append_str rfl _ _ rfl rfl HF.out T rfl (by simp; omega) ?_; intro x' c' w' hF'; have HF' := hid hF'; have c1' := keepc hF'.2.1 c1; clear hF'))
  go_ret
  have hF := HF'.out
  rw [← HW.out] at hF
  rw [List.append_nil]
  exact ⟨_, _, rfl, hF.1, HE1.out.step hF.2.1, HM1.out.trans (Moved.below hF.2.1 _), (fun k hk => ⟨Nat.le_trans (by rw [HS.out]; exact hwl) (hF.2.2 k hk), fun q => by cases q⟩), .inr (fun k q => by cases q)⟩
set_option maxRecDepth 100000 in
set_option maxHeartbeats 2000000 in
theorem askDevice_some (g : Nat) (sv av : Value) (T D : ByteArray) (fs : List Int) (st : Int) (dev : ByteArray) (ag : List Int) (w : World) (h : EndM w g sv av T D fs st dev ag) (hT : T.size ≤ 1000) (hD : D.size ≤ 1000) (hd : D.size ≠ 0) : Calls Try.prog 82 #[.pointer (some ⟨g, 0, none⟩)] w (EDone g sv T D fs 1 ⟨#[]⟩ [] (2 :: 7 :: (strL T ++ devT D)) w) := by
  have H := hid (reset_any g sv av T D fs st dev ag w h)
  have HDV := hid (show devT D = 1 :: strL D from if_neg hd)
  have hd1 : D.toList.isEmpty = false := by
    rw [Lib.toList_data, List.isEmpty_eq_false_iff]
    intro q
    refine hd ?_
    show D.data.size = 0
    rw [← Array.length_toList, q]
    rfl
  rw [HDV.out]
  clear h hd HDV
  go_enter Try.func82, Try.ntmps82
  go_wp2_with fail
  with_reducible refine H.out.mono ?_
  rintro e w1 ⟨rfl, hE, hM⟩
  have c3 := hE.c3
  have f3 := hE.fr 3 (by omega)
  have HE1 := hid (hE.set3 1)
  have HM1 := hid (hM.trans (set_moved w1 g 3 (.int .i64 1)))
  have c0 := HE1.out.c0
  have c1 := HE1.out.c1
  clear hE hM H
  obtain ⟨W, hW⟩ : ∃ W, W = w1.setCell ⟨g, 3, none⟩ (.int .i64 1) := ⟨_, rfl⟩
  rw [← hW] at HE1 HM1 c0 c1
  have hgl := HE1.out.lt
  have HW := hid hW
  have HS := hid (show W.heap.size = w1.heap.size by rw [hW]; simp)
  have HF := hid (Fresh.lit W #[.int .u8 2, .int .u8 7] 2 [2, 7] (fun q hq => by simp at hq; omega) rfl rfl (by omega) W.heap.size rfl)
  have hwl := HM1.out.size
  rw [hW] at c0 c1
  clear hW
  rw [HS.out] at HF hgl hwl
  rw [HW.out] at HF
  go_wp2_with (first
    | (at_builtin; refine wpList_append_str rfl _ _ rfl rfl HF3.out D rfl (by simp [strL_length]; omega) ?_; intro x4 c4 w4 hF4; have HF4 := hid hF4; clear hF4)
    | (at_builtin; refine wpList_append_rd rfl _ _ rfl rfl HF2.out _ [1] rfl HRD.out (by simp [strL_length]; omega) ?_; intro x3 c3' w3 hF3; have c13 := keepc hF3.2.1 c1; have HF3 := hid hF3; clear hF3)
    | (at_builtin; refine wpList_append_str rfl _ _ rfl rfl HF.out T rfl (by simp; omega) ?_; intro x' c' w' hF'; have hgl' : g < w'.heap.size := Nat.lt_of_lt_of_le (by simpa using hgl) hF'.2.1.size; have c1' := keepc hF'.2.1 c1; have HF2 := hid (hF'.step (bal (Below.refl w'.heap.size w') (.cells #[.int .u8 1] 5))); have HRD := hid (own_lit w' #[.int .u8 1] 1 [1] (fun q hq => by simp at hq; omega) rfl rfl (by omega) w'.heap.size rfl).reads; clear hF'))
  go_ret
  have hF := HF4.out
  rw [← HW.out] at hF
  rw [show (([2, 7] : List Int) ++ strL T ++ ([1] : List Int)).length = (strL T).length + 1 + 1 + 1 by simp] at hF
  have e : [2, 7] ++ strL T ++ [1] ++ strL D = 2 :: 7 :: (strL T ++ 1 :: strL D) := by simp
  rw [e] at hF
  exact ⟨_, _, rfl, hF.1, HE1.out.step hF.2.1, HM1.out.trans (Moved.below hF.2.1 _), (fun k hk => ⟨Nat.le_trans (by rw [HS.out]; exact hwl) (hF.2.2 k hk), fun q => by cases q⟩), .inr (fun k q => by cases q)⟩
end Go.Proofs.Ytdpfjbpfafekfaa
