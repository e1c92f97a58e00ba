/-
  Of no space nothing: Range, Repeat, Unprotected; Row's places.
-/
import Derived.Test.YtpehhinpohmpiaaEi
namespace Go.Proofs.Ytpehhinpohmpiaa
open Go.RowKit Go.Lib Go.Deep

theorem collectR_nil (bx by_ : Nat) (n0 : Int) (w : World) (hb : RPn bx by_ n0 w) : Calls Try.prog 25 #[.func (.func 78) #[] #[.pointer (some ⟨bx, 0, none⟩), .pointer (some ⟨by_, 0, none⟩)]] w fun e w' => (∃ x c, e = .returned (.slice x 0 c)) ∧ Below w.heap.size w w' :=
  (collect_any 78 #[.pointer (some ⟨bx, 0, none⟩), .pointer (some ⟨by_, 0, none⟩)] [] (by simp) (RPn bx by_ n0) (enters_of Try.func78 (by kernel_rfl) rfl) (fun V => SeqF.el0 (row_nil_seq 7 (by omega) bx by_ n0 V)) w (fun V hV => ⟨keepc hV hb.1, keepc hV hb.2⟩)).mono fun e w' h => by
    obtain ⟨v, rfl, h1, _, h3⟩ := h
    obtain ⟨y, c, rfl⟩ := row_any h1
    exact ⟨⟨y, c, rfl⟩, h3⟩
set_option maxRecDepth 100000 in
set_option maxHeartbeats 4000000 in
theorem repeat_nil (m : Nat) (hm : 6 ≤ m) (p q : Int) (c : Cel) (w : World) :
    CallsIn Fence.wide m Try.prog 39 #[.pointer none, .int .i64 p, .int .i64 q, c.v] w fun e w' => e = .returned (.int .i64 0) ∧ Below w.heap.size w w' := by
  have HSZ := hid (fun W => (show Calls Try.prog 79 #[.pointer none] W fun e w' => e = .returned (.agg #[.int .i64 0, .int .i64 0]) ∧ Below W.heap.size W w' from size_nil W))
  have HLE := hid (fun V => length_no 0 0 p q rfl V)
  obtain ⟨x0, x1, x2, x3, x4, x5⟩ := c
  refine callsIn_of_wp_marks Try.func39 rfl trivial ?_ rfl
  simp only [Try.ntmps39, List.size_toArray, List.length_cons, List.length_nil, Nat.reduceAdd, Nat.reduceSub, Array.replicate_succ, Array.replicate_zero, List.push_toArray, List.append_toArray, List.nil_append, List.cons_append]
  gi_wp2
  obtain ⟨a0, ha0⟩ : ∃ a0, w.alloc (.cells #[.pointer none] 25) = a0 := ⟨_, rfl⟩
  have hz0 : a0.heap.size = w.heap.size + 1 := by rw [← ha0]; simp
  have hb0 : Below w.heap.size w a0 := by rw [← ha0]; exact bal (Below.refl _ _) _
  have c0 : a0.cell? ⟨w.heap.size, 0, none⟩ = some (.pointer none) := by rw [← ha0]; simp [go_sem]
  obtain ⟨a1, ha1⟩ : ∃ a1, a0.alloc (.cells #[.int .u8 x0, .bool x1, .int .u8 x2, .int .u8 x3, .int .u8 x4, .int .u8 x5] 30) = a1 := ⟨_, rfl⟩
  have hb1 : Below a0.heap.size a0 a1 := by rw [← ha1]; exact bal (Below.refl _ _) _
  have HBL := hid (show Below w.heap.size w a1 from below_t hb0 hb1)
  have HC0 := hid (keepc hb1 c0)
  simp only [ha0, ha1]
  clear hz0 hb0 ha0 ha1 hb1 c0
  refine ⟨trivial, fun _ => (by omega), ?_⟩
  refine (callsIn_wide.2 (HSZ.out _)).mono ?_
  rintro e w1 ⟨rfl, hb1⟩
  have HB1 := hid (below_t HBL.out hb1)
  have HC1 := hid (keepc hb1 HC0.out)
  clear hb1
  gi_wp2
  refine ⟨trivial, fun _ => (by omega), ?_⟩
  refine (callsIn_wide.2 (spanIt 0 0 p q _)).mono ?_
  rintro e w2 ⟨bx, bp, bq, rfl, hbx, hbp, hbq, hrs, hb2⟩
  have HB2 := hid (below_t HB1.out hb2)
  have hlz : w.heap.size ≤ w2.heap.size := HB2.out.size
  have HRR := hid hrs
  have HC2 := hid (keepc hb2 HC1.out)
  clear hb2 hrs
  gi_wp2
  refine rangeFunc_none (n := m) (w := w2) rfl (by omega) (gf := 139) (lb := #[.pointer (some ⟨bx, 0, none⟩), .pointer (some ⟨bp, 0, none⟩), .pointer (some ⟨bq, 0, none⟩)]) rfl trivial (enters_of Try.func139 (by kernel_rfl) rfl)
    (encs := encI) (fun _ => rfl) (R := RSp bx bp bq 0 0 p q) (fun V => RSp bx bp bq 0 0 p q V ∧ Below w.heap.size w V ∧ V.cell? ⟨w.heap.size, 0, none⟩ = some (.pointer none)) (fun A C hg h => ⟨h.1.grow hg, below_grow h.2.1 hg hlz (Nat.le_refl _), cell_grow hg h.2.2⟩) (fun V h => h.1) ⟨HRR.out, HB2.out, HC2.out⟩ (fun V => span_nil_seq (m - 1) (by omega) bx bp bq p q V) ?done
  case done =>
    rintro D V hD hi hK
    have HK := hid hK
    have HI := hid hi
    have ho := hi.2.2
    have hlo := World.block_lt_of_cell? V _ ho
    clear hi hK
    gi_wp2
    refine ⟨trivial, fun _ => (by omega), ?_⟩
    refine (callsIn_wide.2 (HSZ.out _)).mono ?_
    rintro e w3 ⟨rfl, hb3⟩
    have HB3 := hid (below_t HI.out.2.1 hb3)
    have HK3 := hid ((hb3.block _ (Array.getElem?_eq_some_iff.1 HK.out).1).trans HK.out)
    clear hb3 ho hlo
    gi_wp2
    refine ⟨trivial, fun _ => (by omega), ?_⟩
    refine (callsIn_wide.2 (HLE.out _)).mono ?_
    rintro e w4 ⟨rfl, hb4⟩
    have HB4 := hid (below_t HB3.out hb4)
    have HK4 := hid ((hb4.block _ (Array.getElem?_eq_some_iff.1 HK3.out).1).trans HK3.out)
    clear hb4
    gi_wp2
    refine ⟨by simp, .inl ⟨_, _, rfl, run_takeDeferred HK4.out, ?_⟩⟩
    have hg := Grow.put (m := w2.heap.size) (.deferred none) hD HK4.out rfl
    exact ⟨.int .i64 0, by simp [results, Try.results39, go_sem], rfl, below_grow HB4.out hg hlz (Nat.le_refl _)⟩
set_option maxRecDepth 100000 in
set_option maxHeartbeats 4000000 in
theorem range_nil (m : Nat) (hm : 6 ≤ m) (p q : Int) (w : World) :
    CallsIn Fence.wide m Try.prog 38 #[.pointer none, .int .i64 p, .int .i64 q] w fun e w' => (∃ v, e = .returned v) ∧ Below w.heap.size w w' := by
  have HSZ := hid (fun W => (show Calls Try.prog 79 #[.pointer none] W fun e w' => e = .returned (.agg #[.int .i64 0, .int .i64 0]) ∧ Below W.heap.size W w' from size_nil W))
  have HOF := hid (fun V => fof_nil p V)
  refine callsIn_of_wp_marks Try.func38 rfl trivial ?_ rfl
  simp only [Try.ntmps38, List.size_toArray, List.length_cons, List.length_nil, Nat.reduceAdd, Nat.reduceSub, Array.replicate_succ, Array.replicate_zero, List.push_toArray, List.append_toArray, List.nil_append, List.cons_append]
  gi_wp2
  obtain ⟨a0, ha0⟩ : ∃ a0, w.alloc (.cells #[.pointer none] 25) = a0 := ⟨_, rfl⟩
  have hb0 : Below w.heap.size w a0 := by rw [← ha0]; exact bal (Below.refl _ _) _
  have c0 : a0.cell? ⟨w.heap.size, 0, none⟩ = some (.pointer none) := by rw [← ha0]; simp [go_sem]
  have HBL := hid (show Below w.heap.size w a0 from hb0)
  have HC0 := hid c0
  simp only [ha0]
  clear hb0 ha0 c0
  refine ⟨trivial, fun _ => (by omega), ?_⟩
  refine (callsIn_wide.2 (HOF.out _)).mono ?_
  rintro e w0 ⟨rfl, hb0⟩
  have HB0 := hid (below_t HBL.out hb0)
  have cc := keepc hb0 HC0.out
  have lc := World.block_lt_of_cell? w0 _ cc
  clear hb0
  gi_wp2
  obtain ⟨a1, ha1⟩ : ∃ a1, w0.alloc (.cells #[.bool false, .bool false, .int .i64 0, .bool false] 117) = a1 := ⟨_, rfl⟩
  have hb1 : Below w0.heap.size w0 a1 := by rw [← ha1]; exact bal (Below.refl _ _) _
  have HBM := hid (below_t HB0.out hb1)
  have HCM := hid (keepc hb1 cc)
  simp only [ha1]
  clear ha1 hb1 cc lc HB0 HBL
  refine ⟨trivial, fun _ => (by omega), ?_⟩
  refine (callsIn_wide.2 (HSZ.out _)).mono ?_
  rintro e w1 ⟨rfl, hb1⟩
  have HB1 := hid (below_t HBM.out hb1)
  have HC1 := hid (keepc hb1 HCM.out)
  clear hb1
  gi_wp2
  refine ⟨trivial, fun _ => (by omega), ?_⟩
  refine (callsIn_wide.2 (spanIt 0 0 p q _)).mono ?_
  rintro e w2 ⟨bx, bp, bq, rfl, hbx, hbp, hbq, hrs, hb2⟩
  have HB2 := hid (below_t HB1.out hb2)
  have hlz : w.heap.size ≤ w2.heap.size := HB2.out.size
  have HRR := hid hrs
  have HC2 := hid (keepc hb2 HC1.out)
  clear hb2 hrs
  gi_wp2
  refine rangeFunc_none (n := m) (w := w2) rfl (by omega) (gf := 139) (lb := #[.pointer (some ⟨bx, 0, none⟩), .pointer (some ⟨bp, 0, none⟩), .pointer (some ⟨bq, 0, none⟩)]) rfl trivial (enters_of Try.func139 (by kernel_rfl) rfl)
    (encs := encI) (fun _ => rfl) (R := RSp bx bp bq 0 0 p q) (fun V => RSp bx bp bq 0 0 p q V ∧ Below w.heap.size w V ∧ V.cell? ⟨w.heap.size, 0, none⟩ = some (.pointer none)) (fun A C hg h => ⟨h.1.grow hg, below_grow h.2.1 hg hlz (Nat.le_refl _), cell_grow hg h.2.2⟩) (fun V h => h.1) ⟨HRR.out, HB2.out, HC2.out⟩ (fun V => span_nil_seq (m - 1) (by omega) bx bp bq p q V) ?done
  case done =>
    rintro D V hD hi hK
    have HK := hid hK
    have HI := hid hi
    clear hi hK
    gi_wp2
    refine ⟨by simp, .inl ⟨_, _, rfl, run_takeDeferred HK.out, ?_⟩⟩
    have hg := Grow.put (m := w2.heap.size) (.deferred none) hD HK.out rfl
    exact ⟨_, results_none rfl _ _ _, ⟨_, rfl⟩, below_grow HI.out.2.1 hg hlz (Nat.le_refl _)⟩
set_option maxRecDepth 100000 in
set_option maxHeartbeats 4000000 in
theorem unmodify_nil (m : Nat) (hm : 8 ≤ m) (w : World) :
    CallsIn Fence.wide m Try.prog 93 #[.pointer none] w fun e w' => (∃ v, e = .returned v) ∧ Below w.heap.size w w' := by
  refine callsIn_of_wp_marks Try.func93 rfl trivial ?_ rfl
  simp only [Try.ntmps93, List.size_toArray, List.length_cons, List.length_nil, Nat.reduceAdd, Nat.reduceSub, Array.replicate_succ, Array.replicate_zero, List.push_toArray, List.append_toArray, List.nil_append, List.cons_append]
  gi_wp2
  obtain ⟨a0, ha0⟩ : ∃ a0, w.alloc (.cells #[.pointer none] 25) = a0 := ⟨_, rfl⟩
  have hz0 : a0.heap.size = w.heap.size + 1 := by rw [← ha0]; simp
  have hb0 : Below w.heap.size w a0 := by rw [← ha0]; exact bal (Below.refl _ _) _
  have c0 : a0.cell? ⟨w.heap.size, 0, none⟩ = some (.pointer none) := by rw [← ha0]; simp [go_sem]
  obtain ⟨a1, ha1⟩ : ∃ a1, a0.alloc (.cells #[.slice none 0 0] 37) = a1 := ⟨_, rfl⟩
  have hb1 : Below a0.heap.size a0 a1 := by rw [← ha1]; exact bal (Below.refl _ _) _
  have oc : a1.cell? ⟨w.heap.size + 1, 0, none⟩ = some (.slice none 0 0) := by rw [← ha1, ← hz0]; simp [go_sem]
  have HBL := hid (show Below w.heap.size w a1 from below_t hb0 hb1)
  have HC0 := hid (And.intro (keepc hb1 c0) oc)
  simp only [ha0, ha1]
  clear hz0 hb0 ha0 ha1 hb1 c0 oc
  refine ⟨trivial, fun _ => (by omega), ?_⟩
  refine (callsIn_wide.2 (modifiedIt none _)).mono ?_
  rintro e w1 ⟨bx, rfl, hbx, hcx, hb1⟩
  have HB1 := hid (below_t HBL.out hb1)
  have hlz : w.heap.size ≤ w1.heap.size := HB1.out.size
  have HRR := hid (show RN bx w1 from hcx)
  have HC1 := hid (And.intro (keepc hb1 HC0.out.1) (keepc hb1 HC0.out.2))
  clear hb1 hcx
  gi_wp2
  refine rangeFunc_none (n := m) (w := w1) rfl (by omega) (gf := 91) (lb := #[.pointer (some ⟨bx, 0, none⟩)]) rfl trivial (enters_of Try.func91 (by kernel_rfl) rfl)
    (encs := encI) (fun _ => rfl) (R := RN bx) (fun V => RN bx V ∧ Below w.heap.size w V ∧ V.cell? ⟨w.heap.size, 0, none⟩ = some (.pointer none) ∧ V.cell? ⟨w.heap.size + 1, 0, none⟩ = some (.slice none 0 0)) (fun A C hg h => ⟨cell_grow hg h.1, below_grow h.2.1 hg hlz (Nat.le_refl _), cell_grow hg h.2.2.1, cell_grow hg h.2.2.2⟩) (fun V h => h.1) ⟨HRR.out, HB1.out, HC1.out⟩ (fun V => modified_nil_seq (m - 1) (by omega) bx V) ?done
  case done =>
    rintro D V hD hi hK
    have HK := hid hK
    have HI := hid hi
    have ho := hi.2.2.1
    have hlo := World.block_lt_of_cell? V _ ho
    clear hi hK
    gi_wp2
    refine ⟨trivial, fun _ => (by omega), ?_⟩
    refine (unmod_nil (m - 1) (by omega) _).mono ?_
    rintro e w3 ⟨⟨v3, rfl⟩, hb3⟩
    have HB3 := hid (below_t HI.out.2.1 hb3)
    have HK3 := hid ((hb3.block _ (Array.getElem?_eq_some_iff.1 HK.out).1).trans HK.out)
    have cc := keepc hb3 HI.out.2.2.2
    have lc := World.block_lt_of_cell? w3 _ cc
    clear hb3 ho hlo HI HK
    gi_wp2
    gi_loopw [27] (fun v wr => v = .int .i64 0 ∧ Hid (wr = w3)) (fun v _ => 0)
    case atStart => exact ⟨rfl, rfl⟩
    case round =>
      obtain ⟨rfl, rfl⟩ := hrel
      gi_wp2
      refine ⟨by simp, .inl ⟨_, _, rfl, run_takeDeferred HK3.out, ?_⟩⟩
      have hg := Grow.put (m := w1.heap.size) (.deferred none) hD HK3.out rfl
      exact ⟨_, results_none rfl _ _ _, ⟨_, rfl⟩, below_grow HB3.out hg hlz (Nat.le_refl _)⟩
set_option maxRecDepth 100000 in
set_option maxHeartbeats 4000000 in
theorem unprotected_nil (w : World) : Calls Try.prog 37 #[.pointer none] w fun e w' => (∃ v, e = .returned v) ∧ Below w.heap.size w w' := by
  have HSZ := hid (fun W => (show Calls Try.prog 79 #[.pointer none] W fun e w' => e = .returned (.agg #[.int .i64 0, .int .i64 0]) ∧ Below W.heap.size W w' from size_nil W))
  have HCL := hid (fun W => cells_no 0 0 rfl W)
  have HRA := hid (fun W => callsIn_wide.1 (range_nil 8 (by omega) 0 0 W))
  have HUN := hid (fun W => callsIn_wide.1 (unmodify_nil 8 (by omega) W))
  have HNX := hid (fun W => next_nil (-1) W)
  have HPL := hid (fun W => place_nil (max (-1) 0) W)
  go_enter Try.func37, Try.ntmps37
  go_wp2_with fail
  with_reducible refine (HRA.out _).mono ?_
  rintro e w1 ⟨⟨v1, rfl⟩, hb⟩
  have HB1 := hid hb
  clear hb
  go_wp2_with fail
  with_reducible refine (HUN.out _).mono ?_
  rintro e w2 ⟨⟨v2, rfl⟩, hb⟩
  have HB2 := hid (below_t HB1.out hb)
  clear hb
  go_wp2_with fail
  with_reducible refine (HSZ.out _).mono ?_
  rintro e w3 ⟨rfl, hb⟩
  have HB3 := hid (below_t HB2.out hb)
  clear hb
  go_wp2_with fail
  with_reducible refine (HCL.out _).mono ?_
  rintro e w4 ⟨rfl, hb⟩
  have HB4 := hid (below_t HB3.out hb)
  clear hb
  go_wp2_with fail
  with_reducible refine (HNX.out _).mono ?_
  rintro e w5 ⟨rfl, hb⟩
  have HB5 := hid (below_t HB4.out hb)
  clear hb
  go_wp2_with fail
  with_reducible refine (HPL.out _).mono ?_
  rintro e w6 ⟨⟨v6, rfl⟩, hb⟩
  have HB6 := hid (below_t HB5.out hb)
  clear hb
  go_wp2
  go_end0
  exact ⟨⟨_, rfl⟩, HB6.out⟩
end Go.Proofs.Ytpehhinpohmpiaa
