/-
  Counters read: where a name stands; are two lists alike. Names, few and cut.
-/
import Derived.Test.YtadoiplfglaonabRowc
namespace Go.Proofs.Ytadoiplfglaonab
open Go.RowKit Go.Shelf Go.Deep Go.Lib

/-- Counters that are read. -/
def CRead (w : World) (v : Value) (ts : List (List UInt8)) (cs : List Int) : Prop :=
  ∃ (o : Option Addr) (cap : Nat), v = .slice o ts.length cap ∧ ts.length ≤ 64 ∧ ∀ i, i < ts.length → ∃ g, o = some ⟨g, 0, none⟩ ∧ w.cell? ⟨g, i * 2, none⟩ = some (encStr (ts.getD i [])) ∧ w.cell? ⟨g, i * 2 + 1, none⟩ = some (.int .u64 (cs.getD i 0))
theorem RefIn.read {w : World} {B : Nat} {v : Value} {ts : List (List UInt8)} {cs : List Int} (h : RefIn w B v ts cs) (hf : ts.length ≤ 64) : CRead w v ts cs := by
  rcases h.shape with ⟨rfl, h0⟩ | ⟨g, cap, rfl, _⟩
  · exact ⟨none, 0, by rw [h0], hf, fun i hi => by omega⟩
  · exact ⟨_, cap, rfl, hf, fun i hi => ⟨g, rfl, (h.cells hi).1, (h.cells hi).2.1⟩⟩
theorem CRead.grown {w w' : World} {v : Value} {ts : List (List UInt8)} {cs : List Int} (h : CRead w v ts cs) (hg : w.grownBy w' none) : CRead w' v ts cs := by
  obtain ⟨o, cap, rfl, hf, hc⟩ := h
  refine ⟨o, cap, rfl, hf, fun i hi => ?_⟩
  obtain ⟨g, rfl, c0, c1⟩ := hc i hi
  have hl := World.block_lt_of_cell? w _ c0
  have hb := hg.block g hl (by simp)
  exact ⟨g, rfl, (World.cell?_of_block hb).trans c0, (World.cell?_of_block hb).trans c1⟩
theorem grown_tr {a b c : World} (h : a.grownBy b none) (k : b.grownBy c none) : a.grownBy c none :=
  ⟨k.os.trans h.os, k.tape.trans h.tape, k.output.trans h.output, Nat.le_trans h.size k.size, fun i hi hn => (k.block i (Nat.lt_of_lt_of_le hi h.size) hn).trans (h.block i hi hn)⟩
/-- What Find says. -/
def FindPost (ts : List (List UInt8)) (x : ByteArray) (w : World) (e : Ending) (w' : World) : Prop :=
  w.grownBy w' none ∧ ((∃ j, j < ts.length ∧ ts.getD j [] = x.data.toList ∧ e = .returned (.int .i64 j)) ∨ (x.data.toList ∉ ts ∧ e = .returned (.int .i64 (-1))))
theorem notin_of {ts : List (List UInt8)} {x : List UInt8} (h : ∀ i, i < ts.length → ts.getD i [] ≠ x) : x ∉ ts := by
  intro hm
  obtain ⟨i, hi, e⟩ := List.getElem_of_mem hm
  exact h i hi (by simp [List.getD, List.getElem?_eq_getElem hi, e])
set_option maxRecDepth 100000 in
set_option maxHeartbeats 1000000 in
theorem find_any (v : Value) (ts : List (List UInt8)) (cs : List Int) (x : ByteArray) (w : World) (h : CRead w v ts cs) : Calls Try.prog 13 #[v, .string x] w (FindPost ts x w) := by
  have H := hid h
  obtain ⟨o, cap, rfl, hf, hc⟩ := h
  have HC := hid hc
  clear hc
  obtain ⟨n, hn⟩ : ∃ n, n = ts.length := ⟨_, rfl⟩
  have HN := hid hn
  rw [← hn] at hf ⊢
  clear hn
  go_enter Try.func13, Try.ntmps13
  go_wp2
  go_loopw [9] (fun i wr => ∃ k : Nat, k ≤ n ∧ i = .int .i64 k ∧ Hid (∀ i, i < k → ts.getD i [] ≠ x.data.toList) ∧ Hid (w.grownBy wr none)) (fun i _ => n - (intOf i).toNat)
  case atStart => exact ⟨0, Nat.zero_le _, rfl, fun i hi => absurd hi (Nat.not_lt_zero i), ⟨rfl, rfl, rfl, Nat.le_refl _, fun _ _ _ => rfl⟩⟩
  case round =>
    obtain ⟨k, hk, rfl, HNO, HG⟩ := hrel
    by_cases hlt : k < n
    · obtain ⟨g, rfl, c0, c1⟩ := HC.out k (by rw [← HN.out]; exact hlt)
      have hl := World.block_lt_of_cell? w _ c0
      have hb := HG.out.block g hl (by simp)
      have c0' := (World.cell?_of_block (a := ⟨g, k * 2, none⟩) hb).trans c0
      have c1' := (World.cell?_of_block (a := ⟨g, k * 2 + 1, none⟩) hb).trans c1
      have hgl : g < wr.heap.size := World.block_lt_of_cell? wr _ c0'
      clear c0 c1 hl hb
      obtain ⟨y, hy⟩ : ∃ y, y = ts.getD k [] := ⟨_, rfl⟩
      obtain ⟨c, hcc⟩ : ∃ c, c = cs.getD k 0 := ⟨_, rfl⟩
      rw [← hy] at c0'
      rw [← hcc] at c1'
      have HY := hid hy
      clear hy hcc
      go_wp2
      · have hxy : (y == x.toList) = true := by assumption
        go_ret
        refine ⟨grown_tr HG.out (World.grownBy_alloc _ _ none), .inl ⟨k, by rw [← HN.out]; exact hlt, ?_, rfl⟩⟩
        rw [← HY.out]
        rw [← ByteArray.toList_eq]
        simpa using hxy
      · have hxy : (y == x.toList) = false := by assumption
        go_roundw
        case rel =>
          refine ⟨k + 1, by omega, by go_num, fun i hi => ?_, grown_tr HG.out (World.grownBy_alloc _ _ none)⟩
          rcases Nat.lt_succ_iff_lt_or_eq.1 hi with h | rfl
          · exact HNO.out i h
          · rw [← HY.out, ← ByteArray.toList_eq]
            simpa using hxy
        case measure => simp [intOf]; omega
    · have hkn : k = n := by omega
      subst hkn
      go_wp2
      go_ret
      exact ⟨HG.out, .inr ⟨notin_of (fun i hi => HNO.out i (by rw [HN.out]; exact hi)), rfl⟩⟩

set_option maxRecDepth 100000 in
set_option maxHeartbeats 1000000 in
theorem same_true (a b : Value) (ts : List (List UInt8)) (cs : List Int) (w : World) (ha : CRead w a ts cs) (hb : CRead w b ts cs) : Calls Try.prog 11 #[a, b] w fun e w' => e = .returned (.bool true) ∧ ∃ q, w' = w.drewN q := by
  obtain ⟨o, cap, rfl, hf, hc⟩ := ha
  obtain ⟨o2, cap2, rfl, _, hd⟩ := hb
  have HC := hid hc
  have HD := hid hd
  clear hc hd
  obtain ⟨n, hn⟩ : ∃ n, n = ts.length := ⟨_, rfl⟩
  have HN := hid hn
  rw [← hn] at hf ⊢
  clear hn
  go_enter Try.func11, Try.ntmps11
  go_wp2
  go_loopw [13] (fun i wr => ∃ k : Nat, k ≤ n ∧ i = .int .i64 k ∧ Hid (∃ q, wr = w.drewN q)) (fun i _ => n - (intOf i).toNat)
  case atStart => exact ⟨0, Nat.zero_le _, rfl, ⟨0, rfl⟩⟩
  case round =>
    obtain ⟨k, hk, rfl, HG⟩ := hrel
    by_cases hlt : k < n
    · obtain ⟨g, rfl, c0, c1⟩ := HC.out k (by rw [← HN.out]; exact hlt)
      obtain ⟨g2, rfl, d0, d1⟩ := HD.out k (by rw [← HN.out]; exact hlt)
      obtain ⟨q, hq⟩ := HG.out
      subst hq
      obtain ⟨y, hy⟩ : ∃ y, y = ts.getD k [] := ⟨_, rfl⟩
      obtain ⟨c, hcc⟩ : ∃ c, c = cs.getD k 0 := ⟨_, rfl⟩
      rw [← hy] at c0 d0
      rw [← hcc] at c1 d1
      clear hy hcc
      go_wp2
      go_quiet (fail)
      go_wp2
      go_roundw
      case rel => exact ⟨k + 1, by omega, by go_num, ⟨_, rfl⟩⟩
      case measure => simp [intOf]; omega
    · have hkn : k = n := by omega
      subst hkn
      go_wp2
      go_ret
      exact ⟨rfl, HG.out⟩

section
variable {B t : Nat} {vn : Value} {g : Nat} {ts : List (List UInt8)} {cs : List Int}
theorem set_zero (cs : List Int) (k : Nat) (h : k < cs.length) : (List.replicate k (0 : Int) ++ cs.drop k).set k 0 = List.replicate (k + 1) 0 ++ cs.drop (k + 1) := by
  rw [List.set_append_right _ _ (by simp), List.drop_eq_getElem_cons h, List.replicate_succ', List.append_assoc]
  simp only [List.length_replicate, Nat.sub_self, List.set_cons_zero, List.singleton_append]
set_option maxRecDepth 100000 in
set_option maxHeartbeats 1000000 in
theorem reset_g (w : World) (hT : TallyIn w B t vn g ts cs) : Calls Try.prog 16 #[.pointer (some ⟨t, 0, none⟩)] w (DoneG (.tuple #[]) B t vn g ts (List.replicate ts.length 0) w) := by
  have hcl : cs.length = ts.length := hT.size
  have hf := hT.few
  have h1 := hT.cell1
  have HT := hid hT
  clear hT
  obtain ⟨n, hn⟩ : ∃ n, n = ts.length := ⟨_, rfl⟩
  rw [← hn] at hcl hf h1 ⊢
  have HN := hid hn
  have HCL := hid hcl
  clear hn hcl
  go_enter Try.func16, Try.ntmps16
  go_wp2
  go_loopw [10] (fun i wr => ∃ k : Nat, k ≤ n ∧ i = .int .i64 k ∧ Hid (TallyIn wr B t vn g ts (List.replicate k 0 ++ cs.drop k)) ∧ Hid (w.grownBy wr (some g))) (fun i _ => n - (intOf i).toNat)
  case atStart => exact ⟨0, Nat.zero_le _, rfl, by simpa using HT, ⟨rfl, rfl, rfl, Nat.le_refl _, fun _ _ _ => rfl⟩⟩
  case round =>
    obtain ⟨k, hk, rfl, HTK, HG⟩ := hrel
    by_cases hlt : k < n
    · have d1 := HTK.out.cell1
      rw [← HN.out] at d1
      obtain ⟨e1, e2⟩ := HTK.out.count (j := k) (by rw [← HN.out]; exact hlt)
      obtain ⟨c, hcc⟩ : ∃ c, c = (List.replicate k (0 : Int) ++ cs.drop k).getD k 0 := ⟨_, rfl⟩
      rw [← hcc] at e1
      clear hcc
      go_wp2_with (go_at_call 26; refine (atomic_store _ c 0 _ e1 e2).mono ?_; rintro e w' ⟨rfl, rfl⟩)
      go_roundw
      case rel =>
        refine ⟨k + 1, by omega, by go_num, ?_, ?_⟩
        · have := HTK.out.put k 0
          rw [set_zero cs k (by rw [HCL.out]; exact hlt)] at this
          exact this
        · have h2 := grown_put wr 0 g k (.int .u64 0)
          exact ⟨h2.os.trans HG.out.os, h2.tape.trans HG.out.tape, h2.output.trans HG.out.output, Nat.le_trans HG.out.size h2.size, fun i hi hne => (h2.block i (Nat.lt_of_lt_of_le hi HG.out.size) hne).trans (HG.out.block i hi hne)⟩
      case measure => simp [intOf]; omega
    · have hkn : k = n := by omega
      subst hkn
      go_wp2
      first | go_end0 | refine bodyPost_ret (results_none rfl _ _ _) rfl ?_
      refine ⟨rfl, ?_, HG.out⟩
      have := HTK.out
      rwa [List.drop_eq_nil_of_le (by rw [HCL.out]; exact Nat.le_refl _), List.append_nil] at this
end

/-- Names that came in, or lie in memory. -/
def SRead (w : World) (v : Value) (zs : List ByteArray) : Prop :=
  ∃ (o : Option Addr) (cap : Nat), v = .slice o zs.length cap ∧ zs.length ≤ maxLen ∧ ∀ i, i < zs.length → ∃ g off, o = some ⟨g, off, none⟩ ∧ w.cell? ⟨g, off + i, none⟩ = some (.string (zs.getD i ByteArray.empty)) ∧ (zs.getD i ByteArray.empty).size ≤ maxLen
/-- The names that are taken. -/
def fewL (zs : List ByteArray) : List ByteArray := (zs.take 70).map cutS
def FewPost (zs : List ByteArray) (w : World) (e : Ending) (w' : World) : Prop := ∃ v, e = .returned v ∧ w'.ownsRow w.heap.size 9 1 v (fewL zs).length ((fewL zs).map Value.string) ∧ Below w.heap.size w w'
theorem info9 : (Try.prog.info? 9).map (fun i => (i.zero, i.size, i.bytes)) = some (some (.string ByteArray.empty), 1, 16) := by kernel_rfl
theorem few_step (zs : List ByteArray) (k : Nat) (h : k < zs.length) (h7 : k < 70) : (fewL (zs.take (k + 1))).map Value.string = (fewL (zs.take k)).map Value.string ++ [.string (cutS (zs.getD k ByteArray.empty))] ∧ (fewL (zs.take (k + 1))).length = k + 1 ∧ (fewL (zs.take k)).length = k := by
  refine ⟨?_, by simp [fewL]; omega, by simp [fewL]; omega⟩
  unfold fewL
  rw [List.take_take, List.take_take, Nat.min_eq_right (by omega), Nat.min_eq_right (by omega), List.take_succ_eq_append_getElem h, List.map_append, List.map_append]
  simp only [List.map_cons, List.map_nil, List.getD, List.getElem?_eq_getElem h, Option.getD_some]
theorem few_stay (zs : List ByteArray) (k : Nat) (h7 : ¬ k < 70) : fewL (zs.take (k + 1)) = fewL (zs.take k) := by
  unfold fewL
  rw [List.take_take, List.take_take, Nat.min_eq_left (by omega), Nat.min_eq_left (by omega)]
end Go.Proofs.Ytadoiplfglaonab
