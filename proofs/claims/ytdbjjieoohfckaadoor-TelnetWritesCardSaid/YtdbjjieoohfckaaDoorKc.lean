/-
  bytes.Replace, all, where each 255 becomes two.
-/
import Derived.Test.YtdbjjieoohfckaaDoorKb
import Derived.Laws.CopyOwn
import Derived.Deep.RegionHeld3
import Derived.Deep.RegionLaw
namespace Go.Proofs.YtdbjjieoohfckaaDoor
open Go.RowKit Go.Lib Go.Deep Go.Shelf

/-- Bytes that are a slice's, whoever owns it. -/
def EscDone (xs : List Int) (w : World) (e : Ending) (w' : World) : Prop := ∃ v, e = .returned v ∧ Reads w' v (escI xs) ∧ Below w.heap.size w w'
theorem row_reads {w : World} {B : Nat} {v : Value} {xs : List Int} (h : w.ownsRow B 5 1 v xs.length (xs.map (Value.int .u8))) (hb : ∀ x ∈ xs, 0 ≤ x ∧ x < 256) : Reads w v xs :=
  OwnB.reads ⟨hb, ⟨h.1, h.2.imp id fun ⟨g, cap, cur, h1, _, h3⟩ => ⟨g, cap, cur, h1, Nat.zero_le _, h3⟩⟩⟩
theorem row_anyK {w : World} {base : Nat} {e : TypeId} {size n : Nat} {v : Value} {xs : List Value} (h : w.ownsRow base e size v n xs) : ∃ y cap, v = .slice y n cap := by
  rcases h.2 with ⟨rfl, h0⟩ | ⟨g, cap, cur, rfl, _⟩
  · exact ⟨none, 0, by rw [h0]⟩
  · exact ⟨_, cap, rfl⟩
/-- The new row begins so. -/
def Filled (w : World) (g T : Nat) (l : List Int) : Prop := ∃ zs : List Int, (l ++ zs).length = T ∧ w.heap[g]? = some (.cells ((l ++ zs).map (Value.int .u8)).toArray 5 (0, 0))
theorem splice_fill {l zs cs : List Int} : splice ((l ++ zs).map (Value.int .u8)) l.length (cs.map (Value.int .u8)) = ((l ++ cs) ++ zs.drop cs.length).map (Value.int .u8) := by
  unfold splice
  rw [← List.map_take, ← List.map_drop, ← List.map_append, ← List.map_append, List.length_map]
  congr 1
  rw [List.take_append, List.take_length, Nat.sub_self, List.take_zero, List.append_nil, List.drop_append, Nat.add_sub_cancel_left, List.drop_eq_nil_of_le (by omega : l.length ≤ l.length + cs.length), List.nil_append, List.append_assoc]
theorem filled_splice {w : World} {g T : Nat} {l zs cs : List Int} (hz : (l ++ zs).length = T) (hc : cs.length ≤ zs.length) (hw : w.heap[g]? = some (.cells (splice ((l ++ zs).map (Value.int .u8)) l.length (cs.map (Value.int .u8))).toArray 5 (0, 0))) : Filled w g T (l ++ cs) := by
  rw [splice_fill] at hw
  refine ⟨zs.drop cs.length, ?_, hw⟩
  simp only [List.length_append, List.length_drop] at hz ⊢
  omega
theorem size5 : (Tryd.prog.info? 5).map (·.size) = some 1 := by kernel_rfl
theorem ints_one (l : List Int) : ∀ v ∈ l.map (Value.int .u8), v.oneCell' = true := by
  intro v hv
  obtain ⟨x, _, rfl⟩ := List.mem_map.1 hv
  rfl

section
variable {P : Program} {ops : Array Oper} {Q : Exit → Act → World → Prop} {md : Region.Mode} {S : World → Prop}
/-- An operation is taken first: its slot is written. -/
theorem takeD {i : Nat} {oi : Oper} {v : Value} (d : Tmp) {fuel : Nat} {listed : Array Bool} {ts : Array Value} {ds : List Deferred} {w : World} (hi : ops[i]? = some oi) (hd : oi.dst = some d)
    (hs : Region.noSelect ops = true) (hf : Region.free md ops listed i = true) (hr : (Region.ready md ops listed).contains i = true)
    (hQ : ∀ c a w, Q (.panic c) (a.put oi.dst v) w → Q (.panic c) a w) (hS : S w) (hy : YieldsIf P ops S oi v ⟨ts, ds⟩)
    (h : wpAnyH P md ops Q S fuel (listed.setIfInBounds i true) ⟨ts.setIfInBounds d v, ds⟩ w) : wpAnyH P md ops Q S (fuel + 1) listed ⟨ts, ds⟩ w :=
  wpAnyH_take hi hs hf hr hQ hy hS (by rw [hd]; exact h)
end
set_option maxRecDepth 100000 in
set_option maxHeartbeats 4000000 in
theorem replace_none (a : Addr) (n c g2 g3 : Nat) (xs : List Int) (w : World) (hr : Reads w (.slice (some a) n c) xs) (hn : n ≤ 1000000) (h2 : w.cell? ⟨g2, 0, none⟩ = some (.int .u8 255)) (h0 : xs.count 255 = 0) :
    Calls Tryd.prog 27 #[.slice (some a) n c, .slice (some ⟨g2, 0, none⟩) 1 1, .slice (some ⟨g3, 0, none⟩) 2 2, .int .i64 (-1)] w (EscDone xs w) := by
  obtain ⟨i0, hi, hz0, hz1, hz2⟩ := info_parts info5
  obtain ⟨hnx, hcs⟩ := reads_src hr
  have hcell : ∀ i, i < n → w.cell? (a.add i) = some (.int .u8 (xs.getD i 0)) := fun i hi => hcs i _ (by simp [List.getD, List.getElem?_eq_getElem (show i < xs.length by omega)])
  have HCA := hid (count_any a n c g2 1 xs w hnx.symm hr.1 hcell h2)
  rw [h0] at HCA
  have HR := hid hr
  have HCS := hid hcs
  have HNX := hid hnx
  have HE := hid (escI_no (List.count_eq_zero.1 h0))
  have HB0 : Hid (w.heap.size ≤ w.heap.size) := Nat.le_refl _
  clear hr hcs hcell h0 hnx
  go_enter Tryd.func27, Tryd.ntmps27
  go_wp2_with (first
    | (go_at_call 31; refine HCA.out.mono ?_; rintro e w' ⟨rfl, rfl⟩)
    | (at_builtin; refine wpList_append_own _ rfl _ _ 24 rfl w.heap.size 5 i0 (.int .u8 0) 1 1 Tryd.underlying24 hi hz0 hz1 hz2 rfl (by decide) (.slice none 0 0) 0 [] rfl (World.ownsRow_nil _ _ _ _) a n c (xs.map (Value.int .u8)) rfl (by rw [List.length_map, HNX.out]; omega) HCS.out (ints_one xs) (by unfold maxLen; omega) (by omega) (by simp) ?_; intro v3 w3 hown3 hgrow3 hnil3; have HO3 := hid hown3; have HG3 := hid hgrow3; obtain ⟨y3, c3, rfl⟩ := row_anyK hown3; clear hown3 hgrow3 hnil3)
    | fail)
  have q := HO3.out
  rw [Nat.zero_add, List.nil_append] at q
  have HQ : Hid (Reads w3 (.slice y3 n c3) (escI xs)) := by
    rw [HE.out]
    exact row_reads (by rw [← HNX.out]; exact q) HR.out.1
  clear q
  go_ret
  exact ⟨_, rfl, HQ.out, (Below.refl _ _).grown HG3.out (Nat.le_refl _) (fun k e => by cases e)⟩
set_option maxRecDepth 100000 in
set_option maxHeartbeats 4000000 in
theorem replace_some (g0 off0 n c g2 g3 : Nat) (xs : List Int) (w : World) (hr : Reads w (.slice (some ⟨g0, off0, none⟩) n c) xs) (hn : n ≤ 1000000) (h2 : w.cell? ⟨g2, 0, none⟩ = some (.int .u8 255)) (h3 : w.cell? ⟨g3, 0, none⟩ = some (.int .u8 255)) (h4 : w.cell? ⟨g3, 1, none⟩ = some (.int .u8 255)) (m : Nat) (hm : xs.count 255 = m) (hm0 : 0 < m) :
    Calls Tryd.prog 27 #[.slice (some ⟨g0, off0, none⟩) n c, .slice (some ⟨g2, 0, none⟩) 1 1, .slice (some ⟨g3, 0, none⟩) 2 2, .int .i64 (-1)] w (EscDone xs w) := by
  obtain ⟨i0, hi, hz0, hz1, hz2⟩ := info_parts info5
  obtain ⟨hnx, hcs⟩ := reads_src hr
  have hcell : ∀ i, i < n → w.cell? ⟨g0, off0 + i, none⟩ = some (.int .u8 (xs.getD i 0)) := fun i hi => by
    have := hcs i (.int .u8 (xs.getD i 0)) (by simp [List.getD, List.getElem?_eq_getElem (show i < xs.length by omega)])
    rwa [addr_add] at this
  have hmn : m ≤ n := by rw [← hm, hnx]; exact List.count_le_length
  have hnc : n ≤ c := by
    rcases hr.2 with ⟨h, _⟩ | ⟨a, cap, h, h1, h2, _⟩
    · cases h
    · simp only [Value.slice.injEq] at h
      omega
  have HCA := hid (count_any ⟨g0, off0, none⟩ n c g2 1 xs w hnx.symm hr.1 (fun i hi => by rw [addr_add]; exact hcell i hi) h2)
  rw [hm] at HCA
  have HR := hid hr
  have HNX := hid hnx
  have HM := hid hm
  have HC := hid hcell
  have H2 := hid h2
  have H3 := hid (And.intro h3 h4)
  clear hr hcs hcell hnx hm h2 h3 h4
  have hmt : ¬ (m : Int) = 0 := by omega
  have hmf : ((m : Int) == 0) = false := by simp; omega
  go_enter Tryd.func27, Tryd.ntmps27
  go_wp2_with (first
    | (go_at_call 31; refine HCA.out.mono ?_; rintro e w' ⟨rfl, rfl⟩)
    | (at_make; refine wpList_make_full _ rfl _ _ 24 rfl w.heap.size 5 i0 (.int .u8 0) 1 Tryd.underlying24 hi hz0 hz1 .i64 .i64 _ _ (n + m) rfl rfl (by omega) (by omega) (by rw [hz2]; omega) (by unfold maxLen; omega) (by simp) ?_; intro w3 hown3 hgrow3; have HO3 := hid hown3; have HG3 := hid hgrow3; clear hown3 hgrow3)
    | fail)
  have hown := HO3.out
  have HF0 : Hid (Filled w3 w.heap.size (n + m) []) := by
    rcases hown.2 with ⟨h, _⟩ | ⟨g, cap, cur, h, _, hb, _, _, hs, ht⟩
    · cases h
    · simp only [Value.slice.injEq, Option.some.injEq, Addr.mk.injEq, and_true, true_and] at h
      obtain ⟨rfl, rfl⟩ := h
      refine ⟨List.replicate (n + m) 0, by simp, ?_⟩
      rw [hb]
      have e : cur.toList = ((([] : List Int) ++ List.replicate (n + m) 0).map (Value.int .u8)) := by
        rw [List.take_of_length_le (by rw [Array.length_toList, hs]; exact Nat.le_refl _)] at ht
        rw [ht]
        show (madeCells #[Value.int .u8 0] ((n + m) * 1)).toList = _
        rw [Nat.mul_one, toList_madeCells_one]
        simp
      rw [← e]
  have HB3 : Hid (Below w.heap.size w w3) := (Below.refl _ _).grown HG3.out (Nat.le_refl _) (fun k e => by cases e)
  clear hown HO3 HG3 HCA
  go_loopw [11, 12, 49] (fun wv sv iv wr => ∃ k p : Nat, k ≤ m ∧ p ≤ n ∧ iv = .int .i64 k ∧ sv = .int .i64 p ∧ wv = .int .i64 ((p : Int) + k) ∧ Hid ((xs.take p).count 255 = k) ∧ Hid (Filled wr w.heap.size (n + m) (escI (xs.take p))) ∧ Hid (Below w.heap.size w wr)) (fun _ _ iv _ => m - (RowKit.intOf iv).toNat)
  case atStart => exact ⟨0, 0, Nat.zero_le _, Nat.zero_le _, rfl, rfl, rfl, by simp [Hid], by simpa [escI] using HF0, HB3⟩
  case round =>
    obtain ⟨k, p, hk, hp, rfl, rfl, rfl, HK, HF, HB⟩ := hrel
    by_cases hlt : k < m
    · have hrest : 0 < (xs.drop p).count 255 := drop_some (by rw [HK.out, HM.out]; exact hlt)
      obtain ⟨a, r, har, hna⟩ := first_255 hrest
      obtain ⟨t1, t2, t3⟩ := take_255 (by rw [← HNX.out]; exact hp) har
      obtain ⟨e1, e2⟩ := esc_step (by rw [← HNX.out]; exact hp) har hna
      have hal : p + a.length + 1 ≤ n := by rw [HNX.out]; exact t1
      obtain ⟨j, hj⟩ : ∃ j, j = a.length := ⟨_, rfl⟩
      have HJ := hid hj
      rw [← hj] at hal e1 e2
      have HE1 := hid e1
      have HK2 : Hid ((xs.take (p + j + 1)).count 255 = k + 1) := by rw [Hid, e2, HK.out]
      have hle : (escI (xs.take p)).length = p + k := by rw [escI_length, HK.out, List.length_take, ← HNX.out]; omega
      obtain ⟨zs, hzl, hzc⟩ := HF.out
      have hzs : zs.length = n + m - (p + k) := by rw [List.length_append, hle] at hzl; omega
      have HZS := hid hzs
      have HZL := hid hzl
      have HZC := hid hzc
      have hB2 : w.heap.size ≤ wr.heap.size := HB.out.size
      have hpn : p < n := by omega
      have hpc : ¬ p = c := by omega
      have hpc2 : ¬ c = p := by omega
      have hcell : ∀ i, i < n - p → wr.cell? ((⟨g0, off0 + p, none⟩ : Addr).add i) = some (.int .u8 ((a ++ 255 :: r).getD i 0)) := fun i hi => by
        rw [addr_add, Nat.add_assoc, (HB.out.cell (p := ⟨g0, off0 + (p + i), none⟩) (World.block_lt_of_cell? w _ (HC.out (p + i) (by omega)))), HC.out (p + i) (by omega), ← har]
        simp [List.getD, List.getElem?_drop]
      have HIX := hid (index_any ⟨g0, off0 + p, none⟩ (n - p) (c - p) g2 1 a r wr (by rw [← har, List.length_drop, HNX.out]) (fun x hx => HR.out.1 x (List.mem_of_mem_drop (by rw [har]; exact hx))) hna hcell ((HB.out.cell (p := ⟨g2, 0, none⟩) (World.block_lt_of_cell? w _ H2.out)).trans H2.out))
      rw [← hj] at HIX
      have HCA : Hid (∀ i v, (a.map (Value.int .u8))[i]? = some v → wr.cell? ((⟨g0, off0 + p, none⟩ : Addr).add i) = some v) := fun i v hv => by
        rw [List.getElem?_map] at hv
        obtain ⟨y, hy, rfl⟩ := Option.map_eq_some_iff.1 hv
        have hi : i < a.length := (List.getElem?_eq_some_iff.1 hy).1
        rw [hcell i (by omega), List.getD, List.getElem?_append_left hi, hy]
        rfl
      have HLE := hid hle
      clear t1 t2 t3 e1 e2 hrest hj hle hzl hzc hcell har hna
      have hkt : k < n := by omega
      go_wp2_with (first
        | (go_at_call 32; refine HIX.out.mono ?_; rintro e w' ⟨rfl, rfl⟩)
        | fail)
      have hjn : a.length = j := HJ.out.symm
      have HB1 := hid HB.out.drew
      obtain ⟨q, hq⟩ : ∃ q : Nat, (p : Int) + k = q := ⟨p + k, by omega⟩
      obtain ⟨jj, hjj⟩ : ∃ jj : Nat, (p : Int) + j = jj := ⟨p + j, by omega⟩
      rw [hq, hjj]
      have HQ := hid hq
      have HJJ := hid hjj
      have hq1 : (q : Int) ≤ (n : Int) + m := by omega
      have hq2 : ¬ n + m = q := by omega
      have hj1 : (p : Int) ≤ jj := by omega
      have hj2 : (jj : Int) ≤ c := by omega
      have hj3 : (jj : Int) ≤ 1000000 := by omega
      have hqn : q = p + k := by omega
      have HQN := hid hqn
      have HJP : Hid (jj - p = j) := by show _ = _; omega
      have HMIN : Hid ((a.map (Value.int .u8)).length = Nat.min (jj - p) (n + m - q)) := by
        rw [Hid, List.length_map, hjn, show jj - p = j by omega]
        exact (Nat.min_eq_left (show j ≤ n + m - q by omega)).symm
      have HFIT : Hid (q + (a.map (Value.int .u8)).length ≤ ((escI (xs.take p) ++ zs).map (Value.int .u8)).length) := by
        rw [Hid, List.length_map, List.length_map, HZL.out, hjn]
        omega
      clear hq hjj hqn
      refine wp_region_held_drew (S := fun _ => True) (by kernel_rfl) trivial (fun hHeld => ?_)
      refine takeD (i := 0) (v := ?_) 58 rfl rfl (by kernel_rfl) (by kernel_rfl) (by kernel_rfl) (fun _ _ _ h => h) (by assumption) (Or.inl ⟨by rfl, ?_⟩) ?_
      rotate_left
      · intro w hSw
        (try dsimp only at hSw)
        go_simp
        try with_reducible rfl
      simp only [List.setIfInBounds_toArray, List.set_cons_zero, List.set_cons_succ]
      refine takeD (i := 1) (v := ?_) 59 rfl rfl (by kernel_rfl) (by kernel_rfl) (by kernel_rfl) (fun _ _ _ h => h) (by assumption) (Or.inl ⟨by rfl, ?_⟩) ?_
      rotate_left
      · intro w hSw
        (try dsimp only at hSw)
        go_simp
        try with_reducible rfl
      simp only [List.setIfInBounds_toArray, List.set_cons_zero, List.set_cons_succ]
      refine takeD (i := 2) (v := ?_) 60 rfl rfl (by kernel_rfl) (by kernel_rfl) (by kernel_rfl) (fun _ _ _ h => h) (by assumption) (Or.inl ⟨by rfl, ?_⟩) ?_
      rotate_left
      · intro w hSw
        (try dsimp only at hSw)
        go_simp
        try with_reducible rfl
      simp only [List.setIfInBounds_toArray, List.set_cons_zero, List.set_cons_succ]
      refine takeD (i := 3) (v := ?_) 61 rfl rfl (by kernel_rfl) (by kernel_rfl) (by kernel_rfl) (fun _ _ _ h => h) (by assumption) (Or.inl ⟨by rfl, ?_⟩) ?_
      rotate_left
      · intro w hSw
        (try dsimp only at hSw)
        go_simp
        try with_reducible rfl
      simp only [List.setIfInBounds_toArray, List.set_cons_zero, List.set_cons_succ]
      refine takeD (i := 4) (v := ?_) 62 rfl rfl (by kernel_rfl) (by kernel_rfl) (by kernel_rfl) (fun _ _ _ h => h) (by assumption) (Or.inl ⟨by rfl, ?_⟩) ?_
      rotate_left
      · intro w hSw
        (try dsimp only at hSw)
        go_simp
        try with_reducible rfl
      simp only [List.setIfInBounds_toArray, List.set_cons_zero, List.set_cons_succ]
      refine takeD (i := 5) (v := ?_) 63 rfl rfl (by kernel_rfl) (by kernel_rfl) (by kernel_rfl) (fun _ _ _ h => h) (by assumption) (Or.inl ⟨by rfl, ?_⟩) ?_
      rotate_left
      · intro w hSw
        (try dsimp only at hSw)
        go_simp
        try with_reducible rfl
      simp only [List.setIfInBounds_toArray, List.set_cons_zero, List.set_cons_succ]
      refine takeD (i := 6) (v := ?_) 64 rfl rfl (by kernel_rfl) (by kernel_rfl) (by kernel_rfl) (fun _ _ _ h => h) (by assumption) (Or.inl ⟨by rfl, ?_⟩) ?_
      rotate_left
      · intro w hSw
        (try dsimp only at hSw)
        go_simp
        try with_reducible rfl
      simp only [List.setIfInBounds_toArray, List.set_cons_zero, List.set_cons_succ]
      refine takeD (i := 7) (v := ?_) 65 rfl rfl (by kernel_rfl) (by kernel_rfl) (by kernel_rfl) (fun _ _ _ h => h) (by assumption) (Or.inl ⟨by rfl, ?_⟩) ?_
      rotate_left
      · intro w hSw
        (try dsimp only at hSw)
        go_simp
        try with_reducible rfl
      simp only [List.setIfInBounds_toArray, List.set_cons_zero, List.set_cons_succ]
      refine wpAnyH_ready (rs := [8]) (by kernel_rfl) (by simp) ?_
      refine AllReadyH.cons (by simp only [List.getElem?_toArray, List.getElem?_cons_succ, List.getElem?_cons_zero]; rfl) (fun K hK => ?_) AllReadyH.nil
      refine step_copy_splice (w := wr.drew) (by rfl) (.tmp 61) (.tmp 65) 24 24 (by rfl) 5 Tryd.underlying24 size5 _ _ _ _ _ _ (by rfl) (by rfl) w.heap.size q ((escI (xs.take p) ++ zs).map (Value.int .u8)) 5 HZC.out (a.map (Value.int .u8)) HMIN.out (fun _ => ⟨by simp, _, rfl, HCA.out⟩) HFIT.out (ints_one a) w.heap.size w HB1.out (Nat.le_refl _) ?_
      intro w4 hg4 hb4
      rw [show (a.map (Value.int .u8)).length = j by rw [List.length_map]; exact hjn]
      have HF4 : Hid (Filled w4 w.heap.size (n + m) (escI (xs.take p) ++ a)) := by
        refine filled_splice HZL.out (by have := HZS.out; omega) ?_
        rw [HLE.out, ← HQN.out]
        exact hg4.out
      have HB4 := hid hb4
      clear hg4 hb4
      refine hK.out _ _ trivial (fun hHeldN => ?_)
      clear hK K hHeldN
      (try simp only [Act.put, List.setIfInBounds_toArray, List.set_cons_zero, List.set_cons_succ])
      refine takeD (i := 9) (v := ?_) 67 rfl rfl (by kernel_rfl) (by kernel_rfl) (by kernel_rfl) (fun _ _ _ h => h) (by assumption) (Or.inl ⟨by rfl, ?_⟩) ?_
      rotate_left
      · intro w hSw
        (try dsimp only at hSw)
        go_simp
        try with_reducible rfl
      simp only [List.setIfInBounds_toArray, List.set_cons_zero, List.set_cons_succ]
      refine takeD (i := 10) (v := ?_) 11 rfl rfl (by kernel_rfl) (by kernel_rfl) (by kernel_rfl) (fun _ _ _ h => h) (by assumption) (Or.inl ⟨by rfl, ?_⟩) ?_
      rotate_left
      · intro w hSw
        (try dsimp only at hSw)
        go_simp
        try with_reducible rfl
      simp only [List.setIfInBounds_toArray, List.set_cons_zero, List.set_cons_succ]
      refine wpAnyH_done (by kernel_rfl) ?_ _
      obtain ⟨zs4, hzl4, hzc4⟩ := HF4.out
      have HZL4 := hid hzl4
      have HZC4 := hid hzc4
      have hzs4 : (escI (xs.take p) ++ a).length = p + k + j := by rw [List.length_append, HLE.out, hjn]
      have hz4 : zs4.length = n + m - (p + k + j) := by rw [List.length_append, hzs4] at hzl4; omega
      have HLE4 := hid hzs4
      have HZS4 := hid hz4
      obtain ⟨q1, hq1'⟩ : ∃ q1 : Nat, (q : Int) + j = q1 := ⟨q + j, by omega⟩
      rw [hq1']
      have hqq : q1 = p + k + j := by have := HQN.out; omega
      have HQ1 := hid hqq
      have hf1 : (q1 : Int) ≤ (n : Int) + m := by omega
      have hf2 : ¬ n + m = q1 := by omega
      have HMIN2 : Hid ((([255, 255] : List Int).map (Value.int .u8)).length = Nat.min 2 (n + m - q1)) := by
        show 2 = _
        exact (Nat.min_eq_left (show 2 ≤ n + m - q1 by omega)).symm
      have HFIT2 : Hid (q1 + (([255, 255] : List Int).map (Value.int .u8)).length ≤ ((escI (xs.take p) ++ a ++ zs4).map (Value.int .u8)).length) := by
        rw [Hid, List.length_map, List.length_map, HZL4.out]
        show q1 + 2 ≤ _
        omega
      have HN2 : Hid (∀ i v, ((([255, 255] : List Int).map (Value.int .u8)))[i]? = some v → w4.cell? ((⟨g3, 0, none⟩ : Addr).add i) = some v) := fun i v hv => by
        rw [addr_add, Nat.zero_add]
        have hi : i < 2 := (List.getElem?_eq_some_iff.1 hv).1
        have h01 : i = 0 ∨ i = 1 := by omega
        rcases h01 with rfl | rfl
        · cases hv; exact (HB4.out.cell (p := ⟨g3, 0, none⟩) (World.block_lt_of_cell? w _ H3.out.1)).trans H3.out.1
        · cases hv; exact (HB4.out.cell (p := ⟨g3, 1, none⟩) (World.block_lt_of_cell? w _ H3.out.2)).trans H3.out.2
      clear hzl4 hzc4 hzs4 hz4 hq1' hqq
      go_wp2_with (first
        | (with_reducible refine wpList_copy_splice rfl (.tmp 71) (.tmp 72) 24 24 rfl 5 Tryd.underlying24 size5 (some ⟨w.heap.size, q1, none⟩) (some ⟨g3, 0, none⟩) (n + m - q1) (n + m - q1) 2 2 rfl rfl w.heap.size q1 ((escI (xs.take p) ++ a ++ zs4).map (Value.int .u8)) 5 HZC4.out (([255, 255] : List Int).map (Value.int .u8)) HMIN2.out (fun _ => ⟨rfl, _, rfl, HN2.out⟩) HFIT2.out (ints_one _) w.heap.size w HB4.out (Nat.le_refl _) ?_; intro w5 hg5 hb5; have HG5 := hid hg5.out; have HB5 := hid hb5; clear hg5 hb5)
        | fail)
      have HF5 : Hid (Filled w5 w.heap.size (n + m) (escI (xs.take (p + j + 1)))) := by
        rw [HE1.out]
        refine filled_splice HZL4.out (by show 2 ≤ _; have := HZS4.out; omega) ?_
        rw [HLE4.out, ← HQ1.out]
        exact HG5.out
      go_roundw
      case rel =>
        have q1' := HJJ.out
        have q2' := HQ1.out
        refine ⟨k + 1, p + j + 1, by omega, by omega, by go_num, ?_, ?_, HK2, HF5, HB5⟩
        · congr 1; omega
        · congr 1; omega
      case measure => simp [RowKit.intOf]; omega
    · obtain rfl : k = m := by omega
      have hesc : escI xs = escI (xs.take p) ++ xs.drop p := drop_none (by rw [HK.out, HM.out])
      have HES := hid hesc
      have hle : (escI (xs.take p)).length = p + k := by rw [escI_length, HK.out, List.length_take, ← HNX.out]; omega
      obtain ⟨zs, hzl, hzc⟩ := HF.out
      have hzs : zs.length = n - p := by rw [List.length_append, hle] at hzl; omega
      have hdl : (xs.drop p).length = n - p := by rw [List.length_drop, HNX.out]
      have HDL := hid hdl
      have HZS := hid hzs
      have HZL := hid hzl
      have HZC := hid hzc
      have HLE := hid hle
      have HTL : Hid ((escI (xs.take p) ++ zs).length = n + k) := hzl
      have HB1 := hid HB.out.drew
      have HFE : Hid (∀ w5 : World, w5.heap[w.heap.size]? = some (.cells (splice ((escI (xs.take p) ++ zs).map (Value.int .u8)) (p + k) ((xs.drop p).map (Value.int .u8))).toArray 5 (0, 0)) → Reads w5 (.slice (some ⟨w.heap.size, 0, none⟩) (n + k) (n + k)) (escI xs)) := fun w5 h5 => by
        have hf : Filled w5 w.heap.size (n + k) (escI (xs.take p) ++ xs.drop p) := filled_splice HZL.out (by rw [HDL.out, HZS.out]; exact Nat.le_refl _) (by rw [HLE.out]; exact h5)
        rw [← HES.out] at hf
        have hlen : (escI xs).length = n + k := by rw [escI_length, HM.out, HNX.out]
        obtain ⟨z5, hz5, hc5⟩ := hf
        have hz0' : z5 = [] := List.eq_nil_of_length_eq_zero (by rw [List.length_append, hlen] at hz5; omega)
        subst hz0'
        rw [List.append_nil] at hc5
        refine ⟨escI_bytes HR.out.1, .inr ⟨⟨w.heap.size, 0, none⟩, n + k, by rw [hlen], by omega, by unfold maxLen; omega, fun i hi => ?_⟩⟩
        rw [addr_add, Nat.zero_add]
        simp [World.cell?, hc5, List.getD, List.getElem?_eq_getElem hi]
      clear hesc hle hzl hzc hzs hdl HES HF HM HK HZL HZS HLE
      have hB2 : w.heap.size ≤ wr.heap.size := HB.out.size
      by_cases hpn : p < n
      · have HCA : Hid (∀ i v, ((xs.drop p).map (Value.int .u8))[i]? = some v → wr.cell? ((⟨g0, off0 + p, none⟩ : Addr).add i) = some v) := fun i v hv => by
          rw [List.getElem?_map] at hv
          obtain ⟨y, hy, rfl⟩ := Option.map_eq_some_iff.1 hv
          have hi : i < (xs.drop p).length := (List.getElem?_eq_some_iff.1 hy).1
          have hi2 : p + i < n := by rw [HDL.out] at hi; omega
          rw [addr_add, Nat.add_assoc, (HB.out.cell (p := ⟨g0, off0 + (p + i), none⟩) (World.block_lt_of_cell? w _ (HC.out (p + i) hi2))), HC.out (p + i) hi2]
          rw [List.getElem?_drop] at hy
          simp [List.getD, hy]
        obtain ⟨q, hq⟩ : ∃ q : Nat, (p : Int) + k = q := ⟨p + k, by omega⟩
        rw [hq]
        have hqn : q = p + k := by omega
        have HQN := hid hqn
        have hq1 : (q : Int) ≤ (n : Int) + k := by omega
        have hq2 : ¬ n + k = q := by omega
        have hpc2 : ¬ c = p := by omega
        have hpi : (p : Int) ≤ n := by omega
        have HMIN : Hid (((xs.drop p).map (Value.int .u8)).length = Nat.min (n - p) (n + k - q)) := by
          rw [Hid, List.length_map, HDL.out]
          exact (Nat.min_eq_left (show n - p ≤ n + k - q by omega)).symm
        have HFIT : Hid (q + ((xs.drop p).map (Value.int .u8)).length ≤ ((escI (xs.take p) ++ zs).map (Value.int .u8)).length) := by
          rw [Hid, List.length_map, List.length_map, HDL.out, HTL.out]
          omega
        have hend : (q : Int) + ((n - p : Nat) : Int) = (n : Int) + k := by omega
        have HEND := hid hend
        clear hq hqn hend
        go_wp2_with fail
        refine wp_region_held_drew (S := fun _ => True) (by kernel_rfl) trivial (fun hHeld => ?_)
        refine takeD (i := 0) (v := ?_) 120 rfl rfl (by kernel_rfl) (by kernel_rfl) (by kernel_rfl) (fun _ _ _ h => h) (by assumption) (Or.inl ⟨by rfl, ?_⟩) ?_
        rotate_left
        · intro w hSw
          (try dsimp only at hSw)
          go_simp
          try with_reducible rfl
        simp only [List.setIfInBounds_toArray, List.set_cons_zero, List.set_cons_succ]
        refine takeD (i := 1) (v := ?_) 121 rfl rfl (by kernel_rfl) (by kernel_rfl) (by kernel_rfl) (fun _ _ _ h => h) (by assumption) (Or.inl ⟨by rfl, ?_⟩) ?_
        rotate_left
        · intro w hSw
          (try dsimp only at hSw)
          go_simp
          try with_reducible rfl
        simp only [List.setIfInBounds_toArray, List.set_cons_zero, List.set_cons_succ]
        refine takeD (i := 2) (v := ?_) 122 rfl rfl (by kernel_rfl) (by kernel_rfl) (by kernel_rfl) (fun _ _ _ h => h) (by assumption) (Or.inl ⟨by rfl, ?_⟩) ?_
        rotate_left
        · intro w hSw
          (try dsimp only at hSw)
          go_simp
          try with_reducible rfl
        simp only [List.setIfInBounds_toArray, List.set_cons_zero, List.set_cons_succ]
        refine takeD (i := 3) (v := ?_) 123 rfl rfl (by kernel_rfl) (by kernel_rfl) (by kernel_rfl) (fun _ _ _ h => h) (by assumption) (Or.inl ⟨by rfl, ?_⟩) ?_
        rotate_left
        · intro w hSw
          (try dsimp only at hSw)
          go_simp
          try with_reducible rfl
        simp only [List.setIfInBounds_toArray, List.set_cons_zero, List.set_cons_succ]
        refine takeD (i := 4) (v := ?_) 124 rfl rfl (by kernel_rfl) (by kernel_rfl) (by kernel_rfl) (fun _ _ _ h => h) (by assumption) (Or.inl ⟨by rfl, ?_⟩) ?_
        rotate_left
        · intro w hSw
          (try dsimp only at hSw)
          go_simp
          try with_reducible rfl
        simp only [List.setIfInBounds_toArray, List.set_cons_zero, List.set_cons_succ]
        refine takeD (i := 5) (v := ?_) 125 rfl rfl (by kernel_rfl) (by kernel_rfl) (by kernel_rfl) (fun _ _ _ h => h) (by assumption) (Or.inl ⟨by rfl, ?_⟩) ?_
        rotate_left
        · intro w hSw
          (try dsimp only at hSw)
          go_simp
          try with_reducible rfl
        simp only [List.setIfInBounds_toArray, List.set_cons_zero, List.set_cons_succ]
        refine takeD (i := 6) (v := ?_) 126 rfl rfl (by kernel_rfl) (by kernel_rfl) (by kernel_rfl) (fun _ _ _ h => h) (by assumption) (Or.inl ⟨by rfl, ?_⟩) ?_
        rotate_left
        · intro w hSw
          (try dsimp only at hSw)
          go_simp
          try with_reducible rfl
        simp only [List.setIfInBounds_toArray, List.set_cons_zero, List.set_cons_succ]
        refine wpAnyH_ready (rs := [7]) (by kernel_rfl) (by simp) ?_
        refine AllReadyH.cons (by simp only [List.getElem?_toArray, List.getElem?_cons_succ, List.getElem?_cons_zero]; rfl) (fun K hK => ?_) AllReadyH.nil
        refine step_copy_splice (w := wr.drew) (by rfl) (.tmp 123) (.tmp 126) 24 24 (by rfl) 5 Tryd.underlying24 size5 _ _ _ _ _ _ (by rfl) (by rfl) w.heap.size q ((escI (xs.take p) ++ zs).map (Value.int .u8)) 5 HZC.out ((xs.drop p).map (Value.int .u8)) HMIN.out (fun _ => ⟨by rfl, _, rfl, HCA.out⟩) HFIT.out (ints_one _) w.heap.size w HB1.out (Nat.le_refl _) ?_
        intro w5 hg5 hb5
        rw [show ((xs.drop p).map (Value.int .u8)).length = n - p by rw [List.length_map]; exact HDL.out]
        have HRD := hid (HFE.out w5 (by rw [← HQN.out]; exact hg5.out))
        have HB5 := hid hb5
        clear hg5 hb5
        refine hK.out _ _ trivial (fun hHeldN => ?_)
        clear hK K hHeldN
        (try simp only [Act.put, List.setIfInBounds_toArray, List.set_cons_zero, List.set_cons_succ])
        refine takeD (i := 8) (v := ?_) 128 rfl rfl (by kernel_rfl) (by kernel_rfl) (by kernel_rfl) (fun _ _ _ h => h) (by assumption) (Or.inl ⟨by rfl, ?_⟩) ?_
        rotate_left
        · intro w hSw
          (try dsimp only at hSw)
          go_simp
          try with_reducible rfl
        simp only [List.setIfInBounds_toArray, List.set_cons_zero, List.set_cons_succ]
        refine takeD (i := 9) (v := ?_) 11 rfl rfl (by kernel_rfl) (by kernel_rfl) (by kernel_rfl) (fun _ _ _ h => h) (by assumption) (Or.inl ⟨by rfl, ?_⟩) ?_
        rotate_left
        · intro w hSw
          (try dsimp only at hSw)
          go_simp
          try with_reducible rfl
        simp only [List.setIfInBounds_toArray, List.set_cons_zero, List.set_cons_succ]
        refine wpAnyH_done (by kernel_rfl) ?_ _
        rw [HEND.out]
        go_wp2
        go_ret
        exact ⟨_, rfl, by simpa using HRD.out, HB5.out⟩
      · obtain rfl : n = p := by omega
        have HDN : Hid (xs.drop n = []) := List.eq_nil_of_length_eq_zero (by rw [HDL.out]; omega)
        have hT : ((n : Int) + k).toNat = n + k := by omega
        have hT0 : (0 : Int) ≤ (n : Int) + k := by omega
        have HFIT : Hid ((n + k) + (([] : List Int).map (Value.int .u8)).length ≤ ((escI (xs.take n) ++ zs).map (Value.int .u8)).length) := by
          rw [Hid, List.length_map, List.length_map, HTL.out]
          exact Nat.le_refl _
        clear hpn
        by_cases hcn : c = n
        · obtain rfl : n = c := hcn.symm
          clear hcn
          go_wp2_with fail
          refine wp_region_held_drew (S := fun _ => True) (by kernel_rfl) trivial (fun hHeld => ?_)
          refine takeD (i := 0) (v := ?_) 120 rfl rfl (by kernel_rfl) (by kernel_rfl) (by kernel_rfl) (fun _ _ _ h => h) (by assumption) (Or.inl ⟨by rfl, ?_⟩) ?_
          rotate_left
          · intro w hSw
            (try dsimp only at hSw)
            go_simp
            try with_reducible rfl
          simp only [List.setIfInBounds_toArray, List.set_cons_zero, List.set_cons_succ]
          refine takeD (i := 1) (v := ?_) 121 rfl rfl (by kernel_rfl) (by kernel_rfl) (by kernel_rfl) (fun _ _ _ h => h) (by assumption) (Or.inl ⟨by rfl, ?_⟩) ?_
          rotate_left
          · intro w hSw
            (try dsimp only at hSw)
            go_simp
            try with_reducible rfl
          simp only [List.setIfInBounds_toArray, List.set_cons_zero, List.set_cons_succ]
          refine takeD (i := 2) (v := ?_) 122 rfl rfl (by kernel_rfl) (by kernel_rfl) (by kernel_rfl) (fun _ _ _ h => h) (by assumption) (Or.inl ⟨by rfl, ?_⟩) ?_
          rotate_left
          · intro w hSw
            (try dsimp only at hSw)
            go_simp
            try with_reducible rfl
          simp only [List.setIfInBounds_toArray, List.set_cons_zero, List.set_cons_succ]
          refine takeD (i := 3) (v := ?_) 123 rfl rfl (by kernel_rfl) (by kernel_rfl) (by kernel_rfl) (fun _ _ _ h => h) (by assumption) (Or.inl ⟨by rfl, ?_⟩) ?_
          rotate_left
          · intro w hSw
            (try dsimp only at hSw)
            go_simp
            try with_reducible rfl
          simp only [List.setIfInBounds_toArray, List.set_cons_zero, List.set_cons_succ]
          refine takeD (i := 4) (v := ?_) 124 rfl rfl (by kernel_rfl) (by kernel_rfl) (by kernel_rfl) (fun _ _ _ h => h) (by assumption) (Or.inl ⟨by rfl, ?_⟩) ?_
          rotate_left
          · intro w hSw
            (try dsimp only at hSw)
            go_simp
            try with_reducible rfl
          simp only [List.setIfInBounds_toArray, List.set_cons_zero, List.set_cons_succ]
          refine takeD (i := 5) (v := ?_) 125 rfl rfl (by kernel_rfl) (by kernel_rfl) (by kernel_rfl) (fun _ _ _ h => h) (by assumption) (Or.inl ⟨by rfl, ?_⟩) ?_
          rotate_left
          · intro w hSw
            (try dsimp only at hSw)
            go_simp
            try with_reducible rfl
          simp only [List.setIfInBounds_toArray, List.set_cons_zero, List.set_cons_succ]
          refine takeD (i := 6) (v := ?_) 126 rfl rfl (by kernel_rfl) (by kernel_rfl) (by kernel_rfl) (fun _ _ _ h => h) (by assumption) (Or.inl ⟨by rfl, ?_⟩) ?_
          rotate_left
          · intro w hSw
            (try dsimp only at hSw)
            go_simp
            try with_reducible rfl
          simp only [List.setIfInBounds_toArray, List.set_cons_zero, List.set_cons_succ]
          refine wpAnyH_ready (rs := [7]) (by kernel_rfl) (by simp) ?_
          refine AllReadyH.cons (by simp only [List.getElem?_toArray, List.getElem?_cons_succ, List.getElem?_cons_zero]; rfl) (fun K hK => ?_) AllReadyH.nil
          refine step_copy_splice (w := wr.drew) (by rfl) (.tmp 123) (.tmp 126) 24 24 (by rfl) 5 Tryd.underlying24 size5 _ _ _ _ _ _ (by rfl) (by rfl) w.heap.size (n + k) ((escI (xs.take n) ++ zs).map (Value.int .u8)) 5 HZC.out (([] : List Int).map (Value.int .u8)) (by simp) (fun h => absurd h (by simp)) HFIT.out (ints_one _) w.heap.size w HB1.out (Nat.le_refl _) ?_
          intro w5 hg5 hb5
          rw [show (([] : List Int).map (Value.int .u8)).length = 0 from rfl]
          have HRD := hid (HFE.out w5 (by rw [HDN.out]; exact hg5.out))
          have HB5 := hid hb5
          clear hg5 hb5
          refine hK.out _ _ trivial (fun hHeldN => ?_)
          clear hK K hHeldN
          (try simp only [Act.put, List.setIfInBounds_toArray, List.set_cons_zero, List.set_cons_succ])
          refine takeD (i := 8) (v := ?_) 128 rfl rfl (by kernel_rfl) (by kernel_rfl) (by kernel_rfl) (fun _ _ _ h => h) (by assumption) (Or.inl ⟨by rfl, ?_⟩) ?_
          rotate_left
          · intro w hSw
            (try dsimp only at hSw)
            go_simp
            try with_reducible rfl
          simp only [List.setIfInBounds_toArray, List.set_cons_zero, List.set_cons_succ]
          refine takeD (i := 9) (v := ?_) 11 rfl rfl (by kernel_rfl) (by kernel_rfl) (by kernel_rfl) (fun _ _ _ h => h) (by assumption) (Or.inl ⟨by rfl, ?_⟩) ?_
          rotate_left
          · intro w hSw
            (try dsimp only at hSw)
            go_simp
            try with_reducible rfl
          simp only [List.setIfInBounds_toArray, List.set_cons_zero, List.set_cons_succ]
          refine wpAnyH_done (by kernel_rfl) ?_ _
          go_wp2
          go_ret
          exact ⟨_, rfl, by simpa using HRD.out, HB5.out⟩
        · go_wp2_with fail
          refine wp_region_held_drew (S := fun _ => True) (by kernel_rfl) trivial (fun hHeld => ?_)
          refine takeD (i := 0) (v := ?_) 120 rfl rfl (by kernel_rfl) (by kernel_rfl) (by kernel_rfl) (fun _ _ _ h => h) (by assumption) (Or.inl ⟨by rfl, ?_⟩) ?_
          rotate_left
          · intro w hSw
            (try dsimp only at hSw)
            go_simp
            try with_reducible rfl
          simp only [List.setIfInBounds_toArray, List.set_cons_zero, List.set_cons_succ]
          refine takeD (i := 1) (v := ?_) 121 rfl rfl (by kernel_rfl) (by kernel_rfl) (by kernel_rfl) (fun _ _ _ h => h) (by assumption) (Or.inl ⟨by rfl, ?_⟩) ?_
          rotate_left
          · intro w hSw
            (try dsimp only at hSw)
            go_simp
            try with_reducible rfl
          simp only [List.setIfInBounds_toArray, List.set_cons_zero, List.set_cons_succ]
          refine takeD (i := 2) (v := ?_) 122 rfl rfl (by kernel_rfl) (by kernel_rfl) (by kernel_rfl) (fun _ _ _ h => h) (by assumption) (Or.inl ⟨by rfl, ?_⟩) ?_
          rotate_left
          · intro w hSw
            (try dsimp only at hSw)
            go_simp
            try with_reducible rfl
          simp only [List.setIfInBounds_toArray, List.set_cons_zero, List.set_cons_succ]
          refine takeD (i := 3) (v := ?_) 123 rfl rfl (by kernel_rfl) (by kernel_rfl) (by kernel_rfl) (fun _ _ _ h => h) (by assumption) (Or.inl ⟨by rfl, ?_⟩) ?_
          rotate_left
          · intro w hSw
            (try dsimp only at hSw)
            go_simp
            try with_reducible rfl
          simp only [List.setIfInBounds_toArray, List.set_cons_zero, List.set_cons_succ]
          refine takeD (i := 4) (v := ?_) 124 rfl rfl (by kernel_rfl) (by kernel_rfl) (by kernel_rfl) (fun _ _ _ h => h) (by assumption) (Or.inl ⟨by rfl, ?_⟩) ?_
          rotate_left
          · intro w hSw
            (try dsimp only at hSw)
            go_simp
            try with_reducible rfl
          simp only [List.setIfInBounds_toArray, List.set_cons_zero, List.set_cons_succ]
          refine takeD (i := 5) (v := ?_) 125 rfl rfl (by kernel_rfl) (by kernel_rfl) (by kernel_rfl) (fun _ _ _ h => h) (by assumption) (Or.inl ⟨by rfl, ?_⟩) ?_
          rotate_left
          · intro w hSw
            (try dsimp only at hSw)
            go_simp
            try with_reducible rfl
          simp only [List.setIfInBounds_toArray, List.set_cons_zero, List.set_cons_succ]
          refine takeD (i := 6) (v := ?_) 126 rfl rfl (by kernel_rfl) (by kernel_rfl) (by kernel_rfl) (fun _ _ _ h => h) (by assumption) (Or.inl ⟨by rfl, ?_⟩) ?_
          rotate_left
          · intro w hSw
            (try dsimp only at hSw)
            go_simp
            try with_reducible rfl
          simp only [List.setIfInBounds_toArray, List.set_cons_zero, List.set_cons_succ]
          refine wpAnyH_ready (rs := [7]) (by kernel_rfl) (by simp) ?_
          refine AllReadyH.cons (by simp only [List.getElem?_toArray, List.getElem?_cons_succ, List.getElem?_cons_zero]; rfl) (fun K hK => ?_) AllReadyH.nil
          refine step_copy_splice (w := wr.drew) (by rfl) (.tmp 123) (.tmp 126) 24 24 (by rfl) 5 Tryd.underlying24 size5 _ _ _ _ _ _ (by rfl) (by rfl) w.heap.size (n + k) ((escI (xs.take n) ++ zs).map (Value.int .u8)) 5 HZC.out (([] : List Int).map (Value.int .u8)) (by simp) (fun h => absurd h (by simp)) HFIT.out (ints_one _) w.heap.size w HB1.out (Nat.le_refl _) ?_
          intro w5 hg5 hb5
          rw [show (([] : List Int).map (Value.int .u8)).length = 0 from rfl]
          have HRD := hid (HFE.out w5 (by rw [HDN.out]; exact hg5.out))
          have HB5 := hid hb5
          clear hg5 hb5
          refine hK.out _ _ trivial (fun hHeldN => ?_)
          clear hK K hHeldN
          (try simp only [Act.put, List.setIfInBounds_toArray, List.set_cons_zero, List.set_cons_succ])
          refine takeD (i := 8) (v := ?_) 128 rfl rfl (by kernel_rfl) (by kernel_rfl) (by kernel_rfl) (fun _ _ _ h => h) (by assumption) (Or.inl ⟨by rfl, ?_⟩) ?_
          rotate_left
          · intro w hSw
            (try dsimp only at hSw)
            go_simp
            try with_reducible rfl
          simp only [List.setIfInBounds_toArray, List.set_cons_zero, List.set_cons_succ]
          refine takeD (i := 9) (v := ?_) 11 rfl rfl (by kernel_rfl) (by kernel_rfl) (by kernel_rfl) (fun _ _ _ h => h) (by assumption) (Or.inl ⟨by rfl, ?_⟩) ?_
          rotate_left
          · intro w hSw
            (try dsimp only at hSw)
            go_simp
            try with_reducible rfl
          simp only [List.setIfInBounds_toArray, List.set_cons_zero, List.set_cons_succ]
          refine wpAnyH_done (by kernel_rfl) ?_ _
          go_wp2
          go_ret
          exact ⟨_, rfl, by simpa using HRD.out, HB5.out⟩
end Go.Proofs.YtdbjjieoohfckaaDoor
