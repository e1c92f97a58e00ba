/-
  All of a tally: the names and the counts as they are, told one by one.
-/
import Derived.Test.YtadoiplfglaonabDo
import Derived.Test.YtadoiplfglaonabNilb
namespace Go.Proofs.Ytadoiplfglaonab
open Go.RowKit Go.Shelf Go.Deep Go.Lib
attribute [local go_sem] Oper.semAt_some

theorem srow_kept {A B : World} {base : Nat} {e : TypeId} {size n : Nat} {v : Value} {xs : List Value} {row : Option Nat} (h : A.ownsRow base e size v n xs) (hg : A.grownBy B row) (hr : ∀ r, row = some r → ∃ o : Obj, A.heap[r]? = some o ∧ o.isCells = false) : B.ownsRow base e size v n xs := by
  rcases h.2 with ⟨rfl, _⟩ | ⟨g, cap, cur, rfl, _, hh, _⟩
  · exact h.kept hg (.inl rfl)
  · refine h.kept hg (.inr fun e => ?_)
    obtain ⟨o, ho, hc⟩ := hr g e.symm
    rw [hh] at ho
    cases ho
    cases hc
theorem grown_of_below {a b : World} (h : Below a.heap.size a b) : a.grownBy b none := ⟨h.os, h.tape, h.output, h.size, fun k hk _ => h.block k hk⟩
def RowPost (ts : List (List UInt8)) (w : World) (e : Ending) (w' : World) : Prop := ∃ v', e = .returned v' ∧ w'.ownsRow w.heap.size 9 1 v' ts.length (ts.map encStr) ∧ Below w.heap.size w w'
theorem enc_map (ts : List (List UInt8)) : ((ts.map fun x => (⟨x.toArray⟩ : ByteArray)).take ts.length).map Value.string = ts.map encStr := by
  rw [List.take_of_length_le (by simp), List.map_map]
  rfl
section
variable {B t : Nat} {vn : Value} {g : Nat} {ts : List (List UInt8)} {cs : List Int}
theorem names_any (w : World) (hT : TallyIn w B t vn g ts cs) : Calls Try.prog 21 #[.pointer (some ⟨t, 0, none⟩)] w (RowPost ts w) := by
  have h0 := hT.cell0
  have hcl : Calls Try.prog 22 #[vn] w (RowPost ts w) := by
    rcases hT.names.2 with ⟨rfl, hl⟩ | ⟨gn, cn, cur, rfl, _⟩
    · have e : ts = [] := List.eq_nil_of_length_eq_zero hl
      subst e
      exact (Try.slices_Clone_string_nil 0 0 w).mono fun e w' ⟨h1, h2⟩ => ⟨_, h1, by subst h2; exact World.ownsRow_nil _ _ _ _, by subst h2; exact Below.refl _ _⟩
    · refine (Try.slices_Clone_string gn 0 ts.length cn (ts.map fun x => (⟨x.toArray⟩ : ByteArray)) w (by simp) (by have := hT.few; omega) (fun j hj => ?_)).mono fun e w' ⟨v', h1, h2, _, h4⟩ => ⟨v', h1, by rw [← enc_map]; exact h2, h4⟩
      simp only [List.length_map] at hj
      rw [Nat.zero_add, hT.names.cellAt j (by omega)]
      simp [List.getD, List.getElem?_eq_getElem hj]
  have HCL := hid hcl
  clear hcl hT
  go_enter Try.func21, Try.ntmps21
  go_wp2_with (go_at_call 22; refine HCL.out.mono ?_; rintro e w' ⟨v', rfl, h2, h3⟩; have H2 := hid h2; have H3 := hid h3; clear h2 h3)
  go_ret
  exact ⟨_, rfl, H2.out, H3.out⟩
end
/-- What the iterator holds, in blocks from lo to hi. -/
structure AllBox (lo hi b1 b2 : Nat) (oN oV : Option Addr) (cN cV : Nat) (ts : List (List UInt8)) (cs : List Int) (w : World) : Prop where
  n : w.cell? ⟨b1, 0, none⟩ = some (.slice oN ts.length cN)
  v : w.cell? ⟨b2, 0, none⟩ = some (.slice oV ts.length cV)
  c : ∀ i, i < ts.length → ∃ gN gV, oN = some ⟨gN, 0, none⟩ ∧ oV = some ⟨gV, 0, none⟩ ∧ w.cell? ⟨gN, i, none⟩ = some (encStr (ts.getD i [])) ∧ w.cell? ⟨gV, i, none⟩ = some (.int .u64 (cs.getD i 0)) ∧ lo ≤ gN ∧ gN < hi ∧ lo ≤ gV ∧ gV < hi
  b : lo ≤ b1 ∧ b1 < hi ∧ lo ≤ b2 ∧ b2 < hi
/-- What a round keeps for the iterator. -/
def KeepR (lo hi : Nat) (W W' : World) : Prop := ∀ i, lo ≤ i → i < hi → W'.heap[i]? = W.heap[i]?
theorem KeepR.t {lo hi : Nat} {A B C : World} (h : KeepR lo hi A B) (k : KeepR lo hi B C) : KeepR lo hi A C := fun i h1 h2 => (k i h1 h2).trans (h i h1 h2)
theorem KeepR.put {lo hi n : Nat} (hb : hi ≤ n) (W : World) (l : Nat) (o o' : Obj) (hl : n ≤ l) (_ : W.heap[l]? = some o) (_ : o.isCells = false) (_ : o.isWalk = false) : KeepR lo hi W (W.putObj l o') := fun i h1 h2 => World.putObj_heap_other (by omega)
theorem KeepR.below {lo hi n : Nat} {W W' : World} (h : Below n W W') (hn : hi ≤ n) : KeepR lo hi W W' := fun i _ h2 => h.block i (by omega)
theorem AllBox.kept {lo hi b1 b2 : Nat} {oN oV : Option Addr} {cN cV : Nat} {ts : List (List UInt8)} {cs : List Int} {W W' : World} (h : AllBox lo hi b1 b2 oN oV cN cV ts cs W) (k : KeepR lo hi W W') : AllBox lo hi b1 b2 oN oV cN cV ts cs W' := by
  refine ⟨(World.cell?_of_block (k b1 h.b.1 h.b.2.1)).trans h.n, (World.cell?_of_block (k b2 h.b.2.2.1 h.b.2.2.2)).trans h.v, fun i hi => ?_, h.b⟩
  obtain ⟨gN, gV, e1, e2, c1, c2, l1, l2, l3, l4⟩ := h.c i hi
  exact ⟨gN, gV, e1, e2, (World.cell?_of_block (k gN l1 l2)).trans c1, (World.cell?_of_block (k gV l3 l4)).trans c2, l1, l2, l3, l4⟩
def AllPost (ts : List (List UInt8)) (cs : List Int) (w : World) (e : Ending) (w' : World) : Prop := ∃ b1 b2 oN oV cN cV, e = .returned (.func (.func 33) #[] #[.pointer (some ⟨b1, 0, none⟩), .pointer (some ⟨b2, 0, none⟩)]) ∧ AllBox w.heap.size w'.heap.size b1 b2 oN oV cN cV ts cs w' ∧ Below w.heap.size w w'
/-- Counts that are taken so far. -/
def takeC (cs : List Int) (n k : Nat) : List Value := (cs.take k ++ List.replicate (n - k) 0).map (Value.int .u64)
theorem takeC_set (cs : List Int) (n k : Nat) (hk : k < n) (hn : cs.length = n) : (takeC cs n k).set k (.int .u64 (cs.getD k 0)) = takeC cs n (k + 1) := by
  unfold takeC
  rw [← List.map_set, List.set_append_right _ _ (by simp; omega), show n - k = (n - (k + 1)) + 1 by omega, List.replicate_succ, List.take_succ_eq_append_getElem (show k < cs.length by omega), List.length_take, Nat.min_eq_left (show k ≤ cs.length by omega), Nat.sub_self, List.set_cons_zero, List.append_assoc]
  simp only [List.singleton_append, List.getD, List.getElem?_eq_getElem (show k < cs.length by omega), Option.getD_some]
theorem takeC_zero (cs : List Int) (n : Nat) : (madeCells (Value.int .u64 0).cells (n * 1)).toList = takeC cs n 0 := by
  show (madeCells #[Value.int .u64 0] (n * 1)).toList = _
  rw [Nat.mul_one, toList_madeCells_one]
  simp [takeC]
theorem takeC_end (cs : List Int) (n : Nat) (hn : cs.length = n) : takeC cs n n = cs.map (Value.int .u64) := by
  unfold takeC
  rw [Nat.sub_self, List.take_of_length_le (by omega)]
  simp

/-- While the counts are taken. -/
structure AllPre (w : World) (b1 b2 gV n : Nat) (y1 : Option Addr) (c1 : Nat) (ts : List (List UInt8)) (cs : List Int) (k : Nat) (wr : World) : Prop where
  bN : wr.cell? ⟨b1, 0, none⟩ = some (.slice y1 n c1)
  bV : wr.cell? ⟨b2, 0, none⟩ = some (.slice (some ⟨gV, 0, none⟩) n n)
  rN : wr.ownsRow w.heap.size 9 1 (.slice y1 n c1) n (ts.map encStr)
  rV : wr.ownsRow w.heap.size 33 1 (.slice (some ⟨gV, 0, none⟩) n n) n (takeC cs n k)
  bl : Below w.heap.size w wr
  ne : b1 ≠ gV ∧ b2 ≠ gV
  lo : w.heap.size ≤ b1 ∧ w.heap.size ≤ b2 ∧ w.heap.size ≤ gV
theorem AllPre.step {w wr : World} {b1 b2 gV n : Nat} {y1 : Option Addr} {c1 : Nat} {ts : List (List UInt8)} {cs : List Int} {k : Nat} (h : AllPre w b1 b2 gV n y1 c1 ts cs k wr) (hk : k < n) (hn : cs.length = n) : AllPre w b1 b2 gV n y1 c1 ts cs (k + 1) (wr.drew.setCell ⟨gV, k, none⟩ (.int .u64 (cs.getD k 0))) := by
  have hd : wr.grownBy wr.drew none := grown_drw wr
  have rV := srow_kept h.rV hd (by simp)
  obtain ⟨h1, h2⟩ := rV.stored k (.int .u64 (cs.getD k 0))
  rw [takeC_set cs n k hk hn] at h1
  refine ⟨(World.cell?_setCell_other _ _ _ _ (by have := h.ne.1; simp <;> omega)).trans h.bN, (World.cell?_setCell_other _ _ _ _ (by have := h.ne.2; simp <;> omega)).trans h.bV, (srow_kept h.rN hd (by simp)).kept h2 (.inr fun e => ?_), h1, (h.bl.drew).setCell (p := ⟨gV, k, none⟩) h.lo.2.2 _, h.ne, h.lo⟩
  obtain ⟨c', fz', hb⟩ := ownsRow_kind (srow_kept h.rN hd (by simp)) gV e
  obtain ⟨c2, fz2, hb2⟩ := ownsRow_kind rV gV rfl
  rw [hb] at hb2
  simp at hb2
theorem AllPre.box {w wr : World} {b1 b2 gV : Nat} {y1 : Option Addr} {c1 : Nat} {ts : List (List UInt8)} {cs : List Int} (h : AllPre w b1 b2 gV ts.length y1 c1 ts cs ts.length wr) (hn : cs.length = ts.length) : AllBox w.heap.size wr.heap.size b1 b2 y1 (some ⟨gV, 0, none⟩) c1 ts.length ts cs wr := by
  refine ⟨h.bN, h.bV, fun i hi => ?_, h.lo.1, World.block_lt_of_cell? wr _ h.bN, h.lo.2.1, World.block_lt_of_cell? wr _ h.bV⟩
  have hV := (h.rV.lt gV rfl)
  have hcV := h.rV.cellAt i (by omega)
  rw [takeC_end _ _ hn] at hcV
  rcases h.rN.2 with ⟨_, h0⟩ | ⟨gn, cn, cur, hv, hl, hb, _⟩
  · omega
  · simp only [Value.slice.injEq, true_and] at hv
    obtain ⟨rfl, rfl⟩ := hv
    have hcN := h.rN.cellAt i (by omega)
    refine ⟨gn, gV, rfl, rfl, ?_, ?_, hl, (Array.getElem?_eq_some_iff.1 hb).1, hV.1, hV.2⟩
    · rw [hcN]; simp [List.getD, List.getElem?_eq_getElem hi]
    · rw [hcV]; simp [List.getD, List.getElem?_eq_getElem (show i < cs.length by omega)]
section
variable {B t : Nat} {vn : Value} {g : Nat} {ts : List (List UInt8)} {cs : List Int}
set_option maxRecDepth 100000 in
set_option maxHeartbeats 4000000 in
theorem all24 (w : World) (hT : TallyIn w B t vn g ts cs) : Calls Try.prog 24 #[.pointer (some ⟨t, 0, none⟩)] w (AllPost ts cs w) := by
  have hmf : ∀ (fn : Fn) (first cap : Array Value) (w : World), (Instr.makeFunc fn first cap).run Try.prog w = .ok (.func fn first cap) w := fun _ _ _ _ => rfl
  obtain ⟨i0, hi, hz0, hz1, hz2⟩ := info_parts info33
  have HNA := hid (names_any w hT)
  have hf := hT.few
  have HT := hid hT
  have htl : t < w.heap.size := (Array.getElem?_eq_some_iff.1 hT.block).1
  have hgl : g < w.heap.size := (hT.counts.lt g (by simp [Value.ownBlock])).2
  clear hT
  obtain ⟨n, hn⟩ : ∃ n, n = ts.length := ⟨_, rfl⟩
  have HN := hid hn
  rw [← hn] at hf
  clear hn
  go_enter Try.func24, Try.ntmps24
  go_wp2_with (first
    | (go_at_call 21; refine HNA.out.mono ?_; rintro e w1 ⟨v1, rfl, hrow, hb1⟩; rw [← HN.out] at hrow; have HRW := hid hrow; have HB1 := hid hb1; clear hb1; obtain ⟨y1, c1, rfl⟩ := row_slice hrow; clear hrow)
    | (at_make; refine wpList_make_full _ rfl _ _ 70 rfl (w1.heap.size + 1) 33 i0 (.int .u64 0) 1 Try.underlying70 hi hz0 hz1 .i64 .i64 n n n rfl rfl rfl rfl (by rw [hz2]; omega) (by unfold maxLen; omega) (by simp) ?_; intro w3 hown3 hgrow3; have HO3 := hid hown3; have HG3 := hid hgrow3; clear hown3 hgrow3))
  have hown3 := HO3.out
  have hgrow3 := HG3.out
  have hs3 : w1.heap.size + 1 ≤ w3.heap.size := by have := hgrow3.size; simpa using this
  have b3 : w3.cell? ⟨w1.heap.size, 0, none⟩ = some (.slice y1 n c1) := (World.cell?_of_block (hgrow3.block w1.heap.size (by simp) (by simp))).trans (by simp [go_sem])
  rw [takeC_zero cs n] at hown3
  have HRN : Hid (w3.ownsRow w.heap.size 9 1 (.slice y1 n c1) n (ts.map encStr)) := srow_kept (srow_kept HRW.out (World.grownBy_alloc _ _ none) (by simp)) hgrow3 (by simp)
  have HB3 : Hid (Below w.heap.size w w3) := (HB1.out.alloc HB1.out.size _).grown hgrow3 (by have := HB1.out.size; simp; omega) (fun _ e => by cases e)
  have HRV := hid hown3
  clear hown3 hgrow3 HRW HNA HO3 HG3
  have hgv : w1.heap.size + 1 < w3.heap.size := by have := (HRV.out.lt (w1.heap.size + 1) (by simp [Value.ownBlock])).2; exact this
  have hw1 := HB1.out.size
  have HPR : Hid (AllPre w w1.heap.size w3.heap.size (w1.heap.size + 1) n y1 c1 ts cs 0 (w3.alloc (.cells #[.slice (some ⟨w1.heap.size + 1, 0, none⟩) n n] 70))) := by
    refine ⟨(World.cell?_of_block (Below.heap_alloc _ _ _ (World.block_lt_of_cell? w3 _ b3))).trans b3, by simp [go_sem], srow_kept HRN.out (World.grownBy_alloc _ _ none) (by simp), ?_, HB3.out.alloc HB3.out.size _, ⟨by omega, by omega⟩, by omega, by have := HB3.out.size; omega, by omega⟩
    have q := srow_kept HRV.out (World.grownBy_alloc _ (.cells #[.slice (some ⟨w1.heap.size + 1, 0, none⟩) n n] 70) none) (by simp)
    rw [World.size_alloc] at q
    exact own_lower q (by omega)
  clear HRV HRN HB3 b3
  go_loopw [13] (fun i wr => ∃ k : Nat, k ≤ n ∧ i = .int .i64 k ∧ Hid (AllPre w w1.heap.size w3.heap.size (w1.heap.size + 1) n y1 c1 ts cs k wr)) (fun i _ => n - (intOf i).toNat)
  case atStart => exact ⟨0, Nat.zero_le _, rfl, HPR⟩
  case round =>
    obtain ⟨k, hk, rfl, HPK⟩ := hrel
    by_cases hlt : k < n
    · have HTR := hid (HT.out.grown (grown_of_below HPK.out.bl))
      have t1 := HTR.out.cell1
      rw [← HN.out] at t1
      obtain ⟨e1, _⟩ := HTR.out.count (j := k) (by rw [← HN.out]; exact hlt)
      have bV := HPK.out.bV
      obtain ⟨f1, f2⟩ : (∃ u, wr.cell? ⟨w1.heap.size + 1, k, none⟩ = some u) ∧ wr.frozen? ⟨w1.heap.size + 1, k, none⟩ = false := by
        refine ⟨?_, HPK.out.rV.frozenAt k⟩
        rw [HPK.out.rV.cellAt k (by omega)]
        have hl : (takeC cs n k).length = n := by unfold takeC; have := HT.out.size; have := HN.out; simp; omega
        exact ⟨_, List.getElem?_eq_getElem (by omega)⟩
      obtain ⟨u, f1⟩ := f1
      obtain ⟨c, hc⟩ : ∃ c, c = cs.getD k 0 := ⟨_, rfl⟩
      have HST := hid (HPK.out.step hlt (by rw [HT.out.size]; exact HN.out.symm))
      rw [← hc] at e1 HST
      clear hc
      go_wp2_with fail
      refine wp_region_held_drew (S := (fun w' => w'.cell? ⟨w3.heap.size, 0, none⟩ = some (.slice (some ⟨w1.heap.size + 1, 0, none⟩) n n) ∧ w'.cell? ⟨t, 1, none⟩ = some (.slice (some ⟨g, 0, none⟩) n n))) (by kernel_rfl) ⟨bV, t1⟩ (fun hHeld => ?_)
      refine takeD (i := 0) (v := ?_) 16 rfl rfl (by kernel_rfl) (by kernel_rfl) (by kernel_rfl) (fun _ _ _ h => h) (by assumption) (Or.inl ⟨by rfl, ?_⟩) ?_
      rotate_left
      · intro w hSw
        (try dsimp only at hSw)
        go_simp
        try with_reducible rfl
      simp only [List.setIfInBounds_toArray, List.set_cons_zero, List.set_cons_succ]
      refine takeD (i := 1) (v := ?_) 17 rfl rfl (by kernel_rfl) (by kernel_rfl) (by kernel_rfl) (fun _ _ _ h => h) (by assumption) (Or.inl ⟨by rfl, ?_⟩) ?_
      rotate_left
      · intro w hSw
        (try dsimp only at hSw)
        go_simp
        try with_reducible rfl
      simp only [List.setIfInBounds_toArray, List.set_cons_zero, List.set_cons_succ]
      refine takeD (i := 2) (v := ?_) 18 rfl rfl (by kernel_rfl) (by kernel_rfl) (by kernel_rfl) (fun _ _ _ h => h) (by assumption) (Or.inl ⟨by rfl, ?_⟩) ?_
      rotate_left
      · intro w hSw
        (try dsimp only at hSw)
        go_simp
        try with_reducible rfl
      simp only [List.setIfInBounds_toArray, List.set_cons_zero, List.set_cons_succ]
      refine takeD (i := 3) (v := ?_) 19 rfl rfl (by kernel_rfl) (by kernel_rfl) (by kernel_rfl) (fun _ _ _ h => h) (by assumption) (Or.inl ⟨by rfl, ?_⟩) ?_
      rotate_left
      · intro w hSw
        (try dsimp only at hSw)
        go_simp
        try with_reducible rfl
      simp only [List.setIfInBounds_toArray, List.set_cons_zero, List.set_cons_succ]
      refine takeD (i := 4) (v := ?_) 20 rfl rfl (by kernel_rfl) (by kernel_rfl) (by kernel_rfl) (fun _ _ _ h => h) (by assumption) (Or.inl ⟨by rfl, ?_⟩) ?_
      rotate_left
      · intro w hSw
        (try dsimp only at hSw)
        go_simp
        try with_reducible rfl
      simp only [List.setIfInBounds_toArray, List.set_cons_zero, List.set_cons_succ]
      refine takeD (i := 5) (v := ?_) 21 rfl rfl (by kernel_rfl) (by kernel_rfl) (by kernel_rfl) (fun _ _ _ h => h) (by assumption) (Or.inl ⟨by rfl, ?_⟩) ?_
      rotate_left
      · intro w hSw
        (try dsimp only at hSw)
        go_simp
        try with_reducible rfl
      simp only [List.setIfInBounds_toArray, List.set_cons_zero, List.set_cons_succ]
      refine takeD (i := 6) (v := ?_) 22 rfl rfl (by kernel_rfl) (by kernel_rfl) (by kernel_rfl) (fun _ _ _ h => h) (by assumption) (Or.inl ⟨by rfl, ?_⟩) ?_
      rotate_left
      · intro w hSw
        (try dsimp only at hSw)
        go_simp
        try with_reducible rfl
      simp only [List.setIfInBounds_toArray, List.set_cons_zero, List.set_cons_succ]
      refine takeD (i := 7) (v := ?_) 23 rfl rfl (by kernel_rfl) (by kernel_rfl) (by kernel_rfl) (fun _ _ _ h => h) (by assumption) (Or.inl ⟨by rfl, ?_⟩) ?_
      rotate_left
      · intro w hSw
        (try dsimp only at hSw)
        go_simp
        try with_reducible rfl
      simp only [List.setIfInBounds_toArray, List.set_cons_zero, List.set_cons_succ]
      refine wpAnyH_ready (rs := [8]) (by kernel_rfl) (by simp) ?_
      refine AllReadyH.cons (by simp only [List.getElem?_toArray, List.getElem?_cons_succ, List.getElem?_cons_zero]; rfl) (fun K hK => ?_) AllReadyH.nil
      go_simp
      refine (atomic_load _ c wr.drew e1).mono ?_
      rintro e w' ⟨rfl, rfl⟩
      refine hK.out _ _ ?_ (fun hHeldN => ?_)
      · exact hHeld
      clear hK K hHeld
      have hHeld := hHeldN
      clear hHeldN
      refine takeD (i := 9) (v := ?_) 25 rfl rfl (by kernel_rfl) (by kernel_rfl) (by kernel_rfl) (fun _ _ _ h => h) (by assumption) (Or.inl ⟨by rfl, ?_⟩) ?_
      rotate_left
      · intro w hSw
        (try dsimp only at hSw)
        go_simp
        try with_reducible rfl
      simp only [List.setIfInBounds_toArray, List.set_cons_zero, List.set_cons_succ]
      refine wpAnyH_ready (rs := [10]) (by kernel_rfl) (by simp) ?_
      refine AllReadyH.cons (by simp only [List.getElem?_toArray, List.getElem?_cons_succ, List.getElem?_cons_zero]; rfl) (fun K hK => ?_) AllReadyH.nil
      go_simp

      refine hK.out _ _ ?_ (fun hHeldN => ?_)
      · exact ⟨(World.cell?_setCell_other wr.drew _ _ _ (by simp <;> omega)).trans bV, (World.cell?_setCell_other wr.drew _ _ _ (by simp <;> omega)).trans t1⟩
      clear hK K hHeld
      have hHeld := hHeldN
      clear hHeldN
      refine wpAnyH_done (by kernel_rfl) ?_ _
      go_wp2
      go_roundw
      case rel => exact ⟨k + 1, by omega, by go_num, HST⟩
      case measure => simp [intOf]; omega
    · have hkn : k = n := by omega
      subst hkn
      have hbx := HPK.out
      rw [HN.out] at hbx
      have HBX := hid (hbx.box HT.out.size)
      have HBB := hid hbx.bl
      clear hbx HPK
      go_wp2
      go_ret
      exact ⟨_, _, _, _, _, _, rfl, HBX.out, HBB.out⟩
end
end Go.Proofs.Ytadoiplfglaonab
