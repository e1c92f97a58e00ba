/-
  The reference's New: names put in one by one.
-/
import Derived.Test.YtadoiplfglaonabFew
import Derived.Deep.RegionHeld3
import Derived.Deep.AppendLies
namespace Go.Proofs.Ytadoiplfglaonab
open Go.RowKit Go.Shelf Go.Deep Go.Lib

def RefNewPost (zs : List ByteArray) (w : World) (e : Ending) (w' : World) : Prop := Below w.heap.size w w' ∧
  ((newErr zs ≠ 0 ∧ e = .returned (.tuple #[.slice none 0 0, .int .i64 (newErr zs)])) ∨
   (newErr zs = 0 ∧ ∃ v, e = .returned (.tuple #[v, .int .i64 0]) ∧ RefIn w' w.heap.size v (sorted zs) (List.replicate zs.length 0)))
theorem newErr_long {zs : List ByteArray} (h : 64 < zs.length) : newErr zs = 3 := by
  unfold newErr
  rw [if_pos h]
theorem own_lower {w : World} {B B' : Nat} {e : TypeId} {size n : Nat} {v : Value} {xs : List Value} (h : w.ownsRow B e size v n xs) (hB : B' ≤ B) : w.ownsRow B' e size v n xs :=
  ⟨h.1, h.2.imp id fun ⟨g, cap, cur, h1, h2, h3⟩ => ⟨g, cap, cur, h1, Nat.le_trans hB h2, h3⟩⟩
theorem run_append_nil (w : World) {B n : Nat} {v : Value} {xs : List Value} (h : w.ownsRow B 41 2 v n xs) (ty : TypeId) : (Builtin.append_ #[30, 30] ty #[v, .slice none 0 0]).run Try.prog w = .ok v w := by
  obtain ⟨i0, hi, hz0, hz1, hz2⟩ := info_parts info41
  rcases h.2 with ⟨rfl, _⟩ | ⟨g, cap, cur, rfl, _, _, hnc, _⟩
  · simp [Builtin.append_, run_underlying Try.underlying30, sizeOf, typeInfo, hi, Builtin.lenOf, Builtin.firstCells]
  · simp [Builtin.append_, run_underlying Try.underlying30, sizeOf, typeInfo, hi, Builtin.lenOf, Builtin.firstCells, hnc, storeCells]
section
variable {P : Program} {ops : Array Oper} {o : Oper} {a : Act} {w : World} {K : Act → World → Prop} {Q : Exit → Act → World → Prop} {E : Prop}
theorem step_append_run (hgd : o.guard = none) (s x : Operand) (t : TypeId) (ho : o.op = .call { callee := .builtin .append, args := #[s, x], argTypes := #[t, t] }) (vs vx v' : Value) (w' : World) (hs : a.eval s = vs) (hx : a.eval x = vx)
    (hr : (Builtin.append_ #[t, t] o.type #[vs, vx]).run P w = .ok v' w') (h : K (a.put o.dst v') w') :
    if Region.wanted o (yielded ops a.tmps) = true then Oper.wp P o a w K Q else E := by
  have hw : Region.wanted o (yielded ops a.tmps) = true := by simp [Region.wanted, hgd]
  rw [if_pos hw]
  unfold Oper.wp execOp
  simp only [ho, resolve, invoke, builtin, Sem.run_bind, Sem.run_pure, Result.andThen_ok, List.map_toArray, List.map_cons, List.map_nil, hs, hx, hr]
  exact h
end
theorem addr_add2 (g a j : Nat) : (⟨g, a, none⟩ : Addr).add j = (⟨g, 0, none⟩ : Addr).add (a + j) := by
  by_cases h : j = 0 <;> by_cases h2 : a = 0 <;> simp [Addr.add, h, h2]
theorem ref_part {w : World} {B g cap : Nat} {ts : List (List UInt8)} {n m : Nat} (h : RefIn w B (.slice (some ⟨g, 0, none⟩) n cap) ts (List.replicate n 0)) (hn : ts.length = n) (hm : m ≤ n) :
    (∀ j u, (cellsC (ts.take m) (List.replicate m 0))[j]? = some u → w.cell? ((⟨g, 0, none⟩ : Addr).add j) = some u) ∧ (∀ j u, (cellsC (ts.drop m) (List.replicate (n - m) 0))[j]? = some u → w.cell? ((⟨g, m * 2, none⟩ : Addr).add j) = some u) := by
  have e0 : cellsC ts (List.replicate n 0) = cellsC (ts.take m) (List.replicate m 0) ++ cellsC (ts.drop m) (List.replicate (n - m) 0) := by
    rw [← cellsC_append _ _ _ _ (by simp; omega), List.take_append_drop, List.replicate_append_replicate, show m + (n - m) = n by omega]
  have hrow := h.row
  rw [e0, hn] at hrow
  refine ⟨fun j u hu => hrow.cells (g := g) rfl j u (by rw [List.getElem?_append_left (List.getElem?_eq_some_iff.1 hu).1]; exact hu), fun j u hu => ?_⟩
  rw [addr_add2]
  refine hrow.cells (g := g) rfl _ u ?_
  have hl := cellsC_len (ts.take m) (List.replicate m 0) (by simp; omega)
  rw [List.length_take, Nat.min_eq_left (by omega)] at hl
  rw [List.getElem?_append_right (by omega), hl, Nat.add_sub_cancel_left]
  exact hu
theorem below_tr2 {a b c : World} (h : Below a.heap.size a b) (k : Below b.heap.size b c) : Below a.heap.size a c := h.trans (k.mono h.size)
theorem news_at {W : World} {b : Nat} (x y : Value) (t : TypeId) (hb : W.heap.size = b) : ∀ j u, [x, y][j]? = some u → (W.alloc (.cells #[x, y] t)).cell? ((⟨b, 0, none⟩ : Addr).add j) = some u := by
  subst hb
  exact news_two W x y t
theorem lit_at {W : World} {base b : Nat} (hb : W.heap.size = b) (hB : base ≤ b) : (W.alloc (.cells #[] 41)).ownsRow base 41 2 (.slice (some ⟨b, 0, none⟩) 0 0) 0 [] := by
  subst hb
  exact World.ownsRow_lit _ #[] 0 hB (Nat.zero_le _) rfl
theorem slice_if (c : Prop) [Decidable c] (a b : Addr) (n k : Nat) : Value.slice (if c then some a else some b) n k = Value.slice (some (if c then a else b)) n k := by split <;> rfl
theorem part_if {w : World} {g capl k m : Nat} {ts : List (List UInt8)} (hc : k ≤ capl) (hl : ts.length = k) (h : ∀ j u, (cellsC (ts.drop m) (List.replicate (k - m) 0))[j]? = some u → w.cell? ((⟨g, m * 2, none⟩ : Addr).add j) = some u) : ∀ j u, (cellsC (ts.drop m) (List.replicate (k - m) 0))[j]? = some u → w.cell? ((if capl = m then ⟨g, 0, none⟩ else ⟨g, m * 2, none⟩ : Addr).add j) = some u := by
  intro j u hu
  by_cases hcm : capl = m
  · rw [List.drop_eq_nil_of_le (by omega)] at hu
    cases hr : List.replicate (k - m) (0 : Int) <;> rw [hr] at hu <;> simp [cellsC] at hu
  · rw [if_neg hcm]
    exact h j u hu
theorem one_two' (x : ByteArray) : ∀ u ∈ [Value.string x, Value.int .u64 0], u.oneCell' = true := by
  intro u hu
  simp only [List.mem_cons, List.not_mem_nil, or_false] at hu
  rcases hu with rfl | rfl <;> rfl
theorem news_kept {w w' : World} {row : Option Nat} {b : Nat} {xs : List Value} (h : ∀ j u, xs[j]? = some u → w.cell? ((⟨b, 0, none⟩ : Addr).add j) = some u) (hg : w.grownBy w' row) (hb : b < w.heap.size) (hne : row ≠ some b) : ∀ j u, xs[j]? = some u → w'.cell? ((⟨b, 0, none⟩ : Addr).add j) = some u := fun j u hu => by
  rw [← h j u hu]
  have hbk : ((⟨b, 0, none⟩ : Addr).add j).block = b := by unfold Addr.add; split <;> rfl
  exact World.cell?_of_block (by rw [hbk]; exact hg.block b hb (fun e => hne e.symm))
theorem news_alloc {w : World} {a : Addr} {xs : List Value} (o : Obj) (h : ∀ j u, xs[j]? = some u → w.cell? (a.add j) = some u) : ∀ j u, xs[j]? = some u → (w.alloc o).cell? (a.add j) = some u := fun j u hu =>
  (World.cell?_of_block (Below.heap_alloc _ _ _ (World.block_lt_of_cell? w _ (h j u hu)))).trans (h j u hu)
theorem news_below {w w' : World} {a : Addr} {xs : List Value} (hb : Below w.heap.size w w') (h : ∀ j u, xs[j]? = some u → w.cell? (a.add j) = some u) : ∀ j u, xs[j]? = some u → w'.cell? (a.add j) = some u := fun j u hu =>
  (World.cell?_of_block (hb.block _ (World.block_lt_of_cell? w _ (h j u hu)))).trans (h j u hu)
/-- One name more is put in. -/
theorem ref_put {wr w' : World} {B n g cap i : Nat} {ts : List (List UInt8)} {x : ByteArray} {y : Option Addr} {c : Nat} (hi : i ≤ ts.length) (hr : w'.ownsRow wr.heap.size 41 2 (.slice y (ts.length + 1) c) (ts.length + 1) (cellsC (ts.take i) (List.replicate i 0) ++ [.string x, .int .u64 0] ++ cellsC (ts.drop i) (List.replicate (ts.length - i) 0))) (hB : B ≤ wr.heap.size) :
    RefIn w' B (.slice y (ts.length + 1) c) (insL ts i x.data.toList) (List.replicate (ts.length + 1) 0) := by
  have _ := (n, g, cap)
  have e1 : List.replicate (ts.length + 1) (0 : Int) = List.replicate i 0 ++ [0] ++ List.replicate (ts.length - i) 0 := by
    rw [show ts.length + 1 = i + 1 + (ts.length - i) by omega, ← List.replicate_append_replicate, ← List.replicate_append_replicate]
    rfl
  refine ⟨?_, by rw [insL_length _ _ _ hi]; simp⟩
  rw [insL_length _ _ _ hi, e1]
  unfold insL
  rw [cellsC_append _ _ _ _ (by simp; omega), cellsC_append _ _ _ _ (by simp; omega)]
  exact own_lower hr hB
set_option maxRecDepth 100000 in
set_option maxHeartbeats 4000000 in
theorem refNew_any (v : Value) (zs : List ByteArray) (w : World) (h : SRead w v zs) (h70 : zs.length ≤ 70) : Calls Try.prog 9 #[v] w (RefNewPost zs w) := by
  obtain ⟨i1, hi1, hy0, hy1, hy2⟩ := info_parts info41
  obtain ⟨o, cap, rfl, hf, hc⟩ := h
  have HC := hid hc
  clear hc hf
  obtain ⟨n, hn⟩ : ∃ n, n = zs.length := ⟨_, rfl⟩
  rw [← hn] at h70 HC ⊢
  have HN := hid hn
  clear hn
  by_cases h64 : 64 < n
  · have hE := newErr_long (zs := zs) (by rw [← HN.out]; exact h64)
    go_enter Try.func9, Try.ntmps9
    have fin : RefNewPost zs w (.returned (.tuple #[.slice none 0 0, .int .i64 3])) w := ⟨Below.refl _ _, .inl ⟨by rw [hE]; decide, by rw [hE]⟩⟩
    go_wp2
    go_ret2
    exact fin
  go_enter Try.func9, Try.ntmps9
  go_wp2
  go_loop [15] (fun i => ∃ k : Nat, k ≤ n ∧ i = .int .i64 k ∧ Hid (∀ s ∈ zs.take k, goodS s = true)) (fun i => n - (intOf i).toNat)
  case atStart => exact ⟨0, Nat.zero_le _, rfl, by simp [Hid]⟩
  case round =>
    obtain ⟨k, hk, rfl, HG⟩ := hrel
    by_cases hlt : k < n
    · obtain ⟨g, off, rfl, hck, hsz⟩ := HC.out k hlt
      have hmem : zs.getD k ByteArray.empty ∈ zs := by simp [List.getD, List.getElem?_eq_getElem (HN.out ▸ hlt)]
      have htk : zs.take (k + 1) = zs.take k ++ [zs.getD k ByteArray.empty] := by rw [List.take_succ_eq_append_getElem (HN.out ▸ hlt)]; simp [List.getD, List.getElem?_eq_getElem (HN.out ▸ hlt)]
      obtain ⟨s, hs⟩ : ∃ s, s = zs.getD k ByteArray.empty := ⟨_, rfl⟩
      rw [← hs] at hck hsz hmem htk
      have HM := hid hmem
      have HT := hid htk
      clear hs hmem htk
      unfold maxLen at hsz
      by_cases hg : goodS s = true
      · have h1 : 1 ≤ s.size ∧ s.size ≤ 40 := by simpa [goodS] using hg
        have HGs := hid hg
        obtain ⟨h1, h4⟩ := h1
        have b1 : ¬ (s.size : Int) < 1 := by omega
        have b2 : ¬ (40 : Int) < s.size := by omega
        clear hg
        go_wp2
        go_round
        case rel => exact ⟨k + 1, by omega, by go_num, by rw [HT.out]; intro x hx; rcases List.mem_append.1 hx with h | h; exact HG.out x h; simp at h; subst h; exact HGs.out⟩
        case measure => simp [intOf]; omega
      · have HB := hid hg
        have fin : RefNewPost zs w (.returned (.tuple #[.slice none 0 0, .int .i64 4])) w := by
          refine ⟨Below.refl _ _, .inl ?_⟩
          rw [newErr_form (by rw [← HN.out]; omega) HM.out (by simpa using HB.out)]
          exact ⟨by decide, rfl⟩
        have h5 : ¬ (1 ≤ s.size ∧ s.size ≤ 40) := by simpa [goodS] using hg
        clear hg
        by_cases he : s.size < 1
        · have b1 : (s.size : Int) < 1 := by omega
          go_wp2
          go_ret2
          exact fin
        · have b1 : ¬ (s.size : Int) < 1 := by omega
          have b2 : (40 : Int) < s.size := by omega
          go_wp2
          go_ret2
          exact fin
    · have hgd : zs.all goodS = true := all_good HG.out (by rw [← HN.out]; omega)
      have HGD := hid hgd
      clear hgd HG
      go_wp2
      go_loopw [6, 30] (fun v6 i wr => ∃ k : Nat, k ≤ n ∧ i = .int .i64 k ∧ ∃ ts, Hid (RefIn wr w.heap.size v6 ts (List.replicate ts.length 0)) ∧ Hid (Rising ts) ∧ Hid (ts.Perm ((zs.take k).map fun s => s.data.toList)) ∧ Hid (Below w.heap.size w wr)) (fun _ i _ => n - (intOf i).toNat)
      case atStart => exact ⟨0, Nat.zero_le _, rfl, [], ⟨World.ownsRow_nil _ _ _ _, rfl⟩, (fun i j _ hj => by simp at hj), by simp [Hid], Below.refl _ _⟩
      case round =>
        obtain ⟨k, hk, rfl, ts, HR, HRI, HP, HB⟩ := hrel
        have hlen : ts.length = k := by have := HP.out.length_eq; simp at this; rw [this]; have := HN.out; omega
        by_cases hlt : k < n
        · obtain ⟨gn, off, rfl, hck0, hsz⟩ := HC.out k hlt
          have hck := (World.cell?_of_block (a := ⟨gn, off + k, none⟩) (HB.out.block gn (World.block_lt_of_cell? w _ hck0))).trans hck0
          have htk : (zs.take (k + 1)).map (fun s => s.data.toList) = (zs.take k).map (fun s => s.data.toList) ++ [(zs.getD k ByteArray.empty).data.toList] := by rw [List.take_succ_eq_append_getElem (HN.out ▸ hlt), List.map_append]; simp only [List.map_cons, List.map_nil, List.getD, List.getElem?_eq_getElem (HN.out ▸ hlt), Option.getD_some]
          have hdup : (zs.getD k ByteArray.empty).data.toList ∈ ts → newErr zs = 1 := fun hm => newErr_twice (by rw [← HN.out]; omega) HGD.out (twice_of_mem (k := k) (by rw [← HN.out]; exact hlt) (HP.out.mem_iff.1 hm))
          obtain ⟨x, hx⟩ : ∃ x, x = zs.getD k ByteArray.empty := ⟨_, rfl⟩
          rw [← hx] at hck hsz htk hdup
          have HTK := hid htk
          have HDUP := hid hdup
          clear hx hck0 htk hdup hsz
          rcases HR.out.shape with ⟨rfl, h0⟩ | ⟨gl, capl, rfl, hgB, hgl, _⟩
          · have hts : ts = [] := List.eq_nil_of_length_eq_zero h0
            subst hts
            have HK0 := hid (show k = 0 by simpa using hlen.symm)
            clear hlen
            go_wp2
            go_loop [9] (fun i => i = .int .i64 0) (fun _ => 0)
            case atStart => rfl
            case round =>
              subst hrel
              go_wp2
              refine wp_region_held_drew (S := fun _ => True) (by kernel_rfl) trivial (fun hHeld => ?_)
              refine takeD (i := 1) (v := ?_) 63 rfl rfl (by kernel_rfl) (by kernel_rfl) (by kernel_rfl) (fun _ _ _ h => h) (by assumption) (Or.inl ⟨by rfl, ?_⟩) ?_
              rotate_left
              · intro w hSw
                (try dsimp only at hSw)
                go_simp
                try with_reducible rfl
              simp only [List.setIfInBounds_toArray, List.set_cons_zero, List.set_cons_succ]
              refine takeD (i := 2) (v := ?_) 64 rfl rfl (by kernel_rfl) (by kernel_rfl) (by kernel_rfl) (fun _ _ _ h => h) (by assumption) (Or.inl ⟨by rfl, ?_⟩) ?_
              rotate_left
              · intro w hSw
                (try dsimp only at hSw)
                go_simp
                try with_reducible rfl
              simp only [List.setIfInBounds_toArray, List.set_cons_zero, List.set_cons_succ]
              refine takeD (i := 3) (v := ?_) 65 rfl rfl (by kernel_rfl) (by kernel_rfl) (by kernel_rfl) (fun _ _ _ h => h) (by assumption) (Or.inl ⟨by rfl, ?_⟩) ?_
              rotate_left
              · intro w hSw
                (try dsimp only at hSw)
                go_simp
                try with_reducible rfl
              simp only [List.setIfInBounds_toArray, List.set_cons_zero, List.set_cons_succ]
              refine takeD (i := 5) (v := ?_) 67 rfl rfl (by kernel_rfl) (by kernel_rfl) (by kernel_rfl) (fun _ _ _ h => h) (by assumption) (Or.inl ⟨by rfl, ?_⟩) ?_
              rotate_left
              · intro w hSw
                (try dsimp only at hSw)
                go_simp
                try with_reducible rfl
              simp only [List.setIfInBounds_toArray, List.set_cons_zero, List.set_cons_succ]
              refine takeD (i := 6) (v := ?_) 68 rfl rfl (by kernel_rfl) (by kernel_rfl) (by kernel_rfl) (fun _ _ _ h => h) (by assumption) (Or.inl ⟨by rfl, ?_⟩) ?_
              rotate_left
              · intro w hSw
                (try dsimp only at hSw)
                go_simp
                try with_reducible rfl
              simp only [List.setIfInBounds_toArray, List.set_cons_zero, List.set_cons_succ]
              refine takeD (i := 9) (v := ?_) 71 rfl rfl (by kernel_rfl) (by kernel_rfl) (by kernel_rfl) (fun _ _ _ h => h) (by assumption) (Or.inl ⟨by rfl, ?_⟩) ?_
              rotate_left
              · intro w hSw
                (try dsimp only at hSw)
                go_simp
                try with_reducible rfl
              simp only [List.setIfInBounds_toArray, List.set_cons_zero, List.set_cons_succ]
              refine takeD (i := 10) (v := ?_) 72 rfl rfl (by kernel_rfl) (by kernel_rfl) (by kernel_rfl) (fun _ _ _ h => h) (by assumption) (Or.inl ⟨by rfl, ?_⟩) ?_
              rotate_left
              · intro w hSw
                (try dsimp only at hSw)
                go_simp
                try with_reducible rfl
              simp only [List.setIfInBounds_toArray, List.set_cons_zero, List.set_cons_succ]
              refine takeD (i := 11) (v := ?_) 73 rfl rfl (by kernel_rfl) (by kernel_rfl) (by kernel_rfl) (fun _ _ _ h => h) (by assumption) (Or.inl ⟨by rfl, ?_⟩) ?_
              rotate_left
              · intro w hSw
                (try dsimp only at hSw)
                go_simp
                try with_reducible rfl
              simp only [List.setIfInBounds_toArray, List.set_cons_zero, List.set_cons_succ]
              refine wpAnyH_ready (rs := [0, 7]) (by kernel_rfl) (by simp) ?_
              refine AllReadyH.cons (by simp only [List.getElem?_toArray, List.getElem?_cons_zero]; rfl) (fun K hK => ?_) (AllReadyH.cons (by simp only [List.getElem?_toArray, List.getElem?_cons_succ, List.getElem?_cons_zero]; rfl) (fun K hK => ?_) AllReadyH.nil)
              · go_simp
                refine hK.out _ _ trivial (fun hHeldN => ?_)
                clear hK K hHeldN
                (try simp only [Act.put, List.setIfInBounds_toArray, List.set_cons_zero, List.set_cons_succ])
                have HL1 : Hid ((wr.drew.alloc (.cells #[] 41)).ownsRow wr.heap.size 41 2 (.slice (some ⟨wr.heap.size, 0, none⟩) 0 0) 0 []) := lit_at (by simp) (by omega)
                refine wpAnyH_ready (rs := [4, 7]) (by kernel_rfl) (by simp) ?_
                refine AllReadyH.cons (by simp only [List.getElem?_toArray, List.getElem?_cons_succ, List.getElem?_cons_zero]; rfl) (fun K hK => ?_) (AllReadyH.cons (by simp only [List.getElem?_toArray, List.getElem?_cons_succ, List.getElem?_cons_zero]; rfl) (fun K hK => ?_) AllReadyH.nil)
                · refine step_append_run (by rfl) _ _ _ (by rfl) _ _ _ _ (by rfl) (by rfl) (run_append_nil _ (HL1.out) _) ?_
                  have HO1 := hid (HL1.out)
                  have HBA := hid (((Below.refl wr.heap.size wr).drew.alloc (Nat.le_refl _) (.cells #[] 41)))
                  refine hK.out _ _ trivial (fun hHeldN => ?_)
                  clear hK K hHeldN
                  (try simp only [Act.put, List.setIfInBounds_toArray, List.set_cons_zero, List.set_cons_succ])
                  refine wpAnyH_ready (rs := [7]) (by kernel_rfl) (by simp) ?_
                  refine AllReadyH.cons (by simp only [List.getElem?_toArray, List.getElem?_cons_succ, List.getElem?_cons_zero]; rfl) (fun K hK => ?_) AllReadyH.nil
                  go_simp
                  refine hK.out _ _ trivial (fun hHeldN => ?_)
                  clear hK K hHeldN
                  (try simp only [Act.put, List.setIfInBounds_toArray, List.set_cons_zero, List.set_cons_succ])
                  refine wpAnyH_ready (rs := [8]) (by kernel_rfl) (by simp) ?_
                  refine AllReadyH.cons (by simp only [List.getElem?_toArray, List.getElem?_cons_succ, List.getElem?_cons_zero]; rfl) (fun K hK => ?_) AllReadyH.nil
                  refine step_append_any (by rfl) _ _ _ (by rfl) wr.heap.size 41 i1 _ 2 24 Try.underlying30 hi1 hy0 hy1 hy2 rfl (by decide) _ 0 [] (by rfl) ((HO1.out.alloc (.cells #[.string x, .int .u64 0] 41))) ⟨wr.heap.size + 1, 0, none⟩ 1 1 [.string x, .int .u64 0] (by rfl) (by rfl) (news_at _ _ _ (by simp)) (one_two' x) (0 + 1) rfl _ rfl (by unfold maxLen; omega) (by omega) ((HBA.out.alloc HBA.out.size (.cells #[.string x, .int .u64 0] 41))).size ?_
                  intro y2 cap2 u8 hown8 hgrow8
                  have HO8 := hid hown8
                  have HB8 := hid (((HBA.out.alloc HBA.out.size (.cells #[.string x, .int .u64 0] 41))).grown hgrow8 ((HBA.out.alloc HBA.out.size (.cells #[.string x, .int .u64 0] 41))).size (fun k' e' => (((HO1.out.alloc (.cells #[.string x, .int .u64 0] 41))).lt k' e').1))
                  clear hown8 hgrow8
                  refine hK.out _ _ trivial (fun hHeldN => ?_)
                  clear hK K hHeldN
                  (try simp only [Act.put, List.setIfInBounds_toArray, List.set_cons_zero, List.set_cons_succ])
                  refine wpAnyH_ready (rs := [12]) (by kernel_rfl) (by simp) ?_
                  refine AllReadyH.cons (by simp only [List.getElem?_toArray, List.getElem?_cons_succ, List.getElem?_cons_zero]; rfl) (fun K hK => ?_) AllReadyH.nil
                  refine step_append_run (by rfl) _ _ _ (by rfl) _ _ _ _ (by rfl) (by rfl) (run_append_nil _ HO8.out _) ?_
                  refine hK.out _ _ trivial (fun hHeldN => ?_)
                  clear hK K hHeldN
                  (try simp only [Act.put, List.setIfInBounds_toArray, List.set_cons_zero, List.set_cons_succ])
                  refine takeD (i := 13) (v := ?_) 6 rfl rfl (by kernel_rfl) (by kernel_rfl) (by kernel_rfl) (fun _ _ _ h => h) (by assumption) (Or.inl ⟨by rfl, ?_⟩) ?_
                  rotate_left
                  · intro w hSw
                    (try dsimp only at hSw)
                    go_simp
                    try with_reducible rfl
                  simp only [List.setIfInBounds_toArray, List.set_cons_zero, List.set_cons_succ]
                  refine wpAnyH_done (by kernel_rfl) ?_ _
                  go_wp2
                  go_roundw
                  case rel => exact ⟨k + 1, by omega, by go_num, insL [] 0 x.data.toList, by have q := ref_put (B := w.heap.size) (n := 0) (g := 0) (cap := 0) (ts := []) (i := 0) (x := x) (Nat.le_refl _) HO8.out HB.out.size; exact q, insL_rising HRI.out (fun j hj => absurd hj (Nat.not_lt_zero j)) (fun hj => absurd hj (Nat.not_lt_zero _)) (Nat.le_refl _), (by rw [HTK.out]; exact insL_perm.trans (HP.out.append_right _)), below_tr2 HB.out HB8.out⟩
                  case measure => simp [intOf]; omega
                · go_simp
                  refine hK.out _ _ trivial (fun hHeldN => ?_)
                  clear hK K hHeldN
                  (try simp only [Act.put, List.setIfInBounds_toArray, List.set_cons_zero, List.set_cons_succ])
                  refine wpAnyH_ready (rs := [4]) (by kernel_rfl) (by simp) ?_
                  refine AllReadyH.cons (by simp only [List.getElem?_toArray, List.getElem?_cons_succ, List.getElem?_cons_zero]; rfl) (fun K hK => ?_) AllReadyH.nil
                  refine step_append_run (by rfl) _ _ _ (by rfl) _ _ _ _ (by rfl) (by rfl) (run_append_nil _ ((HL1.out.alloc (.cells #[.string x, .int .u64 0] 41))) _) ?_
                  have HO1 := hid ((HL1.out.alloc (.cells #[.string x, .int .u64 0] 41)))
                  have HBA := hid ((((Below.refl wr.heap.size wr).drew.alloc (Nat.le_refl _) (.cells #[] 41)).alloc (by simp) (.cells #[.string x, .int .u64 0] 41)))
                  refine hK.out _ _ trivial (fun hHeldN => ?_)
                  clear hK K hHeldN
                  (try simp only [Act.put, List.setIfInBounds_toArray, List.set_cons_zero, List.set_cons_succ])
                  refine wpAnyH_ready (rs := [8]) (by kernel_rfl) (by simp) ?_
                  refine AllReadyH.cons (by simp only [List.getElem?_toArray, List.getElem?_cons_succ, List.getElem?_cons_zero]; rfl) (fun K hK => ?_) AllReadyH.nil
                  refine step_append_any (by rfl) _ _ _ (by rfl) wr.heap.size 41 i1 _ 2 24 Try.underlying30 hi1 hy0 hy1 hy2 rfl (by decide) _ 0 [] (by rfl) (HO1.out) ⟨wr.heap.size + 1, 0, none⟩ 1 1 [.string x, .int .u64 0] (by rfl) (by rfl) ((news_at (W := wr.drew.alloc (.cells #[] 41)) (.string x) (.int .u64 0) 41 (by simp))) (one_two' x) (0 + 1) rfl _ rfl (by unfold maxLen; omega) (by omega) (HBA.out).size ?_
                  intro y2 cap2 u8 hown8 hgrow8
                  have HO8 := hid hown8
                  have HB8 := hid ((HBA.out).grown hgrow8 (HBA.out).size (fun k' e' => ((HO1.out).lt k' e').1))
                  clear hown8 hgrow8
                  refine hK.out _ _ trivial (fun hHeldN => ?_)
                  clear hK K hHeldN
                  (try simp only [Act.put, List.setIfInBounds_toArray, List.set_cons_zero, List.set_cons_succ])
                  refine wpAnyH_ready (rs := [12]) (by kernel_rfl) (by simp) ?_
                  refine AllReadyH.cons (by simp only [List.getElem?_toArray, List.getElem?_cons_succ, List.getElem?_cons_zero]; rfl) (fun K hK => ?_) AllReadyH.nil
                  refine step_append_run (by rfl) _ _ _ (by rfl) _ _ _ _ (by rfl) (by rfl) (run_append_nil _ HO8.out _) ?_
                  refine hK.out _ _ trivial (fun hHeldN => ?_)
                  clear hK K hHeldN
                  (try simp only [Act.put, List.setIfInBounds_toArray, List.set_cons_zero, List.set_cons_succ])
                  refine takeD (i := 13) (v := ?_) 6 rfl rfl (by kernel_rfl) (by kernel_rfl) (by kernel_rfl) (fun _ _ _ h => h) (by assumption) (Or.inl ⟨by rfl, ?_⟩) ?_
                  rotate_left
                  · intro w hSw
                    (try dsimp only at hSw)
                    go_simp
                    try with_reducible rfl
                  simp only [List.setIfInBounds_toArray, List.set_cons_zero, List.set_cons_succ]
                  refine wpAnyH_done (by kernel_rfl) ?_ _
                  go_wp2
                  go_roundw
                  case rel => exact ⟨k + 1, by omega, by go_num, insL [] 0 x.data.toList, by have q := ref_put (B := w.heap.size) (n := 0) (g := 0) (cap := 0) (ts := []) (i := 0) (x := x) (Nat.le_refl _) HO8.out HB.out.size; exact q, insL_rising HRI.out (fun j hj => absurd hj (Nat.not_lt_zero j)) (fun hj => absurd hj (Nat.not_lt_zero _)) (Nat.le_refl _), (by rw [HTK.out]; exact insL_perm.trans (HP.out.append_right _)), below_tr2 HB.out HB8.out⟩
                  case measure => simp [intOf]; omega
              · go_simp
                refine hK.out _ _ trivial (fun hHeldN => ?_)
                clear hK K hHeldN
                (try simp only [Act.put, List.setIfInBounds_toArray, List.set_cons_zero, List.set_cons_succ])
                refine wpAnyH_ready (rs := [0]) (by kernel_rfl) (by simp) ?_
                refine AllReadyH.cons (by simp only [List.getElem?_toArray, List.getElem?_cons_zero]; rfl) (fun K hK => ?_) AllReadyH.nil
                go_simp
                refine hK.out _ _ trivial (fun hHeldN => ?_)
                clear hK K hHeldN
                (try simp only [Act.put, List.setIfInBounds_toArray, List.set_cons_zero, List.set_cons_succ])
                have HL2 : Hid (((wr.drew.alloc (.cells #[.string x, .int .u64 0] 41)).alloc (.cells #[] 41)).ownsRow wr.heap.size 41 2 (.slice (some ⟨wr.heap.size + 1, 0, none⟩) 0 0) 0 []) := lit_at (by simp) (by omega)
                refine wpAnyH_ready (rs := [4]) (by kernel_rfl) (by simp) ?_
                refine AllReadyH.cons (by simp only [List.getElem?_toArray, List.getElem?_cons_succ, List.getElem?_cons_zero]; rfl) (fun K hK => ?_) AllReadyH.nil
                refine step_append_run (by rfl) _ _ _ (by rfl) _ _ _ _ (by rfl) (by rfl) (run_append_nil _ (HL2.out) _) ?_
                have HO1 := hid (HL2.out)
                have HBA := hid ((((Below.refl wr.heap.size wr).drew.alloc (Nat.le_refl _) (.cells #[.string x, .int .u64 0] 41)).alloc (by simp) (.cells #[] 41)))
                refine hK.out _ _ trivial (fun hHeldN => ?_)
                clear hK K hHeldN
                (try simp only [Act.put, List.setIfInBounds_toArray, List.set_cons_zero, List.set_cons_succ])
                refine wpAnyH_ready (rs := [8]) (by kernel_rfl) (by simp) ?_
                refine AllReadyH.cons (by simp only [List.getElem?_toArray, List.getElem?_cons_succ, List.getElem?_cons_zero]; rfl) (fun K hK => ?_) AllReadyH.nil
                refine step_append_any (by rfl) _ _ _ (by rfl) wr.heap.size 41 i1 _ 2 24 Try.underlying30 hi1 hy0 hy1 hy2 rfl (by decide) _ 0 [] (by rfl) (HO1.out) ⟨wr.heap.size, 0, none⟩ 1 1 [.string x, .int .u64 0] (by rfl) (by rfl) ((news_alloc (.cells #[] 41) (news_two wr.drew (.string x) (.int .u64 0) 41))) (one_two' x) (0 + 1) rfl _ rfl (by unfold maxLen; omega) (by omega) (HBA.out).size ?_
                intro y2 cap2 u8 hown8 hgrow8
                have HO8 := hid hown8
                have HB8 := hid ((HBA.out).grown hgrow8 (HBA.out).size (fun k' e' => ((HO1.out).lt k' e').1))
                clear hown8 hgrow8
                refine hK.out _ _ trivial (fun hHeldN => ?_)
                clear hK K hHeldN
                (try simp only [Act.put, List.setIfInBounds_toArray, List.set_cons_zero, List.set_cons_succ])
                refine wpAnyH_ready (rs := [12]) (by kernel_rfl) (by simp) ?_
                refine AllReadyH.cons (by simp only [List.getElem?_toArray, List.getElem?_cons_succ, List.getElem?_cons_zero]; rfl) (fun K hK => ?_) AllReadyH.nil
                refine step_append_run (by rfl) _ _ _ (by rfl) _ _ _ _ (by rfl) (by rfl) (run_append_nil _ HO8.out _) ?_
                refine hK.out _ _ trivial (fun hHeldN => ?_)
                clear hK K hHeldN
                (try simp only [Act.put, List.setIfInBounds_toArray, List.set_cons_zero, List.set_cons_succ])
                refine takeD (i := 13) (v := ?_) 6 rfl rfl (by kernel_rfl) (by kernel_rfl) (by kernel_rfl) (fun _ _ _ h => h) (by assumption) (Or.inl ⟨by rfl, ?_⟩) ?_
                rotate_left
                · intro w hSw
                  (try dsimp only at hSw)
                  go_simp
                  try with_reducible rfl
                simp only [List.setIfInBounds_toArray, List.set_cons_zero, List.set_cons_succ]
                refine wpAnyH_done (by kernel_rfl) ?_ _
                go_wp2
                go_roundw
                case rel => exact ⟨k + 1, by omega, by go_num, insL [] 0 x.data.toList, by have q := ref_put (B := w.heap.size) (n := 0) (g := 0) (cap := 0) (ts := []) (i := 0) (x := x) (Nat.le_refl _) HO8.out HB.out.size; exact q, insL_rising HRI.out (fun j hj => absurd hj (Nat.not_lt_zero j)) (fun hj => absurd hj (Nat.not_lt_zero _)) (Nat.le_refl _), (by rw [HTK.out]; exact insL_perm.trans (HP.out.append_right _)), below_tr2 HB.out HB8.out⟩
                case measure => simp [intOf]; omega
          · have hcap : k ≤ capl ∧ capl ≤ maxLen := by
              rcases HR.out.row.2 with ⟨h, _⟩ | ⟨g', c', cur, h, _, _, h2, h3, _⟩
              · simp at h
              · simp only [Value.slice.injEq, Option.some.injEq, Addr.mk.injEq, and_true] at h
                obtain ⟨_, _, rfl⟩ := h
                exact ⟨by omega, h3⟩
            have HCELL := hid (fun j (hj : j < ts.length) => HR.out.cells hj)
            have HLEN := hid hlen
            rw [hlen] at HCELL HR ⊢
            unfold maxLen at hcap
            obtain ⟨hcap1, hcap2⟩ := hcap
            go_wp2
            go_loop [9] (fun i => ∃ m : Nat, m ≤ k ∧ i = .int .i64 m ∧ Hid (∀ j, j < m → ts.getD j [] < x.data.toList)) (fun i => k - (intOf i).toNat)
            case atStart => exact ⟨0, Nat.zero_le _, rfl, fun i hi => absurd hi (Nat.not_lt_zero i)⟩
            case round =>
              obtain ⟨m, hm, rfl, HLT⟩ := hrel
              by_cases hmk : m < k
              · obtain ⟨c0, _, _⟩ := HCELL.out m hmk
                obtain ⟨y, hy⟩ : ∃ y, y = ts.getD m [] := ⟨_, rfl⟩
                rw [← hy] at c0
                have HY := hid hy
                clear hy
                have hbl : Op.bytesLess y x.toList = decide (y < x.data.toList) := by rw [bytesLess_eq, ByteArray.toList_eq]
                by_cases hyx : y < x.data.toList
                · have hb1 : Op.bytesLess y x.toList = true := by rw [hbl]; simpa using hyx
                  have HYX := hid hyx
                  clear hbl hyx
                  go_wp2
                  go_round
                  case rel =>
                    refine ⟨m + 1, by omega, by go_num, fun j hj => ?_⟩
                    rcases Nat.lt_succ_iff_lt_or_eq.1 hj with h | rfl
                    · exact HLT.out j h
                    · rw [← HY.out]; exact HYX.out
                  case measure => simp [intOf]; omega
                · have hb1 : Op.bytesLess y x.toList = false := by rw [hbl]; simpa using hyx
                  have HYX := hid hyx
                  clear hbl hyx
                  by_cases heq : y = x.data.toList
                  · have hb2 : (y == x.toList) = true := by rw [ByteArray.toList_eq]; simpa using heq
                    have hE := HDUP.out (by rw [← heq, HY.out, List.getD, List.getElem?_eq_getElem (by rw [HLEN.out]; exact hmk)]; simp)
                    have fin : RefNewPost zs w (.returned (.tuple #[.slice none 0 0, .int .i64 1])) wr := ⟨HB.out, .inl ⟨by rw [hE]; decide, by rw [hE]⟩⟩
                    clear heq hE
                    go_wp2
                    go_ret2
                    exact fin
                  · have hb2 : (y == x.toList) = false := by rw [ByteArray.toList_eq]; simpa using heq
                    have hgt : x.data.toList < ts.getD m [] := by rw [← HY.out]; exact Decidable.byContradiction fun h => heq (List.le_antisymm (List.not_lt.1 h) (List.not_lt.1 HYX.out))
                    have HGT := hid (show m < ts.length → x.data.toList < ts.getD m [] from fun _ => hgt)
                    clear hgt heq
                    go_wp2
                    have HPA := hid (ref_part HR.out HLEN.out hm).1
                    have HPB := hid (part_if (capl := capl) hcap1 HLEN.out (ref_part HR.out HLEN.out hm).2)
                    have hmc : m ≤ capl := by omega
                    have HLT1 : Hid ((cellsC (ts.take m) (List.replicate m (0 : Int))).length = m * 2) := by
                      have q := cellsC_len (ts.take m) (List.replicate m 0) (by simp; rw [HLEN.out]; omega)
                      rwa [List.length_take, Nat.min_eq_left (by rw [HLEN.out]; exact hm)] at q
                    have HLT2 : Hid ((cellsC (ts.drop m) (List.replicate (k - m) (0 : Int))).length = (k - m) * 2) := by
                      have q := cellsC_len (ts.drop m) (List.replicate (k - m) 0) (by simp; rw [HLEN.out])
                      rwa [List.length_drop, HLEN.out] at q
                    have REFP : Hid (∀ u9 y3 cap3, World.ownsRow u9 wr.heap.size 41 2 (.slice y3 (k + 1) cap3) (k + 1) (cellsC (ts.take m) (List.replicate m 0) ++ [.string x, .int .u64 0] ++ cellsC (ts.drop m) (List.replicate (k - m) 0)) → RefIn u9 w.heap.size (.slice y3 (k + 1) cap3) (insL ts m x.data.toList) (List.replicate (k + 1) 0)) := fun u9 y3 cap3 h => by
                      have q := ref_put (B := w.heap.size) (n := 0) (g := 0) (cap := 0) (wr := wr) (w' := u9) (ts := ts) (i := m) (x := x) (y := y3) (c := cap3) (by rw [HLEN.out]; exact hm) (by rw [HLEN.out]; exact h) HB.out.size
                      rwa [HLEN.out] at q
                    clear HC HDUP HCELL
                    refine wp_region_held_drew (S := fun _ => True) (by kernel_rfl) trivial (fun hHeld => ?_)
                    refine takeD (i := 1) (v := ?_) 63 rfl rfl (by kernel_rfl) (by kernel_rfl) (by kernel_rfl) (fun _ _ _ h => h) (by assumption) (Or.inl ⟨by rfl, ?_⟩) ?_
                    rotate_left
                    · intro w hSw
                      (try dsimp only at hSw)
                      go_simp
                      try with_reducible rfl
                    simp only [List.setIfInBounds_toArray, List.set_cons_zero, List.set_cons_succ]
                    refine takeD (i := 2) (v := ?_) 64 rfl rfl (by kernel_rfl) (by kernel_rfl) (by kernel_rfl) (fun _ _ _ h => h) (by assumption) (Or.inl ⟨by rfl, ?_⟩) ?_
                    rotate_left
                    · intro w hSw
                      (try dsimp only at hSw)
                      go_simp
                      try with_reducible rfl
                    simp only [List.setIfInBounds_toArray, List.set_cons_zero, List.set_cons_succ]
                    refine takeD (i := 3) (v := ?_) 65 rfl rfl (by kernel_rfl) (by kernel_rfl) (by kernel_rfl) (fun _ _ _ h => h) (by assumption) (Or.inl ⟨by rfl, ?_⟩) ?_
                    rotate_left
                    · intro w hSw
                      (try dsimp only at hSw)
                      go_simp
                      try with_reducible rfl
                    simp only [List.setIfInBounds_toArray, List.set_cons_zero, List.set_cons_succ]
                    refine takeD (i := 5) (v := ?_) 67 rfl rfl (by kernel_rfl) (by kernel_rfl) (by kernel_rfl) (fun _ _ _ h => h) (by assumption) (Or.inl ⟨by rfl, ?_⟩) ?_
                    rotate_left
                    · intro w hSw
                      (try dsimp only at hSw)
                      go_simp
                      try with_reducible rfl
                    simp only [List.setIfInBounds_toArray, List.set_cons_zero, List.set_cons_succ]
                    refine takeD (i := 6) (v := ?_) 68 rfl rfl (by kernel_rfl) (by kernel_rfl) (by kernel_rfl) (fun _ _ _ h => h) (by assumption) (Or.inl ⟨by rfl, ?_⟩) ?_
                    rotate_left
                    · intro w hSw
                      (try dsimp only at hSw)
                      go_simp
                      try with_reducible rfl
                    simp only [List.setIfInBounds_toArray, List.set_cons_zero, List.set_cons_succ]
                    refine takeD (i := 9) (v := ?_) 71 rfl rfl (by kernel_rfl) (by kernel_rfl) (by kernel_rfl) (fun _ _ _ h => h) (by assumption) (Or.inl ⟨by rfl, ?_⟩) ?_
                    rotate_left
                    · intro w hSw
                      (try dsimp only at hSw)
                      go_simp
                      try with_reducible rfl
                    simp only [List.setIfInBounds_toArray, List.set_cons_zero, List.set_cons_succ]
                    refine takeD (i := 10) (v := ?_) 72 rfl rfl (by kernel_rfl) (by kernel_rfl) (by kernel_rfl) (fun _ _ _ h => h) (by assumption) (Or.inl ⟨by rfl, ?_⟩) ?_
                    rotate_left
                    · intro w hSw
                      (try dsimp only at hSw)
                      go_simp
                      try with_reducible rfl
                    simp only [List.setIfInBounds_toArray, List.set_cons_zero, List.set_cons_succ]
                    refine takeD (i := 11) (v := ?_) 73 rfl rfl (by kernel_rfl) (by kernel_rfl) (by kernel_rfl) (fun _ _ _ h => h) (by assumption) (Or.inl ⟨by rfl, ?_⟩) ?_
                    rotate_left
                    · intro w hSw
                      (try dsimp only at hSw)
                      go_simp
                      try with_reducible rfl
                    simp only [List.setIfInBounds_toArray, List.set_cons_zero, List.set_cons_succ]
                    refine wpAnyH_ready (rs := [0, 7]) (by kernel_rfl) (by simp) ?_
                    refine AllReadyH.cons (by simp only [List.getElem?_toArray, List.getElem?_cons_zero]; rfl) (fun K hK => ?_) (AllReadyH.cons (by simp only [List.getElem?_toArray, List.getElem?_cons_succ, List.getElem?_cons_zero]; rfl) (fun K hK => ?_) AllReadyH.nil)
                    · go_simp
                      refine hK.out _ _ trivial (fun hHeldN => ?_)
                      clear hK K hHeldN
                      (try simp only [Act.put, List.setIfInBounds_toArray, List.set_cons_zero, List.set_cons_succ])
                      have HL1 : Hid ((wr.drew.alloc (.cells #[] 41)).ownsRow wr.heap.size 41 2 (.slice (some ⟨wr.heap.size, 0, none⟩) 0 0) 0 []) := lit_at (by simp) (by omega)
                      refine wpAnyH_ready (rs := [4, 7]) (by kernel_rfl) (by simp) ?_
                      refine AllReadyH.cons (by simp only [List.getElem?_toArray, List.getElem?_cons_succ, List.getElem?_cons_zero]; rfl) (fun K hK => ?_) (AllReadyH.cons (by simp only [List.getElem?_toArray, List.getElem?_cons_succ, List.getElem?_cons_zero]; rfl) (fun K hK => ?_) AllReadyH.nil)
                      · refine step_append_any (by rfl) _ _ _ (by rfl) wr.heap.size 41 i1 _ 2 24 Try.underlying30 hi1 hy0 hy1 hy2 rfl (by decide) _ 0 [] (by rfl) (HL1.out) ⟨gl, 0, none⟩ m _ (cellsC (ts.take m) (List.replicate m 0)) (by rfl) HLT1.out (news_below (((Below.refl wr.heap.size wr).drew.alloc (Nat.le_refl _) (.cells #[] 41))) HPA.out) (one_cellsC _ _) m (Nat.zero_add m) _ (List.nil_append _) (by unfold maxLen; omega) (by omega) (((Below.refl wr.heap.size wr).drew.alloc (Nat.le_refl _) (.cells #[] 41))).size ?_
                        intro y1 cap1 u1 hown1 hgrow1
                        have HO1 := hid hown1
                        have HGA := hid hgrow1
                        have HBA := hid ((((Below.refl wr.heap.size wr).drew.alloc (Nat.le_refl _) (.cells #[] 41))).grown hgrow1 (((Below.refl wr.heap.size wr).drew.alloc (Nat.le_refl _) (.cells #[] 41))).size (fun k' e' => ((HL1.out).lt k' e').1))
                        clear hown1 hgrow1
                        refine hK.out _ _ trivial (fun hHeldN => ?_)
                        clear hK K hHeldN
                        (try simp only [Act.put, List.setIfInBounds_toArray, List.set_cons_zero, List.set_cons_succ])
                        refine wpAnyH_ready (rs := [7]) (by kernel_rfl) (by simp) ?_
                        refine AllReadyH.cons (by simp only [List.getElem?_toArray, List.getElem?_cons_succ, List.getElem?_cons_zero]; rfl) (fun K hK => ?_) AllReadyH.nil
                        go_simp
                        refine hK.out _ _ trivial (fun hHeldN => ?_)
                        clear hK K hHeldN
                        (try simp only [Act.put, List.setIfInBounds_toArray, List.set_cons_zero, List.set_cons_succ])
                        refine wpAnyH_ready (rs := [8]) (by kernel_rfl) (by simp) ?_
                        refine AllReadyH.cons (by simp only [List.getElem?_toArray, List.getElem?_cons_succ, List.getElem?_cons_zero]; rfl) (fun K hK => ?_) AllReadyH.nil
                        refine step_append_any (by rfl) _ _ _ (by rfl) wr.heap.size 41 i1 _ 2 24 Try.underlying30 hi1 hy0 hy1 hy2 rfl (by decide) _ m (cellsC (ts.take m) (List.replicate m 0)) (by rfl) ((HO1.out.alloc (.cells #[.string x, .int .u64 0] 41))) ⟨u1.heap.size, 0, none⟩ 1 1 [.string x, .int .u64 0] (by rfl) (by rfl) (news_two _ _ _ _) (one_two' x) (m + 1) rfl _ rfl (by unfold maxLen; omega) (by omega) ((HBA.out.alloc HBA.out.size (.cells #[.string x, .int .u64 0] 41))).size ?_
                        intro y2 cap2 u8 hown8 hgrow8
                        have HO8 := hid hown8
                        have HB8 := hid (((HBA.out.alloc HBA.out.size (.cells #[.string x, .int .u64 0] 41))).grown hgrow8 ((HBA.out.alloc HBA.out.size (.cells #[.string x, .int .u64 0] 41))).size (fun k' e' => (((HO1.out.alloc (.cells #[.string x, .int .u64 0] 41))).lt k' e').1))
                        clear hown8 hgrow8
                        refine hK.out _ _ trivial (fun hHeldN => ?_)
                        clear hK K hHeldN
                        (try simp only [Act.put, List.setIfInBounds_toArray, List.set_cons_zero, List.set_cons_succ])
                        refine wpAnyH_ready (rs := [12]) (by kernel_rfl) (by simp) ?_
                        refine AllReadyH.cons (by simp only [List.getElem?_toArray, List.getElem?_cons_succ, List.getElem?_cons_zero]; rfl) (fun K hK => ?_) AllReadyH.nil
                        refine step_append_any (by rfl) _ _ _ (by rfl) wr.heap.size 41 i1 _ 2 24 Try.underlying30 hi1 hy0 hy1 hy2 rfl (by decide) _ (m + 1) ((cellsC (ts.take m) (List.replicate m 0)) ++ [.string x, .int .u64 0]) (by rfl) HO8.out (if capl = m then ⟨gl, 0, none⟩ else ⟨gl, m * 2, none⟩) (k - m) (capl - m) (cellsC (ts.drop m) (List.replicate (k - m) 0)) (by exact slice_if _ _ _ _ _) HLT2.out (news_below HB8.out HPB.out) (one_cellsC _ _) (k + 1) (by omega) _ rfl (by unfold maxLen; omega) (by omega) HB8.out.size ?_
                        intro y3 cap3 u9 hown9 hgrow9
                        have HO9 := hid hown9
                        have HB9 := hid (HB8.out.grown hgrow9 HB8.out.size (fun k' e' => (HO8.out.lt k' e').1))
                        clear hown9 hgrow9
                        refine hK.out _ _ trivial (fun hHeldN => ?_)
                        clear hK K hHeldN
                        (try simp only [Act.put, List.setIfInBounds_toArray, List.set_cons_zero, List.set_cons_succ])
                        refine takeD (i := 13) (v := ?_) 6 rfl rfl (by kernel_rfl) (by kernel_rfl) (by kernel_rfl) (fun _ _ _ h => h) (by assumption) (Or.inl ⟨by rfl, ?_⟩) ?_
                        rotate_left
                        · intro w hSw
                          (try dsimp only at hSw)
                          go_simp
                          try with_reducible rfl
                        simp only [List.setIfInBounds_toArray, List.set_cons_zero, List.set_cons_succ]
                        refine wpAnyH_done (by kernel_rfl) ?_ _
                        go_wp2
                        go_roundw
                        case rel => exact ⟨k + 1, by omega, by go_num, insL ts m x.data.toList, by rw [insL_length _ _ _ (by rw [HLEN.out]; exact hm), HLEN.out]; exact REFP.out _ _ _ HO9.out, insL_rising HRI.out (fun j hj _ => HLT.out j hj) HGT.out (by rw [HLEN.out]; exact hm), (by rw [HTK.out]; exact insL_perm.trans (HP.out.append_right _)), below_tr2 HB.out HB9.out⟩
                        case measure => simp [intOf]; omega
                      · go_simp
                        refine hK.out _ _ trivial (fun hHeldN => ?_)
                        clear hK K hHeldN
                        (try simp only [Act.put, List.setIfInBounds_toArray, List.set_cons_zero, List.set_cons_succ])
                        refine wpAnyH_ready (rs := [4]) (by kernel_rfl) (by simp) ?_
                        refine AllReadyH.cons (by simp only [List.getElem?_toArray, List.getElem?_cons_succ, List.getElem?_cons_zero]; rfl) (fun K hK => ?_) AllReadyH.nil
                        refine step_append_any (by rfl) _ _ _ (by rfl) wr.heap.size 41 i1 _ 2 24 Try.underlying30 hi1 hy0 hy1 hy2 rfl (by decide) _ 0 [] (by rfl) ((HL1.out.alloc (.cells #[.string x, .int .u64 0] 41))) ⟨gl, 0, none⟩ m _ (cellsC (ts.take m) (List.replicate m 0)) (by rfl) HLT1.out (news_below ((((Below.refl wr.heap.size wr).drew.alloc (Nat.le_refl _) (.cells #[] 41)).alloc (by simp) (.cells #[.string x, .int .u64 0] 41))) HPA.out) (one_cellsC _ _) m (Nat.zero_add m) _ (List.nil_append _) (by unfold maxLen; omega) (by omega) ((((Below.refl wr.heap.size wr).drew.alloc (Nat.le_refl _) (.cells #[] 41)).alloc (by simp) (.cells #[.string x, .int .u64 0] 41))).size ?_
                        intro y1 cap1 u1 hown1 hgrow1
                        have HO1 := hid hown1
                        have HGA := hid hgrow1
                        have HBA := hid (((((Below.refl wr.heap.size wr).drew.alloc (Nat.le_refl _) (.cells #[] 41)).alloc (by simp) (.cells #[.string x, .int .u64 0] 41))).grown hgrow1 ((((Below.refl wr.heap.size wr).drew.alloc (Nat.le_refl _) (.cells #[] 41)).alloc (by simp) (.cells #[.string x, .int .u64 0] 41))).size (fun k' e' => (((HL1.out.alloc (.cells #[.string x, .int .u64 0] 41))).lt k' e').1))
                        clear hown1 hgrow1
                        refine hK.out _ _ trivial (fun hHeldN => ?_)
                        clear hK K hHeldN
                        (try simp only [Act.put, List.setIfInBounds_toArray, List.set_cons_zero, List.set_cons_succ])
                        refine wpAnyH_ready (rs := [8]) (by kernel_rfl) (by simp) ?_
                        refine AllReadyH.cons (by simp only [List.getElem?_toArray, List.getElem?_cons_succ, List.getElem?_cons_zero]; rfl) (fun K hK => ?_) AllReadyH.nil
                        refine step_append_any (by rfl) _ _ _ (by rfl) wr.heap.size 41 i1 _ 2 24 Try.underlying30 hi1 hy0 hy1 hy2 rfl (by decide) _ m (cellsC (ts.take m) (List.replicate m 0)) (by rfl) (HO1.out) ⟨wr.heap.size + 1, 0, none⟩ 1 1 [.string x, .int .u64 0] (by rfl) (by rfl) (news_kept (news_at (W := wr.drew.alloc (.cells #[] 41)) (.string x) (.int .u64 0) 41 (by simp)) HGA.out (by simp) (by simp [Value.ownBlock])) (one_two' x) (m + 1) rfl _ rfl (by unfold maxLen; omega) (by omega) (HBA.out).size ?_
                        intro y2 cap2 u8 hown8 hgrow8
                        have HO8 := hid hown8
                        have HB8 := hid ((HBA.out).grown hgrow8 (HBA.out).size (fun k' e' => ((HO1.out).lt k' e').1))
                        clear hown8 hgrow8
                        refine hK.out _ _ trivial (fun hHeldN => ?_)
                        clear hK K hHeldN
                        (try simp only [Act.put, List.setIfInBounds_toArray, List.set_cons_zero, List.set_cons_succ])
                        refine wpAnyH_ready (rs := [12]) (by kernel_rfl) (by simp) ?_
                        refine AllReadyH.cons (by simp only [List.getElem?_toArray, List.getElem?_cons_succ, List.getElem?_cons_zero]; rfl) (fun K hK => ?_) AllReadyH.nil
                        refine step_append_any (by rfl) _ _ _ (by rfl) wr.heap.size 41 i1 _ 2 24 Try.underlying30 hi1 hy0 hy1 hy2 rfl (by decide) _ (m + 1) ((cellsC (ts.take m) (List.replicate m 0)) ++ [.string x, .int .u64 0]) (by rfl) HO8.out (if capl = m then ⟨gl, 0, none⟩ else ⟨gl, m * 2, none⟩) (k - m) (capl - m) (cellsC (ts.drop m) (List.replicate (k - m) 0)) (by exact slice_if _ _ _ _ _) HLT2.out (news_below HB8.out HPB.out) (one_cellsC _ _) (k + 1) (by omega) _ rfl (by unfold maxLen; omega) (by omega) HB8.out.size ?_
                        intro y3 cap3 u9 hown9 hgrow9
                        have HO9 := hid hown9
                        have HB9 := hid (HB8.out.grown hgrow9 HB8.out.size (fun k' e' => (HO8.out.lt k' e').1))
                        clear hown9 hgrow9
                        refine hK.out _ _ trivial (fun hHeldN => ?_)
                        clear hK K hHeldN
                        (try simp only [Act.put, List.setIfInBounds_toArray, List.set_cons_zero, List.set_cons_succ])
                        refine takeD (i := 13) (v := ?_) 6 rfl rfl (by kernel_rfl) (by kernel_rfl) (by kernel_rfl) (fun _ _ _ h => h) (by assumption) (Or.inl ⟨by rfl, ?_⟩) ?_
                        rotate_left
                        · intro w hSw
                          (try dsimp only at hSw)
                          go_simp
                          try with_reducible rfl
                        simp only [List.setIfInBounds_toArray, List.set_cons_zero, List.set_cons_succ]
                        refine wpAnyH_done (by kernel_rfl) ?_ _
                        go_wp2
                        go_roundw
                        case rel => exact ⟨k + 1, by omega, by go_num, insL ts m x.data.toList, by rw [insL_length _ _ _ (by rw [HLEN.out]; exact hm), HLEN.out]; exact REFP.out _ _ _ HO9.out, insL_rising HRI.out (fun j hj _ => HLT.out j hj) HGT.out (by rw [HLEN.out]; exact hm), (by rw [HTK.out]; exact insL_perm.trans (HP.out.append_right _)), below_tr2 HB.out HB9.out⟩
                        case measure => simp [intOf]; omega
                    · go_simp
                      refine hK.out _ _ trivial (fun hHeldN => ?_)
                      clear hK K hHeldN
                      (try simp only [Act.put, List.setIfInBounds_toArray, List.set_cons_zero, List.set_cons_succ])
                      refine wpAnyH_ready (rs := [0]) (by kernel_rfl) (by simp) ?_
                      refine AllReadyH.cons (by simp only [List.getElem?_toArray, List.getElem?_cons_zero]; rfl) (fun K hK => ?_) AllReadyH.nil
                      go_simp
                      refine hK.out _ _ trivial (fun hHeldN => ?_)
                      clear hK K hHeldN
                      (try simp only [Act.put, List.setIfInBounds_toArray, List.set_cons_zero, List.set_cons_succ])
                      have HL2 : Hid (((wr.drew.alloc (.cells #[.string x, .int .u64 0] 41)).alloc (.cells #[] 41)).ownsRow wr.heap.size 41 2 (.slice (some ⟨wr.heap.size + 1, 0, none⟩) 0 0) 0 []) := lit_at (by simp) (by omega)
                      refine wpAnyH_ready (rs := [4]) (by kernel_rfl) (by simp) ?_
                      refine AllReadyH.cons (by simp only [List.getElem?_toArray, List.getElem?_cons_succ, List.getElem?_cons_zero]; rfl) (fun K hK => ?_) AllReadyH.nil
                      refine step_append_any (by rfl) _ _ _ (by rfl) wr.heap.size 41 i1 _ 2 24 Try.underlying30 hi1 hy0 hy1 hy2 rfl (by decide) _ 0 [] (by rfl) (HL2.out) ⟨gl, 0, none⟩ m _ (cellsC (ts.take m) (List.replicate m 0)) (by rfl) HLT1.out (news_below ((((Below.refl wr.heap.size wr).drew.alloc (Nat.le_refl _) (.cells #[.string x, .int .u64 0] 41)).alloc (by simp) (.cells #[] 41))) HPA.out) (one_cellsC _ _) m (Nat.zero_add m) _ (List.nil_append _) (by unfold maxLen; omega) (by omega) ((((Below.refl wr.heap.size wr).drew.alloc (Nat.le_refl _) (.cells #[.string x, .int .u64 0] 41)).alloc (by simp) (.cells #[] 41))).size ?_
                      intro y1 cap1 u1 hown1 hgrow1
                      have HO1 := hid hown1
                      have HGA := hid hgrow1
                      have HBA := hid (((((Below.refl wr.heap.size wr).drew.alloc (Nat.le_refl _) (.cells #[.string x, .int .u64 0] 41)).alloc (by simp) (.cells #[] 41))).grown hgrow1 ((((Below.refl wr.heap.size wr).drew.alloc (Nat.le_refl _) (.cells #[.string x, .int .u64 0] 41)).alloc (by simp) (.cells #[] 41))).size (fun k' e' => ((HL2.out).lt k' e').1))
                      clear hown1 hgrow1
                      refine hK.out _ _ trivial (fun hHeldN => ?_)
                      clear hK K hHeldN
                      (try simp only [Act.put, List.setIfInBounds_toArray, List.set_cons_zero, List.set_cons_succ])
                      refine wpAnyH_ready (rs := [8]) (by kernel_rfl) (by simp) ?_
                      refine AllReadyH.cons (by simp only [List.getElem?_toArray, List.getElem?_cons_succ, List.getElem?_cons_zero]; rfl) (fun K hK => ?_) AllReadyH.nil
                      refine step_append_any (by rfl) _ _ _ (by rfl) wr.heap.size 41 i1 _ 2 24 Try.underlying30 hi1 hy0 hy1 hy2 rfl (by decide) _ m (cellsC (ts.take m) (List.replicate m 0)) (by rfl) (HO1.out) ⟨wr.heap.size, 0, none⟩ 1 1 [.string x, .int .u64 0] (by rfl) (by rfl) (news_kept (news_alloc (.cells #[] 41) (news_two wr.drew (.string x) (.int .u64 0) 41)) HGA.out (by simp; omega) (by simp [Value.ownBlock])) (one_two' x) (m + 1) rfl _ rfl (by unfold maxLen; omega) (by omega) (HBA.out).size ?_
                      intro y2 cap2 u8 hown8 hgrow8
                      have HO8 := hid hown8
                      have HB8 := hid ((HBA.out).grown hgrow8 (HBA.out).size (fun k' e' => ((HO1.out).lt k' e').1))
                      clear hown8 hgrow8
                      refine hK.out _ _ trivial (fun hHeldN => ?_)
                      clear hK K hHeldN
                      (try simp only [Act.put, List.setIfInBounds_toArray, List.set_cons_zero, List.set_cons_succ])
                      refine wpAnyH_ready (rs := [12]) (by kernel_rfl) (by simp) ?_
                      refine AllReadyH.cons (by simp only [List.getElem?_toArray, List.getElem?_cons_succ, List.getElem?_cons_zero]; rfl) (fun K hK => ?_) AllReadyH.nil
                      refine step_append_any (by rfl) _ _ _ (by rfl) wr.heap.size 41 i1 _ 2 24 Try.underlying30 hi1 hy0 hy1 hy2 rfl (by decide) _ (m + 1) ((cellsC (ts.take m) (List.replicate m 0)) ++ [.string x, .int .u64 0]) (by rfl) HO8.out (if capl = m then ⟨gl, 0, none⟩ else ⟨gl, m * 2, none⟩) (k - m) (capl - m) (cellsC (ts.drop m) (List.replicate (k - m) 0)) (by exact slice_if _ _ _ _ _) HLT2.out (news_below HB8.out HPB.out) (one_cellsC _ _) (k + 1) (by omega) _ rfl (by unfold maxLen; omega) (by omega) HB8.out.size ?_
                      intro y3 cap3 u9 hown9 hgrow9
                      have HO9 := hid hown9
                      have HB9 := hid (HB8.out.grown hgrow9 HB8.out.size (fun k' e' => (HO8.out.lt k' e').1))
                      clear hown9 hgrow9
                      refine hK.out _ _ trivial (fun hHeldN => ?_)
                      clear hK K hHeldN
                      (try simp only [Act.put, List.setIfInBounds_toArray, List.set_cons_zero, List.set_cons_succ])
                      refine takeD (i := 13) (v := ?_) 6 rfl rfl (by kernel_rfl) (by kernel_rfl) (by kernel_rfl) (fun _ _ _ h => h) (by assumption) (Or.inl ⟨by rfl, ?_⟩) ?_
                      rotate_left
                      · intro w hSw
                        (try dsimp only at hSw)
                        go_simp
                        try with_reducible rfl
                      simp only [List.setIfInBounds_toArray, List.set_cons_zero, List.set_cons_succ]
                      refine wpAnyH_done (by kernel_rfl) ?_ _
                      go_wp2
                      go_roundw
                      case rel => exact ⟨k + 1, by omega, by go_num, insL ts m x.data.toList, by rw [insL_length _ _ _ (by rw [HLEN.out]; exact hm), HLEN.out]; exact REFP.out _ _ _ HO9.out, insL_rising HRI.out (fun j hj _ => HLT.out j hj) HGT.out (by rw [HLEN.out]; exact hm), (by rw [HTK.out]; exact insL_perm.trans (HP.out.append_right _)), below_tr2 HB.out HB9.out⟩
                      case measure => simp [intOf]; omega
              · have HGT := hid (show m < ts.length → x.data.toList < ts.getD m [] from fun h => by rw [HLEN.out] at h; omega)
                go_wp2
                have HPA := hid (ref_part HR.out HLEN.out hm).1
                have HPB := hid (part_if (capl := capl) hcap1 HLEN.out (ref_part HR.out HLEN.out hm).2)
                have hmc : m ≤ capl := by omega
                have HLT1 : Hid ((cellsC (ts.take m) (List.replicate m (0 : Int))).length = m * 2) := by
                  have q := cellsC_len (ts.take m) (List.replicate m 0) (by simp; rw [HLEN.out]; omega)
                  rwa [List.length_take, Nat.min_eq_left (by rw [HLEN.out]; exact hm)] at q
                have HLT2 : Hid ((cellsC (ts.drop m) (List.replicate (k - m) (0 : Int))).length = (k - m) * 2) := by
                  have q := cellsC_len (ts.drop m) (List.replicate (k - m) 0) (by simp; rw [HLEN.out])
                  rwa [List.length_drop, HLEN.out] at q
                have REFP : Hid (∀ u9 y3 cap3, World.ownsRow u9 wr.heap.size 41 2 (.slice y3 (k + 1) cap3) (k + 1) (cellsC (ts.take m) (List.replicate m 0) ++ [.string x, .int .u64 0] ++ cellsC (ts.drop m) (List.replicate (k - m) 0)) → RefIn u9 w.heap.size (.slice y3 (k + 1) cap3) (insL ts m x.data.toList) (List.replicate (k + 1) 0)) := fun u9 y3 cap3 h => by
                  have q := ref_put (B := w.heap.size) (n := 0) (g := 0) (cap := 0) (wr := wr) (w' := u9) (ts := ts) (i := m) (x := x) (y := y3) (c := cap3) (by rw [HLEN.out]; exact hm) (by rw [HLEN.out]; exact h) HB.out.size
                  rwa [HLEN.out] at q
                clear HC HDUP HCELL
                refine wp_region_held_drew (S := fun _ => True) (by kernel_rfl) trivial (fun hHeld => ?_)
                refine takeD (i := 1) (v := ?_) 63 rfl rfl (by kernel_rfl) (by kernel_rfl) (by kernel_rfl) (fun _ _ _ h => h) (by assumption) (Or.inl ⟨by rfl, ?_⟩) ?_
                rotate_left
                · intro w hSw
                  (try dsimp only at hSw)
                  go_simp
                  try with_reducible rfl
                simp only [List.setIfInBounds_toArray, List.set_cons_zero, List.set_cons_succ]
                refine takeD (i := 2) (v := ?_) 64 rfl rfl (by kernel_rfl) (by kernel_rfl) (by kernel_rfl) (fun _ _ _ h => h) (by assumption) (Or.inl ⟨by rfl, ?_⟩) ?_
                rotate_left
                · intro w hSw
                  (try dsimp only at hSw)
                  go_simp
                  try with_reducible rfl
                simp only [List.setIfInBounds_toArray, List.set_cons_zero, List.set_cons_succ]
                refine takeD (i := 3) (v := ?_) 65 rfl rfl (by kernel_rfl) (by kernel_rfl) (by kernel_rfl) (fun _ _ _ h => h) (by assumption) (Or.inl ⟨by rfl, ?_⟩) ?_
                rotate_left
                · intro w hSw
                  (try dsimp only at hSw)
                  go_simp
                  try with_reducible rfl
                simp only [List.setIfInBounds_toArray, List.set_cons_zero, List.set_cons_succ]
                refine takeD (i := 5) (v := ?_) 67 rfl rfl (by kernel_rfl) (by kernel_rfl) (by kernel_rfl) (fun _ _ _ h => h) (by assumption) (Or.inl ⟨by rfl, ?_⟩) ?_
                rotate_left
                · intro w hSw
                  (try dsimp only at hSw)
                  go_simp
                  try with_reducible rfl
                simp only [List.setIfInBounds_toArray, List.set_cons_zero, List.set_cons_succ]
                refine takeD (i := 6) (v := ?_) 68 rfl rfl (by kernel_rfl) (by kernel_rfl) (by kernel_rfl) (fun _ _ _ h => h) (by assumption) (Or.inl ⟨by rfl, ?_⟩) ?_
                rotate_left
                · intro w hSw
                  (try dsimp only at hSw)
                  go_simp
                  try with_reducible rfl
                simp only [List.setIfInBounds_toArray, List.set_cons_zero, List.set_cons_succ]
                refine takeD (i := 9) (v := ?_) 71 rfl rfl (by kernel_rfl) (by kernel_rfl) (by kernel_rfl) (fun _ _ _ h => h) (by assumption) (Or.inl ⟨by rfl, ?_⟩) ?_
                rotate_left
                · intro w hSw
                  (try dsimp only at hSw)
                  go_simp
                  try with_reducible rfl
                simp only [List.setIfInBounds_toArray, List.set_cons_zero, List.set_cons_succ]
                refine takeD (i := 10) (v := ?_) 72 rfl rfl (by kernel_rfl) (by kernel_rfl) (by kernel_rfl) (fun _ _ _ h => h) (by assumption) (Or.inl ⟨by rfl, ?_⟩) ?_
                rotate_left
                · intro w hSw
                  (try dsimp only at hSw)
                  go_simp
                  try with_reducible rfl
                simp only [List.setIfInBounds_toArray, List.set_cons_zero, List.set_cons_succ]
                refine takeD (i := 11) (v := ?_) 73 rfl rfl (by kernel_rfl) (by kernel_rfl) (by kernel_rfl) (fun _ _ _ h => h) (by assumption) (Or.inl ⟨by rfl, ?_⟩) ?_
                rotate_left
                · intro w hSw
                  (try dsimp only at hSw)
                  go_simp
                  try with_reducible rfl
                simp only [List.setIfInBounds_toArray, List.set_cons_zero, List.set_cons_succ]
                refine wpAnyH_ready (rs := [0, 7]) (by kernel_rfl) (by simp) ?_
                refine AllReadyH.cons (by simp only [List.getElem?_toArray, List.getElem?_cons_zero]; rfl) (fun K hK => ?_) (AllReadyH.cons (by simp only [List.getElem?_toArray, List.getElem?_cons_succ, List.getElem?_cons_zero]; rfl) (fun K hK => ?_) AllReadyH.nil)
                · go_simp
                  refine hK.out _ _ trivial (fun hHeldN => ?_)
                  clear hK K hHeldN
                  (try simp only [Act.put, List.setIfInBounds_toArray, List.set_cons_zero, List.set_cons_succ])
                  have HL1 : Hid ((wr.drew.alloc (.cells #[] 41)).ownsRow wr.heap.size 41 2 (.slice (some ⟨wr.heap.size, 0, none⟩) 0 0) 0 []) := lit_at (by simp) (by omega)
                  refine wpAnyH_ready (rs := [4, 7]) (by kernel_rfl) (by simp) ?_
                  refine AllReadyH.cons (by simp only [List.getElem?_toArray, List.getElem?_cons_succ, List.getElem?_cons_zero]; rfl) (fun K hK => ?_) (AllReadyH.cons (by simp only [List.getElem?_toArray, List.getElem?_cons_succ, List.getElem?_cons_zero]; rfl) (fun K hK => ?_) AllReadyH.nil)
                  · refine step_append_any (by rfl) _ _ _ (by rfl) wr.heap.size 41 i1 _ 2 24 Try.underlying30 hi1 hy0 hy1 hy2 rfl (by decide) _ 0 [] (by rfl) (HL1.out) ⟨gl, 0, none⟩ m _ (cellsC (ts.take m) (List.replicate m 0)) (by rfl) HLT1.out (news_below (((Below.refl wr.heap.size wr).drew.alloc (Nat.le_refl _) (.cells #[] 41))) HPA.out) (one_cellsC _ _) m (Nat.zero_add m) _ (List.nil_append _) (by unfold maxLen; omega) (by omega) (((Below.refl wr.heap.size wr).drew.alloc (Nat.le_refl _) (.cells #[] 41))).size ?_
                    intro y1 cap1 u1 hown1 hgrow1
                    have HO1 := hid hown1
                    have HGA := hid hgrow1
                    have HBA := hid ((((Below.refl wr.heap.size wr).drew.alloc (Nat.le_refl _) (.cells #[] 41))).grown hgrow1 (((Below.refl wr.heap.size wr).drew.alloc (Nat.le_refl _) (.cells #[] 41))).size (fun k' e' => ((HL1.out).lt k' e').1))
                    clear hown1 hgrow1
                    refine hK.out _ _ trivial (fun hHeldN => ?_)
                    clear hK K hHeldN
                    (try simp only [Act.put, List.setIfInBounds_toArray, List.set_cons_zero, List.set_cons_succ])
                    refine wpAnyH_ready (rs := [7]) (by kernel_rfl) (by simp) ?_
                    refine AllReadyH.cons (by simp only [List.getElem?_toArray, List.getElem?_cons_succ, List.getElem?_cons_zero]; rfl) (fun K hK => ?_) AllReadyH.nil
                    go_simp
                    refine hK.out _ _ trivial (fun hHeldN => ?_)
                    clear hK K hHeldN
                    (try simp only [Act.put, List.setIfInBounds_toArray, List.set_cons_zero, List.set_cons_succ])
                    refine wpAnyH_ready (rs := [8]) (by kernel_rfl) (by simp) ?_
                    refine AllReadyH.cons (by simp only [List.getElem?_toArray, List.getElem?_cons_succ, List.getElem?_cons_zero]; rfl) (fun K hK => ?_) AllReadyH.nil
                    refine step_append_any (by rfl) _ _ _ (by rfl) wr.heap.size 41 i1 _ 2 24 Try.underlying30 hi1 hy0 hy1 hy2 rfl (by decide) _ m (cellsC (ts.take m) (List.replicate m 0)) (by rfl) ((HO1.out.alloc (.cells #[.string x, .int .u64 0] 41))) ⟨u1.heap.size, 0, none⟩ 1 1 [.string x, .int .u64 0] (by rfl) (by rfl) (news_two _ _ _ _) (one_two' x) (m + 1) rfl _ rfl (by unfold maxLen; omega) (by omega) ((HBA.out.alloc HBA.out.size (.cells #[.string x, .int .u64 0] 41))).size ?_
                    intro y2 cap2 u8 hown8 hgrow8
                    have HO8 := hid hown8
                    have HB8 := hid (((HBA.out.alloc HBA.out.size (.cells #[.string x, .int .u64 0] 41))).grown hgrow8 ((HBA.out.alloc HBA.out.size (.cells #[.string x, .int .u64 0] 41))).size (fun k' e' => (((HO1.out.alloc (.cells #[.string x, .int .u64 0] 41))).lt k' e').1))
                    clear hown8 hgrow8
                    refine hK.out _ _ trivial (fun hHeldN => ?_)
                    clear hK K hHeldN
                    (try simp only [Act.put, List.setIfInBounds_toArray, List.set_cons_zero, List.set_cons_succ])
                    refine wpAnyH_ready (rs := [12]) (by kernel_rfl) (by simp) ?_
                    refine AllReadyH.cons (by simp only [List.getElem?_toArray, List.getElem?_cons_succ, List.getElem?_cons_zero]; rfl) (fun K hK => ?_) AllReadyH.nil
                    refine step_append_any (by rfl) _ _ _ (by rfl) wr.heap.size 41 i1 _ 2 24 Try.underlying30 hi1 hy0 hy1 hy2 rfl (by decide) _ (m + 1) ((cellsC (ts.take m) (List.replicate m 0)) ++ [.string x, .int .u64 0]) (by rfl) HO8.out (if capl = m then ⟨gl, 0, none⟩ else ⟨gl, m * 2, none⟩) (k - m) (capl - m) (cellsC (ts.drop m) (List.replicate (k - m) 0)) (by exact slice_if _ _ _ _ _) HLT2.out (news_below HB8.out HPB.out) (one_cellsC _ _) (k + 1) (by omega) _ rfl (by unfold maxLen; omega) (by omega) HB8.out.size ?_
                    intro y3 cap3 u9 hown9 hgrow9
                    have HO9 := hid hown9
                    have HB9 := hid (HB8.out.grown hgrow9 HB8.out.size (fun k' e' => (HO8.out.lt k' e').1))
                    clear hown9 hgrow9
                    refine hK.out _ _ trivial (fun hHeldN => ?_)
                    clear hK K hHeldN
                    (try simp only [Act.put, List.setIfInBounds_toArray, List.set_cons_zero, List.set_cons_succ])
                    refine takeD (i := 13) (v := ?_) 6 rfl rfl (by kernel_rfl) (by kernel_rfl) (by kernel_rfl) (fun _ _ _ h => h) (by assumption) (Or.inl ⟨by rfl, ?_⟩) ?_
                    rotate_left
                    · intro w hSw
                      (try dsimp only at hSw)
                      go_simp
                      try with_reducible rfl
                    simp only [List.setIfInBounds_toArray, List.set_cons_zero, List.set_cons_succ]
                    refine wpAnyH_done (by kernel_rfl) ?_ _
                    go_wp2
                    go_roundw
                    case rel => exact ⟨k + 1, by omega, by go_num, insL ts m x.data.toList, by rw [insL_length _ _ _ (by rw [HLEN.out]; exact hm), HLEN.out]; exact REFP.out _ _ _ HO9.out, insL_rising HRI.out (fun j hj _ => HLT.out j hj) HGT.out (by rw [HLEN.out]; exact hm), (by rw [HTK.out]; exact insL_perm.trans (HP.out.append_right _)), below_tr2 HB.out HB9.out⟩
                    case measure => simp [intOf]; omega
                  · go_simp
                    refine hK.out _ _ trivial (fun hHeldN => ?_)
                    clear hK K hHeldN
                    (try simp only [Act.put, List.setIfInBounds_toArray, List.set_cons_zero, List.set_cons_succ])
                    refine wpAnyH_ready (rs := [4]) (by kernel_rfl) (by simp) ?_
                    refine AllReadyH.cons (by simp only [List.getElem?_toArray, List.getElem?_cons_succ, List.getElem?_cons_zero]; rfl) (fun K hK => ?_) AllReadyH.nil
                    refine step_append_any (by rfl) _ _ _ (by rfl) wr.heap.size 41 i1 _ 2 24 Try.underlying30 hi1 hy0 hy1 hy2 rfl (by decide) _ 0 [] (by rfl) ((HL1.out.alloc (.cells #[.string x, .int .u64 0] 41))) ⟨gl, 0, none⟩ m _ (cellsC (ts.take m) (List.replicate m 0)) (by rfl) HLT1.out (news_below ((((Below.refl wr.heap.size wr).drew.alloc (Nat.le_refl _) (.cells #[] 41)).alloc (by simp) (.cells #[.string x, .int .u64 0] 41))) HPA.out) (one_cellsC _ _) m (Nat.zero_add m) _ (List.nil_append _) (by unfold maxLen; omega) (by omega) ((((Below.refl wr.heap.size wr).drew.alloc (Nat.le_refl _) (.cells #[] 41)).alloc (by simp) (.cells #[.string x, .int .u64 0] 41))).size ?_
                    intro y1 cap1 u1 hown1 hgrow1
                    have HO1 := hid hown1
                    have HGA := hid hgrow1
                    have HBA := hid (((((Below.refl wr.heap.size wr).drew.alloc (Nat.le_refl _) (.cells #[] 41)).alloc (by simp) (.cells #[.string x, .int .u64 0] 41))).grown hgrow1 ((((Below.refl wr.heap.size wr).drew.alloc (Nat.le_refl _) (.cells #[] 41)).alloc (by simp) (.cells #[.string x, .int .u64 0] 41))).size (fun k' e' => (((HL1.out.alloc (.cells #[.string x, .int .u64 0] 41))).lt k' e').1))
                    clear hown1 hgrow1
                    refine hK.out _ _ trivial (fun hHeldN => ?_)
                    clear hK K hHeldN
                    (try simp only [Act.put, List.setIfInBounds_toArray, List.set_cons_zero, List.set_cons_succ])
                    refine wpAnyH_ready (rs := [8]) (by kernel_rfl) (by simp) ?_
                    refine AllReadyH.cons (by simp only [List.getElem?_toArray, List.getElem?_cons_succ, List.getElem?_cons_zero]; rfl) (fun K hK => ?_) AllReadyH.nil
                    refine step_append_any (by rfl) _ _ _ (by rfl) wr.heap.size 41 i1 _ 2 24 Try.underlying30 hi1 hy0 hy1 hy2 rfl (by decide) _ m (cellsC (ts.take m) (List.replicate m 0)) (by rfl) (HO1.out) ⟨wr.heap.size + 1, 0, none⟩ 1 1 [.string x, .int .u64 0] (by rfl) (by rfl) (news_kept (news_at (W := wr.drew.alloc (.cells #[] 41)) (.string x) (.int .u64 0) 41 (by simp)) HGA.out (by simp) (by simp [Value.ownBlock])) (one_two' x) (m + 1) rfl _ rfl (by unfold maxLen; omega) (by omega) (HBA.out).size ?_
                    intro y2 cap2 u8 hown8 hgrow8
                    have HO8 := hid hown8
                    have HB8 := hid ((HBA.out).grown hgrow8 (HBA.out).size (fun k' e' => ((HO1.out).lt k' e').1))
                    clear hown8 hgrow8
                    refine hK.out _ _ trivial (fun hHeldN => ?_)
                    clear hK K hHeldN
                    (try simp only [Act.put, List.setIfInBounds_toArray, List.set_cons_zero, List.set_cons_succ])
                    refine wpAnyH_ready (rs := [12]) (by kernel_rfl) (by simp) ?_
                    refine AllReadyH.cons (by simp only [List.getElem?_toArray, List.getElem?_cons_succ, List.getElem?_cons_zero]; rfl) (fun K hK => ?_) AllReadyH.nil
                    refine step_append_any (by rfl) _ _ _ (by rfl) wr.heap.size 41 i1 _ 2 24 Try.underlying30 hi1 hy0 hy1 hy2 rfl (by decide) _ (m + 1) ((cellsC (ts.take m) (List.replicate m 0)) ++ [.string x, .int .u64 0]) (by rfl) HO8.out (if capl = m then ⟨gl, 0, none⟩ else ⟨gl, m * 2, none⟩) (k - m) (capl - m) (cellsC (ts.drop m) (List.replicate (k - m) 0)) (by exact slice_if _ _ _ _ _) HLT2.out (news_below HB8.out HPB.out) (one_cellsC _ _) (k + 1) (by omega) _ rfl (by unfold maxLen; omega) (by omega) HB8.out.size ?_
                    intro y3 cap3 u9 hown9 hgrow9
                    have HO9 := hid hown9
                    have HB9 := hid (HB8.out.grown hgrow9 HB8.out.size (fun k' e' => (HO8.out.lt k' e').1))
                    clear hown9 hgrow9
                    refine hK.out _ _ trivial (fun hHeldN => ?_)
                    clear hK K hHeldN
                    (try simp only [Act.put, List.setIfInBounds_toArray, List.set_cons_zero, List.set_cons_succ])
                    refine takeD (i := 13) (v := ?_) 6 rfl rfl (by kernel_rfl) (by kernel_rfl) (by kernel_rfl) (fun _ _ _ h => h) (by assumption) (Or.inl ⟨by rfl, ?_⟩) ?_
                    rotate_left
                    · intro w hSw
                      (try dsimp only at hSw)
                      go_simp
                      try with_reducible rfl
                    simp only [List.setIfInBounds_toArray, List.set_cons_zero, List.set_cons_succ]
                    refine wpAnyH_done (by kernel_rfl) ?_ _
                    go_wp2
                    go_roundw
                    case rel => exact ⟨k + 1, by omega, by go_num, insL ts m x.data.toList, by rw [insL_length _ _ _ (by rw [HLEN.out]; exact hm), HLEN.out]; exact REFP.out _ _ _ HO9.out, insL_rising HRI.out (fun j hj _ => HLT.out j hj) HGT.out (by rw [HLEN.out]; exact hm), (by rw [HTK.out]; exact insL_perm.trans (HP.out.append_right _)), below_tr2 HB.out HB9.out⟩
                    case measure => simp [intOf]; omega
                · go_simp
                  refine hK.out _ _ trivial (fun hHeldN => ?_)
                  clear hK K hHeldN
                  (try simp only [Act.put, List.setIfInBounds_toArray, List.set_cons_zero, List.set_cons_succ])
                  refine wpAnyH_ready (rs := [0]) (by kernel_rfl) (by simp) ?_
                  refine AllReadyH.cons (by simp only [List.getElem?_toArray, List.getElem?_cons_zero]; rfl) (fun K hK => ?_) AllReadyH.nil
                  go_simp
                  refine hK.out _ _ trivial (fun hHeldN => ?_)
                  clear hK K hHeldN
                  (try simp only [Act.put, List.setIfInBounds_toArray, List.set_cons_zero, List.set_cons_succ])
                  have HL2 : Hid (((wr.drew.alloc (.cells #[.string x, .int .u64 0] 41)).alloc (.cells #[] 41)).ownsRow wr.heap.size 41 2 (.slice (some ⟨wr.heap.size + 1, 0, none⟩) 0 0) 0 []) := lit_at (by simp) (by omega)
                  refine wpAnyH_ready (rs := [4]) (by kernel_rfl) (by simp) ?_
                  refine AllReadyH.cons (by simp only [List.getElem?_toArray, List.getElem?_cons_succ, List.getElem?_cons_zero]; rfl) (fun K hK => ?_) AllReadyH.nil
                  refine step_append_any (by rfl) _ _ _ (by rfl) wr.heap.size 41 i1 _ 2 24 Try.underlying30 hi1 hy0 hy1 hy2 rfl (by decide) _ 0 [] (by rfl) (HL2.out) ⟨gl, 0, none⟩ m _ (cellsC (ts.take m) (List.replicate m 0)) (by rfl) HLT1.out (news_below ((((Below.refl wr.heap.size wr).drew.alloc (Nat.le_refl _) (.cells #[.string x, .int .u64 0] 41)).alloc (by simp) (.cells #[] 41))) HPA.out) (one_cellsC _ _) m (Nat.zero_add m) _ (List.nil_append _) (by unfold maxLen; omega) (by omega) ((((Below.refl wr.heap.size wr).drew.alloc (Nat.le_refl _) (.cells #[.string x, .int .u64 0] 41)).alloc (by simp) (.cells #[] 41))).size ?_
                  intro y1 cap1 u1 hown1 hgrow1
                  have HO1 := hid hown1
                  have HGA := hid hgrow1
                  have HBA := hid (((((Below.refl wr.heap.size wr).drew.alloc (Nat.le_refl _) (.cells #[.string x, .int .u64 0] 41)).alloc (by simp) (.cells #[] 41))).grown hgrow1 ((((Below.refl wr.heap.size wr).drew.alloc (Nat.le_refl _) (.cells #[.string x, .int .u64 0] 41)).alloc (by simp) (.cells #[] 41))).size (fun k' e' => ((HL2.out).lt k' e').1))
                  clear hown1 hgrow1
                  refine hK.out _ _ trivial (fun hHeldN => ?_)
                  clear hK K hHeldN
                  (try simp only [Act.put, List.setIfInBounds_toArray, List.set_cons_zero, List.set_cons_succ])
                  refine wpAnyH_ready (rs := [8]) (by kernel_rfl) (by simp) ?_
                  refine AllReadyH.cons (by simp only [List.getElem?_toArray, List.getElem?_cons_succ, List.getElem?_cons_zero]; rfl) (fun K hK => ?_) AllReadyH.nil
                  refine step_append_any (by rfl) _ _ _ (by rfl) wr.heap.size 41 i1 _ 2 24 Try.underlying30 hi1 hy0 hy1 hy2 rfl (by decide) _ m (cellsC (ts.take m) (List.replicate m 0)) (by rfl) (HO1.out) ⟨wr.heap.size, 0, none⟩ 1 1 [.string x, .int .u64 0] (by rfl) (by rfl) (news_kept (news_alloc (.cells #[] 41) (news_two wr.drew (.string x) (.int .u64 0) 41)) HGA.out (by simp; omega) (by simp [Value.ownBlock])) (one_two' x) (m + 1) rfl _ rfl (by unfold maxLen; omega) (by omega) (HBA.out).size ?_
                  intro y2 cap2 u8 hown8 hgrow8
                  have HO8 := hid hown8
                  have HB8 := hid ((HBA.out).grown hgrow8 (HBA.out).size (fun k' e' => ((HO1.out).lt k' e').1))
                  clear hown8 hgrow8
                  refine hK.out _ _ trivial (fun hHeldN => ?_)
                  clear hK K hHeldN
                  (try simp only [Act.put, List.setIfInBounds_toArray, List.set_cons_zero, List.set_cons_succ])
                  refine wpAnyH_ready (rs := [12]) (by kernel_rfl) (by simp) ?_
                  refine AllReadyH.cons (by simp only [List.getElem?_toArray, List.getElem?_cons_succ, List.getElem?_cons_zero]; rfl) (fun K hK => ?_) AllReadyH.nil
                  refine step_append_any (by rfl) _ _ _ (by rfl) wr.heap.size 41 i1 _ 2 24 Try.underlying30 hi1 hy0 hy1 hy2 rfl (by decide) _ (m + 1) ((cellsC (ts.take m) (List.replicate m 0)) ++ [.string x, .int .u64 0]) (by rfl) HO8.out (if capl = m then ⟨gl, 0, none⟩ else ⟨gl, m * 2, none⟩) (k - m) (capl - m) (cellsC (ts.drop m) (List.replicate (k - m) 0)) (by exact slice_if _ _ _ _ _) HLT2.out (news_below HB8.out HPB.out) (one_cellsC _ _) (k + 1) (by omega) _ rfl (by unfold maxLen; omega) (by omega) HB8.out.size ?_
                  intro y3 cap3 u9 hown9 hgrow9
                  have HO9 := hid hown9
                  have HB9 := hid (HB8.out.grown hgrow9 HB8.out.size (fun k' e' => (HO8.out.lt k' e').1))
                  clear hown9 hgrow9
                  refine hK.out _ _ trivial (fun hHeldN => ?_)
                  clear hK K hHeldN
                  (try simp only [Act.put, List.setIfInBounds_toArray, List.set_cons_zero, List.set_cons_succ])
                  refine takeD (i := 13) (v := ?_) 6 rfl rfl (by kernel_rfl) (by kernel_rfl) (by kernel_rfl) (fun _ _ _ h => h) (by assumption) (Or.inl ⟨by rfl, ?_⟩) ?_
                  rotate_left
                  · intro w hSw
                    (try dsimp only at hSw)
                    go_simp
                    try with_reducible rfl
                  simp only [List.setIfInBounds_toArray, List.set_cons_zero, List.set_cons_succ]
                  refine wpAnyH_done (by kernel_rfl) ?_ _
                  go_wp2
                  go_roundw
                  case rel => exact ⟨k + 1, by omega, by go_num, insL ts m x.data.toList, by rw [insL_length _ _ _ (by rw [HLEN.out]; exact hm), HLEN.out]; exact REFP.out _ _ _ HO9.out, insL_rising HRI.out (fun j hj _ => HLT.out j hj) HGT.out (by rw [HLEN.out]; exact hm), (by rw [HTK.out]; exact insL_perm.trans (HP.out.append_right _)), below_tr2 HB.out HB9.out⟩
                  case measure => simp [intOf]; omega
        · have hkn : k = n := by omega
          have hkz : zs.take k = zs := by rw [hkn, HN.out]; exact List.take_length
          have hts : ts = sorted zs := eq_sorted (by have := HP.out; rwa [hkz] at this) HRI.out
          have hE : newErr zs = 0 := newErr_none (by rw [← HN.out]; omega) HGD.out (by rw [← hts]; exact twice_rising HRI.out _)
          have fin : RefNewPost zs w (.returned (.tuple #[_, .int .i64 0])) wr := ⟨HB.out, .inr ⟨hE, _, rfl, by rw [← hts, ← HN.out, ← hkn, ← hlen]; exact HR.out⟩⟩
          have FIN := hid fin
          obtain ⟨y6, c6, hv6⟩ := row_slice HR.out.row
          subst hv6
          clear fin hE hts hkz hlen
          go_wp2
          go_ret2
          exact FIN.out
end Go.Proofs.Ytadoiplfglaonab
