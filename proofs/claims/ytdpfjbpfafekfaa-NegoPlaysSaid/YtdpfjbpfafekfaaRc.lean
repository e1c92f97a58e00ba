/-
  The reference hears.
-/
import Derived.Test.YtdpfjbpfafekfaaRb
import Derived.Deep.RegionHeld3
namespace Go.Proofs.Ytdpfjbpfafekfaa
open Go.RowKit Go.Lib

theorem strOf_toList (xs : List Int) : (strOfNums xs).toList = xs.map fun n => UInt8.ofNat n.toNat := by
  rw [Lib.toList_data]
  unfold strOfNums
  simp
theorem byte_inj : ∀ {xs ys : List Int}, (∀ x ∈ xs, 0 ≤ x ∧ x < 256) → (∀ x ∈ ys, 0 ≤ x ∧ x < 256) → xs.map (fun n => UInt8.ofNat n.toNat) = ys.map (fun n => UInt8.ofNat n.toNat) → xs = ys
  | [], [], _, _, _ => rfl
  | [], y :: ys, _, _, h => by cases h
  | x :: xs, [], _, _, h => by cases h
  | x :: xs, y :: ys, hx, hy, h => by
    simp only [List.map_cons, List.cons.injEq] at h
    have h1 := hx x (by simp)
    have h2 := hy y (by simp)
    have e := congrArg UInt8.toNat h.1
    rw [UInt8.toNat_ofNat_of_lt' (show x.toNat < 256 by omega), UInt8.toNat_ofNat_of_lt' (show y.toNat < 256 by omega)] at e
    rw [byte_inj (fun z hz => hx z (List.mem_cons_of_mem _ hz)) (fun z hz => hy z (List.mem_cons_of_mem _ hz)) h.2, show x = y by omega]
theorem eq_bytes {xs ys : List Int} (hx : ∀ x ∈ xs, 0 ≤ x ∧ x < 256) (hy : ∀ x ∈ ys, 0 ≤ x ∧ x < 256) {l : List UInt8} (hl : ys.map (fun n => UInt8.ofNat n.toNat) = l) : ((strOfNums xs).toList == l) = decide (xs = ys) := by
  rw [strOf_toList, ← hl, Bool.eq_iff_iff]
  simp only [beq_iff_eq, decide_eq_true_eq]
  exact ⟨byte_inj hx hy, fun h => by rw [h]⟩
theorem ext2 (a b : Int) (r : List Int) : (strOfNums (a :: b :: r)).extract 0 2 = strOfNums [a, b] := by
  unfold strOfNums
  apply ByteArray.ext
  simp [ByteArray.data_extract]

section
variable {P : Program} {ops : Array Oper} {Q : Exit → Act → World → Prop} {md : Region.Mode} {S : World → Prop}
/-- An operation is taken first: its slot is written. -/
theorem takeD {i : Nat} {oi : Oper} {v : Value} (d : Tmp) {fuel : Nat} {listed : Array Bool} {ts : Array Value} {ds : List Deferred} {w : World} (hi : ops[i]? = some oi) (hd : oi.dst = some d)
    (hs : Region.noSelect ops = true) (hf : Region.free md ops listed i = true) (hr : (Region.ready md ops listed).contains i = true)
    (hQ : ∀ c a w, Q (.panic c) (a.put oi.dst v) w → Q (.panic c) a w) (hS : S w) (hy : YieldsIf P ops S oi v ⟨ts, ds⟩)
    (h : wpAnyH P md ops Q S fuel (listed.setIfInBounds i true) ⟨ts.setIfInBounds d v, ds⟩ w) : wpAnyH P md ops Q S (fuel + 1) listed ⟨ts, ds⟩ w :=
  wpAnyH_take hi hs hf hr hQ hy hS (by rw [hd]; exact h)
end
section
variable {P : Program} {ops : Array Oper} {o : Oper} {a : Act} {w : World} {K : Act → World → Prop} {Q : Exit → Act → World → Prop} {E : Prop}
theorem step_append_run2 (hgd : o.guard = none) (s x : Operand) (t u : TypeId) (ho : o.op = .call { callee := .builtin .append, args := #[s, x], argTypes := #[t, u] }) (vs vx v' : Value) (w' : World) (hs : a.eval s = vs) (hx : a.eval x = vx)
    (hr : (Builtin.append_ #[t, u] o.type #[vs, vx]).run P w = .ok v' w') (h : K (a.put o.dst v') w') :
    if Region.wanted o (yielded ops a.tmps) = true then Oper.wp P o a w K Q else E := by
  have hw : Region.wanted o (yielded ops a.tmps) = true := by simp [Region.wanted, hgd]
  rw [if_pos hw]
  unfold Oper.wp execOp
  simp only [ho, resolve, invoke, builtin, Sem.run_bind, Sem.run_pure, Result.andThen_ok, List.map_toArray, List.map_cons, List.map_nil, hs, hx, hr]
  exact h
end
theorem run_app_str {w0 w : World} {v : Value} {xs : List Int} (hF : Fresh w0 w v xs) (s : ByteArray) (ty : TypeId) (hl : xs.length + s.size ≤ 1000000) : ∃ x' c' w', (Builtin.append_ #[22, 9] ty #[v, .string s]).run Try.prog w = .ok (.slice x' (xs.length + s.size) c') w' ∧ Fresh w0 w' (.slice x' (xs.length + s.size) c') (xs ++ strL s) := by
  obtain ⟨i0, hi, hz0, hz1, hz2⟩ := info_parts info5
  obtain ⟨v', w', hr, hown, hg, _⟩ := run_append_own_string (P := Try.prog) w w0.heap.size 22 9 ty 5 i0 Try.underlying22 Try.underlying9 hi hz0 hz1 hz2 v xs.length _ hF.owns s (by unfold maxLen; omega) (by omega) hF.2.1.size
  rw [strL_cells] at hown
  have hF' := fresh_grown hF (strL_byte s) (by rw [strL_length]; exact hown) hg
  obtain ⟨x', c', e⟩ := hF'.slice
  rw [List.length_append, strL_length] at e
  subst e
  exact ⟨x', c', w', hr, hF'⟩
theorem run_app_lit {w0 w : World} {v : Value} {xs : List Int} (hF : Fresh w0 w v xs) (b n c : Nat) (ys : List Int) (hR : Reads w (.slice (some ⟨b, 0, none⟩) n c) ys) (ty : TypeId) (hl : xs.length + ys.length ≤ 1000000) : ∃ x' c' w', (Builtin.append_ #[22, 22] ty #[v, .slice (some ⟨b, 0, none⟩) n c]).run Try.prog w = .ok (.slice x' (xs.length + ys.length) c') w' ∧ Fresh w0 w' (.slice x' (xs.length + ys.length) c') (xs ++ ys) := by
  obtain ⟨i0, hi, hz0, hz1, hz2⟩ := info_parts info5
  obtain ⟨hn, hsrc⟩ := reads_src hR
  subst hn
  obtain ⟨v', w', hr, hown, hg, _⟩ := run_append_own (P := Try.prog) w w0.heap.size 22 ty 5 i0 (.int .u8 0) 1 1 Try.underlying22 hi hz0 hz1 hz2 rfl (by decide) v xs.length _ hF.owns ⟨b, 0, none⟩ ys.length c (ys.map (Value.int .u8)) (by simp) hsrc (ints_oneCell .u8 _) (by unfold maxLen; omega) (by omega) hF.2.1.size
  have hF' := fresh_grown hF hR.1 hown hg
  obtain ⟨x', c', e⟩ := hF'.slice
  rw [List.length_append] at e
  subst e
  exact ⟨x', c', w', hr, hF'⟩
set_option maxRecDepth 100000 in
set_option maxHeartbeats 4000000 in
theorem rhear_24_no (g : Nat) (sv av : Value) (T D : ByteArray) (fs : List Int) (st : Int) (dev : ByteArray) (ag : List Int) (w : World) (h : EndM w g sv av T D fs st dev ag) (hT : T.size ≤ 1000) (hD : D.size ≤ 1000) (hfl : fs.length ≤ 1000) (hf : ∀ x ∈ fs, 0 ≤ x ∧ x ≤ 4) (hst : 0 ≤ st ∧ st ≤ 4) (y : Option Addr) (n c : Nat) (xs : List Int) (hr : RdG w (.slice y n c) xs) (hn : n = xs.length) (hl : n ≤ 1000) (hg : g ∉ blkV (.slice y n c)) (hx : xs ≠ [1]) : Calls Try.prog 39 #[.pointer (some ⟨g, 0, none⟩), .int .u8 24, .slice y n c] w (HDone g sv T D fs st dev ag [] 4 w) := by
  have kc := reads_conv hr.reads
  have e1 : ((strOfNums xs).toList == [1]) = false := (eq_bytes hr.1 (ys := [1]) (l := [1]) (by decide) rfl).trans (decide_eq_false hx)
  have e1' : ((strOfNums xs).toList != [1]) = true := by rw [bne, e1]; rfl
  have HX := hid (fun W (hb : Below w.heap.size w W) => show HDone g sv T D fs st dev ag [] 4 w (.returned (.tuple #[.slice none 0 0, .int .i64 4])) W from ⟨_, _, rfl, OwnB.nil _, h.step hb, Moved.below hb _, (fun k q => by cases q), .inl h.c5⟩)
  generalize strOfNums xs = S at *
  clear h hr hn hg hx
  go_enter Try.func39, Try.ntmps39
  go_wp2
  go_ret2
  exact HX.out _ (Below.refl _ _)
set_option maxRecDepth 100000 in
set_option maxHeartbeats 4000000 in
theorem rhear_24 (g : Nat) (sv av : Value) (T D : ByteArray) (fs : List Int) (st : Int) (dev : ByteArray) (ag : List Int) (w : World) (h : EndM w g sv av T D fs st dev ag) (hT : T.size ≤ 1000) (hD : D.size ≤ 1000) (hfl : fs.length ≤ 1000) (hf : ∀ x ∈ fs, 0 ≤ x ∧ x ≤ 4) (hst : 0 ≤ st ∧ st ≤ 4) (y : Option Addr) (n c : Nat) (xs : List Int) (hr : RdG w (.slice y n c) xs) (hn : n = xs.length) (hl : n ≤ 1000) (hg : g ∉ blkV (.slice y n c)) (hx : xs = [1]) : Calls Try.prog 39 #[.pointer (some ⟨g, 0, none⟩), .int .u8 24, .slice y n c] w (HDone g sv T D fs st dev ag (0 :: strL T) 0 w) := by
  subst hx
  have kc := reads_conv hr.reads
  rw [show strOfNums [1] = ⟨#[1]⟩ by decide] at kc
  have t0 := h.c0
  have hgl := h.lt
  have HH := hid h
  have HF := hid (Fresh.lit w #[.int .u8 0] 1 [0] (fun q hq => by simp at hq; omega) rfl rfl (by omega) w.heap.size rfl)
  clear h hr hn hg
  go_enter Try.func39, Try.ntmps39
  go_wp2_with (first
    | (at_builtin; refine wpList_append_str rfl _ _ rfl rfl HF.out T rfl (by simp; omega) ?_; intro x' c' w' hF'; have HF' := hid hF'; clear hF'))
  go_ret2
  have hF := HF'.out
  exact ⟨_, _, rfl, hF.1, HH.out.step hF.2.1, Moved.below hF.2.1 _, (fun k hk => ⟨hF.2.2 k hk, fun q => by have h1 := HH.out.ra.lt k q; have h2 := hF.2.2 k hk; omega⟩), .inl HH.out.c5⟩
set_option maxRecDepth 100000 in
set_option maxHeartbeats 4000000 in
theorem rhear_none (g : Nat) (sv av : Value) (T D : ByteArray) (fs : List Int) (st : Int) (dev : ByteArray) (ag : List Int) (w : World) (h : EndM w g sv av T D fs st dev ag) (hT : T.size ≤ 1000) (hD : D.size ≤ 1000) (hfl : fs.length ≤ 1000) (hf : ∀ x ∈ fs, 0 ≤ x ∧ x ≤ 4) (hst : 0 ≤ st ∧ st ≤ 4) (y : Option Addr) (n c : Nat) (xs : List Int) (hr : RdG w (.slice y n c) xs) (hn : n = xs.length) (hl : n ≤ 1000) (hg : g ∉ blkV (.slice y n c)) (o : Int) (h24 : o ≠ 24) (h40 : o ≠ 40) : Calls Try.prog 39 #[.pointer (some ⟨g, 0, none⟩), .int .u8 o, .slice y n c] w (HDone g sv T D fs st dev ag [] 5 w) := by
  have kc := reads_conv hr.reads
  have b24 : (o == 24) = false := by simpa using h24
  have b40 : (o == 40) = false := by simpa using h40
  have b40' : (o != 40) = true := by simpa using h40
  have HX := hid (fun W (hb : Below w.heap.size w W) => show HDone g sv T D fs st dev ag [] 5 w (.returned (.tuple #[.slice none 0 0, .int .i64 5])) W from ⟨_, _, rfl, OwnB.nil _, h.step hb, Moved.below hb _, (fun k q => by cases q), .inl h.c5⟩)
  generalize strOfNums xs = S at *
  clear h hr hn hg h24 h40
  go_enter Try.func39, Try.ntmps39
  go_wp2
  go_ret2
  exact HX.out _ (Below.refl _ _)
set_option maxRecDepth 100000 in
set_option maxHeartbeats 4000000 in
theorem rhear_send_no (g : Nat) (sv av : Value) (T D : ByteArray) (fs : List Int) (st : Int) (dev : ByteArray) (ag : List Int) (w : World) (h : EndM w g sv av T D fs st dev ag) (hT : T.size ≤ 1000) (hD : D.size ≤ 1000) (hfl : fs.length ≤ 1000) (hf : ∀ x ∈ fs, 0 ≤ x ∧ x ≤ 4) (hst : 0 ≤ st ∧ st ≤ 4) (y : Option Addr) (n c : Nat) (xs : List Int) (hr : RdG w (.slice y n c) xs) (hn : n = xs.length) (hl : n ≤ 1000) (hg : g ∉ blkV (.slice y n c)) (hx : xs = [8, 2]) (h4 : st = 4) : Calls Try.prog 39 #[.pointer (some ⟨g, 0, none⟩), .int .u8 40, .slice y n c] w (HDone g sv T D fs st dev ag [] 6 w) := by
  subst hx
  have kc := reads_conv hr.reads
  rw [show strOfNums [8, 2] = ⟨#[8, 2]⟩ by decide] at kc
  have HX := hid (fun W (hb : Below w.heap.size w W) => show HDone g sv T D fs st dev ag [] 6 w (.returned (.tuple #[.slice none 0 0, .int .i64 6])) W from ⟨_, _, rfl, OwnB.nil _, h.step hb, Moved.below hb _, (fun k q => by cases q), .inl h.c5⟩)
  have c3 := h.c3
  subst h4
  clear h hr hn hg
  go_enter Try.func39, Try.ntmps39
  go_wp2
  go_ret2
  exact HX.out _ (Below.refl _ _)
set_option maxRecDepth 100000 in
set_option maxHeartbeats 4000000 in
theorem rhear_send_e (g : Nat) (sv av : Value) (T D : ByteArray) (fs : List Int) (st : Int) (dev : ByteArray) (ag : List Int) (w : World) (h : EndM w g sv av T D fs st dev ag) (hT : T.size ≤ 1000) (hD : D.size ≤ 1000) (hfl : fs.length ≤ 1000) (hf : ∀ x ∈ fs, 0 ≤ x ∧ x ≤ 4) (hst : 0 ≤ st ∧ st ≤ 4) (y : Option Addr) (n c : Nat) (xs : List Int) (hr : RdG w (.slice y n c) xs) (hn : n = xs.length) (hl : n ≤ 1000) (hg : g ∉ blkV (.slice y n c)) (hx : xs = [8, 2]) (h4 : st ≠ 4) (hd : D.size = 0) : Calls Try.prog 39 #[.pointer (some ⟨g, 0, none⟩), .int .u8 40, .slice y n c] w (HDone g sv T D fs 1 ⟨#[]⟩ [] (2 :: 7 :: (strL T ++ devT D)) 0 w) := by
  obtain rfl := eq_empty hd
  subst hx
  have kc := reads_conv hr.reads
  rw [show strOfNums [8, 2] = ⟨#[8, 2]⟩ by decide] at kc
  have c3 := h.c3
  have c4 := h.c4
  have c5 := h.c5
  have f3 := h.fr 3 (by omega)
  have f4 := h.fr 4 (by omega)
  have f5 := h.fr 5 (by omega)
  have b4 : (st == 4) = false := by simpa using h4
  obtain ⟨ax, ac, rfl⟩ := own_len h.ra _ rfl
  have hE := ((h.set3 1).set4 ⟨#[]⟩).set5n
  have hM := ((set_moved w g 3 (.int .i64 1)).trans (set_moved _ g 4 (.string ⟨#[]⟩))).trans (set_moved _ g 5 (.slice none 0 0))
  obtain ⟨W, hW⟩ : ∃ W, W = ((w.setCell ⟨g, 3, none⟩ (.int .i64 1)).setCell ⟨g, 4, none⟩ (.string ⟨#[]⟩)).setCell ⟨g, 5, none⟩ (.slice none 0 0) := ⟨_, rfl⟩
  rw [← hW] at hE hM
  have t0 := hE.c0
  have t1 := hE.c1
  have HF := hid (Fresh.lit W #[.int .u8 2, .int .u8 7] 2 [2, 7] (fun q hq => by simp at hq; omega) rfl rfl (by omega) W.heap.size rfl)
  have HS := hid (show W.heap.size = w.heap.size by rw [hW]; simp)
  have HW := hid hW
  have HE := hid hE
  have HM := hid hM
  have hgl := h.lt
  rw [hW] at t0 t1
  clear h hr hn hg hE hM hW h4
  rw [HS.out] at HF
  rw [HW.out] at HF
  rw [show devT ⟨#[]⟩ = [] from rfl, List.append_nil]
  go_enter Try.func39, Try.ntmps39
  go_wp2_with (first
    | (at_builtin; refine wpList_append_str rfl _ _ rfl rfl HF.out T rfl (by simp; omega) ?_; intro x' c' w' hF'; have HF' := hid hF'; have t1' := keepc hF'.2.1 t1; clear hF'))
  go_ret2
  have hF := HF'.out
  rw [← HW.out] at hF
  exact ⟨_, _, rfl, hF.1, HE.out.step hF.2.1, HM.out.trans (Moved.below hF.2.1 _), (fun k hk => ⟨by rw [← HS.out]; exact hF.2.2 k hk, fun q => by cases q⟩), .inr (fun k q => by cases q)⟩
set_option maxRecDepth 100000 in
set_option maxHeartbeats 4000000 in
theorem rhear_send_d (g : Nat) (sv av : Value) (T D : ByteArray) (fs : List Int) (st : Int) (dev : ByteArray) (ag : List Int) (w : World) (h : EndM w g sv av T D fs st dev ag) (hT : T.size ≤ 1000) (hD : D.size ≤ 1000) (hfl : fs.length ≤ 1000) (hf : ∀ x ∈ fs, 0 ≤ x ∧ x ≤ 4) (hst : 0 ≤ st ∧ st ≤ 4) (y : Option Addr) (n c : Nat) (xs : List Int) (hr : RdG w (.slice y n c) xs) (hn : n = xs.length) (hl : n ≤ 1000) (hg : g ∉ blkV (.slice y n c)) (hx : xs = [8, 2]) (h4 : st ≠ 4) (hd : D.size ≠ 0) : Calls Try.prog 39 #[.pointer (some ⟨g, 0, none⟩), .int .u8 40, .slice y n c] w (HDone g sv T D fs 1 ⟨#[]⟩ [] (2 :: 7 :: (strL T ++ devT D)) 0 w) := by
  have hd1 := not_empty hd
  have HDV := hid (show devT D = 1 :: strL D from if_neg hd)
  subst hx
  have kc := reads_conv hr.reads
  rw [show strOfNums [8, 2] = ⟨#[8, 2]⟩ by decide] at kc
  have c3 := h.c3
  have c4 := h.c4
  have c5 := h.c5
  have f3 := h.fr 3 (by omega)
  have f4 := h.fr 4 (by omega)
  have f5 := h.fr 5 (by omega)
  have b4 : (st == 4) = false := by simpa using h4
  obtain ⟨ax, ac, rfl⟩ := own_len h.ra _ rfl
  have hE := ((h.set3 1).set4 ⟨#[]⟩).set5n
  have hM := ((set_moved w g 3 (.int .i64 1)).trans (set_moved _ g 4 (.string ⟨#[]⟩))).trans (set_moved _ g 5 (.slice none 0 0))
  obtain ⟨W, hW⟩ : ∃ W, W = ((w.setCell ⟨g, 3, none⟩ (.int .i64 1)).setCell ⟨g, 4, none⟩ (.string ⟨#[]⟩)).setCell ⟨g, 5, none⟩ (.slice none 0 0) := ⟨_, rfl⟩
  rw [← hW] at hE hM
  have t0 := hE.c0
  have t1 := hE.c1
  have HF := hid (Fresh.lit W #[.int .u8 2, .int .u8 7] 2 [2, 7] (fun q hq => by simp at hq; omega) rfl rfl (by omega) W.heap.size rfl)
  have HS := hid (show W.heap.size = w.heap.size by rw [hW]; simp)
  have HW := hid hW
  have HE := hid hE
  have HM := hid hM
  have hgl := h.lt
  rw [hW] at t0 t1
  clear h hr hn hg hE hM hW h4
  rw [HS.out] at HF
  rw [HW.out] at HF
  rw [HDV.out]
  clear HDV hd
  go_enter Try.func39, Try.ntmps39
  go_wp2_with (first
    | (at_builtin; refine wpList_append_str rfl _ _ rfl rfl HF.out T rfl (by simp; omega) ?_; intro x' c' w' hF'; have HF' := hid hF'; have t1' := keepc hF'.2.1 t1; clear hF'))
  refine wp_region_held_drew (S := fun W => W.cell? ⟨g, 1, none⟩ = some (.string D)) (by kernel_rfl) ?_ (fun hHeld => ?_)
  · exact t1'
  refine takeD (i := 0) (v := ?_) 63 rfl rfl (by kernel_rfl) (by kernel_rfl) (by kernel_rfl) (fun _ _ _ h => h) (by assumption) (Or.inl ⟨by rfl, ?_⟩) ?_
  rotate_left
  · intro w hSw
    (try dsimp only at hSw)
    go_simp
    try with_reducible rfl
  simp only [List.setIfInBounds_toArray, List.set_cons_zero, List.set_cons_succ]
  refine takeD (i := 3) (v := ?_) 66 rfl rfl (by kernel_rfl) (by kernel_rfl) (by kernel_rfl) (fun _ _ _ h => h) (by assumption) (Or.inl ⟨by rfl, ?_⟩) ?_
  rotate_left
  · intro w hSw
    (try dsimp only at hSw)
    go_simp
    try with_reducible rfl
  simp only [List.setIfInBounds_toArray, List.set_cons_zero, List.set_cons_succ]
  refine takeD (i := 4) (v := ?_) 67 rfl rfl (by kernel_rfl) (by kernel_rfl) (by kernel_rfl) (fun _ _ _ h => h) (by assumption) (Or.inl ⟨by rfl, ?_⟩) ?_
  rotate_left
  · intro w hSw
    (try dsimp only at hSw)
    go_simp
    try with_reducible rfl
  simp only [List.setIfInBounds_toArray, List.set_cons_zero, List.set_cons_succ]
  refine takeD (i := 5) (v := ?_) 68 rfl rfl (by kernel_rfl) (by kernel_rfl) (by kernel_rfl) (fun _ _ _ h => h) (by assumption) (Or.inl ⟨by rfl, ?_⟩) ?_
  rotate_left
  · intro w hSw
    (try dsimp only at hSw)
    go_simp
    try with_reducible rfl
  simp only [List.setIfInBounds_toArray, List.set_cons_zero, List.set_cons_succ]
  refine takeD (i := 6) (v := ?_) 69 rfl rfl (by kernel_rfl) (by kernel_rfl) (by kernel_rfl) (fun _ _ _ h => h) (by assumption) (Or.inl ⟨by rfl, ?_⟩) ?_
  rotate_left
  · intro w hSw
    (try dsimp only at hSw)
    go_simp
    try with_reducible rfl
  simp only [List.setIfInBounds_toArray, List.set_cons_zero, List.set_cons_succ]
  refine takeD (i := 7) (v := ?_) 70 rfl rfl (by kernel_rfl) (by kernel_rfl) (by kernel_rfl) (fun _ _ _ h => h) (by assumption) (Or.inl ⟨by rfl, ?_⟩) ?_
  rotate_left
  · intro w hSw
    (try dsimp only at hSw)
    go_simp
    try with_reducible rfl
  simp only [List.setIfInBounds_toArray, List.set_cons_zero, List.set_cons_succ]
  refine wpAnyH_ready (rs := [1]) (by kernel_rfl) (by simp) ?_
  refine AllReadyH.cons (by simp only [List.getElem?_toArray, List.getElem?_cons_succ, List.getElem?_cons_zero]; rfl) (fun K hK => ?_) AllReadyH.nil
  go_simp

  refine hK.out _ _ ?_ (fun hHeldN => ?_)
  · first | exact keepc HFC.out.2.1 t1 | exact keepc HFB.out.2.1 t1 | exact keepc (bal (Below.refl _ _) _) hHeld
  clear hK K hHeld
  have hHeld := hHeldN
  clear hHeldN
  refine wpAnyH_ready (rs := [2]) (by kernel_rfl) (by simp) ?_
  refine AllReadyH.cons (by simp only [List.getElem?_toArray, List.getElem?_cons_succ, List.getElem?_cons_zero]; rfl) (fun K hK => ?_) AllReadyH.nil
  have HLB := hid (own_lit w'.drew #[.int .u8 1] 1 [1] (fun q hq => by simp at hq; omega) rfl rfl (by omega) w'.drew.heap.size rfl).reads
  have HFD := hid ((HF'.out.step (Below.refl w'.heap.size w').drew).step (bal (Below.refl w'.drew.heap.size w'.drew) (.cells #[.int .u8 1] 5)))
  obtain ⟨xb, cb, wb, hrb, hFB⟩ := run_app_lit HFD.out _ 1 1 [1] HLB.out 22 (by simp [strL_length]; omega)
  have HFB := hid hFB
  clear hFB
  refine step_append_run2 (by rfl) _ _ _ _ (by rfl) _ _ _ _ (by rfl) (by rfl) hrb ?_
  refine hK.out _ _ ?_ (fun hHeldN => ?_)
  · first | exact keepc HFC.out.2.1 t1 | exact keepc HFB.out.2.1 t1 | exact keepc (bal (Below.refl _ _) _) hHeld
  clear hK K hHeld
  have hHeld := hHeldN
  clear hHeldN
  refine wpAnyH_ready (rs := [8]) (by kernel_rfl) (by simp) ?_
  refine AllReadyH.cons (by simp only [List.getElem?_toArray, List.getElem?_cons_succ, List.getElem?_cons_zero]; rfl) (fun K hK => ?_) AllReadyH.nil
  obtain ⟨xc, cc, wc, hrc, hFC⟩ := run_app_str HFB.out D 22 (by simp [strL_length]; omega)
  have HFC := hid hFC
  clear hFC
  refine step_append_run2 (by rfl) _ _ _ _ (by rfl) _ _ _ _ (by rfl) (by rfl) hrc ?_
  refine hK.out _ _ ?_ (fun hHeldN => ?_)
  · first | exact keepc HFC.out.2.1 t1 | exact keepc HFB.out.2.1 t1 | exact keepc (bal (Below.refl _ _) _) hHeld
  clear hK K hHeld
  have hHeld := hHeldN
  clear hHeldN
  refine takeD (i := 9) (v := ?_) 9 rfl rfl (by kernel_rfl) (by kernel_rfl) (by kernel_rfl) (fun _ _ _ h => h) (by assumption) (Or.inl ⟨by rfl, ?_⟩) ?_
  rotate_left
  · intro w hSw
    (try dsimp only at hSw)
    go_simp
    try with_reducible rfl
  simp only [List.setIfInBounds_toArray, List.set_cons_zero, List.set_cons_succ]
  refine wpAnyH_done (by kernel_rfl) ?_ _
  clear hHeld
  go_wp2
  go_ret2
  have hF := HFC.out
  rw [← HW.out] at hF
  rw [show (([2, 7] : List Int) ++ strL T ++ ([1] : List Int)).length = (strL T).length + 1 + 1 + 1 by simp] at hF
  simp only [List.cons_append, List.nil_append, List.append_assoc] at hF
  exact ⟨_, _, rfl, hF.1, HE.out.step hF.2.1, HM.out.trans (Moved.below hF.2.1 _), (fun k hk => ⟨by rw [← HS.out]; exact hF.2.2 k hk, fun q => by cases q⟩), .inr (fun k q => by cases q)⟩
end Go.Proofs.Ytdpfjbpfafekfaa
