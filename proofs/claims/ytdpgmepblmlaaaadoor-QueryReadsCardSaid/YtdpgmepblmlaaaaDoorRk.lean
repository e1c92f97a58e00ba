/-
  sfield.Acts.
-/
import Derived.Test.YtdpgmepblmlaaaaDoorRj
namespace Go.Proofs.YtdpgmepblmlaaaaDoor
open Go.RowKit Go.Lib Go.Deep Go.Shelf
attribute [local go_sem] Oper.semAt_some

theorem actL_snoc {l : List SfD} {ac : List AcD} {d : SfD} (h : actL l = (ac, 0)) (hd : (actF d).1 = 0) : actL (l ++ [d]) = (ac ++ [(actF d).2], 0) := by
  induction l generalizing ac with
  | nil =>
    have e : ac = [] := (Prod.mk.inj h).1.symm
    subst e
    show (if (actF d).1 = 0 then _ else _) = _
    rw [if_pos hd]
    rfl
  | cons x r ih =>
    have h : (if (actF x).1 = 0 then ((actF x).2 :: (actL r).1, (actL r).2) else ([], (actF x).1)) = (ac, 0) := h
    show (if (actF x).1 = 0 then ((actF x).2 :: (actL (r ++ [d])).1, (actL (r ++ [d])).2) else ([], (actF x).1)) = _
    by_cases hx : (actF x).1 = 0
    · rw [if_pos hx] at h ⊢
      have e2 : (actL r).2 = 0 := (Prod.mk.inj h).2
      have e1 := (Prod.mk.inj h).1
      rw [ih (ac := (actL r).1) (by rw [← e2])]
      rw [← e1]
      rfl
    · rw [if_neg hx] at h
      exact absurd (Prod.mk.inj h).2 hx
theorem actL_stop {l r : List SfD} {ac : List AcD} {d : SfD} (h : actL l = (ac, 0)) (hd : (actF d).1 ≠ 0) : actL (l ++ d :: r) = (ac, (actF d).1) := by
  induction l generalizing ac with
  | nil =>
    have e : ac = [] := (Prod.mk.inj h).1.symm
    subst e
    show (if (actF d).1 = 0 then _ else _) = _
    rw [if_neg hd]
  | cons x q ih =>
    have h : (if (actF x).1 = 0 then ((actF x).2 :: (actL q).1, (actL q).2) else ([], (actF x).1)) = (ac, 0) := h
    show (if (actF x).1 = 0 then ((actF x).2 :: (actL (q ++ d :: r)).1, (actL (q ++ d :: r)).2) else ([], (actF x).1)) = _
    by_cases hx : (actF x).1 = 0
    · rw [if_pos hx] at h ⊢
      have e2 : (actL q).2 = 0 := (Prod.mk.inj h).2
      have e1 := (Prod.mk.inj h).1
      rw [ih (ac := (actL q).1) (by rw [← e2])]
      rw [← e1]
    · rw [if_neg hx] at h
      exact absurd (Prod.mk.inj h).2 hx
theorem take_split {l : List SfD} {k : Nat} {d : SfD} (h : l[k]? = some d) : l = l.take k ++ d :: l.drop (k + 1) := by
  obtain ⟨hk, e⟩ := List.getElem?_eq_some_iff.1 h
  rw [← e, List.getElem_cons_drop, List.take_append_drop]
theorem acts_stop {zs : List Int} {k : Nat} {ac : List AcD} {d : SfD} (h : actL ((sfA zs).1.take k) = (ac, 0)) (hk : (sfA zs).1[k]? = some d) (hd : (actF d).1 ≠ 0) : actsF zs = (ac, (actF d).1) := by
  have e : actL (sfA zs).1 = (ac, (actF d).1) := by
    rw [take_split hk]
    exact actL_stop h hd
  unfold actsF
  rw [e]
  dsimp only
  rw [if_neg hd]
theorem acts_all {zs : List Int} {ac : List AcD} (h : actL (sfA zs).1 = (ac, 0)) : actsF zs = (ac, (sfA zs).2) := by
  unfold actsF
  rw [h]
  dsimp only
  rw [if_pos rfl]
/-- An act and where its bytes lie. -/
structure AcV where
  d : AcD
  cv : Value
  rv : Value
def acC (x : AcV) : List Value := [.int .i64 x.d.kind, .int .i64 x.d.cmd, .int .i64 x.d.mode, .bool x.d.alt, .int .u8 x.d.req, x.cv, x.rv]
def cellsA (xs : List AcV) : List Value := xs.flatMap acC
theorem cellsA_append (a b : List AcV) : cellsA (a ++ b) = cellsA a ++ cellsA b := by simp [cellsA]
theorem cellsA_length (xs : List AcV) : (cellsA xs).length = xs.length * 7 := by
  induction xs with
  | nil => rfl
  | cons p ps ih => simp [cellsA, acC] at ih ⊢; omega
theorem cellsA_at (xs : List AcV) (i : Nat) (h : i < xs.length) (j : Nat) (hj : j < 7) : (cellsA xs)[i * 7 + j]? = (acC xs[i])[j]? := by
  have e : xs = xs.take i ++ xs[i] :: xs.drop (i + 1) := by rw [List.getElem_cons_drop, List.take_append_drop]
  have hl : (cellsA (xs.take i)).length = i * 7 := by rw [cellsA_length, List.length_take]; congr 1; omega
  conv => lhs; rw [e, cellsA_append]
  rw [List.getElem?_append_right (by omega), hl, Nat.add_sub_cancel_left]
  show (acC _ ++ cellsA _)[j]? = _
  rw [List.getElem?_append_left (by simpa [acC] using hj)]
theorem one_acC (x : AcV) (hc : x.cv.oneCell' = true) (hr : x.rv.oneCell' = true) : ∀ u ∈ acC x, u.oneCell' = true := by
  intro u hu
  simp only [acC, List.mem_cons, List.not_mem_nil, or_false] at hu
  rcases hu with rfl | rfl | rfl | rfl | rfl | rfl | rfl <;> first | rfl | exact hc | exact hr
/-- Their bytes, behind the loop's beginning. -/
def DatA (m : Nat) (V : World) (xs : List AcV) : Prop := ∀ x ∈ xs, (OwnB V x.cv x.d.codes ∧ ∀ b ∈ blkV x.cv, m ≤ b) ∧ OwnB V x.rv x.d.rcd ∧ ∀ b ∈ blkV x.rv, m ≤ b
theorem DatA.nil (m : Nat) (V : World) : DatA m V [] := fun _ h => (by cases h)
theorem DatA.grow {m m' : Nat} {A B : World} {xs : List AcV} (h : DatA m A xs) (k : Grow m' A B) : DatA m B xs := fun x hx => ⟨⟨ownB_grow (h x hx).1.1 k, (h x hx).1.2⟩, ownB_grow (h x hx).2.1 k, (h x hx).2.2⟩
theorem ownB_set {V : World} {v u : Value} {xs : List Int} {b m : Nat} (h : OwnB V v xs) (hv : ∀ k ∈ blkV v, m ≤ k) (hb : b < m) : OwnB (V.setCell ⟨b, 0, none⟩ u) v xs := ⟨h.1, own_set h.2 (fun k hk => Nat.lt_of_lt_of_le hb (hv k hk))⟩
theorem DatA.set {m : Nat} {V : World} {xs : List AcV} {b : Nat} {u : Value} (h : DatA m V xs) (hb : b < m) : DatA m (V.setCell ⟨b, 0, none⟩ u) xs := fun x hx => ⟨⟨ownB_set (h x hx).1.1 (h x hx).1.2 hb, (h x hx).1.2⟩, ownB_set (h x hx).2.1 (h x hx).2.2 hb, (h x hx).2.2⟩
/-- Acts of one's own: a row, and apart from it their bytes. -/
structure AcM (t : TypeId) (w : World) (v : Value) (xs : List AcV) : Prop where
  row : w.ownsRow 0 t 7 v xs.length (cellsA xs)
  txt : ∀ x ∈ xs, OwnB w x.cv x.d.codes ∧ OwnB w x.rv x.d.rcd
theorem AcM.step {t : TypeId} {w w' : World} {v : Value} {xs : List AcV} (h : AcM t w v xs) (hb : Below w.heap.size w w') : AcM t w' v xs :=
  ⟨own_moved h.row (Moved.below hb []) (fun _ _ q => by cases q), fun x hx => ⟨(h.txt x hx).1.step hb, (h.txt x hx).2.step hb⟩⟩
theorem AcM.at {t : TypeId} {w : World} {v : Value} {xs : List AcV} (h : AcM t w v xs) : ∃ x cap, v = .slice x xs.length cap ∧ xs.length ≤ cap ∧ cap ≤ 9223372036854775807 ∧ ∀ i (hi : i < xs.length), ∃ g, x = some ⟨g, 0, none⟩ ∧ g < w.heap.size ∧ w.cell? ⟨g, i * 7, none⟩ = some (.int .i64 xs[i].d.kind) ∧ w.cell? ⟨g, i * 7 + 1, none⟩ = some (.int .i64 xs[i].d.cmd) ∧ w.cell? ⟨g, i * 7 + 2, none⟩ = some (.int .i64 xs[i].d.mode) ∧ w.cell? ⟨g, i * 7 + 3, none⟩ = some (.bool xs[i].d.alt) ∧ w.cell? ⟨g, i * 7 + 4, none⟩ = some (.int .u8 xs[i].d.req) ∧ w.cell? ⟨g, i * 7 + 5, none⟩ = some xs[i].cv ∧ w.cell? ⟨g, i * 7 + 6, none⟩ = some xs[i].rv := by
  rcases h.row.2 with ⟨rfl, e⟩ | ⟨g, cap, cur, rfl, hg, hh, h1, h2, h3, h4⟩
  · have hx : xs = [] := List.length_eq_zero_iff.1 e
    subst hx
    exact ⟨none, 0, rfl, Nat.le_refl _, by omega, fun i hi => absurd hi (Nat.not_lt_zero i)⟩
  · have q : ∀ i, i < xs.length → ∀ j, j < 7 → w.cell? ⟨g, i * 7 + j, none⟩ = (acC (xs.getD i ⟨acZ, .slice none 0 0, .slice none 0 0⟩))[j]? := fun i hi j hj => by
      rw [World.ownsRow.cellAt h.row (i * 7 + j) (by omega), cellsA_at xs i hi j hj, List.getD, List.getElem?_eq_getElem hi]
      rfl
    refine ⟨some ⟨g, 0, none⟩, cap, rfl, h1, by unfold maxLen at h2; omega, fun i hi => ?_⟩
    have p := q i hi
    rw [List.getD, List.getElem?_eq_getElem hi] at p
    exact ⟨g, rfl, own_lt h.row g (by simp [blkV, Value.ownBlock]), p 0 (by omega), p 1 (by omega), p 2 (by omega), p 3 (by omega), p 4 (by omega), p 5 (by omega), p 6 (by omega)⟩
/-- All of what they ask for. -/
def AcsD (t : TypeId) (ds : List AcD) (er : Int) (w : World) (e : Ending) (w' : World) : Prop := ∃ l xs, e = .returned (.tuple #[l, .int .i64 er]) ∧ xs.map AcV.d = ds ∧ AcM t w' l xs ∧ Below w.heap.size w w' ∧ (∀ k ∈ blkV l, w.heap.size ≤ k) ∧ ∀ x ∈ xs, (∀ k ∈ blkV x.cv, w.heap.size ≤ k) ∧ ∀ k ∈ blkV x.rv, w.heap.size ≤ k
def IAc (w1 : World) (ob : Nat) (t : TypeId) (zs : List Int) (k : Nat) (S : List Nat) (V : World) : Prop := ∃ xs : List AcV, actL ((sfA zs).1.take k) = (xs.map AcV.d, 0) ∧ xs.length = k ∧ k ≤ (sfA zs).1.length ∧ ColM w1 ob t 7 (cellsA xs) xs.length S V ∧ DatA w1.heap.size V xs
theorem IAc.grow {w1 : World} {ob : Nat} {t : TypeId} {zs : List Int} {k : Nat} {S : List Nat} {V B : World} (h : IAc w1 ob t zs k S V) (g : Grow w1.heap.size V B) : IAc w1 ob t zs k S B := by
  obtain ⟨xs, h1, h2, h3, h4, h5⟩ := h
  exact ⟨xs, h1, h2, h3, h4.grow g (Nat.le_refl _), h5.grow g⟩
def FinA (w : World) (m a b : Nat) (t : TypeId) (ds : List AcD) (er : Int) (V : World) : Prop := ∃ (xs : List AcV) (v : Value), xs.map AcV.d = ds ∧ V.ownsRow 0 t 7 v xs.length (cellsA xs) ∧ (∀ k ∈ blkV v, m ≤ k) ∧ DatA m V xs ∧ Bx1 V a v ∧ Bx1 V b (.int .i64 er) ∧ Below w.heap.size w V
theorem FinA.grow {w : World} {m m' a b : Nat} {t : TypeId} {ds : List AcD} {er : Int} {V B : World} (h : FinA w m a b t ds er V) (g : Grow m' V B) (hm : w.heap.size ≤ m') : FinA w m a b t ds er B := by
  obtain ⟨xs, v, h1, h2, h3, h4, h5, h6, h7⟩ := h
  exact ⟨xs, v, h1, own_grow h2 g, h3, h4.grow g, h5.grow g, h6.grow g, below_grow h7 g hm (Nat.le_refl _)⟩
theorem fina_put {w w1 V : World} {ob a b : Nat} {t : TypeId} {xs : List AcV} {S : List Nat} {v u0 u1 : Value} {ds : List AcD} {er : Int} (hC : ColM w1 ob t 7 (cellsA xs) xs.length S V) (hD : DatA w1.heap.size V xs) (hx : xs.map AcV.d = ds) (hv : V.cell? ⟨ob, 0, none⟩ = some v) (ha : Bx1 V a u0) (hb : Bx1 V b u1) (hab : a ≠ b) (haw : w.heap.size ≤ a) (hbw : w.heap.size ≤ b) (ha1 : a < w1.heap.size) (hb1 : b < w1.heap.size) (hW : Below w.heap.size w V) :
    FinA w w1.heap.size a b t ds er ((V.setCell ⟨a, 0, none⟩ v).setCell ⟨b, 0, none⟩ (.int .i64 er)) ∧ Touch w1.heap.size V ((V.setCell ⟨a, 0, none⟩ v).setCell ⟨b, 0, none⟩ (.int .i64 er)) S S := by
  obtain ⟨⟨v0, ⟨h1, h2⟩, h3, h4⟩, h5, h6, h7⟩ := hC
  rw [hv] at h1
  cases h1
  subst h4
  refine ⟨⟨xs, v, hx, own_set (own_set h3 (fun k hk => Nat.lt_of_lt_of_le ha1 (h5 k hk))) (fun k hk => Nat.lt_of_lt_of_le hb1 (h5 k hk)), h5, (hD.set ha1).set hb1, ha.same.other hab, (hb.other hab.symm).same, (hW.setCell (by exact haw) _).setCell (by exact hbw) _⟩, ?_⟩
  exact (Touch.set V ⟨a, 0, none⟩ v (.inl ha1)).trans (Touch.set _ ⟨b, 0, none⟩ _ (.inl hb1))
theorem fina_all {w W : World} {m a b : Nat} {t : TypeId} {ds : List AcD} {er : Int} (h : FinA w m a b t ds er W) (hm : w.heap.size ≤ m) : ∃ v, W.cell? ⟨a, 0, none⟩ = some v ∧ W.cell? ⟨b, 0, none⟩ = some (.int .i64 er) ∧ AcsD t ds er w (.returned (.tuple #[v, .int .i64 er])) W := by
  obtain ⟨xs, v, h1, h2, h3, h4, h5, h6, h7⟩ := h
  exact ⟨v, h5.1, h6.1, v, xs, rfl, h1, ⟨h2, fun x hx => ⟨(h4 x hx).1.1, (h4 x hx).2.1⟩⟩, h7, fun k hk => Nat.le_trans hm (h3 k hk), fun x hx => ⟨fun k hk => Nat.le_trans hm ((h4 x hx).1.2 k hk), fun k hk => Nat.le_trans hm ((h4 x hx).2.2 k hk)⟩⟩
theorem infoAc : (Tryd.prog.info? 38).map (fun i => (i.zero, i.size, i.bytes)) = some (some (.agg #[.int .i64 0, .int .i64 0, .int .i64 0, .bool false, .int .u8 0, .slice none 0 0, .slice none 0 0]), 7, 80) := by kernel_rfl
set_option maxRecDepth 100000 in
set_option maxHeartbeats 4000000 in
theorem sacts_in (n : Nat) (hn : 8 ≤ n) (v : Value) (zs : List Int) (w : World) (h : Reads w v zs) (hl : zs.length ≤ 10000000) (hCod : Cods w) : CallsIn Fence.wide n Tryd.prog 19 #[v] w (AcsD 38 (actsF zs).1 (actsF zs).2 w) := by
  obtain ⟨i0, hi, hz0, hz1, hz2⟩ := info_parts infoAc
  have hcount : (sfA zs).1.length ≤ 10000000 := by have := sA_count zs.length zs; unfold sfA; omega
  have HLEN := hid (fun d (hd : d ∈ (sfA zs).1) => Nat.le_trans (sfA_ok h.1 d hd).2 hl)
  have HF := hid (fun W (hW : Below w.heap.size w W) => fields_any v zs W (reads_below h hW) hl)
  have HSEQ := hid (fun bx pv W => fields_seq (n - 1) (by omega) bx pv zs hl W)
  have HCOD := hid hCod
  obtain ⟨x0, c0, rfl⟩ := reads_sl h
  clear h hCod
  refine callsIn_of_wp_marks Tryd.func19 rfl trivial ?_ rfl
  simp only [Tryd.ntmps19, List.size_toArray, List.length_cons, List.length_nil, Nat.reduceAdd, Nat.reduceSub, Array.replicate_succ, Array.replicate_zero, List.push_toArray, List.append_toArray, List.nil_append, List.cons_append]
  gi_wp2
  refine ⟨trivial, fun _ => (by omega), ?_⟩
  obtain ⟨w0, hw0⟩ : ∃ w0, ((w.alloc (.cells #[.slice none 0 0] 45)).alloc (.cells #[.int .i64 0] 31)).alloc (.cells #[.slice none 0 0] 45) = w0 := ⟨_, rfl⟩
  have hz : w0.heap.size = w.heap.size + 3 := by rw [← hw0]; simp
  have hb0 : Below w.heap.size w w0 := by rw [← hw0]; exact bal (bal (bal (Below.refl _ _) _) _) _
  have q0 : Bx1 w0 (w.heap.size) (.slice none 0 0) := by rw [← hw0]; exact ⟨by simp [go_sem], by simp [go_sem]⟩
  have q1 : Bx1 w0 (w.heap.size + 1) (.int .i64 0) := by rw [← hw0]; exact ⟨by simp [go_sem], by simp [go_sem]⟩
  have q2 : Bx1 w0 (w.heap.size + 1 + 1) (.slice none 0 0) := by rw [← hw0]; exact ⟨by simp [go_sem], by simp [go_sem]⟩
  rw [hw0]
  refine (callsIn_wide.2 (HF.out w0 hb0)).mono ?_
  rintro e w1 ⟨bx, pv, rfl, hcb, hob, hb1, hbx, hbk⟩
  have Q0 := hid (q0.step hb1)
  have Q1 := hid (q1.step hb1)
  have HB := hid (below_t hb0 hb1)
  have hzm : w.heap.size + 3 ≤ w1.heap.size := by have := hb1.size; omega
  have hbl := World.block_lt_of_cell? w1 _ hcb
  have HI0 := hid (show IAc w1 (w.heap.size + 1 + 1) 38 zs 0 [] w1 from ⟨[], rfl, rfl, Nat.zero_le _, ColM.start w1 _ _ _ (q2.step hb1), DatA.nil _ _⟩)
  have HRV := hid (show ∀ k S V, IAc w1 (w.heap.size + 1 + 1) 38 zs k S V → RSv bx pv zs V from fun k S V ⟨xs, _, _, _, hC, _⟩ => ⟨cell_moved hC.mv hcb (fun q => by have := List.mem_singleton.1 q; have h2 : bx = w.heap.size + 1 + 1 := this; omega), reads_moved hob.reads hC.mv (fun k hk q => by have h1 := hbk k hk; have := List.mem_singleton.1 q; omega)⟩)
  have HBX := hid (show ∀ k S V, IAc w1 (w.heap.size + 1 + 1) 38 zs k S V → Bx1 V (w.heap.size) (.slice none 0 0) ∧ Bx1 V (w.heap.size + 1) (.int .i64 0) ∧ Below w.heap.size w V from fun k S V ⟨xs, _, _, _, hC, _⟩ => ⟨bx1_moved Q0.out hC.mv (fun q => by have := List.mem_singleton.1 q; omega), bx1_moved Q1.out hC.mv (fun q => by have := List.mem_singleton.1 q; omega), HB.out.trans (hC.mv.toBelow (by omega) (fun k hk => by have := List.mem_singleton.1 hk; omega))⟩)
  have HSQ := hid (fun o1 o2 => (show SeqF Fence.wide (n - 1) Tryd.prog 69 #[.pointer (some ⟨bx, 0, none⟩)] encS (elS zs (w1.heap.size + 2)) (toldS zs).length (RSv bx pv zs) ((w1.alloc o1).alloc o2) from by
    have q0 := HSEQ.out bx pv ((w1.alloc o1).alloc o2)
    rwa [show ((w1.alloc o1).alloc o2).heap.size = w1.heap.size + 2 by simp] at q0))
  clear hb1 hcb hob hb0 q0 q1 q2 hw0 hbk
  gi_wp2
  refine rangeFunc_seq (n := n) (w := w1) rfl (by omega) (gf := 69) (lb := #[.pointer (some ⟨bx, 0, none⟩)]) rfl trivial (enters_of Tryd.func69 (by kernel_rfl) rfl)
    (encs := encS) (fun _ => rfl) (el := elS zs (w1.heap.size + 2)) (N := (toldS zs).length) (R := RSv bx pv zs)
    (fun k S V => IAc w1 (w.heap.size + 1 + 1) 38 zs k S V)
    (fun c _ _ V => c = .ret ∧ FinA w w1.heap.size (w.heap.size) (w.heap.size + 1) 38 (actsF zs).1 (actsF zs).2 V) ?hI ?hIx ?hR HI0.out
    (fun k S x a V => elS zs (w1.heap.size + 2) k x V ∧ IAc w1 (w.heap.size + 1 + 1) 38 zs k S V ∧ ∃ fb, Box2 V fb (.int .u8 x.1.id) x.2.2 ∧ a = { tmps := #[.slice x0 zs.length c0, undef, .pointer (some ⟨w.heap.size, 0, none⟩), .pointer (some ⟨w.heap.size + 1, 0, none⟩), .pointer (some ⟨w.heap.size + 1 + 1, 0, none⟩), .pointer (some ⟨fb, 0, none⟩), .int .i64 x.2.1, undef, undef, .slice x0 zs.length c0, .func (.func 69) #[] #[.pointer (some ⟨bx, 0, none⟩)], .agg #[.int .u8 x.1.id, x.2.2], .int .i64 x.2.1, undef, undef, undef, undef, undef, undef, undef, undef, undef, undef, undef, undef, undef, undef, undef, undef, undef, undef], defers := [] }) ?hAx ?assign ?body ?iter ?done ?stop
  case hI => exact fun k S A C hg h => h.grow hg
  case hIx => exact fun c k S A C hg ⟨h3, h4⟩ => ⟨h3, h4.grow hg (by omega)⟩
  case hR => exact fun k S V h => HRV.out k S V h
  case hAx => exact fun k S x a A C hg ⟨h1, h2, fb, h3, h4⟩ => ⟨h1.grow hg, h2.grow hg, fb, h3.grow hg, h4⟩
  case iter => exact fun o1 o2 _ _ => HSQ.out o1 o2
  case assign =>
    rintro l' k ⟨⟨id, ys⟩, er, tv⟩ S V KK hk hel hi hsz hK
    have HK := hid hK
    have HI := hid hi
    have HEL := hid hel
    obtain ⟨xt, nt, ct, rfl⟩ := own_slice hel.2.1
    clear hK hi hel
    gi_wp2
    have hg : Grow w1.heap.size V (V.alloc (.cells #[.int .u8 id, .slice xt nt ct] 35)) := Grow.alloc _ _ _
    exact HK.out _ _ (Touch.alloc _ _ _ _) ⟨HEL.out.grow hg, HI.out.grow hg, V.heap.size, Box2.new _ _ _ _, rfl⟩
  case body =>
    rintro l' k ⟨⟨id, ys⟩, er, tv⟩ S a' V hk ⟨hel, hisf, fb, hfb, rfl⟩ hsz
    dsimp only at hfb
    have hBX := HBX.out _ _ _ hisf
    obtain ⟨xs, hxs, hxl, hkl, hC, hD⟩ := hisf
    obtain ⟨v, ⟨hv, hf⟩, hrow, hS⟩ := hC.ex
    have hlt := World.block_lt_of_cell? V _ hv
    obtain ⟨xv, cv, rfl⟩ := row_any hrow
    rcases told_split hel.1 with ⟨he0, hd, hkl2⟩ | ⟨hne, hkk, hee⟩
    · subst he0
      have ht := hel.2.1
      have HACT := hid (act_any ⟨id, ys⟩ tv V ht.reads (HLEN.out _ (List.mem_of_getElem? hd)) (HCOD.out.go hBX.2.2))
      obtain ⟨xt, nt, ct, rfl⟩ := own_slice ht
      obtain ⟨y0, y1, -, -⟩ := hfb
      have HC := hid hC
      have HDV := hid hD
      have HX := hid hxs
      have HXL := hid (show xs.length ≤ 10000000 by omega)
      have HXK := hid hxl
      have HDD := hid hd
      have HV := hid hv
      have HBB := hid hBX
      have hkl3 : k + 1 ≤ (sfA zs).1.length := hkl2
      have hsn := fun q => actL_snoc hxs q (d := ⟨id, ys⟩)
      have HSN := hid hsn
      have HST := hid (acts_stop hxs hd)
      have hwV : w1.heap.size ≤ V.heap.size := by omega
      dsimp only at HACT
      generalize actF ⟨id, ys⟩ = res at HACT HSN HST
      obtain ⟨er2, ⟨k2, cd, md, al, rq, cs, rs⟩⟩ := res
      dsimp only at HACT HSN HST
      clear hC hrow ht hD hxs hxl hd hel hBX hS hsn hv
      gi_wp2
      refine ⟨trivial, fun _ => (by omega), ?_⟩
      refine (CallsIn.inRound l' (callsIn_wide.2 HACT.out)).mono ?_
      rintro e V1 ⟨cw, rw', rfl, ho1, ho2, hb1, hk1, hk2⟩
      dsimp only [acV] at ho1 ho2 ⊢
      obtain ⟨xc, nc, cc, rfl⟩ := own_slice ho1
      obtain ⟨xr, nr, cr, rfl⟩ := own_slice ho2
      have hbV : Below V.heap.size V (V1.alloc (.cells #[.int .i64 k2, .int .i64 cd, .int .i64 md, .bool al, .int .u8 rq, .slice xc nc cc, .slice xr nr cr] 38)) := below_t hb1 (bal (Below.refl _ _) _)
      have hbA : Below V1.heap.size V1 (V1.alloc (.cells #[.int .i64 k2, .int .i64 cd, .int .i64 md, .bool al, .int .u8 rq, .slice xc nc cc, .slice xr nr cr] 38)) := bal (Below.refl _ _) _
      have HC2 := hid (HC.out.grow (Grow.below hbV w1.heap.size) (Nat.le_refl _))
      have HD2 := hid (HDV.out.grow (Grow.below hbV w1.heap.size))
      have HV2 := hid (keepc hbV HV.out)
      obtain ⟨v9, ⟨hv9, hf9⟩, hrow9, hS9⟩ := HC2.out.ex
      obtain rfl : v9 = .slice xv xs.length cv := by
        have := HV2.out.symm.trans hv9
        injection this with this
        exact this.symm
      have HROW := hid hrow9
      have HT1 := hid (ho1.step hbA)
      have HT2 := hid (ho2.step hbA)
      have HTB1 := hid (show ∀ b ∈ blkV (.slice xc nc cc), w1.heap.size ≤ b from fun b hb => by have := hk1 b hb; omega)
      have HTB2 := hid (show ∀ b ∈ blkV (.slice xr nr cr), w1.heap.size ≤ b from fun b hb => by have := hk2 b hb; omega)
      have HNS := hid (news_seven (V1.alloc (.cells #[.int .i64 k2, .int .i64 cd, .int .i64 md, .bool al, .int .u8 rq, .slice xc nc cc, .slice xr nr cr] 38)) (.int .i64 k2) (.int .i64 cd) (.int .i64 md) (.bool al) (.int .u8 rq) (.slice xc nc cc) (.slice xr nr cr) 38)
      rw [show (V1.alloc (.cells #[.int .i64 k2, .int .i64 cd, .int .i64 md, .bool al, .int .u8 rq, .slice xc nc cc, .slice xr nr cr] 38)).heap.size = V1.heap.size + 1 by simp] at HNS
      have HBX2 := hid (show Bx1 (V1.alloc (.cells #[.int .i64 k2, .int .i64 cd, .int .i64 md, .bool al, .int .u8 rq, .slice xc nc cc, .slice xr nr cr] 38)) (w.heap.size) (.slice none 0 0) ∧ Bx1 (V1.alloc (.cells #[.int .i64 k2, .int .i64 cd, .int .i64 md, .bool al, .int .u8 rq, .slice xc nc cc, .slice xr nr cr] 38)) (w.heap.size + 1) (.int .i64 0) ∧ Below w.heap.size w (V1.alloc (.cells #[.int .i64 k2, .int .i64 cd, .int .i64 md, .bool al, .int .u8 rq, .slice xc nc cc, .slice xr nr cr] 38)) from ⟨HBB.out.1.step hbV, HBB.out.2.1.step hbV, below_t HBB.out.2.2 hbV⟩)
      have HC1 := hid (HC.out.grow (Grow.below hb1 w1.heap.size) (Nat.le_refl _))
      have HD1 := hid (HDV.out.grow (Grow.below hb1 w1.heap.size))
      have HW1 := hid (below_t HBB.out.2.2 hb1)
      have HT0 := hid (show Touch w1.heap.size V V1 S S from Touch.below hb1 _ _)
      have HBX1 := hid (show Bx1 V1 (w.heap.size) (.slice none 0 0) ∧ Bx1 V1 (w.heap.size + 1) (.int .i64 0) from ⟨HBB.out.1.step hb1, HBB.out.2.1.step hb1⟩)
      have HTV := hid (show Touch w1.heap.size V (V1.alloc (.cells #[.int .i64 k2, .int .i64 cd, .int .i64 md, .bool al, .int .u8 rq, .slice xc nc cc, .slice xr nr cr] 38)) S S from Touch.below hbV _ _)
      have hv2 : V1.cell? ⟨w.heap.size + 1 + 1, 0, none⟩ = some (.slice xv xs.length cv) := keepc hb1 HV.out
      have hlt2 : w.heap.size + 1 + 1 < V1.heap.size := World.block_lt_of_cell? V1 _ hv2
      clear ho1 ho2 hb1 hk1 hk2 hbV hbA hrow9 hv9 hf9 hS9
      by_cases he2 : er2 = 0
      · subst he2
        have HSN2 := hid (HSN.out rfl)
        gi_wp2_with (gi_at_builtin; refine wpListIn_append_blk _ rfl _ _ 45 rfl 38 i0 _ 7 80 Tryd.underlying45 hi hz0 hz1 hz2 rfl (by decide) _ xs.length (cellsA xs) rfl (HROW.out.alloc _) ⟨V1.heap.size + 1, 0, none⟩ 1 1 (acC ⟨⟨k2, cd, md, al, rq, cs, rs⟩, .slice xc nc cc, .slice xr nr cr⟩) rfl rfl HNS.out (one_acC _ rfl rfl) (by have := HXL.out; unfold maxLen; omega) (by have := HXL.out; omega) ?_; intro v' W1 hown' hgrow hb'; obtain ⟨s1, s2, s3, s4, s5⟩ := HC2.out.step HV2.out hown' hgrow hb'; obtain ⟨s1a, s1b⟩ := s1; obtain ⟨g', cap', rfl⟩ := row_any hown'; have S3 := hid s3; have S4 := hid (HTV.out.trans s4); have S5 := hid s5; clear hown' hgrow s3 s4 s5 hb')
        refine ⟨_, S4.out, ?_⟩
        refine ⟨xs ++ [⟨⟨k2, cd, md, al, rq, cs, rs⟩, .slice xc nc cc, .slice xr nr cr⟩], by rw [List.map_append, take_one _ _ _ HDD.out]; exact HSN2.out, by rw [List.length_append, HXK.out]; rfl, hkl3, by rw [cellsA_append, List.length_append]; exact S3.out, ?_⟩
        intro y hy
        rcases List.mem_append.1 hy with hy | hy
        · exact ⟨⟨⟨(HD2.out y hy).1.1.1, S5.out _ _ _ _ _ (by decide) (HD2.out y hy).1.2 (HD2.out y hy).1.1.2⟩, (HD2.out y hy).1.2⟩, ⟨(HD2.out y hy).2.1.1, S5.out _ _ _ _ _ (by decide) (HD2.out y hy).2.2 (HD2.out y hy).2.1.2⟩, (HD2.out y hy).2.2⟩
        · rw [List.mem_singleton.1 hy]
          exact ⟨⟨⟨HT1.out.1, S5.out _ _ _ _ _ (by decide) HTB1.out HT1.out.2⟩, HTB1.out⟩, ⟨HT2.out.1, S5.out _ _ _ _ _ (by decide) HTB2.out HT2.out.2⟩, HTB2.out⟩
      · have HST2 := hid (HST.out he2)
        have HFP := hid (fina_put HC1.out HD1.out rfl hv2 HBX1.out.1 HBX1.out.2 (by omega) (by omega) (by omega) (by omega) (by omega) (er := er2) HW1.out)
        obtain ⟨b0, b1⟩ := HBX1.out.1
        obtain ⟨b2, b3⟩ := HBX1.out.2
        have hl0 : w.heap.size < V1.heap.size := by omega
        have hl1 : w.heap.size + 1 < V1.heap.size := by omega
        have hne' : (er2 == 0) = false := by simpa using he2
        have HFX := hid (show FinA w w1.heap.size (w.heap.size) (w.heap.size + 1) 38 (actsF zs).1 (actsF zs).2 (((V1.setCell ⟨w.heap.size, 0, none⟩ (.slice xv xs.length cv)).setCell ⟨w.heap.size + 1, 0, none⟩ (.int .i64 er2)).alloc (.cells #[.int .i64 k2, .int .i64 cd, .int .i64 md, .bool al, .int .u8 rq, .slice xc nc cc, .slice xr nr cr] 38)) from by rw [HST2.out]; exact HFP.out.1.grow (Grow.alloc _ _ w1.heap.size) (by omega))
        gi_wp2
        exact ⟨S, (HT0.out.trans HFP.out.2).trans (Touch.alloc _ _ _ _), ⟨rfl, HFX.out⟩⟩
    · obtain ⟨y0, y1, -, -⟩ := hfb
      have hall : actL (sfA zs).1 = (xs.map AcV.d, 0) := by rw [hkk, List.take_length] at hxs; exact hxs
      have HAA := hid (acts_all hall)
      have HFP := hid (fina_put hC hD rfl hv hBX.1 hBX.2.1 (by omega) (by omega) (by omega) (by omega) (by omega) (er := er) hBX.2.2)
      obtain ⟨b0, b1⟩ := hBX.1
      obtain ⟨b2, b3⟩ := hBX.2.1
      have hl0 := World.block_lt_of_cell? V _ b0
      have hl1 := World.block_lt_of_cell? V _ b2
      have hne' : (er == 0) = false := by simpa using hne
      have HFX := hid (show FinA w w1.heap.size (w.heap.size) (w.heap.size + 1) 38 (actsF zs).1 (actsF zs).2 ((V.setCell ⟨w.heap.size, 0, none⟩ (.slice xv xs.length cv)).setCell ⟨w.heap.size + 1, 0, none⟩ (.int .i64 er)) from by rw [HAA.out, hee]; exact HFP.out.1)
      clear hC hD hxs hkk hrow hel hBX hee hxl hS hall
      gi_wp2
      exact ⟨S, HFP.out.2, ⟨rfl, HFX.out⟩⟩
  case done =>
    rintro D S V hD hdi hDK
    have hBX := HBX.out _ _ _ hdi
    obtain ⟨xs, hxs, hxl, hkl, hC, hDt⟩ := hdi
    have hte := told_end hkl
    obtain ⟨v, ⟨hv, hf⟩, hrow, hS⟩ := hC.ex
    obtain ⟨xv, cv, rfl⟩ := row_any hrow
    have hall : actL (sfA zs).1 = (xs.map AcV.d, 0) := by rw [hte.1, List.take_length] at hxs; exact hxs
    have HAA := hid (acts_all hall)
    have HFP := hid (fina_put hC hDt rfl hv hBX.1 hBX.2.1 (by omega) (by omega) (by omega) (by omega) (by omega) (er := 0) hBX.2.2)
    obtain ⟨b0, b1⟩ := hBX.1
    obtain ⟨b2, b3⟩ := hBX.2.1
    have hlt := World.block_lt_of_cell? V _ hv
    have hl0 := World.block_lt_of_cell? V _ b0
    have hl1 := World.block_lt_of_cell? V _ b2
    have HDK := hid (show ((V.setCell ⟨w.heap.size, 0, none⟩ (.slice xv xs.length cv)).setCell ⟨w.heap.size + 1, 0, none⟩ (.int .i64 0)).heap[D]? = some (.deferred (some [])) from ((Go.heap_setCell_other _ ⟨w.heap.size + 1, 0, none⟩ D _ (fun e => by have h2 : D = w.heap.size + 1 := e; omega)).trans (Go.heap_setCell_other V ⟨w.heap.size, 0, none⟩ D _ (fun e => by have h2 : D = w.heap.size := e; omega))).trans hDK)
    have HFQ := hid (show FinA w w1.heap.size (w.heap.size) (w.heap.size + 1) 38 (actsF zs).1 (actsF zs).2 ((V.setCell ⟨w.heap.size, 0, none⟩ (.slice xv xs.length cv)).setCell ⟨w.heap.size + 1, 0, none⟩ (.int .i64 0)) from by rw [HAA.out, hte.2]; exact HFP.out.1)
    clear hC hDt hxs hkl hrow hBX hDK hte hS hall hxl
    gi_wp2
    refine ⟨by simp, .inl ⟨_, _, rfl, run_takeDeferred HDK.out, ?_⟩⟩
    have hF := HFQ.out.grow (Grow.put (m := w1.heap.size) (.deferred none) hD HDK.out rfl) (by omega)
    obtain ⟨u, k0, k1, hA⟩ := fina_all hF (by omega)
    exact ⟨_, by simp [results, Tryd.f19, go_sem, k0, k1], hA⟩
  case stop =>
    rintro D k c S V hD hk ⟨rfl, hF⟩ hDK
    have HDK := hid hDK
    have HF1 := hid hF
    clear hF hDK
    gi_wp2
    refine ⟨by simp, .inl ⟨_, _, rfl, run_takeDeferred HDK.out, ?_⟩⟩
    have hF := HF1.out.grow (Grow.put (m := w1.heap.size) (.deferred none) hD HDK.out rfl) (by omega)
    obtain ⟨u, k0, k1, hA⟩ := fina_all hF (by omega)
    exact ⟨_, by simp [results, Tryd.f19, go_sem, k0, k1], hA⟩
end Go.Proofs.YtdpgmepblmlaaaaDoor
