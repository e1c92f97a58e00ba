/-
  query: the data of the replies that bytes are.
-/
import Derived.Test.YtdpgmepblmlaaaaDoorRm
namespace Go.Proofs.YtdpgmepblmlaaaaDoor
open Go.RowKit Go.Lib Go.Deep Go.Shelf
attribute [local go_sem] Oper.semAt_some

/-- No reply. -/
def badB (d : SfD) : Bool := decide (d.id ≠ 129) || d.data.isEmpty
def repG (q : List SfD × Int) : Int × List (List Int) := if q.1.any badB = true then (4, []) else if q.2 ≠ 0 then (q.2, []) else (0, q.1.map SfD.data)
/-- The error, the data of all. -/
def repF : List Int → Int × List (List Int)
  | [] => (2, [])
  | b :: r => if b ≠ 136 then (4, []) else repG (sfA r)
theorem repF_cons (b : Int) (r : List Int) : repF (b :: r) = if b ≠ 136 then (4, []) else repG (sfA r) := rfl
theorem repG_bad {q : List SfD × Int} {k : Nat} {d : SfD} (h : q.1[k]? = some d) (hb : badB d = true) : repG q = (4, []) := if_pos (List.any_eq_true.2 ⟨d, List.mem_of_getElem? h, hb⟩)
theorem any_no {l : List SfD} (h : ∀ d ∈ l, badB d = false) : ¬ l.any badB = true := fun q => by
  obtain ⟨d, hd, hb⟩ := List.any_eq_true.1 q
  rw [h d hd] at hb
  cases hb
theorem repG_er {q : List SfD × Int} (h : ∀ d ∈ q.1, badB d = false) (he : q.2 ≠ 0) : repG q = (q.2, []) := by
  unfold repG
  rw [if_neg (any_no h), if_pos he]
theorem repG_ok {q : List SfD × Int} (h : ∀ d ∈ q.1, badB d = false) (he : q.2 = 0) : repG q = (0, q.1.map SfD.data) := by
  unfold repG
  rw [if_neg (any_no h), if_neg (fun n => n he)]
/-- Bytes of one's own, with their value. -/
structure RvV where
  d : List Int
  tv : Value
def cellsV (xs : List RvV) : List Value := xs.map RvV.tv
theorem cellsV_len (xs : List RvV) : (cellsV xs).length = xs.length := by unfold cellsV; rw [List.length_map]
/-- A row of such, and apart from it their bytes. -/
structure RpM (w : World) (v : Value) (xs : List RvV) : Prop where
  row : w.ownsRow 0 22 1 v xs.length (cellsV xs)
  txt : ∀ x ∈ xs, OwnB w x.tv x.d
theorem RpM.step {w w' : World} {v : Value} {xs : List RvV} (h : RpM w v xs) (hb : Below w.heap.size w w') : RpM w' v xs :=
  ⟨own_moved h.row (Moved.below hb []) (fun _ _ q => by cases q), fun x hx => (h.txt x hx).step hb⟩
theorem RpM.nil (w : World) : RpM w (.slice none 0 0) [] := ⟨World.ownsRow_nil _ _ _ _, fun _ h => (by cases h)⟩
theorem RpM.at {w : World} {v : Value} {xs : List RvV} (h : RpM w v xs) : ∃ x cap, v = .slice x xs.length cap ∧ xs.length ≤ cap ∧ cap ≤ 9223372036854775807 ∧ ∀ i (hi : i < xs.length), ∃ g, x = some ⟨g, 0, none⟩ ∧ g < w.heap.size ∧ w.cell? ⟨g, i, none⟩ = some xs[i].tv := by
  rcases h.row.2 with ⟨rfl, e⟩ | ⟨g, cap, cur, rfl, hg, hh, h1, h2, h3, h4⟩
  · have hx : xs = [] := List.length_eq_zero_iff.1 e
    subst hx
    exact ⟨none, 0, rfl, Nat.le_refl _, by omega, fun i hi => absurd hi (Nat.not_lt_zero i)⟩
  · refine ⟨some ⟨g, 0, none⟩, cap, rfl, h1, by unfold maxLen at h2; omega, fun i hi => ⟨g, rfl, own_lt h.row g (by simp [blkV, Value.ownBlock]), ?_⟩⟩
    rw [World.ownsRow.cellAt h.row i (by omega)]
    unfold cellsV
    rw [List.getElem?_map, List.getElem?_eq_getElem hi]
    rfl
def DatV (m : Nat) (V : World) (xs : List RvV) : Prop := ∀ x ∈ xs, OwnB V x.tv x.d ∧ ∀ b ∈ blkV x.tv, m ≤ b
theorem DatV.nil (m : Nat) (V : World) : DatV m V [] := fun _ h => (by cases h)
theorem DatV.grow {m m' : Nat} {A B : World} {xs : List RvV} (h : DatV m A xs) (k : Grow m' A B) : DatV m B xs := fun x hx => ⟨ownB_grow (h x hx).1 k, (h x hx).2⟩
theorem DatV.set {m : Nat} {V : World} {xs : List RvV} {b : Nat} {u : Value} (h : DatV m V xs) (hb : b < m) : DatV m (V.setCell ⟨b, 0, none⟩ u) xs := fun x hx => ⟨⟨(h x hx).1.1, own_set (h x hx).1.2 (fun k hk => Nat.lt_of_lt_of_le hb ((h x hx).2 k hk))⟩, (h x hx).2⟩
/-- The error and the data of all. -/
def RpD (r : Int × List (List Int)) (w : World) (e : Ending) (w' : World) : Prop := ∃ l xs, e = .returned (.tuple #[l, .int .i64 r.1]) ∧ xs.map RvV.d = r.2 ∧ RpM w' l xs ∧ Below w.heap.size w w'
/-- So far collected. -/
def IRp (w1 : World) (ob : Nat) (zs : List Int) (k : Nat) (S : List Nat) (V : World) : Prop := ∃ xs : List RvV, (xs.map RvV.d = ((sfA zs).1.take k).map SfD.data ∧ ∀ d ∈ (sfA zs).1.take k, badB d = false) ∧ k ≤ (sfA zs).1.length ∧ ColM w1 ob 22 1 (cellsV xs) xs.length S V ∧ DatV w1.heap.size V xs
theorem IRp.grow {w1 : World} {ob : Nat} {zs : List Int} {k : Nat} {S : List Nat} {V B : World} (h : IRp w1 ob zs k S V) (g : Grow w1.heap.size V B) : IRp w1 ob zs k S B := by
  obtain ⟨xs, h1, h2, h3, h4⟩ := h
  exact ⟨xs, h1, h2, h3.grow g (Nat.le_refl _), h4.grow g⟩
/-- The results stand in their boxes. -/
def FinR (w : World) (m a b : Nat) (r : Int × List (List Int)) (V : World) : Prop := ∃ (xs : List RvV) (v : Value), xs.map RvV.d = r.2 ∧ V.ownsRow 0 22 1 v xs.length (cellsV xs) ∧ (∀ k ∈ blkV v, m ≤ k) ∧ DatV m V xs ∧ Bx1 V a v ∧ Bx1 V b (.int .i64 r.1) ∧ Below w.heap.size w V
theorem FinR.grow {w : World} {m m' a b : Nat} {r : Int × List (List Int)} {V B : World} (h : FinR w m a b r V) (g : Grow m' V B) (hm : w.heap.size ≤ m') : FinR w m a b r B := by
  obtain ⟨xs, v, h1, h2, h3, h4, h5, h6, h7⟩ := h
  exact ⟨xs, v, h1, own_grow h2 g, h3, h4.grow g, h5.grow g, h6.grow g, below_grow h7 g hm (Nat.le_refl _)⟩
theorem finr_put {w w1 V : World} {ob a b : Nat} {xs : List RvV} {S : List Nat} {v u0 u1 : Value} {r : Int × List (List Int)} (hC : ColM w1 ob 22 1 (cellsV xs) xs.length S V) (hD : DatV w1.heap.size V xs) (hx : xs.map RvV.d = r.2) (hv : V.cell? ⟨ob, 0, none⟩ = some v) (ha : Bx1 V a u0) (hb : Bx1 V b u1) (hab : a ≠ b) (haw : w.heap.size ≤ a) (hbw : w.heap.size ≤ b) (ha1 : a < w1.heap.size) (hb1 : b < w1.heap.size) (hW : Below w.heap.size w V) :
    FinR w w1.heap.size a b r ((V.setCell ⟨a, 0, none⟩ v).setCell ⟨b, 0, none⟩ (.int .i64 r.1)) ∧ Touch w1.heap.size V ((V.setCell ⟨a, 0, none⟩ v).setCell ⟨b, 0, none⟩ (.int .i64 r.1)) S S := by
  obtain ⟨⟨v0, ⟨h1, h2⟩, h3, h4⟩, h5, h6, h7⟩ := hC
  rw [hv] at h1
  cases h1
  subst h4
  refine ⟨⟨xs, v, hx, own_set (own_set h3 (fun k hk => Nat.lt_of_lt_of_le ha1 (h5 k hk))) (fun k hk => Nat.lt_of_lt_of_le hb1 (h5 k hk)), h5, (hD.set ha1).set hb1, ha.same.other hab, (hb.other hab.symm).same, (hW.setCell (by exact haw) _).setCell (by exact hbw) _⟩, ?_⟩
  exact (Touch.set V ⟨a, 0, none⟩ v (.inl ha1)).trans (Touch.set _ ⟨b, 0, none⟩ _ (.inl hb1))
theorem finr_no {w V : World} {m a b : Nat} {S : List Nat} {u0 u1 : Value} {er : Int} (ha : Bx1 V a u0) (hb : Bx1 V b u1) (hab : a ≠ b) (haw : w.heap.size ≤ a) (hbw : w.heap.size ≤ b) (ha1 : a < m) (hb1 : b < m) (hW : Below w.heap.size w V) :
    FinR w m a b (er, []) ((V.setCell ⟨a, 0, none⟩ (.slice none 0 0)).setCell ⟨b, 0, none⟩ (.int .i64 er)) ∧ Touch m V ((V.setCell ⟨a, 0, none⟩ (.slice none 0 0)).setCell ⟨b, 0, none⟩ (.int .i64 er)) S S :=
  ⟨⟨[], .slice none 0 0, rfl, World.ownsRow_nil _ _ _ _, fun _ q => (by cases q), DatV.nil _ _, ha.same.other hab, (hb.other hab.symm).same, (hW.setCell (by exact haw) _).setCell (by exact hbw) _⟩,
    (Touch.set V ⟨a, 0, none⟩ (.slice none 0 0) (.inl ha1)).trans (Touch.set _ ⟨b, 0, none⟩ _ (.inl hb1))⟩
theorem finr_all {w W : World} {m a b : Nat} {r : Int × List (List Int)} (h : FinR w m a b r W) : ∃ v, W.cell? ⟨a, 0, none⟩ = some v ∧ W.cell? ⟨b, 0, none⟩ = some (.int .i64 r.1) ∧ RpD r w (.returned (.tuple #[v, .int .i64 r.1])) W := by
  obtain ⟨xs, v, h1, h2, h3, h4, h5, h6, h7⟩ := h
  exact ⟨v, h5.1, h6.1, v, xs, rfl, h1, ⟨h2, fun x hx => (h4 x hx).1⟩, h7⟩
theorem news_one (W : World) (x0 : Value) (t : TypeId) (b : Nat) (hb : b = W.heap.size) : ∀ j u, [x0][j]? = some u → (W.alloc (.cells #[x0] t)).cell? ((⟨b, 0, none⟩ : Addr).add j) = some u := by
  intro j u hu
  subst hb
  rw [addr_add, Nat.zero_add, cell_of_row _ W.heap.size j #[x0] t (0, 0) (heap_alloc_new W _)]
  simpa using hu
theorem one_tv (v : Value) (h : v.oneCell' = true) : ∀ u ∈ [v], u.oneCell' = true := fun u hu => by rw [List.mem_singleton.1 hu]; exact h
theorem infoEl : (Tryd.prog.info? 22).map (fun i => (i.zero, i.size, i.bytes)) = some (some (.slice none 0 0), 1, 24) := by kernel_rfl
set_option maxRecDepth 100000 in
set_option maxHeartbeats 4000000 in
theorem replies_in (n : Nat) (hn : 8 ≤ n) (v : Value) (ps : List Int) (w : World) (h : Reads w v ps) (hl : ps.length ≤ 10000000) : CallsIn Fence.wide n Tryd.prog 63 #[v] w (RpD (repF ps) w) := by
  obtain ⟨i0, hi, hz0, hz1, hz2⟩ := info_parts infoEl
  rcases ps with _ | ⟨b, zs⟩
  · obtain ⟨x0, c0, rfl⟩ := reads_sl h
    clear h
    refine callsIn_of_wp_marks Tryd.func63 rfl trivial ?_ rfl
    simp only [Tryd.ntmps63, List.size_toArray, List.length_cons, List.length_nil, Nat.reduceAdd, Nat.reduceSub, Array.replicate_succ, Array.replicate_zero, List.push_toArray, List.append_toArray, List.nil_append, List.cons_append]
    gi_wp2
    exact ⟨.tuple #[.slice none 0 0, .int .i64 2], by simp [results, Tryd.f63, go_sem], .slice none 0 0, [], rfl, rfl, RpM.nil _, bal (bal (Below.refl _ _) _) _⟩
  have hr := h
  obtain ⟨x0, c0, rfl⟩ := reads_sl h
  obtain ⟨g0, o0, rfl, hc0, hcap, _⟩ := reads_at h 0 (by simp)
  rw [Nat.add_zero] at hc0
  have hc0 : w.cell? ⟨g0, o0, none⟩ = some (.int .u8 b) := hc0
  have hg0 := World.block_lt_of_cell? w _ hc0
  rw [repF_cons]
  by_cases hb : b = 136
  · subst hb
    rw [if_neg (fun q => q rfl)]
    obtain ⟨x1, c1, hsl0, hrs⟩ := from_all h 1 (by simp)
    have hzl : (136 :: zs).length - 1 = zs.length := by simp
    rw [hzl] at hsl0 hrs
    have hrs1 : ∀ W, Below w.heap.size w W → Reads W (.slice x1 zs.length c1) zs := fun W hW => hrs W (reads_below h hW)
    have hl1 : zs.length ≤ 10000000 := by simp at hl; omega
    have hcount : (sfA zs).1.length ≤ 10000000 := by have := sA_count zs.length zs; unfold sfA; omega
    have HF := hid (fun W (hW : Below w.heap.size w W) => fields_any (.slice x1 zs.length c1) zs W (hrs1 W hW) hl1)
    have HSEQ := hid (fun bx pv W => fields_seq (n - 1) (by omega) bx pv zs hl1 W)
    have hsl : ∀ w', (Instr.sliceAt 22 (.slice (some ⟨g0, o0, none⟩) (zs.length + 1) c0) (some (.int .i64 1)) none none).run Tryd.prog w' = .ok (.slice x1 zs.length c1) w' := by
      intro w'
      have q := hsl0 w'
      push_cast at q
      exact q
    clear h hr hrs hrs1 hsl0
    have hlen : (136 :: zs).length = zs.length + 1 := rfl
    rw [hlen]
    refine callsIn_of_wp_marks Tryd.func63 rfl trivial ?_ rfl
    simp only [Tryd.ntmps63, List.size_toArray, List.length_cons, List.length_nil, Nat.reduceAdd, Nat.reduceSub, Array.replicate_succ, Array.replicate_zero, List.push_toArray, List.append_toArray, List.nil_append, List.cons_append]
    have hne : ¬ ((zs.length : Int) + 1 = 0) := by omega
    have hpos : (0 : Int) < (zs.length : Int) + 1 := by omega
    have hp0 : 0 < zs.length + 1 := by omega
    generalize zs.length = L0 at *
    gi_wp2
    refine ⟨trivial, fun _ => (by omega), ?_⟩
    obtain ⟨w0, hw0⟩ : ∃ w0, ((w.alloc (.cells #[.slice none 0 0] 108)).alloc (.cells #[.int .i64 0] 31)).alloc (.cells #[.slice none 0 0] 108) = w0 := ⟨_, rfl⟩
    have hz : w0.heap.size = w.heap.size + 3 := by rw [← hw0]; simp
    have hb0 : Below w.heap.size w w0 := by rw [← hw0]; exact bal (bal (bal (Below.refl _ _) _) _) _
    have q0 : Bx1 w0 (w.heap.size) (.slice none 0 0) := by rw [← hw0]; exact ⟨by simp [go_sem], by simp [go_sem]⟩
    have q1 : Bx1 w0 (w.heap.size + 1) (.int .i64 0) := by rw [← hw0]; exact ⟨by simp [go_sem], by simp [go_sem]⟩
    have q2 : Bx1 w0 (w.heap.size + 1 + 1) (.slice none 0 0) := by rw [← hw0]; exact ⟨by simp [go_sem], by simp [go_sem]⟩
    rw [hw0]
    refine (callsIn_wide.2 (HF.out w0 hb0)).mono ?_
    rintro e w1 ⟨bx, pv, rfl, hcb, hob, hb1, hbx, hbk⟩
    have Q0 := hid (q0.step hb1)
    have Q1 := hid (q1.step hb1)
    have HB := hid (below_t hb0 hb1)
    have hzm : w.heap.size + 3 ≤ w1.heap.size := by have := hb1.size; omega
    have hbl := World.block_lt_of_cell? w1 _ hcb
    have HI0 := hid (show IRp w1 (w.heap.size + 1 + 1) zs 0 [] w1 from ⟨[], ⟨rfl, fun _ q => (by cases q)⟩, Nat.zero_le _, ColM.start w1 _ _ _ (q2.step hb1), DatV.nil _ _⟩)
    have HRV := hid (show ∀ k S V, IRp w1 (w.heap.size + 1 + 1) zs k S V → RSv bx pv zs V from fun k S V ⟨xs, _, _, hC, _⟩ => ⟨cell_moved hC.mv hcb (fun q => by have := List.mem_singleton.1 q; have h2 : bx = w.heap.size + 1 + 1 := this; omega), reads_moved hob.reads hC.mv (fun k hk q => by have h1 := hbk k hk; have := List.mem_singleton.1 q; omega)⟩)
    have HBX := hid (show ∀ k S V, IRp w1 (w.heap.size + 1 + 1) zs k S V → Bx1 V (w.heap.size) (.slice none 0 0) ∧ Bx1 V (w.heap.size + 1) (.int .i64 0) ∧ Below w.heap.size w V from fun k S V ⟨xs, _, _, hC, _⟩ => ⟨bx1_moved Q0.out hC.mv (fun q => by have := List.mem_singleton.1 q; omega), bx1_moved Q1.out hC.mv (fun q => by have := List.mem_singleton.1 q; omega), HB.out.trans (hC.mv.toBelow (by omega) (fun k hk => by have := List.mem_singleton.1 hk; omega))⟩)
    have HSQ := hid (fun o1 o2 => (show SeqF Fence.wide (n - 1) Tryd.prog 69 #[.pointer (some ⟨bx, 0, none⟩)] encS (elS zs (w1.heap.size + 2)) (toldS zs).length (RSv bx pv zs) ((w1.alloc o1).alloc o2) from by
      have q0 := HSEQ.out bx pv ((w1.alloc o1).alloc o2)
      rwa [show ((w1.alloc o1).alloc o2).heap.size = w1.heap.size + 2 by simp] at q0))
    clear hb1 hcb hob hb0 q0 q1 q2 hw0 hbk
    gi_wp2
    refine rangeFunc_seq (n := n) (w := w1) rfl (by omega) (gf := 69) (lb := #[.pointer (some ⟨bx, 0, none⟩)]) rfl trivial (enters_of Tryd.func69 (by kernel_rfl) rfl)
      (encs := encS) (fun _ => rfl) (el := elS zs (w1.heap.size + 2)) (N := (toldS zs).length) (R := RSv bx pv zs)
      (fun k S V => IRp w1 (w.heap.size + 1 + 1) zs k S V)
      (fun c _ _ V => c = .ret ∧ FinR w w1.heap.size (w.heap.size) (w.heap.size + 1) (repG (sfA zs)) V) ?hI ?hIx ?hR HI0.out
      (fun k S x a V => elS zs (w1.heap.size + 2) k x V ∧ (IRp w1 (w.heap.size + 1 + 1) zs k S V) ∧ ∃ fb, Box2 V fb (.int .u8 x.1.id) x.2.2 ∧ a = { tmps := #[.slice (some ⟨g0, o0, none⟩) (L0 + 1) c0, undef, .pointer (some ⟨w.heap.size, 0, none⟩), .pointer (some ⟨w.heap.size + 1, 0, none⟩), .pointer (some ⟨w.heap.size + 1 + 1, 0, none⟩), .pointer (some ⟨fb, 0, none⟩), .int .i64 x.2.1, .slice (some ⟨g0, o0, none⟩) (L0 + 1) c0, .int .i64 ((L0 : Int) + 1), .bool false, .slice (some ⟨g0, o0, none⟩) (L0 + 1) c0, .pointer (some ⟨g0, o0, none⟩), .int .u8 136, .bool false, .slice (some ⟨g0, o0, none⟩) (L0 + 1) c0, .slice x1 L0 c1, .func (.func 69) #[] #[.pointer (some ⟨bx, 0, none⟩)], .agg #[.int .u8 x.1.id, x.2.2], .int .i64 x.2.1, undef, undef, undef, undef, undef, undef, undef, undef, undef, undef, undef, undef, undef, undef, undef, undef, undef, undef], defers := [] }) ?hAx ?assign ?body ?iter ?done ?stop
    case hI => exact fun k S A C hg h => h.grow hg
    case hIx => exact fun c k S A C hg ⟨h3, h4⟩ => ⟨h3, h4.grow hg (by omega)⟩
    case hR => exact fun k S V h => HRV.out k S V h
    case hAx => exact fun k S x a A C hg ⟨h1, h2, fb, h3, h4⟩ => ⟨h1.grow hg, h2.grow hg, fb, h3.grow hg, h4⟩
    case iter => exact fun o1 o2 _ _ => HSQ.out o1 o2
    case assign =>
      rintro l' k ⟨⟨id, ys⟩, er, tv⟩ S V KK hk hel hi hsz hK
      have HK := hid hK
      have HI := hid hi
      have HEL := hid hel
      obtain ⟨xt, nt, ct, rfl⟩ := own_slice hel.2.1
      clear hK hi hel
      gi_wp2
      have hg : Grow w1.heap.size V (V.alloc (.cells #[.int .u8 id, .slice xt nt ct] 35)) := Grow.alloc _ _ _
      exact HK.out _ _ (Touch.alloc _ _ _ _) ⟨HEL.out.grow hg, HI.out.grow hg, V.heap.size, Box2.new _ _ _ _, rfl⟩
    case body =>
      rintro l' k ⟨⟨id, ys⟩, er, tv⟩ S a' V hk ⟨hel, hIk, fb, hfb, rfl⟩ hsz
      dsimp only at hfb
      have hisf := hIk
      have hBX := HBX.out _ _ _ hisf
      obtain ⟨xs, hxs, hkl, hC, hD⟩ := hisf
      obtain ⟨v, ⟨hv, hf⟩, hrow, hS⟩ := hC.ex
      have hlt := World.block_lt_of_cell? V _ hv
      obtain ⟨xv, cv, rfl⟩ := row_any hrow
      have hxl : xs.length = k := by have := congrArg List.length hxs.1; rw [List.length_map, List.length_map, List.length_take] at this; omega
      rcases told_split hel.1 with ⟨he0, hd, hkl2⟩ | ⟨hner, hkk, hee⟩
      · subst he0
        have ht := hel.2.1
        obtain ⟨nt, hnt⟩ : ∃ nt, ys.length = nt := ⟨_, rfl⟩
        obtain ⟨xt, ct, rfl⟩ := own_len ht nt hnt
        obtain ⟨y0, y1, -, -⟩ := hfb
        by_cases hbad : badB ⟨id, ys⟩ = true
        · have HFP := hid (finr_no (S := S) (er := 4) hBX.1 hBX.2.1 (by omega) (by omega) (by omega) (show w.heap.size < w1.heap.size by omega) (show w.heap.size + 1 < w1.heap.size by omega) hBX.2.2)
          obtain ⟨b0, b1⟩ := hBX.1
          obtain ⟨b2, b3⟩ := hBX.2.1
          have hl0 := World.block_lt_of_cell? V _ b0
          have hl1 := World.block_lt_of_cell? V _ b2
          have HFX := hid (show FinR w w1.heap.size (w.heap.size) (w.heap.size + 1) (repG (sfA zs)) ((V.setCell ⟨w.heap.size, 0, none⟩ (.slice none 0 0)).setCell ⟨w.heap.size + 1, 0, none⟩ (.int .i64 4)) from by rw [repG_bad hd hbad]; exact HFP.out.1)
          have hb2 : id ≠ 129 ∨ (id = 129 ∧ nt = 0) := by
            unfold badB at hbad
            by_cases h129 : id = 129
            · refine .inr ⟨h129, ?_⟩
              subst h129
              simp at hbad
              rw [← hnt, hbad]
              rfl
            · exact .inl h129
          clear hC hD hxs hrow hel hIk hBX hxl hS hd ht hnt hbad
          rcases hb2 with h129 | ⟨rfl, rfl⟩
          · have hid129 : (id == 129) = false := by simpa using h129
            have hid129' : (id != 129) = true := by simpa using h129
            gi_wp2
            exact ⟨S, HFP.out.2, ⟨rfl, HFX.out⟩⟩
          · gi_wp2
            exact ⟨S, HFP.out.2, ⟨rfl, HFX.out⟩⟩
        · have hbf : badB ⟨id, ys⟩ = false := by simpa using hbad
          have hgood : id = 129 ∧ nt ≠ 0 := by
            unfold badB at hbf
            simp at hbf
            refine ⟨hbf.1, fun q => hbf.2 ?_⟩
            rw [q] at hnt
            exact List.length_eq_zero_iff.1 hnt
          obtain ⟨rfl, hnz⟩ := hgood
          have hnz' : ¬ ((nt : Int) = 0) := by omega
          have HC := hid hC
          have HROW := hid hrow
          have HT := hid ht
          have HTB := hid (show ∀ b ∈ blkV (.slice xt nt ct), w1.heap.size ≤ b from fun b hb => by have := hel.2.2 b hb; omega)
          have HD := hid hD
          have HX := hid hxs
          have HXL := hid (show xs.length ≤ 10000000 by omega)
          have HDD := hid hd
          have HV := hid hv
          have HBF := hid hbf
          have hkl3 : k + 1 ≤ (sfA zs).1.length := hkl2
          clear hC hrow ht hD hxs hxl hd hel hIk hBX hS hbad hbf hnt
          gi_wp2_with (gi_at_builtin; refine wpListIn_append_blk _ rfl _ _ 108 rfl 22 i0 _ 1 24 Tryd.underlying108 hi hz0 hz1 hz2 rfl (by decide) _ xs.length (cellsV xs) rfl (HROW.out.alloc _) ⟨V.heap.size, 0, none⟩ 1 1 [.slice xt nt ct] rfl rfl (news_one V _ _ _ rfl) (one_tv _ rfl) (by have := HXL.out; unfold maxLen; omega) (by have := HXL.out; omega) ?_; intro v' W1 hown' hgrow hb'; obtain ⟨s1, s2, s3, s4, s5⟩ := HC.out.step HV.out hown' hgrow hb'; obtain ⟨s1a, s1b⟩ := s1; obtain ⟨g', cap', rfl⟩ := row_any hown'; have S3 := hid s3; have S4 := hid s4; have S5 := hid s5; clear hown' hgrow s3 s4 s5 hb')
          refine ⟨_, S4.out, ?_⟩
          · refine ⟨xs ++ [⟨ys, .slice xt nt ct⟩], ⟨by rw [List.map_append, HX.out.1, take_one _ _ _ HDD.out, List.map_append]; rfl, fun d hd => ?_⟩, hkl3, by unfold cellsV at S3 ⊢; rw [List.map_append, List.length_append]; exact S3.out, ?_⟩
            · rw [take_one _ _ _ HDD.out] at hd
              rcases List.mem_append.1 hd with q | q
              · exact HX.out.2 d q
              · rw [List.mem_singleton.1 q]; exact HBF.out
            intro y hy
            rcases List.mem_append.1 hy with hy | hy
            · exact ⟨⟨(HD.out y hy).1.1, S5.out _ _ _ _ _ (by decide) (HD.out y hy).2 (HD.out y hy).1.2⟩, (HD.out y hy).2⟩
            · rw [List.mem_singleton.1 hy]
              exact ⟨⟨HT.out.1, S5.out _ _ _ _ _ (by decide) HTB.out HT.out.2⟩, HTB.out⟩
      · obtain ⟨y0, y1, -, -⟩ := hfb
        have HFP := hid (finr_no (S := S) (er := er) hBX.1 hBX.2.1 (by omega) (by omega) (by omega) (show w.heap.size < w1.heap.size by omega) (show w.heap.size + 1 < w1.heap.size by omega) hBX.2.2)
        obtain ⟨b0, b1⟩ := hBX.1
        obtain ⟨b2, b3⟩ := hBX.2.1
        have hl0 := World.block_lt_of_cell? V _ b0
        have hl1 := World.block_lt_of_cell? V _ b2
        have hne' : (er == 0) = false := by simpa using hner
        have hne'' : (er != 0) = true := by simpa using hner
        have HFX := hid (show FinR w w1.heap.size (w.heap.size) (w.heap.size + 1) (repG (sfA zs)) ((V.setCell ⟨w.heap.size, 0, none⟩ (.slice none 0 0)).setCell ⟨w.heap.size + 1, 0, none⟩ (.int .i64 er)) from by
          rw [repG_er (fun d hd => hxs.2 d (by rw [hkk, List.take_length]; exact hd)) (by rw [hee]; exact hner), hee]; exact HFP.out.1)
        clear hC hD hxs hkk hrow hel hIk hBX hee hxl hS
        gi_wp2
        exact ⟨S, HFP.out.2, ⟨rfl, HFX.out⟩⟩
    case done =>
      rintro D S V hD hdi hDK
      have hBX := HBX.out _ _ _ hdi
      obtain ⟨xs, hxs, hkl, hC, hDt⟩ := hdi
      have hte := told_end hkl
      obtain ⟨v, ⟨hv, hf⟩, hrow, hS⟩ := hC.ex
      obtain ⟨xv, cv, rfl⟩ := row_any hrow
      have hrg : repG (sfA zs) = (0, (sfA zs).1.map SfD.data) := repG_ok (fun d hd => hxs.2 d (by rw [hte.1, List.take_length]; exact hd)) hte.2
      have HFP := hid (finr_put (r := (0, (sfA zs).1.map SfD.data)) hC hDt (show xs.map RvV.d = (sfA zs).1.map SfD.data by rw [hxs.1, hte.1, List.take_length]) hv hBX.1 hBX.2.1 (by omega) (by omega) (by omega) (by omega) (by omega) hBX.2.2)
      dsimp only at HFP
      obtain ⟨b0, b1⟩ := hBX.1
      obtain ⟨b2, b3⟩ := hBX.2.1
      have hlt := World.block_lt_of_cell? V _ hv
      have hl0 := World.block_lt_of_cell? V _ b0
      have hl1 := World.block_lt_of_cell? V _ b2
      have HDK := hid (show ((V.setCell ⟨w.heap.size, 0, none⟩ (.slice xv xs.length cv)).setCell ⟨w.heap.size + 1, 0, none⟩ (.int .i64 0)).heap[D]? = some (.deferred (some [])) from ((Go.heap_setCell_other _ ⟨w.heap.size + 1, 0, none⟩ D _ (fun e => by have h2 : D = w.heap.size + 1 := e; omega)).trans (Go.heap_setCell_other V ⟨w.heap.size, 0, none⟩ D _ (fun e => by have h2 : D = w.heap.size := e; omega))).trans hDK)
      have HFQ := hid (show FinR w w1.heap.size (w.heap.size) (w.heap.size + 1) (repG (sfA zs)) ((V.setCell ⟨w.heap.size, 0, none⟩ (.slice xv xs.length cv)).setCell ⟨w.heap.size + 1, 0, none⟩ (.int .i64 0)) from by rw [hrg]; exact HFP.out.1)
      clear hC hDt hxs hkl hrow hBX hDK hte hS hrg
      gi_wp2
      refine ⟨by simp, .inl ⟨_, _, rfl, run_takeDeferred HDK.out, ?_⟩⟩
      have hF := HFQ.out.grow (Grow.put (m := w1.heap.size) (.deferred none) hD HDK.out rfl) (by omega)
      obtain ⟨u, k0, k1, hA⟩ := finr_all hF
      exact ⟨_, by simp [results, Tryd.f63, go_sem, k0, k1], hA⟩
    case stop =>
      rintro D k c S V hD hk ⟨rfl, hF⟩ hDK
      have HDK := hid hDK
      have HF1 := hid hF
      clear hF hDK
      gi_wp2
      refine ⟨by simp, .inl ⟨_, _, rfl, run_takeDeferred HDK.out, ?_⟩⟩
      have hF := HF1.out.grow (Grow.put (m := w1.heap.size) (.deferred none) hD HDK.out rfl) (by omega)
      obtain ⟨u, k0, k1, hA⟩ := finr_all hF
      exact ⟨_, by simp [results, Tryd.f63, go_sem, k0, k1], hA⟩
  · rw [if_pos hb]
    have hbn : (b == 136) = false := by simpa using hb
    have hne : ¬ ((zs.length : Int) + 1 = 0) := by omega
    have hpos : (0 : Int) < (zs.length : Int) + 1 := by omega
    have hp0 : 0 < zs.length + 1 := by omega
    have hlen : (b :: zs).length = zs.length + 1 := rfl
    rw [hlen]
    clear h hr hb
    generalize zs.length = L0 at *
    refine callsIn_of_wp_marks Tryd.func63 rfl trivial ?_ rfl
    simp only [Tryd.ntmps63, List.size_toArray, List.length_cons, List.length_nil, Nat.reduceAdd, Nat.reduceSub, Array.replicate_succ, Array.replicate_zero, List.push_toArray, List.append_toArray, List.nil_append, List.cons_append]
    gi_wp2
    exact ⟨.tuple #[.slice none 0 0, .int .i64 4], by simp [results, Tryd.f63, go_sem], .slice none 0 0, [], rfl, rfl, RpM.nil _, bal (bal (Below.refl _ _) _) _⟩
end Go.Proofs.YtdpgmepblmlaaaaDoor
