/-
  sfield.All, and the law's fields.
-/
import Derived.Test.YtdpgmepblmlaaaaDoorRd
namespace Go.Proofs.YtdpgmepblmlaaaaDoor
open Go.RowKit Go.Lib Go.Deep Go.Shelf
attribute [local go_sem] Oper.semAt_some

theorem Box2.grow {m : Nat} {A B : World} {b : Nat} {v0 v1 : Value} (h : Box2 A b v0 v1) (k : Grow m A B) : Box2 B b v0 v1 := ⟨cell_grow k h.c0, cell_grow k h.c1, frozen_grow k h.c0 h.f0, frozen_grow k h.c1 h.f1⟩
theorem Bx1.new (w : World) (t : TypeId) (v : Value) : Bx1 (w.alloc (.cells #[v] t)) w.heap.size v := ⟨by simp [go_sem], by simp [go_sem]⟩
theorem Bx1.step {A B : World} {a : Nat} {v : Value} (h : Bx1 A a v) (hb : Below A.heap.size A B) : Bx1 B a v := ⟨keepc hb h.1, (hb.frozen (p := ⟨a, 0, none⟩) (World.block_lt_of_cell? A _ h.1)).trans h.2⟩
theorem Bx1.lt {A : World} {a : Nat} {v : Value} (h : Bx1 A a v) : a < A.heap.size := World.block_lt_of_cell? A _ h.1
theorem Bx1.other {A : World} {a b : Nat} {v u : Value} (h : Bx1 A a v) (hab : a ≠ b) : Bx1 (A.setCell ⟨b, 0, none⟩ u) a v := bx1_moved h (Moved.set (S := [b]) (List.mem_singleton_self _) 0 u) (fun q => hab (List.mem_singleton.1 q))
theorem Bx1.same {A : World} {a : Nat} {v u : Value} (h : Bx1 A a v) : Bx1 (A.setCell ⟨a, 0, none⟩ u) a u := ⟨sc_same h.1, by rw [World.frozen?_setCell]; exact h.2⟩
theorem own_set {A : World} {t : TypeId} {sz n : Nat} {v u : Value} {cs : List Value} {b : Nat} (h : A.ownsRow 0 t sz v n cs) (hb : ∀ k ∈ blkV v, b < k) : (A.setCell ⟨b, 0, none⟩ u).ownsRow 0 t sz v n cs := own_block h fun k hk => Go.heap_setCell_other A ⟨b, 0, none⟩ k u (fun e => by have h1 := hb k hk; have h2 : k = b := e; omega)
theorem DatS.set {m : Nat} {V : World} {xs : List SfV} {b : Nat} {u : Value} (h : DatS m V xs) (hb : b < m) : DatS m (V.setCell ⟨b, 0, none⟩ u) xs := fun x hx => ⟨⟨(h x hx).1.1, own_set (h x hx).1.2 (fun k hk => Nat.lt_of_lt_of_le hb ((h x hx).2 k hk))⟩, (h x hx).2⟩
/-- All of what is read are there. -/
def AllSD (t : TypeId) (ds : List SfD) (er : Int) (w : World) (e : Ending) (w' : World) : Prop := ∃ l xs, e = .returned (.tuple #[l, .int .i64 er]) ∧ xs.map SfV.d = ds ∧ SfM t w' l xs ∧ Below w.heap.size w w' ∧ (∀ k ∈ blkV l, w.heap.size ≤ k) ∧ ∀ x ∈ xs, ∀ k ∈ blkV x.tv, w.heap.size ≤ k
/-- The error where at most K are asked for. -/
def limE (zs : List Int) (K : Nat) : Int := if K ≤ (sfA zs).1.length then 0 else (sfA zs).2
theorem limE_ge {zs : List Int} {K : Nat} (h : K ≤ (sfA zs).1.length) : limE zs K = 0 := if_pos h
theorem limE_lt {zs : List Int} {K : Nat} (h : (sfA zs).1.length < K) : limE zs K = (sfA zs).2 := if_neg (by omega)
/-- So far collected. -/
def ISf (w1 : World) (ob : Nat) (t : TypeId) (zs : List Int) (k : Nat) (S : List Nat) (V : World) : Prop := ∃ xs : List SfV, xs.map SfV.d = (sfA zs).1.take k ∧ k ≤ (sfA zs).1.length ∧ ColM w1 ob t 2 (cellsS xs) xs.length S V ∧ DatS w1.heap.size V xs
theorem ISf.grow {w1 : World} {ob : Nat} {t : TypeId} {zs : List Int} {k : Nat} {S : List Nat} {V B : World} (h : ISf w1 ob t zs k S V) (g : Grow w1.heap.size V B) : ISf w1 ob t zs k S B := by
  obtain ⟨xs, h1, h2, h3, h4⟩ := h
  exact ⟨xs, h1, h2, h3.grow g (Nat.le_refl _), h4.grow g⟩
theorem ISf.size {w1 : World} {ob : Nat} {t : TypeId} {zs : List Int} {k : Nat} {S : List Nat} {V : World} (h : ISf w1 ob t zs k S V) : w1.heap.size ≤ V.heap.size := by
  obtain ⟨xs, _, _, h3, _⟩ := h
  exact h3.mv.size
/-- The results stand in their boxes. -/
def FinS (w : World) (m a b : Nat) (t : TypeId) (ds : List SfD) (er : Int) (V : World) : Prop := ∃ (xs : List SfV) (v : Value), xs.map SfV.d = ds ∧ V.ownsRow 0 t 2 v xs.length (cellsS xs) ∧ (∀ k ∈ blkV v, m ≤ k) ∧ DatS m V xs ∧ Bx1 V a v ∧ Bx1 V b (.int .i64 er) ∧ Below w.heap.size w V
theorem FinS.grow {w : World} {m m' a b : Nat} {t : TypeId} {ds : List SfD} {er : Int} {V B : World} (h : FinS w m a b t ds er V) (g : Grow m' V B) (hm : w.heap.size ≤ m') : FinS w m a b t ds er B := by
  obtain ⟨xs, v, h1, h2, h3, h4, h5, h6, h7⟩ := h
  exact ⟨xs, v, h1, own_grow h2 g, h3, h4.grow g, h5.grow g, h6.grow g, below_grow h7 g hm (Nat.le_refl _)⟩
theorem fin_put {w w1 V : World} {ob a b : Nat} {t : TypeId} {xs : List SfV} {S : List Nat} {v u0 u1 : Value} {ds : List SfD} {er : Int} (hC : ColM w1 ob t 2 (cellsS xs) xs.length S V) (hD : DatS w1.heap.size V xs) (hx : xs.map SfV.d = ds) (hv : V.cell? ⟨ob, 0, none⟩ = some v) (ha : Bx1 V a u0) (hb : Bx1 V b u1) (hab : a ≠ b) (haw : w.heap.size ≤ a) (hbw : w.heap.size ≤ b) (ha1 : a < w1.heap.size) (hb1 : b < w1.heap.size) (hW : Below w.heap.size w V) :
    FinS w w1.heap.size a b t ds er ((V.setCell ⟨a, 0, none⟩ v).setCell ⟨b, 0, none⟩ (.int .i64 er)) ∧ Touch w1.heap.size V ((V.setCell ⟨a, 0, none⟩ v).setCell ⟨b, 0, none⟩ (.int .i64 er)) S S := by
  obtain ⟨⟨v0, ⟨h1, h2⟩, h3, h4⟩, h5, h6, h7⟩ := hC
  rw [hv] at h1
  cases h1
  subst h4
  refine ⟨⟨xs, v, hx, own_set (own_set h3 (fun k hk => Nat.lt_of_lt_of_le ha1 (h5 k hk))) (fun k hk => Nat.lt_of_lt_of_le hb1 (h5 k hk)), h5, (hD.set ha1).set hb1, ha.same.other hab, (hb.other hab.symm).same, (hW.setCell (by exact haw) _).setCell (by exact hbw) _⟩, ?_⟩
  exact (Touch.set V ⟨a, 0, none⟩ v (.inl ha1)).trans (Touch.set _ ⟨b, 0, none⟩ _ (.inl hb1))
theorem fin_all {w W : World} {m a b : Nat} {t : TypeId} {ds : List SfD} {er : Int} (h : FinS w m a b t ds er W) (hm : w.heap.size ≤ m) : ∃ v, W.cell? ⟨a, 0, none⟩ = some v ∧ W.cell? ⟨b, 0, none⟩ = some (.int .i64 er) ∧ AllSD t ds er w (.returned (.tuple #[v, .int .i64 er])) W := by
  obtain ⟨xs, v, h1, h2, h3, h4, h5, h6, h7⟩ := h
  exact ⟨v, h5.1, h6.1, v, xs, rfl, h1, ⟨h2, fun x hx => (h4 x hx).1⟩, h7, fun k hk => Nat.le_trans hm (h3 k hk), fun x hx k hk => Nat.le_trans hm ((h4 x hx).2 k hk)⟩
set_option maxRecDepth 100000 in
set_option maxHeartbeats 4000000 in
theorem sall_in (n : Nat) (hn : 8 ≤ n) (v : Value) (zs : List Int) (w : World) (h : Reads w v zs) (hl : zs.length ≤ 10000000) : CallsIn Fence.wide n Tryd.prog 15 #[v] w (AllSD 35 (sfA zs).1 (sfA zs).2 w) := by
  obtain ⟨i0, hi, hz0, hz1, hz2⟩ := info_parts infoFp
  have hcount : (sfA zs).1.length ≤ 10000000 := by have := sA_count zs.length zs; unfold sfA; omega
  have HF := hid (fun W (hW : Below w.heap.size w W) => fields_any v zs W (reads_below h hW) hl)
  have HSEQ := hid (fun bx pv W => fields_seq (n - 1) (by omega) bx pv zs hl W)
  obtain ⟨x0, c0, rfl⟩ := reads_sl h
  clear h
  refine callsIn_of_wp_marks Tryd.func15 rfl trivial ?_ rfl
  simp only [Tryd.ntmps15, List.size_toArray, List.length_cons, List.length_nil, Nat.reduceAdd, Nat.reduceSub, Array.replicate_succ, Array.replicate_zero, List.push_toArray, List.append_toArray, List.nil_append, List.cons_append]
  gi_wp2
  refine ⟨trivial, fun _ => (by omega), ?_⟩
  obtain ⟨w0, hw0⟩ : ∃ w0, ((w.alloc (.cells #[.slice none 0 0] 30)).alloc (.cells #[.int .i64 0] 31)).alloc (.cells #[.slice none 0 0] 30) = w0 := ⟨_, rfl⟩
  have hz : w0.heap.size = w.heap.size + 3 := by rw [← hw0]; simp
  have hb0 : Below w.heap.size w w0 := by rw [← hw0]; exact bal (bal (bal (Below.refl _ _) _) _) _
  have q0 : Bx1 w0 (w.heap.size) (.slice none 0 0) := by rw [← hw0]; exact ⟨by simp [go_sem], by simp [go_sem]⟩
  have q1 : Bx1 w0 (w.heap.size + 1) (.int .i64 0) := by rw [← hw0]; exact ⟨by simp [go_sem], by simp [go_sem]⟩
  have q2 : Bx1 w0 (w.heap.size + 1 + 1) (.slice none 0 0) := by rw [← hw0]; exact ⟨by simp [go_sem], by simp [go_sem]⟩
  rw [hw0]
  refine (callsIn_wide.2 (HF.out w0 hb0)).mono ?_
  rintro e w1 ⟨bx, pv, rfl, hcb, hob, hb1, hbx, hbk⟩
  have Q0 := hid (q0.step hb1)
  have Q1 := hid (q1.step hb1)
  have HB := hid (below_t hb0 hb1)
  have hzm : w.heap.size + 3 ≤ w1.heap.size := by have := hb1.size; omega
  have hbl := World.block_lt_of_cell? w1 _ hcb
  have HI0 := hid (show ISf w1 (w.heap.size + 1 + 1) 35 zs 0 [] w1 from ⟨[], rfl, Nat.zero_le _, ColM.start w1 _ _ _ (q2.step hb1), DatS.nil _ _⟩)
  have HRV := hid (show ∀ k S V, ISf w1 (w.heap.size + 1 + 1) 35 zs k S V → RSv bx pv zs V from fun k S V ⟨xs, _, _, hC, _⟩ => ⟨cell_moved hC.mv hcb (fun q => by have := List.mem_singleton.1 q; have h2 : bx = w.heap.size + 1 + 1 := this; omega), reads_moved hob.reads hC.mv (fun k hk q => by have h1 := hbk k hk; have := List.mem_singleton.1 q; omega)⟩)
  have HBX := hid (show ∀ k S V, ISf w1 (w.heap.size + 1 + 1) 35 zs k S V → Bx1 V (w.heap.size) (.slice none 0 0) ∧ Bx1 V (w.heap.size + 1) (.int .i64 0) ∧ Below w.heap.size w V from fun k S V ⟨xs, _, _, hC, _⟩ => ⟨bx1_moved Q0.out hC.mv (fun q => by have := List.mem_singleton.1 q; omega), bx1_moved Q1.out hC.mv (fun q => by have := List.mem_singleton.1 q; omega), HB.out.trans (hC.mv.toBelow (by omega) (fun k hk => by have := List.mem_singleton.1 hk; omega))⟩)
  have HSQ := hid (fun o1 o2 => (show SeqF Fence.wide (n - 1) Tryd.prog 69 #[.pointer (some ⟨bx, 0, none⟩)] encS (elS zs (w1.heap.size + 2)) (toldS zs).length (RSv bx pv zs) ((w1.alloc o1).alloc o2) from by
    have q0 := HSEQ.out bx pv ((w1.alloc o1).alloc o2)
    rwa [show ((w1.alloc o1).alloc o2).heap.size = w1.heap.size + 2 by simp] at q0))
  clear hb1 hcb hob hb0 q0 q1 q2 hw0 hbk
  gi_wp2
  refine rangeFunc_seq (n := n) (w := w1) rfl (by omega) (gf := 69) (lb := #[.pointer (some ⟨bx, 0, none⟩)]) rfl trivial (enters_of Tryd.func69 (by kernel_rfl) rfl)
    (encs := encS) (fun _ => rfl) (el := elS zs (w1.heap.size + 2)) (N := (toldS zs).length) (R := RSv bx pv zs)
    (fun k S V => ISf w1 (w.heap.size + 1 + 1) 35 zs k S V)
    (fun c _ _ V => c = .ret ∧ FinS w w1.heap.size (w.heap.size) (w.heap.size + 1) 35 (sfA zs).1 (sfA zs).2 V) ?hI ?hIx ?hR HI0.out
    (fun k S x a V => elS zs (w1.heap.size + 2) k x V ∧ (ISf w1 (w.heap.size + 1 + 1) 35 zs k S V) ∧ ∃ fb, Box2 V fb (.int .u8 x.1.id) x.2.2 ∧ a = { tmps := #[.slice x0 zs.length c0, undef, .pointer (some ⟨w.heap.size, 0, none⟩), .pointer (some ⟨w.heap.size + 1, 0, none⟩), .pointer (some ⟨w.heap.size + 1 + 1, 0, none⟩), .pointer (some ⟨fb, 0, none⟩), .int .i64 x.2.1, .slice x0 zs.length c0, .func (.func 69) #[] #[.pointer (some ⟨bx, 0, none⟩)], .agg #[.int .u8 x.1.id, x.2.2], .int .i64 x.2.1, undef, undef, undef, undef, undef, undef, undef, undef, undef], defers := [] }) ?hAx ?assign ?body ?iter ?done ?stop
  case hI => exact fun k S A C hg h => h.grow hg
  case hIx => exact fun c k S A C hg ⟨h3, h4⟩ => ⟨h3, h4.grow hg (by omega)⟩
  case hR => exact fun k S V h => HRV.out k S V h
  case hAx => exact fun k S x a A C hg ⟨h1, h2, fb, h3, h4⟩ => ⟨h1.grow hg, h2.grow hg, fb, h3.grow hg, h4⟩
  case iter => exact fun o1 o2 _ _ => HSQ.out o1 o2
  case assign =>
    rintro l' k ⟨⟨id, ys⟩, er, tv⟩ S V KK hk hel hi hsz hK
    have HK := hid hK
    have HI := hid hi
    have HEL := hid hel
    obtain ⟨xt, nt, ct, rfl⟩ := own_slice hel.2.1
    clear hK hi hel
    gi_wp2
    have hg : Grow w1.heap.size V (V.alloc (.cells #[.int .u8 id, .slice xt nt ct] 35)) := Grow.alloc _ _ _
    exact HK.out _ _ (Touch.alloc _ _ _ _) ⟨HEL.out.grow hg, HI.out.grow hg, V.heap.size, Box2.new _ _ _ _, rfl⟩
  case body =>
    rintro l' k ⟨⟨id, ys⟩, er, tv⟩ S a' V hk ⟨hel, hIk, fb, hfb, rfl⟩ hsz
    dsimp only at hfb
    have hisf := hIk
    have hBX := HBX.out _ _ _ hisf
    obtain ⟨xs, hxs, hkl, hC, hD⟩ := hisf
    obtain ⟨v, ⟨hv, hf⟩, hrow, hS⟩ := hC.ex
    have hlt := World.block_lt_of_cell? V _ hv
    obtain ⟨xv, cv, rfl⟩ := row_any hrow
    have hxl : xs.length = k := by have := congrArg List.length hxs; rw [List.length_map, List.length_take] at this; omega
    rcases told_split hel.1 with ⟨he0, hd, hkl2⟩ | ⟨hne, hkk, hee⟩
    · subst he0
      have ht := hel.2.1
      obtain ⟨xt, nt, ct, rfl⟩ := own_slice ht
      obtain ⟨y0, y1, -, -⟩ := hfb
      have HC := hid hC
      have HROW := hid hrow
      have HT := hid ht
      have HTB := hid (show ∀ b ∈ blkV (.slice xt nt ct), w1.heap.size ≤ b from fun b hb => by have := hel.2.2 b hb; omega)
      have HD := hid hD
      have HX := hid hxs
      have HXL := hid (show xs.length ≤ 10000000 by omega)
      have HXK := hid hxl
      have HDD := hid hd
      have HS := hid hS
      have HV := hid hv
      have hkl3 : k + 1 ≤ (sfA zs).1.length := hkl2
      clear hC hrow ht hD hxs hxl hd hel hIk hBX hS
      gi_wp2_with (gi_at_builtin; refine wpListIn_append_blk _ rfl _ _ 30 rfl 35 i0 _ 2 32 Tryd.underlying30 hi hz0 hz1 hz2 rfl (by decide) _ xs.length (cellsS xs) rfl (HROW.out.alloc _) ⟨V.heap.size, 0, none⟩ 1 1 (sfC ⟨⟨id, ys⟩, .slice xt nt ct⟩) rfl rfl (news_two V _ _ _ _ rfl) (one_sfC _ rfl) (by have := HXL.out; unfold maxLen; omega) (by have := HXL.out; omega) ?_; intro v' W1 hown' hgrow hb'; obtain ⟨s1, s2, s3, s4, s5⟩ := HC.out.step HV.out hown' hgrow hb'; obtain ⟨s1a, s1b⟩ := s1; obtain ⟨g', cap', rfl⟩ := row_any hown'; have S3 := hid s3; have S4 := hid s4; have S5 := hid s5; clear hown' hgrow s3 s4 s5 hb')
      refine ⟨_, S4.out, ?_⟩
      · refine ⟨xs ++ [⟨⟨id, ys⟩, .slice xt nt ct⟩], by rw [List.map_append, HX.out, take_one _ _ _ HDD.out]; rfl, hkl3, by rw [cellsS_append, List.length_append]; exact S3.out, ?_⟩
        intro y hy
        rcases List.mem_append.1 hy with hy | hy
        · exact ⟨⟨(HD.out y hy).1.1, S5.out _ _ _ _ _ (by decide) (HD.out y hy).2 (HD.out y hy).1.2⟩, (HD.out y hy).2⟩
        · rw [List.mem_singleton.1 hy]
          exact ⟨⟨HT.out.1, S5.out _ _ _ _ _ (by decide) HTB.out HT.out.2⟩, HTB.out⟩

    · obtain ⟨y0, y1, -, -⟩ := hfb
      have HFP := hid (fin_put hC hD (show xs.map SfV.d = (sfA zs).1 by rw [hxs, hkk, List.take_length]) hv hBX.1 hBX.2.1 (by omega) (by omega) (by omega) (by omega) (by omega) (er := (sfA zs).2) hBX.2.2)
      obtain ⟨b0, b1⟩ := hBX.1
      obtain ⟨b2, b3⟩ := hBX.2.1
      have hl0 := World.block_lt_of_cell? V _ b0
      have hl1 := World.block_lt_of_cell? V _ b2
      have hne' : (er == 0) = false := by simpa using hne
      have hee2 : (sfA zs).2 = er := hee
      rw [hee2] at HFP
      have HFX := hid (show FinS w w1.heap.size (w.heap.size) (w.heap.size + 1) 35 (sfA zs).1 (sfA zs).2 ((V.setCell ⟨w.heap.size, 0, none⟩ (.slice xv xs.length cv)).setCell ⟨w.heap.size + 1, 0, none⟩ (.int .i64 er)) from by rw [hee2]; exact HFP.out.1)
      clear hC hD hxs hkk hrow hel hIk hBX hee hee2 hxl hS
      gi_wp2
      exact ⟨S, HFP.out.2, ⟨rfl, HFX.out⟩⟩
  case done =>
    rintro D S V hD hdi hDK
    have hBX := HBX.out _ _ _ hdi
    obtain ⟨xs, hxs, hkl, hC, hDt⟩ := hdi
    have hte := told_end hkl
    obtain ⟨v, ⟨hv, hf⟩, hrow, hS⟩ := hC.ex
    obtain ⟨xv, cv, rfl⟩ := row_any hrow
    have HFP := hid (fin_put hC hDt (show xs.map SfV.d = (sfA zs).1 by rw [hxs, hte.1, List.take_length]) hv hBX.1 hBX.2.1 (by omega) (by omega) (by omega) (by omega) (by omega) (er := 0) hBX.2.2)
    obtain ⟨b0, b1⟩ := hBX.1
    obtain ⟨b2, b3⟩ := hBX.2.1
    have hlt := World.block_lt_of_cell? V _ hv
    have hl0 := World.block_lt_of_cell? V _ b0
    have hl1 := World.block_lt_of_cell? V _ b2
    have HDK := hid (show ((V.setCell ⟨w.heap.size, 0, none⟩ (.slice xv xs.length cv)).setCell ⟨w.heap.size + 1, 0, none⟩ (.int .i64 0)).heap[D]? = some (.deferred (some [])) from ((Go.heap_setCell_other _ ⟨w.heap.size + 1, 0, none⟩ D _ (fun e => by have h2 : D = w.heap.size + 1 := e; omega)).trans (Go.heap_setCell_other V ⟨w.heap.size, 0, none⟩ D _ (fun e => by have h2 : D = w.heap.size := e; omega))).trans hDK)
    have HEE := hid (show (sfA zs).2 = 0 by exact hte.2)
    have HFQ := hid (show FinS w w1.heap.size (w.heap.size) (w.heap.size + 1) 35 (sfA zs).1 (sfA zs).2 ((V.setCell ⟨w.heap.size, 0, none⟩ (.slice xv xs.length cv)).setCell ⟨w.heap.size + 1, 0, none⟩ (.int .i64 0)) from by rw [HEE.out]; exact HFP.out.1)
    clear hC hDt hxs hkl hrow hBX hDK hte hS
    gi_wp2
    refine ⟨by simp, .inl ⟨_, _, rfl, run_takeDeferred HDK.out, ?_⟩⟩
    have hF := HFQ.out.grow (Grow.put (m := w1.heap.size) (.deferred none) hD HDK.out rfl) (by omega)
    obtain ⟨u, k0, k1, hA⟩ := fin_all hF (by omega)
    exact ⟨_, by simp [results, Tryd.f15, go_sem, k0, k1], hA⟩
  case stop =>
    rintro D k c S V hD hk ⟨rfl, hF⟩ hDK
    have HDK := hid hDK
    have HF1 := hid hF
    clear hF hDK
    gi_wp2
    refine ⟨by simp, .inl ⟨_, _, rfl, run_takeDeferred HDK.out, ?_⟩⟩
    have hF := HF1.out.grow (Grow.put (m := w1.heap.size) (.deferred none) hD HDK.out rfl) (by omega)
    obtain ⟨u, k0, k1, hA⟩ := fin_all hF (by omega)
    exact ⟨_, by simp [results, Tryd.f15, go_sem, k0, k1], hA⟩
set_option maxRecDepth 100000 in
set_option maxHeartbeats 4000000 in
theorem lfields_in (n : Nat) (hn : 8 ≤ n) (v : Value) (zs : List Int) (w : World) (h : Reads w v zs) (hl : zs.length ≤ 10000000) (K : Nat) (hK1 : 1 ≤ K) (hK2 : K ≤ 1000000) : CallsIn Fence.wide n Tryd.prog 14 #[v, .int .i64 K] w (AllSD 36 ((sfA zs).1.take K) (limE zs K) w) := by
  obtain ⟨i0, hi, hz0, hz1, hz2⟩ := info_parts infoFr
  have hcount : (sfA zs).1.length ≤ 10000000 := by have := sA_count zs.length zs; unfold sfA; omega
  have HF := hid (fun W (hW : Below w.heap.size w W) => fields_any v zs W (reads_below h hW) hl)
  have HSEQ := hid (fun bx pv W => fields_seq (n - 1) (by omega) bx pv zs hl W)
  obtain ⟨x0, c0, rfl⟩ := reads_sl h
  clear h
  refine callsIn_of_wp_marks Tryd.func14 rfl trivial ?_ rfl
  simp only [Tryd.ntmps14, List.size_toArray, List.length_cons, List.length_nil, Nat.reduceAdd, Nat.reduceSub, Array.replicate_succ, Array.replicate_zero, List.push_toArray, List.append_toArray, List.nil_append, List.cons_append]
  gi_wp2
  refine ⟨trivial, fun _ => (by omega), ?_⟩
  obtain ⟨w0, hw0⟩ : ∃ w0, (((w.alloc (.cells #[.int .i64 K] 3)).alloc (.cells #[.slice none 0 0] 26)).alloc (.cells #[.int .i64 0] 3)).alloc (.cells #[.slice none 0 0] 26) = w0 := ⟨_, rfl⟩
  have hz : w0.heap.size = w.heap.size + 4 := by rw [← hw0]; simp
  have hb0 : Below w.heap.size w w0 := by rw [← hw0]; exact bal (bal (bal (bal (Below.refl _ _) _) _) _) _
  have q0 : Bx1 w0 (w.heap.size + 1) (.slice none 0 0) := by rw [← hw0]; exact ⟨by simp [go_sem], by simp [go_sem]⟩
  have q1 : Bx1 w0 (w.heap.size + 1 + 1) (.int .i64 0) := by rw [← hw0]; exact ⟨by simp [go_sem], by simp [go_sem]⟩
  have q2 : Bx1 w0 (w.heap.size + 1 + 1 + 1) (.slice none 0 0) := by rw [← hw0]; exact ⟨by simp [go_sem], by simp [go_sem]⟩
  have kc0 : w0.cell? ⟨w.heap.size, 0, none⟩ = some (.int .i64 K) := by rw [← hw0]; simp [go_sem]
  rw [hw0]
  refine (callsIn_wide.2 (HF.out w0 hb0)).mono ?_
  rintro e w1 ⟨bx, pv, rfl, hcb, hob, hb1, hbx, hbk⟩
  have Q0 := hid (q0.step hb1)
  have Q1 := hid (q1.step hb1)
  have HKM := hid (show ∀ V, Moved w1 V [w.heap.size + 1 + 1 + 1] [w.heap.size + 1 + 1 + 1] → V.cell? ⟨w.heap.size, 0, none⟩ = some (.int .i64 K) from fun V hm => cell_moved hm (keepc hb1 kc0) (fun q => by have := List.mem_singleton.1 q; have h2 : w.heap.size = w.heap.size + 1 + 1 + 1 := this; omega))
  have HB := hid (below_t hb0 hb1)
  have hzm : w.heap.size + 4 ≤ w1.heap.size := by have := hb1.size; omega
  have hbl := World.block_lt_of_cell? w1 _ hcb
  have HI0 := hid (show ISf w1 (w.heap.size + 1 + 1 + 1) 36 zs 0 [] w1 from ⟨[], rfl, Nat.zero_le _, ColM.start w1 _ _ _ (q2.step hb1), DatS.nil _ _⟩)
  have HRV := hid (show ∀ k S V, ISf w1 (w.heap.size + 1 + 1 + 1) 36 zs k S V → RSv bx pv zs V from fun k S V ⟨xs, _, _, hC, _⟩ => ⟨cell_moved hC.mv hcb (fun q => by have := List.mem_singleton.1 q; have h2 : bx = w.heap.size + 1 + 1 + 1 := this; omega), reads_moved hob.reads hC.mv (fun k hk q => by have h1 := hbk k hk; have := List.mem_singleton.1 q; omega)⟩)
  have HBX := hid (show ∀ k S V, ISf w1 (w.heap.size + 1 + 1 + 1) 36 zs k S V → Bx1 V (w.heap.size + 1) (.slice none 0 0) ∧ Bx1 V (w.heap.size + 1 + 1) (.int .i64 0) ∧ Below w.heap.size w V from fun k S V ⟨xs, _, _, hC, _⟩ => ⟨bx1_moved Q0.out hC.mv (fun q => by have := List.mem_singleton.1 q; omega), bx1_moved Q1.out hC.mv (fun q => by have := List.mem_singleton.1 q; omega), HB.out.trans (hC.mv.toBelow (by omega) (fun k hk => by have := List.mem_singleton.1 hk; omega))⟩)
  have HSQ := hid (fun o1 o2 => (show SeqF Fence.wide (n - 1) Tryd.prog 69 #[.pointer (some ⟨bx, 0, none⟩)] encS (elS zs (w1.heap.size + 2)) (toldS zs).length (RSv bx pv zs) ((w1.alloc o1).alloc o2) from by
    have q0 := HSEQ.out bx pv ((w1.alloc o1).alloc o2)
    rwa [show ((w1.alloc o1).alloc o2).heap.size = w1.heap.size + 2 by simp] at q0))
  clear hb1 hcb hob hb0 q0 q1 q2 hw0 hbk kc0
  gi_wp2
  refine rangeFunc_seq (n := n) (w := w1) rfl (by omega) (gf := 69) (lb := #[.pointer (some ⟨bx, 0, none⟩)]) rfl trivial (enters_of Tryd.func69 (by kernel_rfl) rfl)
    (encs := encS) (fun _ => rfl) (el := elS zs (w1.heap.size + 2)) (N := (toldS zs).length) (R := RSv bx pv zs)
    (fun k S V => ISf w1 (w.heap.size + 1 + 1 + 1) 36 zs k S V ∧ k < K)
    (fun c k S V => (c = .ret ∧ FinS w w1.heap.size (w.heap.size + 1) (w.heap.size + 1 + 1) 36 ((sfA zs).1.take K) (limE zs K) V) ∨ (c = .exit 0 ∧ k = K ∧ ISf w1 (w.heap.size + 1 + 1 + 1) 36 zs k S V)) ?hI ?hIx ?hR ⟨HI0.out, hK1⟩
    (fun k S x a V => elS zs (w1.heap.size + 2) k x V ∧ (ISf w1 (w.heap.size + 1 + 1 + 1) 36 zs k S V ∧ k < K) ∧ ∃ fb, Box2 V fb (.int .u8 x.1.id) x.2.2 ∧ a = { tmps := #[.slice x0 zs.length c0, .int .i64 K, undef, .pointer (some ⟨w.heap.size, 0, none⟩), .pointer (some ⟨w.heap.size + 1, 0, none⟩), .pointer (some ⟨w.heap.size + 1 + 1, 0, none⟩), .pointer (some ⟨w.heap.size + 1 + 1 + 1, 0, none⟩), .pointer (some ⟨fb, 0, none⟩), .int .i64 x.2.1, .slice x0 zs.length c0, .func (.func 69) #[] #[.pointer (some ⟨bx, 0, none⟩)], .agg #[.int .u8 x.1.id, x.2.2], .int .i64 x.2.1, undef, undef, undef, undef, undef, undef, undef, undef, undef, undef, undef, undef, undef], defers := [] }) ?hAx ?assign ?body ?iter ?done ?stop
  case hI => exact fun k S A C hg ⟨h, h2⟩ => ⟨h.grow hg, h2⟩
  case hIx => exact fun c k S A C hg h => h.elim (fun ⟨h3, h4⟩ => .inl ⟨h3, h4.grow hg (by omega)⟩) (fun ⟨h3, h4, h5⟩ => .inr ⟨h3, h4, h5.grow hg⟩)
  case hR => exact fun k S V h => HRV.out k S V h.1
  case hAx => exact fun k S x a A C hg ⟨h1, h2, fb, h3, h4⟩ => ⟨h1.grow hg, ⟨h2.1.grow hg, h2.2⟩, fb, h3.grow hg, h4⟩
  case iter => exact fun o1 o2 _ _ => HSQ.out o1 o2
  case assign =>
    rintro l' k ⟨⟨id, ys⟩, er, tv⟩ S V KK hk hel hi hsz hK
    have HK := hid hK
    have HI := hid hi
    have HEL := hid hel
    obtain ⟨xt, nt, ct, rfl⟩ := own_slice hel.2.1
    clear hK hi hel
    gi_wp2
    have hg : Grow w1.heap.size V (V.alloc (.cells #[.int .u8 id, .slice xt nt ct] 35)) := Grow.alloc _ _ _
    exact HK.out _ _ (Touch.alloc _ _ _ _) ⟨HEL.out.grow hg, ⟨HI.out.1.grow hg, HI.out.2⟩, V.heap.size, Box2.new _ _ _ _, rfl⟩
  case body =>
    rintro l' k ⟨⟨id, ys⟩, er, tv⟩ S a' V hk ⟨hel, hIk, fb, hfb, rfl⟩ hsz
    dsimp only at hfb
    have hisf := hIk.1
    have hkK := hIk.2
    have hBX := HBX.out _ _ _ hisf
    obtain ⟨xs, hxs, hkl, hC, hD⟩ := hisf
    obtain ⟨v, ⟨hv, hf⟩, hrow, hS⟩ := hC.ex
    have hlt := World.block_lt_of_cell? V _ hv
    obtain ⟨xv, cv, rfl⟩ := row_any hrow
    have hxl : xs.length = k := by have := congrArg List.length hxs; rw [List.length_map, List.length_take] at this; omega
    rcases told_split hel.1 with ⟨he0, hd, hkl2⟩ | ⟨hne, hkk, hee⟩
    · subst he0
      have ht := hel.2.1
      obtain ⟨xt, nt, ct, rfl⟩ := own_slice ht
      obtain ⟨y0, y1, -, -⟩ := hfb
      have HC := hid hC
      have HROW := hid hrow
      have HT := hid ht
      have HTB := hid (show ∀ b ∈ blkV (.slice xt nt ct), w1.heap.size ≤ b from fun b hb => by have := hel.2.2 b hb; omega)
      have HD := hid hD
      have HX := hid hxs
      have HXL := hid (show xs.length ≤ 10000000 by omega)
      have HXK := hid hxl
      have HDD := hid hd
      have HS := hid hS
      have HV := hid hv
      have hkl3 : k + 1 ≤ (sfA zs).1.length := hkl2
      clear hC hrow ht hD hxs hxl hd hel hIk hBX hS
      by_cases hlast : k + 1 = K
      · have hkb : ((xs.length : Int) + 1 == (K : Int)) = true := by have := HXK.out; simp; omega
        have HL := hid hlast
        clear hlast
        gi_wp2_with (gi_at_builtin; refine wpListIn_append_blk _ rfl _ _ 26 rfl 36 i0 _ 2 32 Tryd.underlying26 hi hz0 hz1 hz2 rfl (by decide) _ xs.length (cellsS xs) rfl (HROW.out.alloc _) ⟨V.heap.size, 0, none⟩ 1 1 (sfC ⟨⟨id, ys⟩, .slice xt nt ct⟩) rfl rfl (news_two V _ _ _ _ rfl) (one_sfC _ rfl) (by have := HXL.out; unfold maxLen; omega) (by have := HXL.out; omega) ?_; intro v' W1 hown' hgrow hb'; obtain ⟨s1, s2, s3, s4, s5⟩ := HC.out.step HV.out hown' hgrow hb'; obtain ⟨s1a, s1b⟩ := s1; obtain ⟨g', cap', rfl⟩ := row_any hown'; have S3 := hid s3; have S4 := hid s4; have S5 := hid s5; have hkc : W1.cell? ⟨w.heap.size, 0, none⟩ = some (.int .i64 K) := (World.cell?_setCell_far W1 ⟨w.heap.size + 1 + 1 + 1, 0, none⟩ ⟨w.heap.size, 0, none⟩ _ (by simp; omega)).symm.trans (HKM.out _ s3.mv); have hkl := World.block_lt_of_cell? W1 _ hkc; clear hown' hgrow s3 s4 s5 hb')
        refine ⟨_, S4.out, .inr ⟨rfl, HL.out, ?_⟩⟩
        · refine ⟨xs ++ [⟨⟨id, ys⟩, .slice xt nt ct⟩], by rw [List.map_append, HX.out, take_one _ _ _ HDD.out]; rfl, hkl3, by rw [cellsS_append, List.length_append]; exact S3.out, ?_⟩
          intro y hy
          rcases List.mem_append.1 hy with hy | hy
          · exact ⟨⟨(HD.out y hy).1.1, S5.out _ _ _ _ _ (by decide) (HD.out y hy).2 (HD.out y hy).1.2⟩, (HD.out y hy).2⟩
          · rw [List.mem_singleton.1 hy]
            exact ⟨⟨HT.out.1, S5.out _ _ _ _ _ (by decide) HTB.out HT.out.2⟩, HTB.out⟩
      · have hkb : ((xs.length : Int) + 1 == (K : Int)) = false := by have := HXK.out; simp; omega
        have HLT2 := hid (show k + 1 < K by omega)
        clear hlast
        gi_wp2_with (gi_at_builtin; refine wpListIn_append_blk _ rfl _ _ 26 rfl 36 i0 _ 2 32 Tryd.underlying26 hi hz0 hz1 hz2 rfl (by decide) _ xs.length (cellsS xs) rfl (HROW.out.alloc _) ⟨V.heap.size, 0, none⟩ 1 1 (sfC ⟨⟨id, ys⟩, .slice xt nt ct⟩) rfl rfl (news_two V _ _ _ _ rfl) (one_sfC _ rfl) (by have := HXL.out; unfold maxLen; omega) (by have := HXL.out; omega) ?_; intro v' W1 hown' hgrow hb'; obtain ⟨s1, s2, s3, s4, s5⟩ := HC.out.step HV.out hown' hgrow hb'; obtain ⟨s1a, s1b⟩ := s1; obtain ⟨g', cap', rfl⟩ := row_any hown'; have S3 := hid s3; have S4 := hid s4; have S5 := hid s5; have hkc : W1.cell? ⟨w.heap.size, 0, none⟩ = some (.int .i64 K) := (World.cell?_setCell_far W1 ⟨w.heap.size + 1 + 1 + 1, 0, none⟩ ⟨w.heap.size, 0, none⟩ _ (by simp; omega)).symm.trans (HKM.out _ s3.mv); have hkl := World.block_lt_of_cell? W1 _ hkc; clear hown' hgrow s3 s4 s5 hb')
        refine ⟨_, S4.out, ?_, HLT2.out⟩
        · refine ⟨xs ++ [⟨⟨id, ys⟩, .slice xt nt ct⟩], by rw [List.map_append, HX.out, take_one _ _ _ HDD.out]; rfl, hkl3, by rw [cellsS_append, List.length_append]; exact S3.out, ?_⟩
          intro y hy
          rcases List.mem_append.1 hy with hy | hy
          · exact ⟨⟨(HD.out y hy).1.1, S5.out _ _ _ _ _ (by decide) (HD.out y hy).2 (HD.out y hy).1.2⟩, (HD.out y hy).2⟩
          · rw [List.mem_singleton.1 hy]
            exact ⟨⟨HT.out.1, S5.out _ _ _ _ _ (by decide) HTB.out HT.out.2⟩, HTB.out⟩

    · obtain ⟨y0, y1, -, -⟩ := hfb
      have HFP := hid (fin_put hC hD (show xs.map SfV.d = ((sfA zs).1.take K) by rw [hxs, List.take_of_length_le (show (sfA zs).1.length ≤ k by omega), List.take_of_length_le (show (sfA zs).1.length ≤ K by omega)]) hv hBX.1 hBX.2.1 (by omega) (by omega) (by omega) (by omega) (by omega) (er := (limE zs K)) hBX.2.2)
      obtain ⟨b0, b1⟩ := hBX.1
      obtain ⟨b2, b3⟩ := hBX.2.1
      have hl0 := World.block_lt_of_cell? V _ b0
      have hl1 := World.block_lt_of_cell? V _ b2
      have hne' : (er == 0) = false := by simpa using hne
      have hee2 : (limE zs K) = er := by rw [limE_lt (by omega)]; exact hee
      rw [hee2] at HFP
      have HFX := hid (show FinS w w1.heap.size (w.heap.size + 1) (w.heap.size + 1 + 1) 36 ((sfA zs).1.take K) (limE zs K) ((V.setCell ⟨w.heap.size + 1, 0, none⟩ (.slice xv xs.length cv)).setCell ⟨w.heap.size + 1 + 1, 0, none⟩ (.int .i64 er)) from by rw [hee2]; exact HFP.out.1)
      clear hC hD hxs hkk hrow hel hIk hBX hee hee2 hxl hS
      gi_wp2
      exact ⟨S, HFP.out.2, .inl ⟨rfl, HFX.out⟩⟩
  case done =>
    rintro D S V hD hdi hDK
    have hBX := HBX.out _ _ _ hdi.1
    obtain ⟨hdi, hNK⟩ := hdi
    obtain ⟨xs, hxs, hkl, hC, hDt⟩ := hdi
    have hte := told_end hkl
    obtain ⟨v, ⟨hv, hf⟩, hrow, hS⟩ := hC.ex
    obtain ⟨xv, cv, rfl⟩ := row_any hrow
    have HFP := hid (fin_put hC hDt (show xs.map SfV.d = ((sfA zs).1.take K) by rw [hxs, List.take_of_length_le (show (sfA zs).1.length ≤ (toldS zs).length by omega), List.take_of_length_le (show (sfA zs).1.length ≤ K by omega)]) hv hBX.1 hBX.2.1 (by omega) (by omega) (by omega) (by omega) (by omega) (er := 0) hBX.2.2)
    obtain ⟨b0, b1⟩ := hBX.1
    obtain ⟨b2, b3⟩ := hBX.2.1
    have hlt := World.block_lt_of_cell? V _ hv
    have hl0 := World.block_lt_of_cell? V _ b0
    have hl1 := World.block_lt_of_cell? V _ b2
    have HDK := hid (show ((V.setCell ⟨w.heap.size + 1, 0, none⟩ (.slice xv xs.length cv)).setCell ⟨w.heap.size + 1 + 1, 0, none⟩ (.int .i64 0)).heap[D]? = some (.deferred (some [])) from ((Go.heap_setCell_other _ ⟨w.heap.size + 1 + 1, 0, none⟩ D _ (fun e => by have h2 : D = w.heap.size + 1 + 1 := e; omega)).trans (Go.heap_setCell_other V ⟨w.heap.size + 1, 0, none⟩ D _ (fun e => by have h2 : D = w.heap.size + 1 := e; omega))).trans hDK)
    have HEE := hid (show (limE zs K) = 0 by rw [limE_lt (by omega)]; exact hte.2)
    have HFQ := hid (show FinS w w1.heap.size (w.heap.size + 1) (w.heap.size + 1 + 1) 36 ((sfA zs).1.take K) (limE zs K) ((V.setCell ⟨w.heap.size + 1, 0, none⟩ (.slice xv xs.length cv)).setCell ⟨w.heap.size + 1 + 1, 0, none⟩ (.int .i64 0)) from by rw [HEE.out]; exact HFP.out.1)
    clear hC hDt hxs hkl hrow hBX hDK hte hS
    gi_wp2
    refine ⟨by simp, .inl ⟨_, _, rfl, run_takeDeferred HDK.out, ?_⟩⟩
    have hF := HFQ.out.grow (Grow.put (m := w1.heap.size) (.deferred none) hD HDK.out rfl) (by omega)
    obtain ⟨u, k0, k1, hA⟩ := fin_all hF (by omega)
    exact ⟨_, by simp [results, Tryd.f14, go_sem, k0, k1], hA⟩
  case stop =>
    rintro D k c S V hD hk hst hDK
    rcases hst with ⟨rfl, hF⟩ | ⟨rfl, hkK, hdi⟩
    · have HDK := hid hDK
      have HF1 := hid hF
      clear hF hDK
      gi_wp2
      refine ⟨by simp, .inl ⟨_, _, rfl, run_takeDeferred HDK.out, ?_⟩⟩
      have hF := HF1.out.grow (Grow.put (m := w1.heap.size) (.deferred none) hD HDK.out rfl) (by omega)
      obtain ⟨u, k0, k1, hA⟩ := fin_all hF (by omega)
      exact ⟨_, by simp [results, Tryd.f14, go_sem, k0, k1], hA⟩
    · have hBX := HBX.out _ _ _ hdi
      obtain ⟨xs, hxs, hkl, hC, hDt⟩ := hdi
      obtain ⟨v, ⟨hv, hf⟩, hrow, hS⟩ := hC.ex
      obtain ⟨xv, cv, rfl⟩ := row_any hrow
      have HFP := hid (fin_put hC hDt (show xs.map SfV.d = ((sfA zs).1.take K) by rw [hxs, hkK]) hv hBX.1 hBX.2.1 (by omega) (by omega) (by omega) (by omega) (by omega) (er := 0) hBX.2.2)
      obtain ⟨b0, b1⟩ := hBX.1
      obtain ⟨b2, b3⟩ := hBX.2.1
      have hlt := World.block_lt_of_cell? V _ hv
      have hl0 := World.block_lt_of_cell? V _ b0
      have hl1 := World.block_lt_of_cell? V _ b2
      have HDK := hid (show ((V.setCell ⟨w.heap.size + 1, 0, none⟩ (.slice xv xs.length cv)).setCell ⟨w.heap.size + 1 + 1, 0, none⟩ (.int .i64 0)).heap[D]? = some (.deferred (some [])) from ((Go.heap_setCell_other _ ⟨w.heap.size + 1 + 1, 0, none⟩ D _ (fun e => by have h2 : D = w.heap.size + 1 + 1 := e; omega)).trans (Go.heap_setCell_other V ⟨w.heap.size + 1, 0, none⟩ D _ (fun e => by have h2 : D = w.heap.size + 1 := e; omega))).trans hDK)
      have HEE := hid (show (limE zs K) = 0 by rw [limE_ge (by omega)])
      have HFQ := hid (show FinS w w1.heap.size (w.heap.size + 1) (w.heap.size + 1 + 1) 36 ((sfA zs).1.take K) (limE zs K) ((V.setCell ⟨w.heap.size + 1, 0, none⟩ (.slice xv xs.length cv)).setCell ⟨w.heap.size + 1 + 1, 0, none⟩ (.int .i64 0)) from by rw [HEE.out]; exact HFP.out.1)
      clear hC hDt hxs hkl hrow hBX hDK hS
      gi_wp2
      refine ⟨by simp, .inl ⟨_, _, rfl, run_takeDeferred HDK.out, ?_⟩⟩
      have hF := HFQ.out.grow (Grow.put (m := w1.heap.size) (.deferred none) hD HDK.out rfl) (by omega)
      obtain ⟨u, k0, k1, hA⟩ := fin_all hF (by omega)
      exact ⟨_, by simp [results, Tryd.f14, go_sem, k0, k1], hA⟩
end Go.Proofs.YtdpgmepblmlaaaaDoor
