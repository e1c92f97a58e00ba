/-
  The modified fields sent.
-/
import Derived.Test.YtlhaefgchmakfaaQe
namespace Go.Proofs.Ytlhaefgchmakfaa
open Go.RowKit Go.Lib Go.Deep

/-- One field's bytes: its address, and its characters that aren't null. -/
def fldP (s : Spc) (a : Nat) : List Nat := plL s.P s.L.length a
def fldC (s : Spc) (l : List Nat) : List Int := l.flatMap fun n => mdcB (s.cel n)
def fldB1 (s : Spc) (a : Nat) : List Int := 17 :: encZ (s.wr ((a : Int) + 1)) ++ fldC s (fldP s a)
def fldB (s : Spc) (l : List Nat) : List Int := l.flatMap (fldB1 s)
theorem fldC_take {s : Spc} {l : List Nat} {k x : Nat} (h : l[k]? = some x) : fldC s (l.take (k + 1)) = fldC s (l.take k) ++ mdcB (s.cel x) := by
  unfold fldC
  rw [List.take_add_one, h]
  simp
theorem fldB_take {s : Spc} {l : List Nat} {k x : Nat} (h : l[k]? = some x) : fldB s (l.take (k + 1)) = fldB s (l.take k) ++ fldB1 s x := by
  unfold fldB
  rw [List.take_add_one, h]
  simp
theorem flat_len {α : Type} (f : α → List Int) (m : Nat) (h : ∀ x, (f x).length ≤ m) : ∀ l : List α, (l.flatMap f).length ≤ l.length * m
  | [] => by simp
  | x :: l => by
    have := h x
    have := flat_len f m h l
    simp only [List.flatMap_cons, List.length_append, List.length_cons, Nat.add_mul, Nat.one_mul]
    omega
theorem fldC_len (s : Spc) (l : List Nat) : (fldC s l).length ≤ l.length * 2 := flat_len _ 2 (fun _ => mdcB_len _) l
/-- A place whose blocks the range's body may move: what is sent grows; J holds beside it. -/
def DtI (q : Nat) (v : Value) (md : Int) (lk : Cel) (w0 : World) (m : Nat) (J : World → Prop) (bs' : List Int) (S : List Nat) (V : World) : Prop :=
  J V ∧ (∀ j ∈ S, m ≤ j) ∧ ∃ v', DtM V q v' bs' md lk ∧ Moved w0 V (q :: blkV v) (q :: blkV v') ∧ ∀ j ∈ blkV v', j ∈ S ∨ j ∈ blkV v
/-- J keeps where only blocks outside of L move. -/
structure JKeep (L : List Nat) (J : World → Prop) : Prop where
  mv : ∀ V V' T T', Moved V V' T T' → (∀ k ∈ L, k ∉ T) → J V → J V'
  gr : ∀ m V V', Grow m V V' → J V → J V'
theorem DtM.gr {m : Nat} {w w' : World} {q : Nat} {v : Value} {bs : List Int} {md : Int} {lk : Cel} (h : DtM w q v bs md lk) (k : Grow m w w') : DtM w' q v bs md lk := by
  have hf : ∀ i, i < 8 → ∃ u, w.cell? ⟨q, i, none⟩ = some u := fun i hi => by
    match i, hi with
    | 0, _ => exact ⟨_, h.c0⟩
    | 1, _ => exact ⟨_, h.c1⟩
    | 2, _ => exact ⟨_, h.cl 0 (by omega)⟩
    | 3, _ => exact ⟨_, h.cl 1 (by omega)⟩
    | 4, _ => exact ⟨_, h.cl 2 (by omega)⟩
    | 5, _ => exact ⟨_, h.cl 3 (by omega)⟩
    | 6, _ => exact ⟨_, h.cl 4 (by omega)⟩
    | 7, _ => exact ⟨_, h.cl 5 (by omega)⟩
  exact ⟨cell_grow k h.c0, cell_grow k h.c1, fun i hi => by
    obtain ⟨u, hu⟩ := hf (2 + i) (by omega)
    rw [cell_grow k hu, ← hu]; exact h.cl i hi, fun i hi => by
    obtain ⟨u, hu⟩ := hf i hi
    exact frozen_grow k hu (h.fr i hi), ⟨h.ow.1, own_grow h.ow.2 k⟩, h.ap⟩
section
variable {q : Nat} {v : Value} {bs bs' : List Int} {md : Int} {lk : Cel} {w0 V V' : World} {m : Nat} {J : World → Prop} {L S : List Nat}
theorem DtI.grow {m' : Nat} (hJ : JKeep L J) (hm : w0.heap.size ≤ m') (h : DtI q v md lk w0 m J bs S V) (k : Grow m' V V') : DtI q v md lk w0 m J bs S V' := by
  obtain ⟨h1, h2, v', h3, h4, h5⟩ := h
  exact ⟨hJ.gr _ _ _ k h1, h2, v', h3.gr k, moved_grow h4 k hm, h5⟩
theorem DtI.start (h : DtM V q v bs md lk) (hJ : J V) : DtI q v md lk V m J bs [] V := ⟨hJ, fun _ h => (by cases h), v, h, Moved.refl _ _, fun _ h => .inr h⟩
theorem DtI.step (hJ : JKeep L J) (hq : q < m) (hv : ∀ k ∈ blkV v, k < m) (hL : ∀ k ∈ L, k < m ∧ k ≠ q ∧ k ∉ blkV v) (hm : m ≤ V.heap.size) (h : DtI q v md lk w0 m J bs S V) :
    ∃ v', DtM V q v' bs md lk ∧ (∀ k ∈ L, k ∉ q :: blkV v') ∧ J V ∧ (∀ j ∈ blkV v', j ∈ S ∨ j ∈ blkV v) ∧ ∀ e V', DtD q v' bs' md lk V e V' → ∃ S', Touch m V V' S S' ∧ DtI q v md lk w0 m J bs' S' V' := by
  obtain ⟨h1, h2, v', h3, h4, h5⟩ := h
  have hd : ∀ k ∈ L, k ∉ q :: blkV v' := fun k hk e => by
    obtain ⟨l1, l2, l3⟩ := hL k hk
    rcases List.mem_cons.1 e with e | e
    · exact l2 e
    · rcases h5 k e with e | e
      · have := h2 k e; omega
      · exact l3 e
  refine ⟨v', h3, hd, h1, h5, fun e V' ⟨_, v'', k1, k2⟩ => ⟨(blkV v'').filter (fun j => decide (j ∉ blkV v)), ⟨k2.size, fun j hj1 hj2 hj3 => k2.block j hj2 (fun e => ?_), fun j hj => ?_⟩, hJ.mv _ _ _ _ k2 hd h1, fun j hj => ?_, v'', k1, h4.trans k2, fun j hj => ?_⟩⟩
  · rcases List.mem_cons.1 e with e | e
    · omega
    · rcases h5 j e with e | e
      · exact hj3 e
      · have := hv j e; omega
  · obtain ⟨a1, a2⟩ := List.mem_filter.1 hj
    have a2 := of_decide_eq_true a2
    rcases k2.from' j (List.mem_cons_of_mem _ a1) with e | e
    · rcases List.mem_cons.1 e with e | e
      · exact absurd e (k1.ap j a1)
      · rcases h5 j e with e | e
        · exact .inl e
        · exact absurd e a2
    · exact .inr e
  · obtain ⟨a1, a2⟩ := List.mem_filter.1 hj
    have a2 := of_decide_eq_true a2
    rcases k2.from' j (List.mem_cons_of_mem _ a1) with e | e
    · rcases List.mem_cons.1 e with e | e
      · exact absurd e (k1.ap j a1)
      · rcases h5 j e with e | e
        · exact h2 j e
        · exact absurd e a2
    · omega
  · by_cases hj' : j ∈ blkV v
    · exact .inr hj'
    · exact .inl (List.mem_filter.2 ⟨hj, decide_eq_true hj'⟩)
theorem DtI.last (h : DtI q v md lk w0 m J bs S V) (e : Ending) (he : ∃ u, e = .returned u) : DtD q v bs md lk w0 e V := by
  obtain ⟨_, _, v', h3, h4, _⟩ := h
  exact ⟨he, v', h3, h4⟩
theorem DtI.j (h : DtI q v md lk w0 m J bs S V) : J V := h.1
end
/-- The space, the boxes of the data and of it, and the iterator's cell. -/
def JF (q b g : Nat) (s : Spc) (z bx : Nat) (V : World) : Prop := SpM V b g s ∧ V.cell? ⟨z, 0, none⟩ = some (.pointer (some ⟨q, 0, none⟩)) ∧ V.cell? ⟨z + 1, 0, none⟩ = some (.pointer (some ⟨b, 0, none⟩)) ∧ V.cell? ⟨bx, 0, none⟩ = some (.pointer (some ⟨b, 0, none⟩))
theorem jf_keep (q b g : Nat) (s : Spc) (z bx : Nat) : JKeep [b, g, z, z + 1, bx] (JF q b g s z bx) where
  mv := fun V V' T T' m hL ⟨h1, h2, h3, h4⟩ => ⟨h1.moved m (hL b (by simp)) (hL g (by simp)), cell_moved m h2 (hL z (by simp)), cell_moved m h3 (hL (z + 1) (by simp)), cell_moved m h4 (hL bx (by simp))⟩
  gr := fun m V V' k ⟨h1, h2, h3, h4⟩ => ⟨h1.grow k, cell_grow k h2, cell_grow k h3, cell_grow k h4⟩
/-- That, and the inner iterator's cells. -/
def JG (q b g : Nat) (s : Spc) (z bx cx cy : Nat) (n : Int) (V : World) : Prop := JF q b g s z bx V ∧ V.cell? ⟨cx, 0, none⟩ = some (.pointer (some ⟨b, 0, none⟩)) ∧ V.cell? ⟨cy, 0, none⟩ = some (.int .i64 n)
theorem jg_keep (q b g : Nat) (s : Spc) (z bx cx cy : Nat) (n : Int) : JKeep [b, g, z, z + 1, bx, cx, cy] (JG q b g s z bx cx cy n) where
  mv := fun V V' T T' m hL ⟨h1, h2, h3⟩ => ⟨(jf_keep q b g s z bx).mv V V' T T' m (fun k hk => hL k (by simp at hk ⊢; omega)) h1, cell_moved m h2 (hL cx (by simp)), cell_moved m h3 (hL cy (by simp))⟩
  gr := fun m V V' k ⟨h1, h2, h3⟩ => ⟨(jf_keep q b g s z bx).gr m V V' k h1, cell_grow k h2, cell_grow k h3⟩
theorem plL_len1 (P : Nat → Bool) (N a : Nat) : (plL P N a).length ≤ N - 1 := by
  unfold plL
  split
  · exact plF_len P N a (N - 1) 0
  · simp
theorem plL_lt {P : Nat → Bool} {N a k x : Nat} (hN : 0 < N) (h : (plL P N a)[k]? = some x) : x < N := by
  unfold plL at h
  split at h
  · have hk := (List.getElem?_eq_some_iff.1 h).1
    have := (plF_get P N a (N - 1) 0 k hk).1
    rw [h] at this
    injection this with e
    rw [e]
    exact Nat.mod_lt _ hN
  · simp at h
theorem fldB1_len {s : Spc} (h : s.L.length ≤ 3564) (a : Nat) : (fldB1 s a).length ≤ 7131 := by
  have h1 := plL_len1 s.P s.L.length a
  have h2 := fldC_len s (fldP s a)
  unfold fldP at h2
  unfold fldB1 fldP
  simp [encZ]
  omega
theorem fldB_len {s : Spc} (h : s.L.length ≤ 3564) (l : List Nat) : (fldB s l).length ≤ l.length * 7131 := flat_len _ 7131 (fldB1_len h) l
theorem mdS_get {s : Spc} {k x : Nat} (h : (mdS s s.A)[k]? = some x) : x < s.L.length ∧ s.P x = true := by
  have := List.mem_of_getElem? h
  unfold mdS at this
  exact attP_mem (List.mem_filter.1 this).1
theorem mdS_lenN (s : Spc) : (mdS s s.A).length ≤ s.L.length := Nat.le_trans (List.length_filter_le _ _) (attP_len _ _)
theorem wpIn_region_round2 {F : Fence} {n l l2 : Nat} {P : Program} {ops : Array Oper} {Q : Exit → Act → World → Prop} {id : Nat} {a : Act} {w : World} (hm : P.follows .mixedOrders = true) (hd : noDefer ops = true)
    (h : wpAnyIn F n P .any ops Q ops.size (Array.replicate ops.size false) a w.drew) : (Code.region id ops true).wpIn ((F.inRound l).inRound l2) n P Q a w :=
  wpIn_region_any hm (wpAnyIn_round hd _ _ _ _ (wpAnyIn_round hd _ _ _ _ h))
section
attribute [local go_sem] Oper.semAt_some
set_option maxRecDepth 100000 in
set_option maxHeartbeats 8000000 in
theorem fields_in (n : Nat) (hn : 9 ≤ n) {q : Nat} {v : Value} {bs : List Int} {md : Int} {lk : Cel} {b g : Nat} {s : Spc} (hmd : (md == 2) = false) (w : World) (h : DtM w q v bs md lk) (hs : SpM w b g s) (hbq : b ≠ q) (hgq : g ≠ q) (hbv : b ∉ blkV v) (hgv : g ∉ blkV v) (hl : bs.length ≤ 1000000) :
    CallsIn Fence.wide n Try.prog 49 #[.pointer (some ⟨q, 0, none⟩), .pointer (some ⟨b, 0, none⟩)] w (DtD q v (bs ++ fldB s (mdS s s.A)) md lk w) := by
  have hpos := hs.ok.pos
  have HOK := hid hs.ok
  have hq := h.lt
  have hvb := h.ow.lt
  have hbl := hs.lt
  have HH := hid h
  have HS := hid hs
  clear h hs
  refine callsIn_of_wp_marks Try.func49 rfl trivial ?_ rfl
  simp only [Try.ntmps49, List.size_toArray, List.length_cons, List.length_nil, Nat.reduceAdd, Nat.reduceSub, Array.replicate_succ, Array.replicate_zero, List.push_toArray, List.append_toArray, List.nil_append, List.cons_append]
  gi_wp2
  refine ⟨trivial, fun _ => (by omega), ?_⟩
  refine (callsIn_wide.2 (modifiedIt_any b _)).mono ?_
  rintro e w1 ⟨bx, rfl, hbx, hcx, hb1⟩
  have c2 := keepc hb1 (show ((w.alloc (.cells #[.pointer (some ⟨q, 0, none⟩)] 93)).alloc (.cells #[.pointer (some ⟨b, 0, none⟩)] 24)).cell? ⟨w.heap.size, 0, none⟩ = some (.pointer (some ⟨q, 0, none⟩)) by simp [go_sem])
  have c3 := keepc hb1 (show ((w.alloc (.cells #[.pointer (some ⟨q, 0, none⟩)] 93)).alloc (.cells #[.pointer (some ⟨b, 0, none⟩)] 24)).cell? ⟨w.heap.size + 1, 0, none⟩ = some (.pointer (some ⟨b, 0, none⟩)) by simp [go_sem])
  have hbw : Below w.heap.size w w1 := (bal (bal (Below.refl _ _) _) _).trans (hb1.mono (by simp; omega))
  have hz1 : w.heap.size + 2 ≤ w1.heap.size := by have := hb1.size; simp at this; omega
  have hbx' : w.heap.size + 2 ≤ bx := by simp at hbx; omega
  have hbxl := World.block_lt_of_cell? w1 _ hcx
  have HI0 := hid (DtI.start (m := w1.heap.size) (HH.out.step hbw) (J := JF q b g s w.heap.size bx) ⟨HS.out.below hbw, c2, c3, hcx⟩)
  have hL : ∀ k ∈ [b, g, w.heap.size, w.heap.size + 1, bx], k < w1.heap.size ∧ k ≠ q ∧ k ∉ blkV v := fun k hk => by
    simp only [List.mem_cons, List.not_mem_nil, or_false] at hk
    have hn : ∀ k, w.heap.size ≤ k → k ≠ q ∧ k ∉ blkV v := fun k hk => ⟨by omega, fun e => by have := hvb k e; omega⟩
    rcases hk with rfl | rfl | rfl | rfl | rfl
    · exact ⟨by omega, hbq, hbv⟩
    · exact ⟨by omega, hgq, hgv⟩
    · exact ⟨by omega, hn _ (Nat.le_refl _)⟩
    · exact ⟨by omega, hn _ (by omega)⟩
    · exact ⟨by omega, hn _ (by omega)⟩
  have hv1 : ∀ k ∈ blkV v, k < w1.heap.size := fun k hk => by have := hvb k hk; omega
  have HSTEP := hid (fun bs1 bs2 S V (hm : w1.heap.size ≤ V.heap.size) (hi : DtI q v md lk w1 w1.heap.size (JF q b g s w.heap.size bx) bs1 S V) => DtI.step (bs' := bs2) (jf_keep q b g s w.heap.size bx) (by omega) hv1 hL hm hi)
  clear hb1 c2 c3 hbx hcx HH HS
  gi_wp2
  refine rangeFunc_seqH (n := n) (w := w1) rfl (by omega) (gf := 98) (lb := #[.pointer (some ⟨bx, 0, none⟩)]) rfl trivial (enters_of Try.func98 (by kernel_rfl) rfl)
    (encs := encI) (fun _ => rfl) (el := fun k x _ => (mdS s s.A)[k]? = some x) (N := (mdS s s.A).length) (R := RFs bx b g s)
    (fun k S V => DtI q v md lk w1 w1.heap.size (JF q b g s w.heap.size bx) (bs ++ fldB s ((mdS s s.A).take k)) S V)
    (fun _ _ _ _ => False) ?hI ?hIx ?hR (by simpa [fldB] using HI0.out)
    (fun k S x a V => (mdS s s.A)[k]? = some x ∧ DtI q v md lk w1 w1.heap.size (JF q b g s w.heap.size bx) (bs ++ fldB s ((mdS s s.A).take k)) S V ∧ a = { tmps := #[.pointer (some ⟨q, 0, none⟩), .pointer (some ⟨b, 0, none⟩), .pointer (some ⟨w.heap.size, 0, none⟩), .pointer (some ⟨w.heap.size + 1, 0, none⟩), .int .i64 x, undef, .pointer (some ⟨b, 0, none⟩), .func (.func 98) #[] #[.pointer (some ⟨bx, 0, none⟩)], .int .i64 x, undef, undef, undef, undef, undef, undef, undef, undef, undef, undef, undef, undef, undef, undef, undef, undef], defers := [] }) ?hAx ?assign ?body ?iter ?done ?stop
  case hI => exact fun k S A C hg h => h.grow (jf_keep _ _ _ _ _ _) (Nat.le_refl _) hg
  case hIx => exact fun c k S A C hg h => h
  case hR => exact fun k S V h => ⟨h.j.2.2.2, h.j.1⟩
  case hAx => exact fun k S x a A C hg ⟨h1, h2, h3⟩ => ⟨h1, h2.grow (jf_keep _ _ _ _ _ _) (Nat.le_refl _) hg, h3⟩
  case iter => exact fun o1 o2 _ _ => modified_seq (n - 1) (by omega) bx b g s hpos _
  case assign =>
    rintro l' k x S V KK hk hx1 hi hsz hK
    have HK := hid hK
    have HI := hid hi
    have HX := hid hx1
    clear hK hi hx1
    gi_wp2
    exact HK.out _ _ (Touch.refl _ _ _) ⟨HX.out, HI.out, by first | rfl | simp⟩
  case stop => exact fun D k c S V _ _ h => h.elim
  case done =>
    rintro D S V hD hi hK
    have HK := hid hK
    have HI := hid hi
    clear hK hi
    gi_wp2
    refine ⟨by simp, .inl ⟨_, _, rfl, run_takeDeferred HK.out, ?_⟩⟩
    have hg := Grow.put (m := w1.heap.size) (.deferred none) hD HK.out rfl
    have hi := HI.out.grow (jf_keep _ _ _ _ _ _) (Nat.le_refl _) hg
    rw [List.take_length] at hi
    exact ⟨.tuple #[], by simp [results, Try.f49, go_sem], dtd_moved hbw (hi.last _ ⟨_, rfl⟩)⟩
  case body =>
    rintro l' k x S a' V hk ⟨hx, hi, rfl⟩ hsz hl1 hlr hSz
    obtain ⟨hxN, hxP⟩ := mdS_get hx
    obtain ⟨v', hdv, hdis, hj, hvS, hfin⟩ := HSTEP.out _ (bs ++ fldB s ((mdS s s.A).take (k + 1))) S V (by omega) hi
    obtain ⟨hsp, c2, c3, cb⟩ := hj
    obtain ⟨bs1, hbs1⟩ : ∃ bs1, bs ++ fldB s ((mdS s s.A).take k) = bs1 := ⟨_, rfl⟩
    have hlen : bs1.length ≤ 100000000 := by
      have h1 := fldB_len hpos.2 ((mdS s s.A).take k)
      have h2 := mdS_lenN s
      have h3 := Nat.mul_le_mul_right 7131 (show ((mdS s s.A).take k).length ≤ 3564 by rw [List.length_take]; omega)
      rw [← hbs1, List.length_append]
      omega
    have HBE := hid (show bs ++ fldB s ((mdS s s.A).take (k + 1)) = (bs1 ++ 17 :: encZ (s.wr ((x : Int) + 1))) ++ fldC s (fldP s x) by rw [fldB_take hx, ← hbs1]; simp [fldB1])
    rw [hbs1] at hdv
    have HFIN := hid hfin
    have HDV := hid hdv
    have HDIS := hid hdis
    have HSP := hid hsp
    have HVS := hid hvS
    have HSZ := hid (fun W (hW : Below V.heap.size V W) => size_any W (hsp.below hW))
    have HWR := hid (fun W => (show Calls Try.prog 78 #[sizeV s.r s.c, .int .i64 ((x : Int) + 1)] W fun e w' => e = .returned (.int .i64 (s.wr ((x : Int) + 1))) ∧ Below W.heap.size W w' from by
      rw [HOK.out.wr_eq, HOK.out.len]
      exact wrap_ok s.r s.c ((x : Int) + 1) HOK.out.sz (i64_small (by omega) (by omega)) W))
    have HBG := hid (fun W hd => begins_sba (q := q) (v := v') (bs := bs1) (md := md) (lk := lk) (s.wr ((x : Int) + 1)) (HOK.out.okA _) W hd (by omega))
    have hw1 : IntKind.i64.wrap ((x : Int) + 1) = (x : Int) + 1 := wrapI (i64_small (by omega) (by omega))
    have hdr : Below V.heap.size V V.drew := (Below.refl _ _).drew
    have hqz : w.heap.size < V.heap.size := World.block_lt_of_cell? V _ c2
    have HCB := hid cb
    have HX := hid hx
    have HLR := hid hlr
    clear hi hdv hdis hsp hfin hx hbs1 cb hvS hlr
    gi_wp2
    refine wpIn_mono (Q := fun e a V' => e = .normal ∧ ∃ u, a = { tmps := #[.pointer (some ⟨q, 0, none⟩), .pointer (some ⟨b, 0, none⟩), .pointer (some ⟨w.heap.size, 0, none⟩), .pointer (some ⟨w.heap.size + 1, 0, none⟩), .int .i64 x, undef, .pointer (some ⟨b, 0, none⟩), .func (.func 98) #[] #[.pointer (some ⟨bx, 0, none⟩)], .int .i64 x, .pointer (some ⟨q, 0, none⟩), .pointer (some ⟨b, 0, none⟩), sizeV s.r s.c, .int .i64 x, .int .i64 ((x : Int) + 1), .int .i64 (s.wr ((x : Int) + 1)), u, undef, undef, undef, undef, undef, undef, undef, undef, undef], defers := [] } ∧ DtD q v' (bs1 ++ 17 :: encZ (s.wr ((x : Int) + 1))) md lk V (.returned u) V') ?reg ?rest
    case reg =>
      refine wpIn_region_round (by kernel_rfl) (by kernel_rfl) ?_
      refine wpAnyIn_take (i := 3) (v := .int .i64 x) (fuel := 6) rfl rfl (by kernel_rfl) (by kernel_rfl) (by kernel_rfl) (fun _ _ _ h => by cases h.1) ⟨Or.inl ⟨by rfl, fun w => ?_⟩, fun _ => rfl⟩ ?_
      · go_simp
        try with_reducible rfl
      simp only [Act.put, List.setIfInBounds_toArray, List.set_cons_zero, List.set_cons_succ]
      refine wpAnyIn_take (i := 4) (v := .int .i64 ((x : Int) + 1)) (fuel := 5) rfl rfl (by kernel_rfl) (by kernel_rfl) (by kernel_rfl) (fun _ _ _ h => by cases h.1) ⟨Or.inl ⟨by rfl, fun w => ?_⟩, fun _ => rfl⟩ ?_
      · go_simp
        try with_reducible rfl
      simp only [Act.put, List.setIfInBounds_toArray, List.set_cons_zero, List.set_cons_succ]
      refine wpAnyIn_ready (rs := [0, 1]) (by kernel_rfl) (by simp) ?_
      refine AllReadyIn.cons (by simp only [List.getElem?_toArray, List.getElem?_cons_zero]; rfl) (fun K hK => ?_) (AllReadyIn.cons (by simp only [List.getElem?_toArray, List.getElem?_cons_succ, List.getElem?_cons_zero]; rfl) (fun K hK => ?_) AllReadyIn.nil)
      · go_simp
        refine hK _ _ ?_
        clear hK K
        (try simp only [Act.put, List.setIfInBounds_toArray, List.set_cons_zero, List.set_cons_succ])
        refine wpAnyIn_ready (rs := [1]) (by kernel_rfl) (by simp) ?_
        refine AllReadyIn.cons (by simp only [List.getElem?_toArray, List.getElem?_cons_succ, List.getElem?_cons_zero]; rfl) (fun K hK => ?_) AllReadyIn.nil
        · go_simp
          refine hK _ _ ?_
          clear hK K
          (try simp only [Act.put, List.setIfInBounds_toArray, List.set_cons_zero, List.set_cons_succ])
          refine wpAnyIn_ready (rs := [2]) (by kernel_rfl) (by simp) ?_
          refine AllReadyIn.cons (by simp only [List.getElem?_toArray, List.getElem?_cons_succ, List.getElem?_cons_zero]; rfl) (fun K hK => ?_) AllReadyIn.nil
          · go_simp
            refine ⟨trivial, fun _ => (by omega), ?_⟩
            refine (callsIn_wide.2 (HSZ.out _ hdr)).mono ?_
            rintro e w4 ⟨rfl, hb4⟩
            refine hK _ _ ?_
            clear hK K
            have HB4 := hid (below_t hdr hb4)
            have c2_4 := keepc HB4.out c2
            clear hb4
            (try simp only [Act.put, List.setIfInBounds_toArray, List.set_cons_zero, List.set_cons_succ])
            refine wpAnyIn_ready (rs := [5]) (by kernel_rfl) (by simp) ?_
            refine AllReadyIn.cons (by simp only [List.getElem?_toArray, List.getElem?_cons_succ, List.getElem?_cons_zero]; rfl) (fun K hK => ?_) AllReadyIn.nil
            · go_simp
              refine ⟨trivial, fun _ => (by omega), ?_⟩
              refine (callsIn_wide.2 (HWR.out _)).mono ?_
              rintro e w5 ⟨rfl, hb5⟩
              refine hK _ _ ?_
              clear hK K
              have HB5 := hid (below_t HB4.out hb5)
              have c2_5 := keepc HB5.out c2
              clear hb5
              (try simp only [Act.put, List.setIfInBounds_toArray, List.set_cons_zero, List.set_cons_succ])
              refine wpAnyIn_ready (rs := [6]) (by kernel_rfl) (by simp) ?_
              refine AllReadyIn.cons (by simp only [List.getElem?_toArray, List.getElem?_cons_succ, List.getElem?_cons_zero]; rfl) (fun K hK => ?_) AllReadyIn.nil
              · go_simp
                refine ⟨trivial, fun _ => (by omega), ?_⟩
                refine (callsIn_wide.2 (HBG.out _ (HDV.out.step HB5.out))).mono ?_
                rintro e w6 hd6
                have HD6 := hid (dtd_moved HB5.out hd6)
                obtain ⟨⟨u6, rfl⟩, -⟩ := hd6
                refine hK _ _ ?_
                clear hK K
                (try simp only [Act.put, List.setIfInBounds_toArray, List.set_cons_zero, List.set_cons_succ])
                refine wpAnyIn_done (by kernel_rfl) ?_ _
                exact ⟨rfl, _, rfl, HD6.out⟩
      · go_simp
        refine hK _ _ ?_
        clear hK K
        (try simp only [Act.put, List.setIfInBounds_toArray, List.set_cons_zero, List.set_cons_succ])
        refine wpAnyIn_ready (rs := [0, 2]) (by kernel_rfl) (by simp) ?_
        refine AllReadyIn.cons (by simp only [List.getElem?_toArray, List.getElem?_cons_zero]; rfl) (fun K hK => ?_) (AllReadyIn.cons (by simp only [List.getElem?_toArray, List.getElem?_cons_succ, List.getElem?_cons_zero]; rfl) (fun K hK => ?_) AllReadyIn.nil)
        · go_simp
          refine hK _ _ ?_
          clear hK K
          (try simp only [Act.put, List.setIfInBounds_toArray, List.set_cons_zero, List.set_cons_succ])
          refine wpAnyIn_ready (rs := [2]) (by kernel_rfl) (by simp) ?_
          refine AllReadyIn.cons (by simp only [List.getElem?_toArray, List.getElem?_cons_succ, List.getElem?_cons_zero]; rfl) (fun K hK => ?_) AllReadyIn.nil
          · go_simp
            refine ⟨trivial, fun _ => (by omega), ?_⟩
            refine (callsIn_wide.2 (HSZ.out _ hdr)).mono ?_
            rintro e w4 ⟨rfl, hb4⟩
            refine hK _ _ ?_
            clear hK K
            have HB4 := hid (below_t hdr hb4)
            have c2_4 := keepc HB4.out c2
            clear hb4
            (try simp only [Act.put, List.setIfInBounds_toArray, List.set_cons_zero, List.set_cons_succ])
            refine wpAnyIn_ready (rs := [5]) (by kernel_rfl) (by simp) ?_
            refine AllReadyIn.cons (by simp only [List.getElem?_toArray, List.getElem?_cons_succ, List.getElem?_cons_zero]; rfl) (fun K hK => ?_) AllReadyIn.nil
            · go_simp
              refine ⟨trivial, fun _ => (by omega), ?_⟩
              refine (callsIn_wide.2 (HWR.out _)).mono ?_
              rintro e w5 ⟨rfl, hb5⟩
              refine hK _ _ ?_
              clear hK K
              have HB5 := hid (below_t HB4.out hb5)
              have c2_5 := keepc HB5.out c2
              clear hb5
              (try simp only [Act.put, List.setIfInBounds_toArray, List.set_cons_zero, List.set_cons_succ])
              refine wpAnyIn_ready (rs := [6]) (by kernel_rfl) (by simp) ?_
              refine AllReadyIn.cons (by simp only [List.getElem?_toArray, List.getElem?_cons_succ, List.getElem?_cons_zero]; rfl) (fun K hK => ?_) AllReadyIn.nil
              · go_simp
                refine ⟨trivial, fun _ => (by omega), ?_⟩
                refine (callsIn_wide.2 (HBG.out _ (HDV.out.step HB5.out))).mono ?_
                rintro e w6 hd6
                have HD6 := hid (dtd_moved HB5.out hd6)
                obtain ⟨⟨u6, rfl⟩, -⟩ := hd6
                refine hK _ _ ?_
                clear hK K
                (try simp only [Act.put, List.setIfInBounds_toArray, List.set_cons_zero, List.set_cons_succ])
                refine wpAnyIn_done (by kernel_rfl) ?_ _
                exact ⟨rfl, _, rfl, HD6.out⟩
        · go_simp
          refine ⟨trivial, fun _ => (by omega), ?_⟩
          refine (callsIn_wide.2 (HSZ.out _ hdr)).mono ?_
          rintro e w4 ⟨rfl, hb4⟩
          refine hK _ _ ?_
          clear hK K
          have HB4 := hid (below_t hdr hb4)
          have c2_4 := keepc HB4.out c2
          clear hb4
          (try simp only [Act.put, List.setIfInBounds_toArray, List.set_cons_zero, List.set_cons_succ])
          refine wpAnyIn_ready (rs := [0, 5]) (by kernel_rfl) (by simp) ?_
          refine AllReadyIn.cons (by simp only [List.getElem?_toArray, List.getElem?_cons_zero]; rfl) (fun K hK => ?_) (AllReadyIn.cons (by simp only [List.getElem?_toArray, List.getElem?_cons_succ, List.getElem?_cons_zero]; rfl) (fun K hK => ?_) AllReadyIn.nil)
          · go_simp
            refine hK _ _ ?_
            clear hK K
            (try simp only [Act.put, List.setIfInBounds_toArray, List.set_cons_zero, List.set_cons_succ])
            refine wpAnyIn_ready (rs := [5]) (by kernel_rfl) (by simp) ?_
            refine AllReadyIn.cons (by simp only [List.getElem?_toArray, List.getElem?_cons_succ, List.getElem?_cons_zero]; rfl) (fun K hK => ?_) AllReadyIn.nil
            · go_simp
              refine ⟨trivial, fun _ => (by omega), ?_⟩
              refine (callsIn_wide.2 (HWR.out _)).mono ?_
              rintro e w5 ⟨rfl, hb5⟩
              refine hK _ _ ?_
              clear hK K
              have HB5 := hid (below_t HB4.out hb5)
              have c2_5 := keepc HB5.out c2
              clear hb5
              (try simp only [Act.put, List.setIfInBounds_toArray, List.set_cons_zero, List.set_cons_succ])
              refine wpAnyIn_ready (rs := [6]) (by kernel_rfl) (by simp) ?_
              refine AllReadyIn.cons (by simp only [List.getElem?_toArray, List.getElem?_cons_succ, List.getElem?_cons_zero]; rfl) (fun K hK => ?_) AllReadyIn.nil
              · go_simp
                refine ⟨trivial, fun _ => (by omega), ?_⟩
                refine (callsIn_wide.2 (HBG.out _ (HDV.out.step HB5.out))).mono ?_
                rintro e w6 hd6
                have HD6 := hid (dtd_moved HB5.out hd6)
                obtain ⟨⟨u6, rfl⟩, -⟩ := hd6
                refine hK _ _ ?_
                clear hK K
                (try simp only [Act.put, List.setIfInBounds_toArray, List.set_cons_zero, List.set_cons_succ])
                refine wpAnyIn_done (by kernel_rfl) ?_ _
                exact ⟨rfl, _, rfl, HD6.out⟩
          · go_simp
            refine ⟨trivial, fun _ => (by omega), ?_⟩
            refine (callsIn_wide.2 (HWR.out _)).mono ?_
            rintro e w5 ⟨rfl, hb5⟩
            refine hK _ _ ?_
            clear hK K
            have HB5 := hid (below_t HB4.out hb5)
            have c2_5 := keepc HB5.out c2
            clear hb5
            (try simp only [Act.put, List.setIfInBounds_toArray, List.set_cons_zero, List.set_cons_succ])
            refine wpAnyIn_ready (rs := [0]) (by kernel_rfl) (by simp) ?_
            refine AllReadyIn.cons (by simp only [List.getElem?_toArray, List.getElem?_cons_zero]; rfl) (fun K hK => ?_) AllReadyIn.nil
            · go_simp
              refine hK _ _ ?_
              clear hK K
              (try simp only [Act.put, List.setIfInBounds_toArray, List.set_cons_zero, List.set_cons_succ])
              refine wpAnyIn_ready (rs := [6]) (by kernel_rfl) (by simp) ?_
              refine AllReadyIn.cons (by simp only [List.getElem?_toArray, List.getElem?_cons_succ, List.getElem?_cons_zero]; rfl) (fun K hK => ?_) AllReadyIn.nil
              · go_simp
                refine ⟨trivial, fun _ => (by omega), ?_⟩
                refine (callsIn_wide.2 (HBG.out _ (HDV.out.step HB5.out))).mono ?_
                rintro e w6 hd6
                have HD6 := hid (dtd_moved HB5.out hd6)
                obtain ⟨⟨u6, rfl⟩, -⟩ := hd6
                refine hK _ _ ?_
                clear hK K
                (try simp only [Act.put, List.setIfInBounds_toArray, List.set_cons_zero, List.set_cons_succ])
                refine wpAnyIn_done (by kernel_rfl) ?_ _
                exact ⟨rfl, _, rfl, HD6.out⟩
    case rest =>
      rintro e a V3 ⟨rfl, u, rfl, -, v3, hd3, hm3⟩
      obtain ⟨hsp3, c2_3, c3_3, cb3⟩ := (jf_keep q b g s w.heap.size bx).mv _ _ _ _ hm3 HDIS.out ⟨HSP.out, c2, c3, HCB.out⟩
      have HD3 := hid hd3
      have HM3 := hid hm3
      have HSP3 := hid hsp3
      have HC23 := hid c2_3
      have HCB3 := hid cb3
      clear hd3 hm3 hsp3 cb3 c2 c3 hdr HSZ HWR HBG c2_3
      gi_wp2
      refine ⟨trivial, fun _ => (by omega), ?_⟩
      refine (callsIn_wide.2 (placesIt _ _ _)).mono ?_
      rintro e V4 ⟨cx, cy, rfl, hcx, hcy, hccx, hccy, hb4⟩
      have hz3 := HM3.out.size
      have hz4 := hb4.size
      have hVq : ∀ k, V3.heap.size ≤ k → k ≠ q ∧ k ∉ blkV v3 := fun k hk => ⟨by have := HDV.out.lt; omega, fun e => by have := HD3.out.ow.lt k e; omega⟩
      have hcxl := World.block_lt_of_cell? V4 _ hccx
      have hcyl := World.block_lt_of_cell? V4 _ hccy
      have hd3' : ∀ k ∈ [b, g, w.heap.size, w.heap.size + 1, bx], k < V3.heap.size ∧ k ≠ q ∧ k ∉ blkV v3 := fun k hk => by
        have h1 := HDIS.out k hk
        have h2 : k < V.heap.size := by
          simp only [List.mem_cons, List.not_mem_nil, or_false] at hk
          rcases hk with rfl | rfl | rfl | rfl | rfl <;> omega
        refine ⟨by omega, fun e => h1 (by rw [e]; exact List.mem_cons_self), fun e => ?_⟩
        rcases HM3.out.from' k (List.mem_cons_of_mem _ e) with e | e
        · exact h1 e
        · omega
      have hL2 : ∀ k ∈ [b, g, w.heap.size, w.heap.size + 1, bx, cx, cy], k < V4.heap.size ∧ k ≠ q ∧ k ∉ blkV v3 := fun k hk => by
        by_cases hk1 : k = cx
        · rw [hk1]; exact ⟨hcxl, hVq _ hcx⟩
        · by_cases hk2 : k = cy
          · rw [hk2]; exact ⟨hcyl, hVq _ hcy⟩
          · have := hd3' k (by simp [hk1, hk2] at hk ⊢; exact hk)
            exact ⟨by omega, this.2⟩
      have hlr4 : ∃ r, V4.heap[l']? = some (.loop r) := by
        obtain ⟨r, hr⟩ := HLR.out
        have hll : l' < V.heap.size := (Array.getElem?_eq_some_iff.1 hr).1
        refine ⟨r, (hb4.block _ (by omega)).trans ((HM3.out.block _ hll fun e => ?_).trans hr)⟩
        rcases List.mem_cons.1 e with e | e
        · omega
        · rcases HVS.out _ e with e | e
          · have := hSz _ e; omega
          · have := hv1 _ e; omega
      obtain ⟨r4, hr4⟩ := hlr4
      have HD4 := hid (HD3.out.step hb4)
      have HI4 := hid (DtI.start (m := V4.heap.size) HD4.out (J := JG q b g s w.heap.size bx cx cy x) ⟨⟨HSP3.out.below hb4, keepc hb4 HC23.out, keepc hb4 c3_3, keepc hb4 HCB3.out⟩, hccx, hccy⟩)
      have HSTEP2 := hid (fun bs1 bs2 S V (hm : V4.heap.size ≤ V.heap.size) (hi : DtI q v3 md lk V4 V4.heap.size (JG q b g s w.heap.size bx cx cy x) bs1 S V) => DtI.step (bs' := bs2) (jg_keep q b g s w.heap.size bx cx cy x) (by have := HDV.out.lt; omega) (fun k hk => by have := HD3.out.ow.lt k hk; omega) hL2 hm hi)
      have HM4 := hid (HM3.out.trans (Moved.below hb4 _))
      have HSEQ := hid (fun m W (hm : 4 ≤ m) => (show SeqF (Fence.wide.inRound l') m Try.prog 101 #[.pointer (some ⟨cx, 0, none⟩), .pointer (some ⟨cy, 0, none⟩)] encI (fun k y _ => (fldP s x)[k]? = some y) (fldP s x).length (RPl cx cy b s.L.length x s.P) W from by
        have q0 := places_seq m hm cx cy b s.L.length x (i64_small (by omega) (by omega)) s.P W
        rw [show ((x : Int) % (s.L.length : Int)).toNat = x by rw [Int.emod_eq_of_lt (by omega) (by omega)]; rfl] at q0
        exact SeqF.inRound l' q0))
      have hflen : (fldP s x).length ≤ 3564 := by have := plL_len1 s.P s.L.length x; unfold fldP; omega
      have HFL := hid (fun (k y : Nat) (h : (fldP s x)[k]? = some y) => plL_lt hpos.1 h)
      obtain ⟨bs3, hbs3⟩ : ∃ bs3, bs1 ++ 17 :: encZ (s.wr ((x : Int) + 1)) = bs3 := ⟨_, rfl⟩
      have hlen3 : bs3.length ≤ 200000000 := by rw [← hbs3]; simp [encZ]; omega
      rw [hbs3] at HI4 HBE
      clear hb4 hccx hccy c3_3 HC23 HCB3 HSP3 hL2 hd3' hVq HD4 HDIS HCB hbs3
      gi_wp2
      refine rangeFunc_seqN (n := n - 1 - 1) (w := V4) (l₀ := l') (r₀ := r4) rfl hr4 (by omega) (gf := 101) (lb := #[.pointer (some ⟨cx, 0, none⟩), .pointer (some ⟨cy, 0, none⟩)]) rfl trivial (enters_of Try.func101 (by kernel_rfl) rfl)
        (encs := encI) (fun _ => rfl) (el := fun k y _ => (fldP s x)[k]? = some y) (N := (fldP s x).length) (R := RPl cx cy b s.L.length x s.P)
        (fun k S V => DtI q v3 md lk V4 V4.heap.size (JG q b g s w.heap.size bx cx cy x) (bs3 ++ fldC s ((fldP s x).take k)) S V)
        (fun _ _ _ _ => False) ?hI2 ?hIx2 ?hR2 (by simpa [fldC] using HI4.out)
        (fun k S y a V => (fldP s x)[k]? = some y ∧ DtI q v3 md lk V4 V4.heap.size (JG q b g s w.heap.size bx cx cy x) (bs3 ++ fldC s ((fldP s x).take k)) S V ∧ a = { tmps := #[.pointer (some ⟨q, 0, none⟩), .pointer (some ⟨b, 0, none⟩), .pointer (some ⟨w.heap.size, 0, none⟩), .pointer (some ⟨w.heap.size + 1, 0, none⟩), .int .i64 x, .int .i64 y, .pointer (some ⟨b, 0, none⟩), .func (.func 98) #[] #[.pointer (some ⟨bx, 0, none⟩)], .int .i64 x, .pointer (some ⟨q, 0, none⟩), .pointer (some ⟨b, 0, none⟩), sizeV s.r s.c, .int .i64 x, .int .i64 ((x : Int) + 1), .int .i64 (s.wr ((x : Int) + 1)), u, .pointer (some ⟨b, 0, none⟩), .int .i64 x, .func (.func 101) #[] #[.pointer (some ⟨cx, 0, none⟩), .pointer (some ⟨cy, 0, none⟩)], .int .i64 y, undef, undef, undef, undef, undef], defers := [] }) ?hAx2 ?assign2 ?body2 ?iter2 ?done2 ?stop2
      case hI2 => exact fun k S A C hg h => h.grow (jg_keep _ _ _ _ _ _ _ _ _) (Nat.le_refl _) hg
      case hIx2 => exact fun c k S A C hg h => h
      case hR2 => exact fun k S V h => ⟨h.j.2.1, h.j.2.2, h.j.1.1.spP⟩
      case hAx2 => exact fun k S x a A C hg ⟨h1, h2, h3⟩ => ⟨h1, h2.grow (jg_keep _ _ _ _ _ _ _ _ _) (Nat.le_refl _) hg, h3⟩
      case iter2 => exact fun o1 _ => HSEQ.out _ _ (by omega)
      case stop2 => exact fun k c S V _ h => h.elim
      case assign2 =>
        rintro l2 k2 y S2 V5 KK hk2 hy hi hsz2 hK
        have HK := hid hK
        have HI := hid hi
        have HY := hid hy
        clear hK hi hy
        gi_wp2
        exact HK.out _ _ (Touch.refl _ _ _) ⟨HY.out, HI.out, by first | rfl | simp⟩
      case done2 =>
        rintro S2 W hi
        have hi5 := hi.last (.returned u) ⟨_, rfl⟩
        rw [List.take_length] at hi5
        obtain ⟨-, v5, hd5, hm5⟩ := hi5
        obtain ⟨S', ht, hf⟩ := HFIN.out (.returned u) W ⟨⟨_, rfl⟩, v5, by rw [HBE.out]; exact hd5, HM4.out.trans hm5⟩
        have HT := hid ht
        have HF := hid hf
        clear hi hd5 hm5 ht hf
        gi_wp2
        exact ⟨S', HT.out, HF.out⟩
      case body2 =>
        rintro l2 k2 y S2 a2 V5 hk2 ⟨hy, hi, rfl⟩ hsz2 hl2 hlr2 hSz2
        have hyN := HFL.out _ _ hy
        obtain ⟨v5, hdv5, hdis5, hj5, -, hfin5⟩ := HSTEP2.out _ (bs3 ++ fldC s ((fldP s x).take (k2 + 1))) S2 V5 (by omega) hi
        obtain ⟨⟨hsp5, c2, c3, -⟩, -, -⟩ := hj5
        have hlen5 : (bs3 ++ fldC s ((fldP s x).take k2)).length ≤ 300000000 := by
          have h1 := fldC_len s ((fldP s x).take k2)
          rw [List.length_take] at h1
          rw [List.length_append]
          omega
        rw [fldC_take hy, ← List.append_assoc] at hfin5
        obtain ⟨bs5, hbs5⟩ : ∃ bs5, bs3 ++ fldC s ((fldP s x).take k2) = bs5 := ⟨_, rfl⟩
        rw [hbs5] at hdv5 hfin5 hlen5
        have HBS5 := hid (show bs3 ++ fldC s ((fldP s x).take (k2 + 1)) = bs5 ++ mdcB (s.cel y) by rw [fldC_take hy, ← List.append_assoc, hbs5])
        clear hbs5
        have HDU := hid hdv5
        have HFIN5 := hid hfin5
        have HAT := hid (fun W (hW : Below V5.heap.size V5 W) => (show Calls Try.prog 80 #[.pointer (some ⟨b, 0, none⟩), .int .i64 y] W fun e w' => e = .returned (s.cel y).v ∧ Below W.heap.size W w' from by
          have q1 := at_any (b := b) (g := g) (s := s) (y : Int) (i64_small (by omega) (by omega)) W (hsp5.below hW)
          unfold Spc.atC at q1
          rwa [wr_nat hyN] at q1))
        have HMD := hid (fun W hd => mdc_any (q := q) (v := v5) (bs := bs5) (md := md) (lk := lk) (s.cel y) (HOK.out.cel y) hmd W hd (by omega))
        have hdr2 : Below V5.heap.size V5 V5.drew := (Below.refl _ _).drew
        clear hi hdv5 hfin5 hdis5 hsp5 hy
        gi_wp2
        refine wpIn_mono (Q := fun e a V' => e = .normal ∧ ∃ u8, a = { tmps := #[.pointer (some ⟨q, 0, none⟩), .pointer (some ⟨b, 0, none⟩), .pointer (some ⟨w.heap.size, 0, none⟩), .pointer (some ⟨w.heap.size + 1, 0, none⟩), .int .i64 x, .int .i64 y, .pointer (some ⟨b, 0, none⟩), .func (.func 98) #[] #[.pointer (some ⟨bx, 0, none⟩)], .int .i64 x, .pointer (some ⟨q, 0, none⟩), .pointer (some ⟨b, 0, none⟩), sizeV s.r s.c, .int .i64 x, .int .i64 ((x : Int) + 1), .int .i64 (s.wr ((x : Int) + 1)), u, .pointer (some ⟨b, 0, none⟩), .int .i64 x, .func (.func 101) #[] #[.pointer (some ⟨cx, 0, none⟩), .pointer (some ⟨cy, 0, none⟩)], .int .i64 y, .pointer (some ⟨q, 0, none⟩), .pointer (some ⟨b, 0, none⟩), .int .i64 y, (s.cel y).v, u8], defers := [] } ∧ DtD q v5 (bs5 ++ mdcB (s.cel y)) md lk V5 (.returned u8) V') ?reg6 ?rest6
        case reg6 =>
          refine wpIn_region_round2 (by kernel_rfl) (by kernel_rfl) ?_
          refine wpAnyIn_take (i := 2) (v := .int .i64 y) (fuel := 4) rfl rfl (by kernel_rfl) (by kernel_rfl) (by kernel_rfl) (fun _ _ _ h => by cases h.1) ⟨Or.inl ⟨by rfl, fun w => ?_⟩, fun _ => rfl⟩ ?_
          · go_simp
            try with_reducible rfl
          simp only [Act.put, List.setIfInBounds_toArray, List.set_cons_zero, List.set_cons_succ]
          refine wpAnyIn_ready (rs := [0, 1]) (by kernel_rfl) (by simp) ?_
          refine AllReadyIn.cons (by simp only [List.getElem?_toArray, List.getElem?_cons_zero]; rfl) (fun K hK => ?_) (AllReadyIn.cons (by simp only [List.getElem?_toArray, List.getElem?_cons_succ, List.getElem?_cons_zero]; rfl) (fun K hK => ?_) AllReadyIn.nil)
          · go_simp
            refine hK _ _ ?_
            clear hK K
            (try simp only [Act.put, List.setIfInBounds_toArray, List.set_cons_zero, List.set_cons_succ])
            refine wpAnyIn_ready (rs := [1]) (by kernel_rfl) (by simp) ?_
            refine AllReadyIn.cons (by simp only [List.getElem?_toArray, List.getElem?_cons_succ, List.getElem?_cons_zero]; rfl) (fun K hK => ?_) AllReadyIn.nil
            · go_simp
              refine hK _ _ ?_
              clear hK K
              (try simp only [Act.put, List.setIfInBounds_toArray, List.set_cons_zero, List.set_cons_succ])
              refine wpAnyIn_ready (rs := [3]) (by kernel_rfl) (by simp) ?_
              refine AllReadyIn.cons (by simp only [List.getElem?_toArray, List.getElem?_cons_succ, List.getElem?_cons_zero]; rfl) (fun K hK => ?_) AllReadyIn.nil
              · go_simp
                refine ⟨trivial, fun _ => (by omega), ?_⟩
                refine (callsIn_wide.2 (HAT.out _ hdr2)).mono ?_
                rintro e w7 ⟨rfl, hb7⟩
                refine hK _ _ ?_
                clear hK K
                have HB7 := hid (below_t hdr2 hb7)
                have c2_7 := keepc HB7.out c2
                clear hb7
                (try simp only [Act.put, List.setIfInBounds_toArray, List.set_cons_zero, List.set_cons_succ])
                refine wpAnyIn_ready (rs := [4]) (by kernel_rfl) (by simp) ?_
                refine AllReadyIn.cons (by simp only [List.getElem?_toArray, List.getElem?_cons_succ, List.getElem?_cons_zero]; rfl) (fun K hK => ?_) AllReadyIn.nil
                · go_simp
                  refine ⟨trivial, fun _ => (by omega), ?_⟩
                  refine (callsIn_wide.2 (HMD.out _ (HDU.out.step HB7.out))).mono ?_
                  rintro e w8 hd8
                  have HD8 := hid (dtd_moved HB7.out hd8)
                  obtain ⟨⟨u8, rfl⟩, -⟩ := hd8
                  refine hK _ _ ?_
                  clear hK K
                  (try simp only [Act.put, List.setIfInBounds_toArray, List.set_cons_zero, List.set_cons_succ])
                  refine wpAnyIn_done (by kernel_rfl) ?_ _
                  exact ⟨rfl, _, rfl, HD8.out⟩
          · go_simp
            refine hK _ _ ?_
            clear hK K
            (try simp only [Act.put, List.setIfInBounds_toArray, List.set_cons_zero, List.set_cons_succ])
            refine wpAnyIn_ready (rs := [0, 3]) (by kernel_rfl) (by simp) ?_
            refine AllReadyIn.cons (by simp only [List.getElem?_toArray, List.getElem?_cons_zero]; rfl) (fun K hK => ?_) (AllReadyIn.cons (by simp only [List.getElem?_toArray, List.getElem?_cons_succ, List.getElem?_cons_zero]; rfl) (fun K hK => ?_) AllReadyIn.nil)
            · go_simp
              refine hK _ _ ?_
              clear hK K
              (try simp only [Act.put, List.setIfInBounds_toArray, List.set_cons_zero, List.set_cons_succ])
              refine wpAnyIn_ready (rs := [3]) (by kernel_rfl) (by simp) ?_
              refine AllReadyIn.cons (by simp only [List.getElem?_toArray, List.getElem?_cons_succ, List.getElem?_cons_zero]; rfl) (fun K hK => ?_) AllReadyIn.nil
              · go_simp
                refine ⟨trivial, fun _ => (by omega), ?_⟩
                refine (callsIn_wide.2 (HAT.out _ hdr2)).mono ?_
                rintro e w7 ⟨rfl, hb7⟩
                refine hK _ _ ?_
                clear hK K
                have HB7 := hid (below_t hdr2 hb7)
                have c2_7 := keepc HB7.out c2
                clear hb7
                (try simp only [Act.put, List.setIfInBounds_toArray, List.set_cons_zero, List.set_cons_succ])
                refine wpAnyIn_ready (rs := [4]) (by kernel_rfl) (by simp) ?_
                refine AllReadyIn.cons (by simp only [List.getElem?_toArray, List.getElem?_cons_succ, List.getElem?_cons_zero]; rfl) (fun K hK => ?_) AllReadyIn.nil
                · go_simp
                  refine ⟨trivial, fun _ => (by omega), ?_⟩
                  refine (callsIn_wide.2 (HMD.out _ (HDU.out.step HB7.out))).mono ?_
                  rintro e w8 hd8
                  have HD8 := hid (dtd_moved HB7.out hd8)
                  obtain ⟨⟨u8, rfl⟩, -⟩ := hd8
                  refine hK _ _ ?_
                  clear hK K
                  (try simp only [Act.put, List.setIfInBounds_toArray, List.set_cons_zero, List.set_cons_succ])
                  refine wpAnyIn_done (by kernel_rfl) ?_ _
                  exact ⟨rfl, _, rfl, HD8.out⟩
            · go_simp
              refine ⟨trivial, fun _ => (by omega), ?_⟩
              refine (callsIn_wide.2 (HAT.out _ hdr2)).mono ?_
              rintro e w7 ⟨rfl, hb7⟩
              refine hK _ _ ?_
              clear hK K
              have HB7 := hid (below_t hdr2 hb7)
              have c2_7 := keepc HB7.out c2
              clear hb7
              (try simp only [Act.put, List.setIfInBounds_toArray, List.set_cons_zero, List.set_cons_succ])
              refine wpAnyIn_ready (rs := [0]) (by kernel_rfl) (by simp) ?_
              refine AllReadyIn.cons (by simp only [List.getElem?_toArray, List.getElem?_cons_zero]; rfl) (fun K hK => ?_) AllReadyIn.nil
              · go_simp
                refine hK _ _ ?_
                clear hK K
                (try simp only [Act.put, List.setIfInBounds_toArray, List.set_cons_zero, List.set_cons_succ])
                refine wpAnyIn_ready (rs := [4]) (by kernel_rfl) (by simp) ?_
                refine AllReadyIn.cons (by simp only [List.getElem?_toArray, List.getElem?_cons_succ, List.getElem?_cons_zero]; rfl) (fun K hK => ?_) AllReadyIn.nil
                · go_simp
                  refine ⟨trivial, fun _ => (by omega), ?_⟩
                  refine (callsIn_wide.2 (HMD.out _ (HDU.out.step HB7.out))).mono ?_
                  rintro e w8 hd8
                  have HD8 := hid (dtd_moved HB7.out hd8)
                  obtain ⟨⟨u8, rfl⟩, -⟩ := hd8
                  refine hK _ _ ?_
                  clear hK K
                  (try simp only [Act.put, List.setIfInBounds_toArray, List.set_cons_zero, List.set_cons_succ])
                  refine wpAnyIn_done (by kernel_rfl) ?_ _
                  exact ⟨rfl, _, rfl, HD8.out⟩
        case rest6 =>
          rintro e a V6 ⟨rfl, u8, rfl, hd6⟩
          obtain ⟨S', ht, hf⟩ := HFIN5.out _ V6 hd6
          have HT := hid ht
          have HF := hid hf
          clear ht hf hd6 c2 c3 hdr2
          gi_wp2
          exact ⟨S', HT.out, by rw [HBS5.out]; exact HF.out⟩
end
end Go.Proofs.Ytlhaefgchmakfaa
