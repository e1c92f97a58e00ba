/-
  The places up to the first null one: upToNull.
-/
import Derived.Test.YtpehhinpohmpiaaEe
namespace Go.Proofs.Ytpehhinpohmpiaa
open Go.RowKit Go.Lib Go.Deep

def iQ (l : List Nat) (k : Nat) : List Value := intsV ((l.take k).map Int.ofNat)
theorem iQ_succ {l : List Nat} {k x : Nat} (h : l[k]? = some x) : iQ l (k + 1) = iQ l k ++ [.int .i64 x] := by
  unfold iQ
  rw [take_one _ _ _ h, List.map_append]
  unfold intsV
  rw [List.map_append]
  rfl
def nulB (s : Spc) (i : Nat) : Bool := (s.cel i).ch == 0
/-- Up to the first null one, with it; nothing, if there is none. -/
def upL (s : Spc) (l : List Nat) : List Nat := match l.findIdx? (nulB s) with
  | some j => l.take (j + 1)
  | none => []
/-- The first k are not null. -/
def NoZ (s : Spc) (l : List Nat) (k : Nat) : Prop := ∀ j y, j < k → l[j]? = some y → nulB s y = false
theorem NoZ.more {s : Spc} {l : List Nat} {k x : Nat} (h : NoZ s l k) (hx : l[k]? = some x) (hn : nulB s x = false) : NoZ s l (k + 1) := fun j y hj hy => by
  by_cases e : j = k
  · subst e
    rw [hx] at hy
    injection hy with hy
    subst hy
    exact hn
  · exact h j y (by omega) hy
theorem NoZ.found {s : Spc} {l : List Nat} {k x : Nat} (h : NoZ s l k) (hx : l[k]? = some x) (hn : nulB s x = true) : upL s l = l.take (k + 1) := by
  obtain ⟨hk, rfl⟩ := List.getElem?_eq_some_iff.1 hx
  have e : l.findIdx? (nulB s) = some k := List.findIdx?_eq_some_iff_getElem.2 ⟨hk, hn, fun j hj => by
    have := h j _ hj (List.getElem?_eq_getElem (by omega))
    simp [this]⟩
  unfold upL
  rw [e]
theorem NoZ.none {s : Spc} {l : List Nat} {k : Nat} (h : NoZ s l k) (hk : l.length ≤ k) : upL s l = [] := by
  have e : l.findIdx? (nulB s) = Option.none := List.findIdx?_eq_none_iff.2 fun x hx => by
    obtain ⟨j, hj, rfl⟩ := List.mem_iff_getElem.1 hx
    exact h j _ (by omega) (List.getElem?_eq_getElem hj)
  unfold upL
  rw [e]
theorem upL_len (s : Spc) (l : List Nat) : (upL s l).length ≤ l.length := by
  unfold upL
  split
  · rw [List.length_take]; omega
  · simp
/-- From a place on, round, up to the first attribute. -/
def restL (s : Spc) (n q : Int) : List Nat := ahL s.P (spN s.L.length (s.wr n) (lenZ s.r s.c n q).toNat)
theorem restL_mem {s : Spc} (h : s.OK) {n q : Int} {x : Nat} (hx : x ∈ restL s n q) : x < s.L.length := by
  have hx2 : x ∈ spN s.L.length (s.wr n) (lenZ s.r s.c n q).toNat := (List.takeWhile_sublist _).subset hx
  obtain ⟨i, _, rfl⟩ := List.mem_map.1 hx2
  exact Nat.mod_lt _ h.pos.1
theorem lenZ_le {r c p q : Int} (h : Ok r c) : (lenZ r c p q).toNat ≤ 3564 := by
  have hp := ok_pos h
  have := mod_bd (q % (r * c) - p % (r * c)) hp.1
  unfold lenZ
  split <;> omega
theorem restL_len {s : Spc} (h : s.OK) (n q : Int) : (restL s n q).length ≤ 3564 := by
  have h1 := (List.takeWhile_sublist (fun i => !s.P i) (l := spN s.L.length (s.wr n) (lenZ s.r s.c n q).toNat)).length_le
  rw [spN_len] at h1
  have h2 := lenZ_le (p := n) (q := q) h.sz
  unfold restL ahL
  omega
section
variable {b g : Nat} {s : Spc}
attribute [local go_sem] Oper.semAt_some
set_option maxRecDepth 100000 in
set_option maxHeartbeats 8000000 in
theorem up_in (m : Nat) (hm : 10 ≤ m) (n : Int) (hn : I64 n) (w : World) (h : SpM w b g s) :
    CallsIn Fence.wide m Try.prog 84 #[.pointer (some ⟨b, 0, none⟩), .int .i64 n] w (ListD 3 1 (intsV ((upL s (restL s n n)).map Int.ofNat)) (upL s (restL s n n)).length w) := by
  obtain ⟨i0, hi, hz0, hz1, hz2⟩ := info_parts infoI
  have hok := h.ok
  have hN := hok.pos
  have HSP := hid (show ∀ V, Below w.heap.size w V → SpM V b g s from fun V hV => h.below hV)
  have hA : (restL s n n).length ≤ 3564 := restL_len hok n n
  have HMB := hid (fun x (hx : x ∈ restL s n n) => restL_mem hok hx)
  have ewr : (n % (s.L.length : Int)).toNat = s.wr n := rfl
  have HSQ := hid (fun bs bf bt V => (show SeqF Fence.wide (m - 1) Try.prog 134 #[.pointer (some ⟨bs, 0, none⟩), .pointer (some ⟨bf, 0, none⟩), .pointer (some ⟨bt, 0, none⟩)] encI (fun k x _ => (restL s n n)[k]? = some x) (restL s n n).length (RAh bs bf bt b s.L.length s.r s.c n n s.P) V from by
    have q := ahead_seq (m - 1) (by omega) bs bf bt b s.L.length s.r s.c n n hok.sz hok.len.symm hn hn s.P V
    rwa [ewr] at q))
  generalize restL s n n = al at HSQ HMB hA ⊢
  clear h hn ewr
  refine callsIn_of_wp_marks Try.func84 rfl trivial ?_ rfl
  simp only [Try.ntmps84, List.size_toArray, List.length_cons, List.length_nil, Nat.reduceAdd, Nat.reduceSub, Array.replicate_succ, Array.replicate_zero, List.push_toArray, List.append_toArray, List.nil_append, List.cons_append]
  gi_wp2
  obtain ⟨W0, hW0, HS0⟩ : ∃ W0, (((w.alloc (.cells #[.pointer (some ⟨b, 0, none⟩)] 25)).alloc (.cells #[.slice none 0 0] 37)).alloc (.cells #[.slice none 0 0] 37)) = W0 ∧ Hid (W0.cell? ⟨w.heap.size, 0, none⟩ = some (.pointer (some ⟨b, 0, none⟩)) ∧ (W0.cell? ⟨w.heap.size + 1, 0, none⟩ = some (.slice none 0 0) ∧ W0.frozen? ⟨w.heap.size + 1, 0, none⟩ = false) ∧ (W0.cell? ⟨w.heap.size + 2, 0, none⟩ = some (.slice none 0 0) ∧ W0.frozen? ⟨w.heap.size + 2, 0, none⟩ = false) ∧ Below w.heap.size w W0 ∧ W0.heap.size = w.heap.size + 3) := by
    obtain ⟨a0, ha0⟩ : ∃ a0, w.alloc (.cells #[.pointer (some ⟨b, 0, none⟩)] 25) = a0 := ⟨_, rfl⟩
    have hz0 : a0.heap.size = w.heap.size + 1 := by rw [← ha0]; simp
    have hb0 : Below w.heap.size w a0 := by rw [← ha0]; exact bal (Below.refl _ _) _
    have k0 : a0.cell? ⟨w.heap.size, 0, none⟩ = some (.pointer (some ⟨b, 0, none⟩)) := by rw [← ha0]; simp [go_sem]
    obtain ⟨a1, ha1⟩ : ∃ a1, a0.alloc (.cells #[.slice none 0 0] 37) = a1 := ⟨_, rfl⟩
    have hz1 : a1.heap.size = a0.heap.size + 1 := by rw [← ha1]; simp
    have hb1 : Below a0.heap.size a0 a1 := by rw [← ha1]; exact bal (Below.refl _ _) _
    have k1 : a1.cell? ⟨w.heap.size + 1, 0, none⟩ = some (.slice none 0 0) := by rw [← ha1, ← hz0]; simp [go_sem]
    have g1 : a1.frozen? ⟨w.heap.size + 1, 0, none⟩ = false := by rw [← ha1, ← hz0]; simp [go_sem]
    obtain ⟨a2, ha2⟩ : ∃ a2, a1.alloc (.cells #[.slice none 0 0] 37) = a2 := ⟨_, rfl⟩
    have hb2 : Below a1.heap.size a1 a2 := by rw [← ha2]; exact bal (Below.refl _ _) _
    have e2 : w.heap.size + 2 = a1.heap.size := by omega
    have k2 : a2.cell? ⟨w.heap.size + 2, 0, none⟩ = some (.slice none 0 0) := by rw [← ha2, e2]; simp [go_sem]
    have g2 : a2.frozen? ⟨w.heap.size + 2, 0, none⟩ = false := by rw [← ha2, e2]; simp [go_sem]
    exact ⟨a2, by rw [ha0, ha1, ha2], keepc hb2 (keepc hb1 k0), ⟨keepc hb2 k1, (hb2.frozen (p := ⟨w.heap.size + 1, 0, none⟩) (by show w.heap.size + 1 < a1.heap.size; omega)).trans g1⟩, ⟨k2, g2⟩, below_t hb0 (below_t hb1 hb2), by rw [← ha2]; simp; omega⟩
  try simp only [hW0]
  clear hW0
  refine ⟨trivial, fun _ => (by omega), ?_⟩
  refine (callsIn_wide.2 (aheadIt (some ⟨b, 0, none⟩) n n _)).mono ?_
  rintro e w1 ⟨bs, bf, bt, rfl, hbs, hbf, hbt, hcc, hb1⟩
  have HB1 := hid (below_t HS0.out.2.2.2.1 hb1)
  have hzw := hb1.size
  have hz3 := HS0.out.2.2.2.2
  have hlz : w.heap.size ≤ w1.heap.size := by omega
  have HI0 := hid (show w1.cell? ⟨w.heap.size, 0, none⟩ = some (.pointer (some ⟨b, 0, none⟩)) ∧ (w1.cell? ⟨w.heap.size + 1, 0, none⟩ = some (.slice none 0 0) ∧ w1.frozen? ⟨w.heap.size + 1, 0, none⟩ = false) ∧ (w1.cell? ⟨bs, 0, none⟩ = some (.pointer (some ⟨b, 0, none⟩)) ∧ w1.cell? ⟨bf, 0, none⟩ = some (.int .i64 n) ∧ w1.cell? ⟨bt, 0, none⟩ = some (.int .i64 n)) ∧ (bs ∉ ([] : List Nat) ∧ bf ∉ ([] : List Nat) ∧ bt ∉ ([] : List Nat)) ∧ Acc w1.heap.size (w.heap.size + 2) 3 1 (iQ al 0) 0 [] w1 ∧ Below w.heap.size w w1 ∧ NoZ s al 0 from ⟨keepc hb1 HS0.out.1, ⟨keepc hb1 HS0.out.2.1.1, (hb1.frozen (p := ⟨w.heap.size + 1, 0, none⟩) (by show w.heap.size + 1 < W0.heap.size; omega)).trans HS0.out.2.1.2⟩, hcc, by simp, ⟨⟨.slice none 0 0, keepc hb1 HS0.out.2.2.1.1, (hb1.frozen (p := ⟨w.heap.size + 2, 0, none⟩) (by show w.heap.size + 2 < W0.heap.size; omega)).trans HS0.out.2.2.1.2, World.ownsRow_nil _ _ _ _, fun q hq => (by cases hq)⟩, by omega, fun q hq => (by cases hq)⟩, HB1.out, fun j y hj _ => absurd hj (Nat.not_lt_zero j)⟩)
  have hbs' : w.heap.size + 3 ≤ bs := by omega
  have hbf' : w.heap.size + 3 ≤ bf := by omega
  have hbt' : w.heap.size + 3 ≤ bt := by omega
  have hz1w : w.heap.size + 3 ≤ w1.heap.size := by omega
  clear hb1 hcc hbs hbf hbt HS0
  gi_wp2
  refine rangeFunc_seq (n := m) (w := w1) rfl (by omega) (gf := 134) (lb := #[.pointer (some ⟨bs, 0, none⟩), .pointer (some ⟨bf, 0, none⟩), .pointer (some ⟨bt, 0, none⟩)]) rfl trivial (enters_of Try.func134 (by kernel_rfl) rfl)
    (encs := encI) (fun _ => rfl) (el := fun k x _ => al[k]? = some x) (N := al.length) (R := RAh bs bf bt b s.L.length s.r s.c n n s.P)
    (fun k S V => V.cell? ⟨w.heap.size, 0, none⟩ = some (.pointer (some ⟨b, 0, none⟩)) ∧ (V.cell? ⟨w.heap.size + 1, 0, none⟩ = some (.slice none 0 0) ∧ V.frozen? ⟨w.heap.size + 1, 0, none⟩ = false) ∧ (V.cell? ⟨bs, 0, none⟩ = some (.pointer (some ⟨b, 0, none⟩)) ∧ V.cell? ⟨bf, 0, none⟩ = some (.int .i64 n) ∧ V.cell? ⟨bt, 0, none⟩ = some (.int .i64 n)) ∧ (bs ∉ S ∧ bf ∉ S ∧ bt ∉ S) ∧ Acc w1.heap.size (w.heap.size + 2) 3 1 (iQ al k) k S V ∧ Below w.heap.size w V ∧ NoZ s al k)
    (fun c k _ V => c = .ret ∧ ∃ v, V.cell? ⟨w.heap.size + 1, 0, none⟩ = some v ∧ V.ownsRow 0 3 1 v k (iQ al k) ∧ (∀ q ∈ blkV v, w.heap.size ≤ q) ∧ Below w.heap.size w V ∧ upL s al = al.take k) ?hI ?hIx ?hR HI0.out
    (fun k S x a V => (V.cell? ⟨w.heap.size, 0, none⟩ = some (.pointer (some ⟨b, 0, none⟩)) ∧ (V.cell? ⟨w.heap.size + 1, 0, none⟩ = some (.slice none 0 0) ∧ V.frozen? ⟨w.heap.size + 1, 0, none⟩ = false) ∧ (V.cell? ⟨bs, 0, none⟩ = some (.pointer (some ⟨b, 0, none⟩)) ∧ V.cell? ⟨bf, 0, none⟩ = some (.int .i64 n) ∧ V.cell? ⟨bt, 0, none⟩ = some (.int .i64 n)) ∧ (bs ∉ S ∧ bf ∉ S ∧ bt ∉ S) ∧ Acc w1.heap.size (w.heap.size + 2) 3 1 (iQ al k) k S V ∧ Below w.heap.size w V ∧ NoZ s al k) ∧ al[k]? = some x ∧ a = { tmps := #[.pointer (some ⟨b, 0, none⟩), .int .i64 n, .pointer (some ⟨w.heap.size, 0, none⟩), undef, .pointer (some ⟨w.heap.size + 1, 0, none⟩), .pointer (some ⟨w.heap.size + 2, 0, none⟩), .int .i64 (x : Nat), .pointer (some ⟨b, 0, none⟩), .int .i64 n, .int .i64 n, .func (.func 134) #[] #[.pointer (some ⟨bs, 0, none⟩), .pointer (some ⟨bf, 0, none⟩), .pointer (some ⟨bt, 0, none⟩)], .int .i64 (x : Nat), undef, undef, undef, undef, undef, undef, undef, undef, undef, undef], defers := [] }) ?hAx ?assign ?body ?iter ?done ?stop
  case hI => exact fun k S A C hg ⟨h1, h2, h3, h4, h5, h6, h7⟩ => ⟨cell_grow hg h1, ⟨cell_grow hg h2.1, frozen_grow hg h2.1 h2.2⟩, ⟨cell_grow hg h3.1, cell_grow hg h3.2.1, cell_grow hg h3.2.2⟩, h4, h5.grow hg, below_grow h6 hg hlz (Nat.le_refl _), h7⟩
  case hIx => exact fun c k S A C hg ⟨h1, v, h2, h3, h4, h5, h6⟩ => ⟨h1, v, cell_grow hg h2, own_grow h3 hg, h4, below_grow h5 hg hlz (Nat.le_refl _), h6⟩
  case hR => exact fun k S V h => ⟨h.2.2.1.1, h.2.2.1.2.1, h.2.2.1.2.2, g, s, HSP.out V h.2.2.2.2.2.1, rfl, rfl, rfl, rfl⟩
  case hAx => exact fun k S x a A C hg ⟨⟨h1, h2, h3, h4, h5, h6, h7⟩, h8, h9⟩ => ⟨⟨cell_grow hg h1, ⟨cell_grow hg h2.1, frozen_grow hg h2.1 h2.2⟩, ⟨cell_grow hg h3.1, cell_grow hg h3.2.1, cell_grow hg h3.2.2⟩, h4, h5.grow hg, below_grow h6 hg hlz (Nat.le_refl _), h7⟩, h8, h9⟩
  case iter => exact fun o1 o2 _ _ => HSQ.out bs bf bt _
  case assign =>
    rintro l' k x S V KK hk hx1 hi' hsz hK
    have HK := hid hK
    have HI := hid hi'
    clear hK hi'
    gi_wp2
    exact HK.out _ _ (Touch.refl _ _ _) ⟨HI.out, hx1, by simp⟩
  case body =>
    rintro l' k x S a' V hk ⟨hJ, hx, rfl⟩ hsz
    have HJ := hid hJ
    obtain ⟨v, hv, hf, hrow, hbl⟩ := hJ.2.2.2.2.1.ex
    have hlt := World.block_lt_of_cell? V _ hv
    have hmV : w1.heap.size ≤ V.heap.size := by omega
    have hxm := HMB.out x (List.mem_of_getElem? hx)
    have HATx := hid (fun W (hb : Below w.heap.size w W) => (show Calls Try.prog 20 #[.pointer (some ⟨b, 0, none⟩), .int .i64 (x : Nat)] W fun e w' => e = .returned (s.cel x).v ∧ Below W.heap.size W w' from by
      have q1 := at_any (b := b) (g := g) (s := s) (x : Int) (i64_small (by omega) (by omega)) W (HSP.out W hb)
      unfold Spc.atC at q1
      rwa [wr_nat hxm] at q1))
    have HNU := hid (show nulB s x = ((s.cel x).ch == 0) from rfl)
    have HQS := hid (iQ_succ hx)
    have HX := hid hx
    generalize s.cel x = c at HATx HNU
    obtain ⟨x0, x1, x2, x3, x4, x5⟩ := c
    dsimp only at HNU
    have hf0 := celf0
    have HROW := hid hrow
    have HV := hid hv
    clear hJ hrow hbl hx
    gi_wp2_with (gi_at_builtin; refine wpListIn_append_blk _ rfl _ _ 37 rfl 3 i0 _ 1 8 Try.underlying37 hi hz0 hz1 hz2 rfl (by decide) v k (iQ al k) rfl (HROW.out.alloc _) ⟨V.heap.size, 0, none⟩ 1 1 [.int .i64 x] rfl rfl (one_new V _ _ _ rfl) (by simp [Value.oneCell']) (by unfold maxLen; omega) (by omega) ?_; intro v' W1 hown' hgrow hb'; obtain ⟨s1, s2, s3, s4, s5, s6, s7⟩ := HJ.out.2.2.2.2.1.step HV.out hown' hgrow hb' hmV; obtain ⟨g', cap', rfl⟩ := row_any hown'; have S1 := hid s4; have S2 := hid s5; have S3 := hid (s6 w.heap.size w (by omega) HJ.out.2.2.2.2.2.1); have S7 := hid s7; have p0 : W1.cell? ⟨w.heap.size, 0, none⟩ = some (.pointer (some ⟨b, 0, none⟩)) := (World.cell?_setCell_far W1 ⟨w.heap.size + 2, 0, none⟩ ⟨w.heap.size, 0, none⟩ _ (by simp)).symm.trans ((World.cell?_of_block (a := ⟨w.heap.size, 0, none⟩) (s7 w.heap.size (World.block_lt_of_cell? V _ HJ.out.1) (by omega) (fun q => by have := HJ.out.2.2.2.2.1.ms w.heap.size q; omega))).trans HJ.out.1); have pl := World.block_lt_of_cell? _ _ p0; clear hown' hgrow s4 s5 s6 s7 hb')
    have KEEP := hid (fun i u (hu : V.cell? ⟨i, 0, none⟩ = some u) (h1 : i ≠ w.heap.size + 2) (h2 : i ∉ S) => (show (W1.setCell ⟨w.heap.size + 2, 0, none⟩ (.slice g' (k + 1) cap')).cell? ⟨i, 0, none⟩ = some u from (World.cell?_of_block (a := ⟨i, 0, none⟩) (S7.out i (World.block_lt_of_cell? V _ hu) h1 h2)).trans hu))
    obtain ⟨W2, hW2⟩ : ∃ W2, W1.setCell ⟨w.heap.size + 2, 0, none⟩ (.slice g' (k + 1) cap') = W2 := ⟨_, rfl⟩
    have HCC := hid (fun w3 (hb : Below W2.heap.size W2 w3) => (show w3.cell? ⟨w.heap.size + 2, 0, none⟩ = some (.slice g' (k + 1) cap') from keepc hb (by rw [← hW2]; exact sc_same s1)))
    rw [hW2] at S1 S2 S3 S7 KEEP ⊢
    clear s1 s2 s3 p0 pl hW2
    refine ⟨trivial, fun _ => (by omega), ?_⟩
    refine (callsIn_wide.2 (HATx.out _ S3.out)).mono ?_
    rintro e w3 ⟨rfl, hb3⟩
    have HT3 := hid (S2.out.trans (Touch.below hb3 w1.heap.size _))
    have HA3 := hid (S1.out.grow (Grow.below hb3 0))
    have HB3 := hid (below_t S3.out hb3)
    have HMS := hid (fun i (hi : i ∈ S) => HJ.out.2.2.2.2.1.ms i hi)
    have c0 := keepc hb3 (KEEP.out _ _ HJ.out.1 (by omega) (fun q => absurd (HMS.out _ q) (by show ¬ (w1.heap.size ≤ _); omega)))
    have c1 := keepc hb3 (KEEP.out _ _ HJ.out.2.1.1 (by omega) (fun q => absurd (HMS.out _ q) (by show ¬ (w1.heap.size ≤ _); omega)))
    have c3 := keepc hb3 (KEEP.out _ _ HJ.out.2.2.1.1 (by omega) HJ.out.2.2.2.1.1)
    have c4 := keepc hb3 (KEEP.out _ _ HJ.out.2.2.1.2.1 (by omega) HJ.out.2.2.2.1.2.1)
    have c5 := keepc hb3 (KEEP.out _ _ HJ.out.2.2.1.2.2 (by omega) HJ.out.2.2.2.1.2.2)
    have l1 := World.block_lt_of_cell? w3 _ c1
    have f1 : w3.frozen? ⟨w.heap.size + 1, 0, none⟩ = false := (World.frozen?_of_block (a := ⟨w.heap.size + 1, 0, none⟩) ((hb3.block _ (World.block_lt_of_cell? _ _ (KEEP.out _ _ HJ.out.2.1.1 (by omega) (fun q => absurd (HMS.out _ q) (by show ¬ (w1.heap.size ≤ _); omega))))).trans (S7.out (w.heap.size + 1) (World.block_lt_of_cell? V _ HJ.out.2.1.1) (by omega) (fun q => absurd (HMS.out _ q) (by show ¬ (w1.heap.size ≤ _); omega))))).trans HJ.out.2.1.2
    have HC := hid (And.intro c0 (And.intro c3 (And.intro c4 c5)))
    have HNT := hid (show bs ∉ blkV (.slice g' (k + 1) cap') ∧ bf ∉ blkV (.slice g' (k + 1) cap') ∧ bt ∉ blkV (.slice g' (k + 1) cap') from ⟨notin_touch S2.out HJ.out.2.2.2.1.1 (World.block_lt_of_cell? V _ HJ.out.2.2.1.1), notin_touch S2.out HJ.out.2.2.2.1.2.1 (World.block_lt_of_cell? V _ HJ.out.2.2.1.2.1), notin_touch S2.out HJ.out.2.2.2.1.2.2 (World.block_lt_of_cell? V _ HJ.out.2.2.1.2.2)⟩)
    obtain ⟨vv, hv3, -, hrow3, hbl3⟩ := HA3.out.ex
    have ev : vv = .slice g' (k + 1) cap' := by
      have q := hv3
      rw [show w3.cell? ⟨w.heap.size + 2, 0, none⟩ = some (.slice g' (k + 1) cap') from HCC.out w3 hb3] at q
      injection q with q
      exact q.symm
    subst ev
    have l3 := World.block_lt_of_cell? w3 _ hv3
    have HROW3 := hid hrow3
    clear hb3 hrow3 hbl3 c0 c3 c4 c5
    by_cases hz : x0 = 0
    · have hnu : nulB s x = true := by rw [HNU.out, hz]; rfl
      have HUP := hid ((HJ.out.2.2.2.2.2.2).found HX.out hnu)
      have hze : x0 = 0 := hz
      subst hz
      gi_wp2
      have hmv : Touch w1.heap.size w3 (w3.setCell ⟨w.heap.size + 1, 0, none⟩ (.slice g' (k + 1) cap')) (blkV (.slice g' (k + 1) cap')) (blkV (.slice g' (k + 1) cap')) := Touch.set w3 ⟨w.heap.size + 1, 0, none⟩ _ (.inl (by show w.heap.size + 1 < w1.heap.size; omega))
      refine ⟨_, HT3.out.trans hmv, rfl, .slice g' (k + 1) cap', sc_same c1, ?_, fun q hq => by have := HA3.out.ms q hq; omega, HB3.out.sc _ _ _ (by omega), HUP.out⟩
      rw [HQS.out]
      exact own_block HROW3.out fun q hq => Go.heap_setCell_other w3 ⟨w.heap.size + 1, 0, none⟩ q _ (fun e => by have := HA3.out.ms q hq; simp at e; omega)
    · have hnu : nulB s x = false := by rw [HNU.out]; simpa using hz
      have HNZ := hid ((HJ.out.2.2.2.2.2.2).more HX.out hnu)
      gi_wp2
      refine ⟨_, HT3.out, HC.out.1, ⟨c1, f1⟩, ⟨HC.out.2.1, HC.out.2.2.1, HC.out.2.2.2⟩, HNT.out, ?_, HB3.out, HNZ.out⟩
      rw [HQS.out]
      exact HA3.out
  case done =>
    rintro D S V hD ⟨-, ⟨h1, h2⟩, -, -, -, h6, h7⟩ hK
    have hlt := World.block_lt_of_cell? V _ h1
    have HK := hid hK
    have HB := hid h6
    have HUP := hid (h7.none (Nat.le_refl _))
    have H1 := hid h1
    clear hK h6 h7
    gi_wp2
    have e1 : (V.setCell ⟨w.heap.size + 1, 0, none⟩ (.slice none 0 0)).heap[D]? = V.heap[D]? := Go.heap_setCell_other V _ D _ (by simp; omega)
    refine ⟨by simp, .inl ⟨_, _, rfl, run_takeDeferred (e1.trans HK.out), ?_⟩⟩
    have hg := Grow.put (m := w1.heap.size) (.deferred none) hD (e1.trans HK.out) rfl
    have e2 := cell_grow hg (sc_same (v := .slice none 0 0) H1.out)
    refine ⟨.slice none 0 0, by simp [results, Try.f84, go_sem, e2], .slice none 0 0, rfl, ?_, fun q hq => (by cases hq), below_grow (HB.out.sc _ _ _ (by omega)) hg hlz (Nat.le_refl _)⟩
    rw [HUP.out]
    exact World.ownsRow_nil _ _ _ _
  case stop =>
    rintro D k c S V hD hk ⟨rfl, v, h1, h2, h3, h4, h5⟩ hK
    have hlt := World.block_lt_of_cell? V _ h1
    have HK := hid hK
    have HB := hid h4
    have HUP := hid h5
    have HO := hid h2
    have H3 := hid h3
    have H1 := hid h1
    obtain ⟨y, cap, rfl⟩ := row_any h2
    clear hK h4 h5 h2 h3
    gi_wp2
    refine ⟨by simp, .inl ⟨_, _, rfl, run_takeDeferred HK.out, ?_⟩⟩
    have hg := Grow.put (m := w1.heap.size) (.deferred none) hD HK.out rfl
    have e2 := cell_grow hg H1.out
    refine ⟨.slice y (k + 1) cap, by simp [results, Try.f84, go_sem, e2], .slice y (k + 1) cap, rfl, ?_, H3.out, below_grow HB.out hg hlz (Nat.le_refl _)⟩
    rw [HUP.out]
    have q := own_grow HO.out hg
    rw [show (al.take (k + 1)).length = k + 1 by rw [List.length_take]; omega]
    exact q
end
end Go.Proofs.Ytpehhinpohmpiaa
