/-
  Nulls to the end of the field: what it leaves, and the program's End.
-/
import Derived.Test.YtpehhinpohmpiaaEo
namespace Go.Proofs.Ytpehhinpohmpiaa
open Go.RowKit Go.Lib Go.Deep

/-- The characters of some places, nulled one by one. -/
def clrR (s : Spc) (l : List Nat) : Nat → Spc
  | 0 => s
  | k + 1 => (clrR s l k).putC (l.getD k 0 : Nat) 0
theorem clrR_alike (s : Spc) (l : List Nat) : ∀ k, Alike s (clrR s l k)
  | 0 => Alike.refl s
  | k + 1 => (clrR_alike s l k).put _ _
def endT (s : Spc) (n : Int) : Int := if decide (0 < s.A.length) then n else 0
/-- The places to the end of the field, or of the screen. -/
def endL (s : Spc) (n : Int) : List Nat := restL s n (endT s n)
def endS (s : Spc) (n : Int) : Spc := modS (clrR s (endL s n) (endL s n).length) n
section
variable {b g : Nat} {s : Spc}
attribute [local go_sem] Oper.semAt_some
set_option maxRecDepth 100000 in
set_option maxHeartbeats 8000000 in
theorem end_in (m : Nat) (hm : 10 ≤ m) (n : Int) (hn : I64 n) (w : World) (h : SpM w b g s) :
    CallsIn Fence.wide m Try.prog 34 #[.pointer (some ⟨b, 0, none⟩), .int .i64 n] w fun e w' => e = .returned (.bool (openB s n)) ∧ SpM w' b g (if openB s n then endS s n else s) ∧ Moved w w' [b, g] [b, g] := by
  have hok := h.ok
  have hN := hok.pos
  have hbw := h.lt.1
  have hgw := h.lt.2
  have HOP := hid (fun W h => open_any (b := b) (g := g) (s := s) n hn W h)
  have HFO := hid (fun W h => callsIn_wide.1 (formatted_in 6 (by omega) b g s W h))
  have HSP := hid h
  have HMO := hid (fun W (t : Spc) (ht : SpM W b g t) => modify_any (b := b) (g := g) (s := t) n hn W ht)
  have HPU := hid (fun (q x : Int) (hq : I64 q) (hx : U8 x) W (t : Spc) (ht : SpM W b g t) => put_any (b := b) (g := g) (s := t) q hq x hx W ht)
  have ewr : (n % (s.L.length : Int)).toNat = s.wr n := rfl
  have HSQ := hid (fun (q : Int) (hq : I64 q) bs bf bt V => (show SeqF Fence.wide (m - 1) Try.prog 134 #[.pointer (some ⟨bs, 0, none⟩), .pointer (some ⟨bf, 0, none⟩), .pointer (some ⟨bt, 0, none⟩)] encI (fun k x _ => (restL s n q)[k]? = some x) (restL s n q).length (RAh bs bf bt b s.L.length s.r s.c n q s.P) V from by
    have q0 := ahead_seq (m - 1) (by omega) bs bf bt b s.L.length s.r s.c n q hok.sz hok.len.symm hn hq s.P V
    rwa [ewr] at q0))
  have HMB := hid (fun q x (hx : x ∈ restL s n q) => restL_mem hok hx)
  have HAL := hid (fun l k => clrR_alike s l k)
  have hNI := hid hn
  unfold endS endL endT
  clear h hn ewr
  cases ho : openB s n
  · rw [ho] at HOP
    rw [if_neg (by simp)]
    clear ho
    refine callsIn_of_wp_marks Try.func34 rfl trivial ?_ rfl
    simp only [Try.ntmps34, List.size_toArray, List.length_cons, List.length_nil, Nat.reduceAdd, Nat.reduceSub, Array.replicate_succ, Array.replicate_zero, List.push_toArray, List.append_toArray, List.nil_append, List.cons_append]
    gi_wp2
    refine ⟨trivial, fun _ => (by omega), ?_⟩
    refine (callsIn_wide.2 (HOP.out _ (HSP.out.below (bal (Below.refl _ _) _)))).mono ?_
    rintro e w1 ⟨rfl, hb1⟩
    have HB1 := hid (blw hb1)
    clear hb1
    gi_wp2
    exact ⟨_, by simp [results, Try.f34, go_sem], rfl, HSP.out.below HB1.out, Moved.below HB1.out _⟩
  · rw [ho] at HOP
    rw [if_pos rfl]
    clear ho
    obtain ⟨fm, hfm⟩ : ∃ fm, decide (0 < s.A.length) = fm := ⟨_, rfl⟩
    rw [hfm] at HFO ⊢
    clear hfm
    cases fm
    · rw [if_neg (by simp)]
      have HSQ := hid (HSQ.out 0 ⟨by decide, by decide⟩)
      have HMB := hid (HMB.out 0)
      generalize restL s n 0 = pl at HSQ HMB ⊢
      refine callsIn_of_wp_marks Try.func34 rfl trivial ?_ rfl
      simp only [Try.ntmps34, List.size_toArray, List.length_cons, List.length_nil, Nat.reduceAdd, Nat.reduceSub, Array.replicate_succ, Array.replicate_zero, List.push_toArray, List.append_toArray, List.nil_append, List.cons_append]
      gi_wp2
      obtain ⟨a0, ha0⟩ : ∃ a0, w.alloc (.cells #[.pointer (some ⟨b, 0, none⟩)] 25) = a0 := ⟨_, rfl⟩
      have hz0' : a0.heap.size = w.heap.size + 1 := by rw [← ha0]; simp
      have HA0 := hid (show Below w.heap.size w a0 ∧ a0.cell? ⟨w.heap.size, 0, none⟩ = some (.pointer (some ⟨b, 0, none⟩)) from ⟨by rw [← ha0]; exact bal (Below.refl _ _) _, by rw [← ha0]; simp [go_sem]⟩)
      simp only [ha0]
      clear ha0
      refine ⟨trivial, fun _ => (by omega), ?_⟩
      refine (callsIn_wide.2 (HOP.out _ (HSP.out.below HA0.out.1))).mono ?_
      rintro e w0 ⟨rfl, hb0⟩
      have h0c := keepc hb0 HA0.out.2
      have hl0 := World.block_lt_of_cell? w0 _ h0c
      have H0 := hid (show Below w.heap.size w w0 ∧ w0.cell? ⟨w.heap.size, 0, none⟩ = some (.pointer (some ⟨b, 0, none⟩)) from ⟨below_t HA0.out.1 hb0, h0c⟩)
      have hzz := hb0.size
      clear hb0 HA0
      gi_wp2
      refine ⟨trivial, fun _ => (by omega), ?_⟩
      refine (callsIn_wide.2 (HFO.out _ (HSP.out.below H0.out.1))).mono ?_
      rintro e w2 ⟨rfl, hb2⟩
      have h2c := keepc hb2 H0.out.2
      have hl2 := World.block_lt_of_cell? w2 _ h2c
      have H2 := hid (show Below w.heap.size w w2 ∧ w2.cell? ⟨w.heap.size, 0, none⟩ = some (.pointer (some ⟨b, 0, none⟩)) from ⟨below_t H0.out.1 hb2, h2c⟩)
      have hz2 := hb2.size
      clear hb2 H0 h0c hl0
      gi_wp2
      refine ⟨trivial, fun _ => (by omega), ?_⟩
      refine (callsIn_wide.2 (aheadIt (some ⟨b, 0, none⟩) n 0 _)).mono ?_
      rintro e w1 ⟨bs, bf, bt, rfl, hbs, hbf, hbt, hcc, hb1⟩
      have HB1 := hid (below_t H2.out.1 hb1)
      have hzw := hb1.size
      have hlz : w.heap.size ≤ w1.heap.size := by omega
      have HI0 := hid (show w1.cell? ⟨w.heap.size, 0, none⟩ = some (.pointer (some ⟨b, 0, none⟩)) ∧ (w1.cell? ⟨bs, 0, none⟩ = some (.pointer (some ⟨b, 0, none⟩)) ∧ w1.cell? ⟨bf, 0, none⟩ = some (.int .i64 n) ∧ w1.cell? ⟨bt, 0, none⟩ = some (.int .i64 0)) ∧ SpM w1 b g (clrR s pl 0) ∧ Moved w w1 [b, g] [b, g] from ⟨keepc hb1 H2.out.2, hcc, HSP.out.below HB1.out, Moved.below HB1.out _⟩)
      have hbs' : w.heap.size ≤ bs := by omega
      have hbf' : w.heap.size ≤ bf := by omega
      have hbt' : w.heap.size ≤ bt := by omega
      clear hb1 hcc hbs hbf hbt H2 h2c hl2
      gi_wp2
      refine rangeFunc_seq (n := m) (w := w1) rfl (by omega) (gf := 134) (lb := #[.pointer (some ⟨bs, 0, none⟩), .pointer (some ⟨bf, 0, none⟩), .pointer (some ⟨bt, 0, none⟩)]) rfl trivial (enters_of Try.func134 (by kernel_rfl) rfl)
        (encs := encI) (fun _ => rfl) (el := fun k x _ => pl[k]? = some x) (N := pl.length) (R := RAh bs bf bt b s.L.length s.r s.c n 0 s.P)
        (fun k S V => V.cell? ⟨w.heap.size, 0, none⟩ = some (.pointer (some ⟨b, 0, none⟩)) ∧ (V.cell? ⟨bs, 0, none⟩ = some (.pointer (some ⟨b, 0, none⟩)) ∧ V.cell? ⟨bf, 0, none⟩ = some (.int .i64 n) ∧ V.cell? ⟨bt, 0, none⟩ = some (.int .i64 0)) ∧ SpM V b g (clrR s pl k) ∧ Moved w V [b, g] [b, g]) (fun _ _ _ _ => False) ?hI ?hIx ?hR HI0.out
        (fun k S x a V => (V.cell? ⟨w.heap.size, 0, none⟩ = some (.pointer (some ⟨b, 0, none⟩)) ∧ (V.cell? ⟨bs, 0, none⟩ = some (.pointer (some ⟨b, 0, none⟩)) ∧ V.cell? ⟨bf, 0, none⟩ = some (.int .i64 n) ∧ V.cell? ⟨bt, 0, none⟩ = some (.int .i64 0)) ∧ SpM V b g (clrR s pl k) ∧ Moved w V [b, g] [b, g]) ∧ pl[k]? = some x ∧ a = { tmps := #[.pointer (some ⟨b, 0, none⟩), .int .i64 n, .pointer (some ⟨w.heap.size, 0, none⟩), undef, .bool false, .int .i64 0, .int .i64 (x : Nat), .pointer (some ⟨b, 0, none⟩), .int .i64 n, .bool true, .bool false, .int .i64 n, .pointer (some ⟨b, 0, none⟩), .bool false, .bool true, .pointer (some ⟨b, 0, none⟩), .int .i64 n, .int .i64 0, .func (.func 134) #[] #[.pointer (some ⟨bs, 0, none⟩), .pointer (some ⟨bf, 0, none⟩), .pointer (some ⟨bt, 0, none⟩)], .int .i64 (x : Nat), undef, undef, undef, undef, undef, undef], defers := [] }) ?hAx ?assign ?body ?iter ?done ?stop
      case hI => exact fun k S A C hg ⟨h1, ⟨h2, h3, h4⟩, h5, h6⟩ => ⟨cell_grow hg h1, ⟨cell_grow hg h2, cell_grow hg h3, cell_grow hg h4⟩, h5.grow hg, moved_grow h6 hg hlz⟩
      case hIx => exact fun c k S A C hg h => h.elim
      case hR => exact fun k S V h => ⟨h.2.1.1, h.2.1.2.1, h.2.1.2.2, g, _, h.2.2.1, (HAL.out pl k).len, (HAL.out pl k).r, (HAL.out pl k).c, (HAL.out pl k).P⟩
      case hAx => exact fun k S x a A C hg ⟨⟨h1, ⟨h2, h3, h4⟩, h5, h6⟩, h8, h9⟩ => ⟨⟨cell_grow hg h1, ⟨cell_grow hg h2, cell_grow hg h3, cell_grow hg h4⟩, h5.grow hg, moved_grow h6 hg hlz⟩, h8, h9⟩
      case iter => exact fun o1 o2 _ _ => HSQ.out bs bf bt _
      case assign =>
        rintro l' k x S V KK hk hx1 hi' hsz hK
        have HK := hid hK
        have HI := hid hi'
        clear hK hi'
        gi_wp2
        exact HK.out _ _ (Touch.refl _ _ _) ⟨HI.out, hx1, by first | rfl | simp⟩
      case body =>
        rintro l' k x S a' V hk ⟨hJ, hx, rfl⟩ hsz
        have HJ := hid hJ
        have hxm := HMB.out x (List.mem_of_getElem? hx)
        have hxk : pl.getD k 0 = x := by rw [List.getD_eq_getElem?_getD, hx]; rfl
        have hDR : clrR s pl (k + 1) = (clrR s pl k).putC (x : Nat) 0 := by rw [← hxk]; rfl
        rw [hDR]
        have HPUk := hid (HPU.out (x : Int) 0 (i64_small (by omega) (by omega)) u8_zero V _ hJ.2.2.1)
        have c1 := hJ.1
        have l1 := World.block_lt_of_cell? V _ c1
        have hbm : b < w1.heap.size := by omega
        have hgm : g < w1.heap.size := by omega
        clear hJ hx hxk hDR
        gi_wp2
        refine ⟨trivial, fun _ => (by omega), ?_⟩
        refine (callsIn_wide.2 HPUk.out).mono ?_
        rintro e w5 ⟨⟨v5, rfl⟩, hs5, hm5⟩
        have HS5 := hid hs5
        have HM5 := hid hm5
        clear hs5 hm5
        gi_wp2
        obtain ⟨j1, ⟨j2, j3, j4⟩, j5, j6⟩ := HJ.out
        have q1 : ∀ i u, V.cell? ⟨i, 0, none⟩ = some u → i ≠ b → i ≠ g → w5.cell? ⟨i, 0, none⟩ = some u := fun i u hu h1 h2 => cell_moved HM5.out hu (by simp; omega)
        exact ⟨S, touch_old HM5.out hbm hgm S, q1 _ _ j1 (by omega) (by omega), ⟨q1 _ _ j2 (by omega) (by omega), q1 _ _ j3 (by omega) (by omega), q1 _ _ j4 (by omega) (by omega)⟩, HS5.out, j6.trans HM5.out⟩
      case done =>
        rintro D S V hD ⟨h1, h2, h3, h4⟩ hK
        have l1 := World.block_lt_of_cell? V _ h1
        have HMOk := hid (HMO.out V _ h3)
        have HK := hid hK
        have H4 := hid h4
        have hDn : D ∉ [b, g] := by simp; omega
        clear hK h4 h3 h2
        gi_wp2
        refine ⟨trivial, fun _ => (by omega), ?_⟩
        refine (callsIn_wide.2 HMOk.out).mono ?_
        rintro e w6 ⟨rfl, hs6, hm6⟩
        have HS6 := hid hs6
        have HM6 := hid (H4.out.trans hm6)
        have HD6 := hid ((hm6.block D (Array.getElem?_eq_some_iff.1 HK.out).1 hDn).trans HK.out)
        clear hs6 hm6
        gi_wp2
        refine ⟨by simp, .inl ⟨_, _, rfl, run_takeDeferred HD6.out, ?_⟩⟩
        have hg := Grow.put (m := w1.heap.size) (.deferred none) hD HD6.out rfl
        exact ⟨.bool true, by simp [results, Try.f34, go_sem], rfl, HS6.out.grow hg, moved_grow HM6.out hg hlz⟩
      case stop => exact fun _ _ _ _ _ _ _ h => h.elim
    · rw [if_pos rfl]
      have HSQ := hid (HSQ.out n hNI.out)
      have HMB := hid (HMB.out n)
      generalize restL s n n = pl at HSQ HMB ⊢
      refine callsIn_of_wp_marks Try.func34 rfl trivial ?_ rfl
      simp only [Try.ntmps34, List.size_toArray, List.length_cons, List.length_nil, Nat.reduceAdd, Nat.reduceSub, Array.replicate_succ, Array.replicate_zero, List.push_toArray, List.append_toArray, List.nil_append, List.cons_append]
      gi_wp2
      obtain ⟨a0, ha0⟩ : ∃ a0, w.alloc (.cells #[.pointer (some ⟨b, 0, none⟩)] 25) = a0 := ⟨_, rfl⟩
      have hz0' : a0.heap.size = w.heap.size + 1 := by rw [← ha0]; simp
      have HA0 := hid (show Below w.heap.size w a0 ∧ a0.cell? ⟨w.heap.size, 0, none⟩ = some (.pointer (some ⟨b, 0, none⟩)) from ⟨by rw [← ha0]; exact bal (Below.refl _ _) _, by rw [← ha0]; simp [go_sem]⟩)
      simp only [ha0]
      clear ha0
      refine ⟨trivial, fun _ => (by omega), ?_⟩
      refine (callsIn_wide.2 (HOP.out _ (HSP.out.below HA0.out.1))).mono ?_
      rintro e w0 ⟨rfl, hb0⟩
      have h0c := keepc hb0 HA0.out.2
      have hl0 := World.block_lt_of_cell? w0 _ h0c
      have H0 := hid (show Below w.heap.size w w0 ∧ w0.cell? ⟨w.heap.size, 0, none⟩ = some (.pointer (some ⟨b, 0, none⟩)) from ⟨below_t HA0.out.1 hb0, h0c⟩)
      have hzz := hb0.size
      clear hb0 HA0
      gi_wp2
      refine ⟨trivial, fun _ => (by omega), ?_⟩
      refine (callsIn_wide.2 (HFO.out _ (HSP.out.below H0.out.1))).mono ?_
      rintro e w2 ⟨rfl, hb2⟩
      have h2c := keepc hb2 H0.out.2
      have hl2 := World.block_lt_of_cell? w2 _ h2c
      have H2 := hid (show Below w.heap.size w w2 ∧ w2.cell? ⟨w.heap.size, 0, none⟩ = some (.pointer (some ⟨b, 0, none⟩)) from ⟨below_t H0.out.1 hb2, h2c⟩)
      have hz2 := hb2.size
      clear hb2 H0 h0c hl0
      gi_wp2
      refine ⟨trivial, fun _ => (by omega), ?_⟩
      refine (callsIn_wide.2 (aheadIt (some ⟨b, 0, none⟩) n n _)).mono ?_
      rintro e w1 ⟨bs, bf, bt, rfl, hbs, hbf, hbt, hcc, hb1⟩
      have HB1 := hid (below_t H2.out.1 hb1)
      have hzw := hb1.size
      have hlz : w.heap.size ≤ w1.heap.size := by omega
      have HI0 := hid (show w1.cell? ⟨w.heap.size, 0, none⟩ = some (.pointer (some ⟨b, 0, none⟩)) ∧ (w1.cell? ⟨bs, 0, none⟩ = some (.pointer (some ⟨b, 0, none⟩)) ∧ w1.cell? ⟨bf, 0, none⟩ = some (.int .i64 n) ∧ w1.cell? ⟨bt, 0, none⟩ = some (.int .i64 n)) ∧ SpM w1 b g (clrR s pl 0) ∧ Moved w w1 [b, g] [b, g] from ⟨keepc hb1 H2.out.2, hcc, HSP.out.below HB1.out, Moved.below HB1.out _⟩)
      have hbs' : w.heap.size ≤ bs := by omega
      have hbf' : w.heap.size ≤ bf := by omega
      have hbt' : w.heap.size ≤ bt := by omega
      clear hb1 hcc hbs hbf hbt H2 h2c hl2
      gi_wp2
      refine rangeFunc_seq (n := m) (w := w1) rfl (by omega) (gf := 134) (lb := #[.pointer (some ⟨bs, 0, none⟩), .pointer (some ⟨bf, 0, none⟩), .pointer (some ⟨bt, 0, none⟩)]) rfl trivial (enters_of Try.func134 (by kernel_rfl) rfl)
        (encs := encI) (fun _ => rfl) (el := fun k x _ => pl[k]? = some x) (N := pl.length) (R := RAh bs bf bt b s.L.length s.r s.c n n s.P)
        (fun k S V => V.cell? ⟨w.heap.size, 0, none⟩ = some (.pointer (some ⟨b, 0, none⟩)) ∧ (V.cell? ⟨bs, 0, none⟩ = some (.pointer (some ⟨b, 0, none⟩)) ∧ V.cell? ⟨bf, 0, none⟩ = some (.int .i64 n) ∧ V.cell? ⟨bt, 0, none⟩ = some (.int .i64 n)) ∧ SpM V b g (clrR s pl k) ∧ Moved w V [b, g] [b, g]) (fun _ _ _ _ => False) ?hI ?hIx ?hR HI0.out
        (fun k S x a V => (V.cell? ⟨w.heap.size, 0, none⟩ = some (.pointer (some ⟨b, 0, none⟩)) ∧ (V.cell? ⟨bs, 0, none⟩ = some (.pointer (some ⟨b, 0, none⟩)) ∧ V.cell? ⟨bf, 0, none⟩ = some (.int .i64 n) ∧ V.cell? ⟨bt, 0, none⟩ = some (.int .i64 n)) ∧ SpM V b g (clrR s pl k) ∧ Moved w V [b, g] [b, g]) ∧ pl[k]? = some x ∧ a = { tmps := #[.pointer (some ⟨b, 0, none⟩), .int .i64 n, .pointer (some ⟨w.heap.size, 0, none⟩), undef, .bool false, .int .i64 n, .int .i64 (x : Nat), .pointer (some ⟨b, 0, none⟩), .int .i64 n, .bool true, .bool false, .int .i64 n, .pointer (some ⟨b, 0, none⟩), .bool true, .bool false, .pointer (some ⟨b, 0, none⟩), .int .i64 n, .int .i64 n, .func (.func 134) #[] #[.pointer (some ⟨bs, 0, none⟩), .pointer (some ⟨bf, 0, none⟩), .pointer (some ⟨bt, 0, none⟩)], .int .i64 (x : Nat), undef, undef, undef, undef, undef, undef], defers := [] }) ?hAx ?assign ?body ?iter ?done ?stop
      case hI => exact fun k S A C hg ⟨h1, ⟨h2, h3, h4⟩, h5, h6⟩ => ⟨cell_grow hg h1, ⟨cell_grow hg h2, cell_grow hg h3, cell_grow hg h4⟩, h5.grow hg, moved_grow h6 hg hlz⟩
      case hIx => exact fun c k S A C hg h => h.elim
      case hR => exact fun k S V h => ⟨h.2.1.1, h.2.1.2.1, h.2.1.2.2, g, _, h.2.2.1, (HAL.out pl k).len, (HAL.out pl k).r, (HAL.out pl k).c, (HAL.out pl k).P⟩
      case hAx => exact fun k S x a A C hg ⟨⟨h1, ⟨h2, h3, h4⟩, h5, h6⟩, h8, h9⟩ => ⟨⟨cell_grow hg h1, ⟨cell_grow hg h2, cell_grow hg h3, cell_grow hg h4⟩, h5.grow hg, moved_grow h6 hg hlz⟩, h8, h9⟩
      case iter => exact fun o1 o2 _ _ => HSQ.out bs bf bt _
      case assign =>
        rintro l' k x S V KK hk hx1 hi' hsz hK
        have HK := hid hK
        have HI := hid hi'
        clear hK hi'
        gi_wp2
        exact HK.out _ _ (Touch.refl _ _ _) ⟨HI.out, hx1, by first | rfl | simp⟩
      case body =>
        rintro l' k x S a' V hk ⟨hJ, hx, rfl⟩ hsz
        have HJ := hid hJ
        have hxm := HMB.out x (List.mem_of_getElem? hx)
        have hxk : pl.getD k 0 = x := by rw [List.getD_eq_getElem?_getD, hx]; rfl
        have hDR : clrR s pl (k + 1) = (clrR s pl k).putC (x : Nat) 0 := by rw [← hxk]; rfl
        rw [hDR]
        have HPUk := hid (HPU.out (x : Int) 0 (i64_small (by omega) (by omega)) u8_zero V _ hJ.2.2.1)
        have c1 := hJ.1
        have l1 := World.block_lt_of_cell? V _ c1
        have hbm : b < w1.heap.size := by omega
        have hgm : g < w1.heap.size := by omega
        clear hJ hx hxk hDR
        gi_wp2
        refine ⟨trivial, fun _ => (by omega), ?_⟩
        refine (callsIn_wide.2 HPUk.out).mono ?_
        rintro e w5 ⟨⟨v5, rfl⟩, hs5, hm5⟩
        have HS5 := hid hs5
        have HM5 := hid hm5
        clear hs5 hm5
        gi_wp2
        obtain ⟨j1, ⟨j2, j3, j4⟩, j5, j6⟩ := HJ.out
        have q1 : ∀ i u, V.cell? ⟨i, 0, none⟩ = some u → i ≠ b → i ≠ g → w5.cell? ⟨i, 0, none⟩ = some u := fun i u hu h1 h2 => cell_moved HM5.out hu (by simp; omega)
        exact ⟨S, touch_old HM5.out hbm hgm S, q1 _ _ j1 (by omega) (by omega), ⟨q1 _ _ j2 (by omega) (by omega), q1 _ _ j3 (by omega) (by omega), q1 _ _ j4 (by omega) (by omega)⟩, HS5.out, j6.trans HM5.out⟩
      case done =>
        rintro D S V hD ⟨h1, h2, h3, h4⟩ hK
        have l1 := World.block_lt_of_cell? V _ h1
        have HMOk := hid (HMO.out V _ h3)
        have HK := hid hK
        have H4 := hid h4
        have hDn : D ∉ [b, g] := by simp; omega
        clear hK h4 h3 h2
        gi_wp2
        refine ⟨trivial, fun _ => (by omega), ?_⟩
        refine (callsIn_wide.2 HMOk.out).mono ?_
        rintro e w6 ⟨rfl, hs6, hm6⟩
        have HS6 := hid hs6
        have HM6 := hid (H4.out.trans hm6)
        have HD6 := hid ((hm6.block D (Array.getElem?_eq_some_iff.1 HK.out).1 hDn).trans HK.out)
        clear hs6 hm6
        gi_wp2
        refine ⟨by simp, .inl ⟨_, _, rfl, run_takeDeferred HD6.out, ?_⟩⟩
        have hg := Grow.put (m := w1.heap.size) (.deferred none) hD HD6.out rfl
        exact ⟨.bool true, by simp [results, Try.f34, go_sem], rfl, HS6.out.grow hg, moved_grow HM6.out hg hlz⟩
      case stop => exact fun _ _ _ _ _ _ _ h => h.elim
end
end Go.Proofs.Ytpehhinpohmpiaa
