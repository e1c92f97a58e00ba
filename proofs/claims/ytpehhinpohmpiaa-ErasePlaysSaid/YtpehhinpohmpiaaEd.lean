/-
  Deleting a character: what it leaves, and the program's Delete.
-/
import Derived.Test.YtpehhinpohmpiaaEc
namespace Go.Proofs.Ytpehhinpohmpiaa
open Go.RowKit Go.Lib Go.Deep

theorem putC_at (s : Spc) (n x : Int) (i : Nat) : ((s.putC n x).cel i).at_ = (s.cel i).at_ := by
  unfold Spc.putC
  split
  · rfl
  · rename_i ha
    unfold Spc.setC
    rw [Spc.put1_cel]
    split
    · rename_i hc
      rw [fit_at, hc.1]
      rfl
    · rfl
theorem putC_P (s : Spc) (n x : Int) : (s.putC n x).P = s.P := funext fun i => putC_at s n x i
theorem putC_mo (s : Spc) (n x : Int) : (s.putC n x).mo = s.mo ∧ (s.putC n x).alt = s.alt ∧ (s.putC n x).cu = s.cu := by
  unfold Spc.putC
  split
  · exact ⟨rfl, rfl, rfl⟩
  · exact ⟨rfl, rfl, rfl⟩
/-- The same size, the same attributes' places. -/
structure Alike (s t : Spc) : Prop where
  len : t.L.length = s.L.length
  r : t.r = s.r
  c : t.c = s.c
  P : t.P = s.P
theorem Alike.refl (s : Spc) : Alike s s := ⟨rfl, rfl, rfl, rfl⟩
theorem Alike.put {s t : Spc} (h : Alike s t) (n x : Int) : Alike s (t.putC n x) := by
  obtain ⟨h1, h2, h3⟩ := putC_mo t n x
  exact ⟨(putC_len t n x).trans h.len, (by unfold Spc.r; rw [h1, h2]; exact h.r), (by unfold Spc.c; rw [h1, h2]; exact h.c), (putC_P t n x).trans h.P⟩
theorem Alike.wr {s t : Spc} (h : Alike s t) (n : Int) : t.wr n = s.wr n := by unfold Spc.wr; rw [h.len]
/-- The place that was last. -/
def lastZ (n : Int) (pl : List Nat) (k : Nat) : Int := if k = 0 then n else (pl.getD (k - 1) 0 : Nat)
theorem lastZ_succ {n : Int} {pl : List Nat} {k x : Nat} (h : pl[k]? = some x) : lastZ n pl (k + 1) = (x : Int) := by
  unfold lastZ
  rw [if_neg (by omega), Nat.add_sub_cancel, List.getD_eq_getElem?_getD, h]
  rfl
/-- The characters move, one by one. -/
def delR (s : Spc) (n : Int) (pl : List Nat) : Nat → Spc
  | 0 => s
  | k + 1 => (delR s n pl k).putC (lastZ n pl k) ((delR s n pl k).cel (pl.getD k 0)).ch
theorem delR_alike (s : Spc) (n : Int) (pl : List Nat) : ∀ k, Alike s (delR s n pl k)
  | 0 => Alike.refl s
  | k + 1 => (delR_alike s n pl k).put _ _
theorem delR_ok {s : Spc} (h : s.OK) (n : Int) (pl : List Nat) : ∀ k, (delR s n pl k).OK
  | 0 => h
  | k + 1 => (delR_ok h n pl k).putC _ ((delR_ok h n pl k).cel _).ch
/-- What Delete leaves. -/
def rowS (s : Spc) (n : Int) : List Nat := rowL s.P s.L.length s.c (s.wr n)
def delS (s : Spc) (n : Int) : Spc := modS ((delR s n (rowS s n) (rowS s n).length).putC (lastZ n (rowS s n) (rowS s n).length) 0) n
theorem moved_newc {w A : World} {S S' : List Nat} (h : Moved w A S S') {i : Nat} (hi : w.heap.size ≤ i) (o : Nat) (u : Value) : Moved w (A.setCell ⟨i, o, none⟩ u) S S' :=
  ⟨h.os, h.tape, h.output, by have := h.size; simp [World.setCell]; omega, fun k hk hs => (Go.heap_setCell_other A ⟨i, o, none⟩ k u (by simp; omega)).trans (h.block k hk hs), h.from'⟩
theorem touch_old {m : Nat} {A C : World} {b g : Nat} (h : Moved A C [b, g] [b, g]) (hb : b < m) (hg : g < m) (S : List Nat) : Touch m A C S S :=
  ⟨h.size, fun k hm hk _ => h.block k hk (by simp; omega), fun _ q => .inl q⟩
section
variable {b g : Nat} {s : Spc}
attribute [local go_sem] Oper.semAt_some
set_option maxRecDepth 100000 in
set_option maxHeartbeats 16000000 in
theorem delete_in (m : Nat) (hm : 8 ≤ m) (n : Int) (hn : I64 n) (w : World) (h : SpM w b g s) :
    CallsIn Fence.wide m Try.prog 28 #[.pointer (some ⟨b, 0, none⟩), .int .i64 n] w fun e w' => e = .returned (.bool (openB s n)) ∧ SpM w' b g (if openB s n then delS s n else s) ∧ Moved w w' [b, g] [b, g] := by
  have hok := h.ok
  have hN := hok.pos
  have hbw := h.lt.1
  have hgw := h.lt.2
  have HOP := hid (fun W h => open_any (b := b) (g := g) (s := s) n hn W h)
  have HSP := hid h
  have HMO := hid (fun W (t : Spc) (ht : SpM W b g t) => modify_any (b := b) (g := g) (s := t) n hn W ht)
  have HPU := hid (fun (q x : Int) (hq : I64 q) (hx : U8 x) W (t : Spc) (ht : SpM W b g t) => put_any (b := b) (g := g) (s := t) q hq x hx W ht)
  have HSQ := hid (fun bx by_ V => (show SeqF Fence.wide (m - 1) Try.prog 78 #[.pointer (some ⟨bx, 0, none⟩), .pointer (some ⟨by_, 0, none⟩)] encI (fun k x _ => (rowS s n)[k]? = some x) (rowS s n).length (RRo bx by_ b s.L.length s.r s.c n s.P) V from row_seq (m - 1) (by omega) bx by_ b s.L.length s.r s.c n hok.sz hok.len.symm hn s.P V))
  have hMB : ∀ x ∈ rowS s n, x < s.L.length := fun x hx => by
    obtain ⟨k, hk, rfl⟩ := List.mem_iff_getElem.1 hx
    have q := rowF_get s.P s.L.length s.c ((s.wr n : Int) / s.c) s.L.length (s.wr n) k hk
    have e : (rowS s n)[k] = s.wr n + k := by
      have q1 := q.1
      rw [show rowF s.P s.L.length s.c ((s.wr n : Int) / s.c) s.L.length (s.wr n) = rowS s n from rfl, List.getElem?_eq_getElem hk] at q1
      injection q1
    rw [e]
    have q2 := q.2
    unfold inB at q2
    simp at q2
    exact q2.1
  have HMB := hid hMB
  have HAL := hid (fun k => delR_alike s n (rowS s n) k)
  have HOK := hid (fun k => delR_ok hok n (rowS s n) k)
  unfold delS
  generalize rowS s n = pl at HSQ HMB HAL HOK ⊢
  have hLZ : ∀ k, k ≤ pl.length → I64 (lastZ n pl k) := fun k hk => by
    unfold lastZ
    split
    · exact hn
    · have := HMB.out (pl.getD (k - 1) 0) (by rw [List.getD_eq_getElem?_getD, List.getElem?_eq_getElem (by omega)]; exact List.getElem_mem _)
      exact i64_small (by omega) (by omega)
  have HLZ := hid hLZ
  clear h hn hMB hLZ
  cases ho : openB s n
  · rw [ho] at HOP
    rw [if_neg (by simp)]
    clear ho
    refine callsIn_of_wp_marks Try.func28 rfl trivial ?_ rfl
    simp only [Try.ntmps28, List.size_toArray, List.length_cons, List.length_nil, Nat.reduceAdd, Nat.reduceSub, Array.replicate_succ, Array.replicate_zero, List.push_toArray, List.append_toArray, List.nil_append, List.cons_append]
    gi_wp2
    refine ⟨trivial, fun _ => (by omega), ?_⟩
    refine (callsIn_wide.2 (HOP.out _ (HSP.out.below (bal (Below.refl _ _) _)))).mono ?_
    rintro e w1 ⟨rfl, hb1⟩
    have HB1 := hid (blw hb1)
    clear hb1
    gi_wp2
    exact ⟨_, by simp [results, Try.f28, go_sem], rfl, HSP.out.below HB1.out, Moved.below HB1.out _⟩
  · rw [ho] at HOP
    rw [if_pos rfl]
    clear ho
    refine callsIn_of_wp_marks Try.func28 rfl trivial ?_ rfl
    simp only [Try.ntmps28, List.size_toArray, List.length_cons, List.length_nil, Nat.reduceAdd, Nat.reduceSub, Array.replicate_succ, Array.replicate_zero, List.push_toArray, List.append_toArray, List.nil_append, List.cons_append]
    gi_wp2
    obtain ⟨a0, ha0⟩ : ∃ a0, w.alloc (.cells #[.pointer (some ⟨b, 0, none⟩)] 25) = a0 := ⟨_, rfl⟩
    have hz0' : a0.heap.size = w.heap.size + 1 := by rw [← ha0]; simp
    have HA0 := hid (show Below w.heap.size w a0 ∧ a0.cell? ⟨w.heap.size, 0, none⟩ = some (.pointer (some ⟨b, 0, none⟩)) from ⟨by rw [← ha0]; exact bal (Below.refl _ _) _, by rw [← ha0]; simp [go_sem]⟩)
    simp only [ha0]
    clear ha0
    refine ⟨trivial, fun _ => (by omega), ?_⟩
    refine (callsIn_wide.2 (HOP.out _ (HSP.out.below HA0.out.1))).mono ?_
    rintro e w0 ⟨rfl, hb0⟩
    have h0c := keepc hb0 HA0.out.2
    have hl0 := World.block_lt_of_cell? w0 _ h0c
    have H0 := hid (show Below w.heap.size w w0 ∧ w0.cell? ⟨w.heap.size, 0, none⟩ = some (.pointer (some ⟨b, 0, none⟩)) from ⟨below_t HA0.out.1 hb0, h0c⟩)
    clear hb0 HA0
    gi_wp2
    obtain ⟨lb, hlb⟩ : ∃ lb, w0.heap.size = lb := ⟨_, rfl⟩
    obtain ⟨a1, ha1⟩ : ∃ a1, w0.alloc (.cells #[.int .i64 n] 3) = a1 := ⟨_, rfl⟩
    have hz1' : a1.heap.size = lb + 1 := by rw [← ha1, ← hlb]; simp
    have H1 := hid (show Below w0.heap.size w0 a1 ∧ a1.cell? ⟨lb, 0, none⟩ = some (.int .i64 n) ∧ a1.frozen? ⟨lb, 0, none⟩ = false from ⟨by rw [← ha1]; exact bal (Below.refl _ _) _, by rw [← ha1, ← hlb]; simp [go_sem], by rw [← ha1, ← hlb]; simp [go_sem]⟩)
    simp only [ha1, hlb]
    clear ha1 h0c
    refine ⟨trivial, fun _ => (by omega), ?_⟩
    refine (callsIn_wide.2 (rowIt (some ⟨b, 0, none⟩) n _)).mono ?_
    rintro e w1 ⟨bx, by_, rfl, hbx, hby, hcx, hcy, hb1⟩
    have HB1 := hid (below_t H0.out.1 (below_t H1.out.1 hb1))
    have hzw := hb1.size
    have hlz : w.heap.size ≤ w1.heap.size := by omega
    have HI0 := hid (show w1.cell? ⟨w.heap.size, 0, none⟩ = some (.pointer (some ⟨b, 0, none⟩)) ∧ w1.cell? ⟨lb, 0, none⟩ = some (.int .i64 (lastZ n pl 0)) ∧ w1.frozen? ⟨lb, 0, none⟩ = false ∧ w1.cell? ⟨bx, 0, none⟩ = some (.pointer (some ⟨b, 0, none⟩)) ∧ w1.cell? ⟨by_, 0, none⟩ = some (.int .i64 n) ∧ SpM w1 b g (delR s n pl 0) ∧ Moved w w1 [b, g] [b, g] from ⟨keepc hb1 (keepc H1.out.1 H0.out.2), keepc hb1 H1.out.2.1, (hb1.frozen (p := ⟨lb, 0, none⟩) (by show lb < a1.heap.size; omega)).trans H1.out.2.2, hcx, hcy, HSP.out.below HB1.out, Moved.below HB1.out _⟩)
    have hbx' : lb + 1 ≤ bx := by omega
    have hby' : lb + 1 ≤ by_ := by omega
    have hlbw : w.heap.size < lb := by omega
    have hl1' : lb < w1.heap.size := by omega
    clear hb1 hcx hcy hbx hby H0 H1
    gi_wp2
    refine rangeFunc_seq (n := m) (w := w1) rfl (by omega) (gf := 78) (lb := #[.pointer (some ⟨bx, 0, none⟩), .pointer (some ⟨by_, 0, none⟩)]) rfl trivial (enters_of Try.func78 (by kernel_rfl) rfl)
      (encs := encI) (fun _ => rfl) (el := fun k x _ => pl[k]? = some x) (N := pl.length) (R := RRo bx by_ b s.L.length s.r s.c n s.P)
      (fun k S V => V.cell? ⟨w.heap.size, 0, none⟩ = some (.pointer (some ⟨b, 0, none⟩)) ∧ V.cell? ⟨lb, 0, none⟩ = some (.int .i64 (lastZ n pl k)) ∧ V.frozen? ⟨lb, 0, none⟩ = false ∧ V.cell? ⟨bx, 0, none⟩ = some (.pointer (some ⟨b, 0, none⟩)) ∧ V.cell? ⟨by_, 0, none⟩ = some (.int .i64 n) ∧ SpM V b g (delR s n pl k) ∧ Moved w V [b, g] [b, g]) (fun _ _ _ _ => False) ?hI ?hIx ?hR HI0.out
      (fun k S x a V => (V.cell? ⟨w.heap.size, 0, none⟩ = some (.pointer (some ⟨b, 0, none⟩)) ∧ V.cell? ⟨lb, 0, none⟩ = some (.int .i64 (lastZ n pl k)) ∧ V.frozen? ⟨lb, 0, none⟩ = false ∧ V.cell? ⟨bx, 0, none⟩ = some (.pointer (some ⟨b, 0, none⟩)) ∧ V.cell? ⟨by_, 0, none⟩ = some (.int .i64 n) ∧ SpM V b g (delR s n pl k) ∧ Moved w V [b, g] [b, g]) ∧ pl[k]? = some x ∧ a = { tmps := #[.pointer (some ⟨b, 0, none⟩), .int .i64 n, .pointer (some ⟨w.heap.size, 0, none⟩), undef, .bool false, .pointer (some ⟨lb, 0, none⟩), .int .i64 (x : Nat), .pointer (some ⟨b, 0, none⟩), .int .i64 n, .bool true, .bool false, .int .i64 n, .pointer (some ⟨b, 0, none⟩), .int .i64 n, .func (.func 78) #[] #[.pointer (some ⟨bx, 0, none⟩), .pointer (some ⟨by_, 0, none⟩)], .int .i64 (x : Nat), undef, undef, undef, undef, undef, undef, undef, undef, undef, undef, undef, undef, undef, undef], defers := [] }) ?hAx ?assign ?body ?iter ?done ?stop
    case hI => exact fun k S A C hg ⟨h1, h2, h3, h4, h5, h6, h7⟩ => ⟨cell_grow hg h1, cell_grow hg h2, frozen_grow hg h2 h3, cell_grow hg h4, cell_grow hg h5, h6.grow hg, moved_grow h7 hg hlz⟩
    case hIx => exact fun c k S A C hg h => h.elim
    case hR => exact fun k S V h => ⟨h.2.2.2.1, h.2.2.2.2.1, g, _, h.2.2.2.2.2.1, (HAL.out k).len, (HAL.out k).r, (HAL.out k).c, (HAL.out k).P⟩
    case hAx => exact fun k S x a A C hg ⟨⟨h1, h2, h3, h4, h5, h6, h7⟩, h8, h9⟩ => ⟨⟨cell_grow hg h1, cell_grow hg h2, frozen_grow hg h2 h3, cell_grow hg h4, cell_grow hg h5, h6.grow hg, moved_grow h7 hg hlz⟩, h8, h9⟩
    case iter => exact fun o1 o2 _ _ => HSQ.out bx by_ _
    case assign =>
      rintro l' k x S V KK hk hx1 hi' hsz hK
      have HK := hid hK
      have HI := hid hi'
      clear hK hi'
      gi_wp2
      exact HK.out _ _ (Touch.refl _ _ _) ⟨HI.out, hx1, by simp⟩
    case body =>
      rintro l' k x S a' V hk ⟨hJ, hx, rfl⟩ hsz
      have HJ := hid hJ
      have hxm := HMB.out x (List.mem_of_getElem? hx)
      have hxk : pl.getD k 0 = x := by rw [List.getD_eq_getElem?_getD, hx]; rfl
      have HLS := hid (lastZ_succ (n := n) hx)
      have hDR : delR s n pl (k + 1) = (delR s n pl k).putC (lastZ n pl k) ((delR s n pl k).cel x).ch := by rw [← hxk]; rfl
      rw [hDR]
      have HSV := hid hJ.2.2.2.2.2.1
      have hxl : x < (delR s n pl k).L.length := by rw [(HAL.out k).len]; exact hxm
      have HATx := hid (fun W (hb : Below V.heap.size V W) => (show Calls Try.prog 20 #[.pointer (some ⟨b, 0, none⟩), .int .i64 (x : Nat)] W fun e w' => e = .returned ((delR s n pl k).cel x).v ∧ Below W.heap.size W w' from by
        have q1 := at_any (b := b) (g := g) (s := delR s n pl k) (x : Int) (i64_small (by omega) (by omega)) W (hJ.2.2.2.2.2.1.below hb)
        unfold Spc.atC at q1
        rwa [wr_nat hxl] at q1))
      have hch := ((HOK.out k).cel x).ch
      generalize (delR s n pl k).cel x = c at HATx hch ⊢
      obtain ⟨x0, x1, x2, x3, x4, x5⟩ := c
      dsimp only at hch ⊢
      have HPUk := hid (fun W (hW : SpM W b g (delR s n pl k)) => HPU.out (lastZ n pl k) x0 (HLZ.out k (by omega)) hch W _ hW)
      have hf0 := celf0
      obtain ⟨V0, hV0⟩ : ∃ V0, V.drew = V0 := ⟨_, rfl⟩
      have HB0 := hid (show Below V.heap.size V V0 by rw [← hV0]; exact (Below.refl _ _).drew)
      have hl2 := World.block_lt_of_cell? V _ hJ.2.1
      have hf2 := hJ.2.2.1
      have c1 := keepc HB0.out hJ.1
      have c2 := keepc HB0.out hJ.2.1
      have l1 := World.block_lt_of_cell? V0 _ c1
      have l2 := World.block_lt_of_cell? V0 _ c2
      have hnb : lb ∉ [b, g] := by simp; omega
      have hbm : b < w1.heap.size := by omega
      have hgm : g < w1.heap.size := by omega
      generalize lastZ n pl k = z at HPUk c2 ⊢
      clear hJ hx hxk hDR hxl hch
      gi_wp2
      refine wpIn_region_round (by kernel_rfl) (by kernel_rfl) ?_
      rw [hV0]
      refine wpAnyIn_take (i := 3) (v := .int .i64 (x : Nat)) (fuel := 6) rfl rfl (by kernel_rfl) (by kernel_rfl) (by kernel_rfl) (fun _ _ _ h => h) ⟨Or.inl ⟨by rfl, fun w => ?_⟩, fun _ => rfl⟩ ?_
      · go_simp
        try with_reducible rfl
      simp only [Act.put, List.setIfInBounds_toArray, List.set_cons_zero, List.set_cons_succ]
      refine wpAnyIn_ready (rs := [0, 1, 2]) (by kernel_rfl) (by simp) ?_
      refine AllReadyIn.cons (by simp only [List.getElem?_toArray, List.getElem?_cons_zero]; rfl) (fun K hK => ?_) (AllReadyIn.cons (by simp only [List.getElem?_toArray, List.getElem?_cons_succ, List.getElem?_cons_zero]; rfl) (fun K hK => ?_) (AllReadyIn.cons (by simp only [List.getElem?_toArray, List.getElem?_cons_succ, List.getElem?_cons_zero]; rfl) (fun K hK => ?_) AllReadyIn.nil))
      · go_simp
        refine hK _ _ ?_
        clear hK K
        (try simp only [Act.put, List.setIfInBounds_toArray, List.set_cons_zero, List.set_cons_succ])
        refine wpAnyIn_ready (rs := [1, 2]) (by kernel_rfl) (by simp) ?_
        refine AllReadyIn.cons (by simp only [List.getElem?_toArray, List.getElem?_cons_succ, List.getElem?_cons_zero]; rfl) (fun K hK => ?_) (AllReadyIn.cons (by simp only [List.getElem?_toArray, List.getElem?_cons_succ, List.getElem?_cons_zero]; rfl) (fun K hK => ?_) AllReadyIn.nil)
        · go_simp
          refine hK _ _ ?_
          clear hK K
          (try simp only [Act.put, List.setIfInBounds_toArray, List.set_cons_zero, List.set_cons_succ])
          refine wpAnyIn_ready (rs := [2]) (by kernel_rfl) (by simp) ?_
          refine AllReadyIn.cons (by simp only [List.getElem?_toArray, List.getElem?_cons_succ, List.getElem?_cons_zero]; rfl) (fun K hK => ?_) AllReadyIn.nil
          · go_simp
            refine hK _ _ ?_
            clear hK K
            (try simp only [Act.put, List.setIfInBounds_toArray, List.set_cons_zero, List.set_cons_succ])
            refine wpAnyIn_ready (rs := [4]) (by kernel_rfl) (by simp) ?_
            refine AllReadyIn.cons (by simp only [List.getElem?_toArray, List.getElem?_cons_succ, List.getElem?_cons_zero]; rfl) (fun K hK => ?_) AllReadyIn.nil
            · go_simp
              refine ⟨trivial, fun _ => (by omega), ?_⟩
              refine (callsIn_wide.2 (HATx.out _ HB0.out)).mono ?_
              rintro e w4 ⟨rfl, hb4⟩
              refine hK _ _ ?_
              clear hK K
              have HB4 := hid (below_t HB0.out hb4)
              have d1 := keepc hb4 c1
              have d2 := keepc hb4 c2
              have e1 := World.block_lt_of_cell? w4 _ d1
              have e2 := World.block_lt_of_cell? w4 _ d2
              clear hb4
              (try simp only [Act.put, List.setIfInBounds_toArray, List.set_cons_zero, List.set_cons_succ])
              refine wpAnyIn_take (i := 5) (v := .int .u8 x0) (fuel := 1) rfl rfl (by kernel_rfl) (by kernel_rfl) (by kernel_rfl) (fun _ _ _ h => h) ⟨Or.inl ⟨by rfl, fun w => ?_⟩, fun _ => rfl⟩ ?_
              · go_simp
                try with_reducible rfl
              simp only [Act.put, List.setIfInBounds_toArray, List.set_cons_zero, List.set_cons_succ]
              refine wpAnyIn_ready (rs := [6]) (by kernel_rfl) (by simp) ?_
              refine AllReadyIn.cons (by simp only [List.getElem?_toArray, List.getElem?_cons_succ, List.getElem?_cons_zero]; rfl) (fun K hK => ?_) AllReadyIn.nil
              · go_simp
                refine ⟨trivial, fun _ => (by omega), ?_⟩
                refine (callsIn_wide.2 (HPUk.out _ (HSV.out.below HB4.out))).mono ?_
                rintro e w5 ⟨⟨v5, rfl⟩, hs5, hm5⟩
                refine hK _ _ ?_
                clear hK K
                have HS5 := hid hs5
                have HM5 := hid hm5
                have hf5 : w5.frozen? ⟨lb, 0, none⟩ = false := (World.frozen?_of_block (a := ⟨lb, 0, none⟩) (hm5.block _ e2 hnb)).trans ((HB4.out.frozen (p := ⟨lb, 0, none⟩) hl2).trans hf2)
                have d2' := cell_moved hm5 d2 hnb
                have e2' := World.block_lt_of_cell? w5 _ d2'
                clear hs5 hm5
                (try simp only [Act.put, List.setIfInBounds_toArray, List.set_cons_zero, List.set_cons_succ])
                refine wpAnyIn_done (by kernel_rfl) ?_ _
                gi_wp2
                have q1 : ∀ i u, V.cell? ⟨i, 0, none⟩ = some u → i ≠ b → i ≠ g → i ≠ lb → (w5.setCell ⟨lb, 0, none⟩ (.int .i64 (x : Nat))).cell? ⟨i, 0, none⟩ = some u := fun i u hu h1 h2 h3 => (World.cell?_setCell_far w5 ⟨lb, 0, none⟩ ⟨i, 0, none⟩ _ (by simp; omega)).trans (cell_moved HM5.out (keepc HB4.out hu) (by simp; omega))
                obtain ⟨j1, j2, j3, j4, j5, j6, j7⟩ := HJ.out
                have hmv : Moved w5 (w5.setCell ⟨lb, 0, none⟩ (.int .i64 (x : Nat))) [lb] [lb] := Moved.set (by simp) 0 _
                refine ⟨S, ((Touch.below HB4.out _ S).trans (touch_old HM5.out hbm hgm S)).trans (Touch.set w5 ⟨lb, 0, none⟩ _ (.inl hl1')), q1 _ _ j1 (by omega) (by omega) (by omega), ?_, by simp [hf5], q1 _ _ j4 (by omega) (by omega) (by omega), q1 _ _ j5 (by omega) (by omega) (by omega), HS5.out.moved hmv (by simp; omega) (by simp; omega), ?_⟩
                · rw [HLS.out]
                  exact sc_same d2'
                · exact moved_newc ((j7.trans (Moved.below HB4.out _)).trans HM5.out) (by omega) 0 _
        · go_simp
          refine hK _ _ ?_
          clear hK K
          (try simp only [Act.put, List.setIfInBounds_toArray, List.set_cons_zero, List.set_cons_succ])
          refine wpAnyIn_ready (rs := [1, 4]) (by kernel_rfl) (by simp) ?_
          refine AllReadyIn.cons (by simp only [List.getElem?_toArray, List.getElem?_cons_succ, List.getElem?_cons_zero]; rfl) (fun K hK => ?_) (AllReadyIn.cons (by simp only [List.getElem?_toArray, List.getElem?_cons_succ, List.getElem?_cons_zero]; rfl) (fun K hK => ?_) AllReadyIn.nil)
          · go_simp
            refine hK _ _ ?_
            clear hK K
            (try simp only [Act.put, List.setIfInBounds_toArray, List.set_cons_zero, List.set_cons_succ])
            refine wpAnyIn_ready (rs := [4]) (by kernel_rfl) (by simp) ?_
            refine AllReadyIn.cons (by simp only [List.getElem?_toArray, List.getElem?_cons_succ, List.getElem?_cons_zero]; rfl) (fun K hK => ?_) AllReadyIn.nil
            · go_simp
              refine ⟨trivial, fun _ => (by omega), ?_⟩
              refine (callsIn_wide.2 (HATx.out _ HB0.out)).mono ?_
              rintro e w4 ⟨rfl, hb4⟩
              refine hK _ _ ?_
              clear hK K
              have HB4 := hid (below_t HB0.out hb4)
              have d1 := keepc hb4 c1
              have d2 := keepc hb4 c2
              have e1 := World.block_lt_of_cell? w4 _ d1
              have e2 := World.block_lt_of_cell? w4 _ d2
              clear hb4
              (try simp only [Act.put, List.setIfInBounds_toArray, List.set_cons_zero, List.set_cons_succ])
              refine wpAnyIn_take (i := 5) (v := .int .u8 x0) (fuel := 1) rfl rfl (by kernel_rfl) (by kernel_rfl) (by kernel_rfl) (fun _ _ _ h => h) ⟨Or.inl ⟨by rfl, fun w => ?_⟩, fun _ => rfl⟩ ?_
              · go_simp
                try with_reducible rfl
              simp only [Act.put, List.setIfInBounds_toArray, List.set_cons_zero, List.set_cons_succ]
              refine wpAnyIn_ready (rs := [6]) (by kernel_rfl) (by simp) ?_
              refine AllReadyIn.cons (by simp only [List.getElem?_toArray, List.getElem?_cons_succ, List.getElem?_cons_zero]; rfl) (fun K hK => ?_) AllReadyIn.nil
              · go_simp
                refine ⟨trivial, fun _ => (by omega), ?_⟩
                refine (callsIn_wide.2 (HPUk.out _ (HSV.out.below HB4.out))).mono ?_
                rintro e w5 ⟨⟨v5, rfl⟩, hs5, hm5⟩
                refine hK _ _ ?_
                clear hK K
                have HS5 := hid hs5
                have HM5 := hid hm5
                have hf5 : w5.frozen? ⟨lb, 0, none⟩ = false := (World.frozen?_of_block (a := ⟨lb, 0, none⟩) (hm5.block _ e2 hnb)).trans ((HB4.out.frozen (p := ⟨lb, 0, none⟩) hl2).trans hf2)
                have d2' := cell_moved hm5 d2 hnb
                have e2' := World.block_lt_of_cell? w5 _ d2'
                clear hs5 hm5
                (try simp only [Act.put, List.setIfInBounds_toArray, List.set_cons_zero, List.set_cons_succ])
                refine wpAnyIn_done (by kernel_rfl) ?_ _
                gi_wp2
                have q1 : ∀ i u, V.cell? ⟨i, 0, none⟩ = some u → i ≠ b → i ≠ g → i ≠ lb → (w5.setCell ⟨lb, 0, none⟩ (.int .i64 (x : Nat))).cell? ⟨i, 0, none⟩ = some u := fun i u hu h1 h2 h3 => (World.cell?_setCell_far w5 ⟨lb, 0, none⟩ ⟨i, 0, none⟩ _ (by simp; omega)).trans (cell_moved HM5.out (keepc HB4.out hu) (by simp; omega))
                obtain ⟨j1, j2, j3, j4, j5, j6, j7⟩ := HJ.out
                have hmv : Moved w5 (w5.setCell ⟨lb, 0, none⟩ (.int .i64 (x : Nat))) [lb] [lb] := Moved.set (by simp) 0 _
                refine ⟨S, ((Touch.below HB4.out _ S).trans (touch_old HM5.out hbm hgm S)).trans (Touch.set w5 ⟨lb, 0, none⟩ _ (.inl hl1')), q1 _ _ j1 (by omega) (by omega) (by omega), ?_, by simp [hf5], q1 _ _ j4 (by omega) (by omega) (by omega), q1 _ _ j5 (by omega) (by omega) (by omega), HS5.out.moved hmv (by simp; omega) (by simp; omega), ?_⟩
                · rw [HLS.out]
                  exact sc_same d2'
                · exact moved_newc ((j7.trans (Moved.below HB4.out _)).trans HM5.out) (by omega) 0 _
          · go_simp
            refine ⟨trivial, fun _ => (by omega), ?_⟩
            refine (callsIn_wide.2 (HATx.out _ HB0.out)).mono ?_
            rintro e w4 ⟨rfl, hb4⟩
            refine hK _ _ ?_
            clear hK K
            have HB4 := hid (below_t HB0.out hb4)
            have d1 := keepc hb4 c1
            have d2 := keepc hb4 c2
            have e1 := World.block_lt_of_cell? w4 _ d1
            have e2 := World.block_lt_of_cell? w4 _ d2
            clear hb4
            (try simp only [Act.put, List.setIfInBounds_toArray, List.set_cons_zero, List.set_cons_succ])
            refine wpAnyIn_take (i := 5) (v := .int .u8 x0) (fuel := 2) rfl rfl (by kernel_rfl) (by kernel_rfl) (by kernel_rfl) (fun _ _ _ h => h) ⟨Or.inl ⟨by rfl, fun w => ?_⟩, fun _ => rfl⟩ ?_
            · go_simp
              try with_reducible rfl
            simp only [Act.put, List.setIfInBounds_toArray, List.set_cons_zero, List.set_cons_succ]
            refine wpAnyIn_ready (rs := [1]) (by kernel_rfl) (by simp) ?_
            refine AllReadyIn.cons (by simp only [List.getElem?_toArray, List.getElem?_cons_succ, List.getElem?_cons_zero]; rfl) (fun K hK => ?_) AllReadyIn.nil
            · go_simp
              refine hK _ _ ?_
              clear hK K
              (try simp only [Act.put, List.setIfInBounds_toArray, List.set_cons_zero, List.set_cons_succ])
              refine wpAnyIn_ready (rs := [6]) (by kernel_rfl) (by simp) ?_
              refine AllReadyIn.cons (by simp only [List.getElem?_toArray, List.getElem?_cons_succ, List.getElem?_cons_zero]; rfl) (fun K hK => ?_) AllReadyIn.nil
              · go_simp
                refine ⟨trivial, fun _ => (by omega), ?_⟩
                refine (callsIn_wide.2 (HPUk.out _ (HSV.out.below HB4.out))).mono ?_
                rintro e w5 ⟨⟨v5, rfl⟩, hs5, hm5⟩
                refine hK _ _ ?_
                clear hK K
                have HS5 := hid hs5
                have HM5 := hid hm5
                have hf5 : w5.frozen? ⟨lb, 0, none⟩ = false := (World.frozen?_of_block (a := ⟨lb, 0, none⟩) (hm5.block _ e2 hnb)).trans ((HB4.out.frozen (p := ⟨lb, 0, none⟩) hl2).trans hf2)
                have d2' := cell_moved hm5 d2 hnb
                have e2' := World.block_lt_of_cell? w5 _ d2'
                clear hs5 hm5
                (try simp only [Act.put, List.setIfInBounds_toArray, List.set_cons_zero, List.set_cons_succ])
                refine wpAnyIn_done (by kernel_rfl) ?_ _
                gi_wp2
                have q1 : ∀ i u, V.cell? ⟨i, 0, none⟩ = some u → i ≠ b → i ≠ g → i ≠ lb → (w5.setCell ⟨lb, 0, none⟩ (.int .i64 (x : Nat))).cell? ⟨i, 0, none⟩ = some u := fun i u hu h1 h2 h3 => (World.cell?_setCell_far w5 ⟨lb, 0, none⟩ ⟨i, 0, none⟩ _ (by simp; omega)).trans (cell_moved HM5.out (keepc HB4.out hu) (by simp; omega))
                obtain ⟨j1, j2, j3, j4, j5, j6, j7⟩ := HJ.out
                have hmv : Moved w5 (w5.setCell ⟨lb, 0, none⟩ (.int .i64 (x : Nat))) [lb] [lb] := Moved.set (by simp) 0 _
                refine ⟨S, ((Touch.below HB4.out _ S).trans (touch_old HM5.out hbm hgm S)).trans (Touch.set w5 ⟨lb, 0, none⟩ _ (.inl hl1')), q1 _ _ j1 (by omega) (by omega) (by omega), ?_, by simp [hf5], q1 _ _ j4 (by omega) (by omega) (by omega), q1 _ _ j5 (by omega) (by omega) (by omega), HS5.out.moved hmv (by simp; omega) (by simp; omega), ?_⟩
                · rw [HLS.out]
                  exact sc_same d2'
                · exact moved_newc ((j7.trans (Moved.below HB4.out _)).trans HM5.out) (by omega) 0 _
      · go_simp
        refine hK _ _ ?_
        clear hK K
        (try simp only [Act.put, List.setIfInBounds_toArray, List.set_cons_zero, List.set_cons_succ])
        refine wpAnyIn_ready (rs := [0, 2]) (by kernel_rfl) (by simp) ?_
        refine AllReadyIn.cons (by simp only [List.getElem?_toArray, List.getElem?_cons_zero]; rfl) (fun K hK => ?_) (AllReadyIn.cons (by simp only [List.getElem?_toArray, List.getElem?_cons_succ, List.getElem?_cons_zero]; rfl) (fun K hK => ?_) AllReadyIn.nil)
        · go_simp
          refine hK _ _ ?_
          clear hK K
          (try simp only [Act.put, List.setIfInBounds_toArray, List.set_cons_zero, List.set_cons_succ])
          refine wpAnyIn_ready (rs := [2]) (by kernel_rfl) (by simp) ?_
          refine AllReadyIn.cons (by simp only [List.getElem?_toArray, List.getElem?_cons_succ, List.getElem?_cons_zero]; rfl) (fun K hK => ?_) AllReadyIn.nil
          · go_simp
            refine hK _ _ ?_
            clear hK K
            (try simp only [Act.put, List.setIfInBounds_toArray, List.set_cons_zero, List.set_cons_succ])
            refine wpAnyIn_ready (rs := [4]) (by kernel_rfl) (by simp) ?_
            refine AllReadyIn.cons (by simp only [List.getElem?_toArray, List.getElem?_cons_succ, List.getElem?_cons_zero]; rfl) (fun K hK => ?_) AllReadyIn.nil
            · go_simp
              refine ⟨trivial, fun _ => (by omega), ?_⟩
              refine (callsIn_wide.2 (HATx.out _ HB0.out)).mono ?_
              rintro e w4 ⟨rfl, hb4⟩
              refine hK _ _ ?_
              clear hK K
              have HB4 := hid (below_t HB0.out hb4)
              have d1 := keepc hb4 c1
              have d2 := keepc hb4 c2
              have e1 := World.block_lt_of_cell? w4 _ d1
              have e2 := World.block_lt_of_cell? w4 _ d2
              clear hb4
              (try simp only [Act.put, List.setIfInBounds_toArray, List.set_cons_zero, List.set_cons_succ])
              refine wpAnyIn_take (i := 5) (v := .int .u8 x0) (fuel := 1) rfl rfl (by kernel_rfl) (by kernel_rfl) (by kernel_rfl) (fun _ _ _ h => h) ⟨Or.inl ⟨by rfl, fun w => ?_⟩, fun _ => rfl⟩ ?_
              · go_simp
                try with_reducible rfl
              simp only [Act.put, List.setIfInBounds_toArray, List.set_cons_zero, List.set_cons_succ]
              refine wpAnyIn_ready (rs := [6]) (by kernel_rfl) (by simp) ?_
              refine AllReadyIn.cons (by simp only [List.getElem?_toArray, List.getElem?_cons_succ, List.getElem?_cons_zero]; rfl) (fun K hK => ?_) AllReadyIn.nil
              · go_simp
                refine ⟨trivial, fun _ => (by omega), ?_⟩
                refine (callsIn_wide.2 (HPUk.out _ (HSV.out.below HB4.out))).mono ?_
                rintro e w5 ⟨⟨v5, rfl⟩, hs5, hm5⟩
                refine hK _ _ ?_
                clear hK K
                have HS5 := hid hs5
                have HM5 := hid hm5
                have hf5 : w5.frozen? ⟨lb, 0, none⟩ = false := (World.frozen?_of_block (a := ⟨lb, 0, none⟩) (hm5.block _ e2 hnb)).trans ((HB4.out.frozen (p := ⟨lb, 0, none⟩) hl2).trans hf2)
                have d2' := cell_moved hm5 d2 hnb
                have e2' := World.block_lt_of_cell? w5 _ d2'
                clear hs5 hm5
                (try simp only [Act.put, List.setIfInBounds_toArray, List.set_cons_zero, List.set_cons_succ])
                refine wpAnyIn_done (by kernel_rfl) ?_ _
                gi_wp2
                have q1 : ∀ i u, V.cell? ⟨i, 0, none⟩ = some u → i ≠ b → i ≠ g → i ≠ lb → (w5.setCell ⟨lb, 0, none⟩ (.int .i64 (x : Nat))).cell? ⟨i, 0, none⟩ = some u := fun i u hu h1 h2 h3 => (World.cell?_setCell_far w5 ⟨lb, 0, none⟩ ⟨i, 0, none⟩ _ (by simp; omega)).trans (cell_moved HM5.out (keepc HB4.out hu) (by simp; omega))
                obtain ⟨j1, j2, j3, j4, j5, j6, j7⟩ := HJ.out
                have hmv : Moved w5 (w5.setCell ⟨lb, 0, none⟩ (.int .i64 (x : Nat))) [lb] [lb] := Moved.set (by simp) 0 _
                refine ⟨S, ((Touch.below HB4.out _ S).trans (touch_old HM5.out hbm hgm S)).trans (Touch.set w5 ⟨lb, 0, none⟩ _ (.inl hl1')), q1 _ _ j1 (by omega) (by omega) (by omega), ?_, by simp [hf5], q1 _ _ j4 (by omega) (by omega) (by omega), q1 _ _ j5 (by omega) (by omega) (by omega), HS5.out.moved hmv (by simp; omega) (by simp; omega), ?_⟩
                · rw [HLS.out]
                  exact sc_same d2'
                · exact moved_newc ((j7.trans (Moved.below HB4.out _)).trans HM5.out) (by omega) 0 _
        · go_simp
          refine hK _ _ ?_
          clear hK K
          (try simp only [Act.put, List.setIfInBounds_toArray, List.set_cons_zero, List.set_cons_succ])
          refine wpAnyIn_ready (rs := [0, 4]) (by kernel_rfl) (by simp) ?_
          refine AllReadyIn.cons (by simp only [List.getElem?_toArray, List.getElem?_cons_zero]; rfl) (fun K hK => ?_) (AllReadyIn.cons (by simp only [List.getElem?_toArray, List.getElem?_cons_succ, List.getElem?_cons_zero]; rfl) (fun K hK => ?_) AllReadyIn.nil)
          · go_simp
            refine hK _ _ ?_
            clear hK K
            (try simp only [Act.put, List.setIfInBounds_toArray, List.set_cons_zero, List.set_cons_succ])
            refine wpAnyIn_ready (rs := [4]) (by kernel_rfl) (by simp) ?_
            refine AllReadyIn.cons (by simp only [List.getElem?_toArray, List.getElem?_cons_succ, List.getElem?_cons_zero]; rfl) (fun K hK => ?_) AllReadyIn.nil
            · go_simp
              refine ⟨trivial, fun _ => (by omega), ?_⟩
              refine (callsIn_wide.2 (HATx.out _ HB0.out)).mono ?_
              rintro e w4 ⟨rfl, hb4⟩
              refine hK _ _ ?_
              clear hK K
              have HB4 := hid (below_t HB0.out hb4)
              have d1 := keepc hb4 c1
              have d2 := keepc hb4 c2
              have e1 := World.block_lt_of_cell? w4 _ d1
              have e2 := World.block_lt_of_cell? w4 _ d2
              clear hb4
              (try simp only [Act.put, List.setIfInBounds_toArray, List.set_cons_zero, List.set_cons_succ])
              refine wpAnyIn_take (i := 5) (v := .int .u8 x0) (fuel := 1) rfl rfl (by kernel_rfl) (by kernel_rfl) (by kernel_rfl) (fun _ _ _ h => h) ⟨Or.inl ⟨by rfl, fun w => ?_⟩, fun _ => rfl⟩ ?_
              · go_simp
                try with_reducible rfl
              simp only [Act.put, List.setIfInBounds_toArray, List.set_cons_zero, List.set_cons_succ]
              refine wpAnyIn_ready (rs := [6]) (by kernel_rfl) (by simp) ?_
              refine AllReadyIn.cons (by simp only [List.getElem?_toArray, List.getElem?_cons_succ, List.getElem?_cons_zero]; rfl) (fun K hK => ?_) AllReadyIn.nil
              · go_simp
                refine ⟨trivial, fun _ => (by omega), ?_⟩
                refine (callsIn_wide.2 (HPUk.out _ (HSV.out.below HB4.out))).mono ?_
                rintro e w5 ⟨⟨v5, rfl⟩, hs5, hm5⟩
                refine hK _ _ ?_
                clear hK K
                have HS5 := hid hs5
                have HM5 := hid hm5
                have hf5 : w5.frozen? ⟨lb, 0, none⟩ = false := (World.frozen?_of_block (a := ⟨lb, 0, none⟩) (hm5.block _ e2 hnb)).trans ((HB4.out.frozen (p := ⟨lb, 0, none⟩) hl2).trans hf2)
                have d2' := cell_moved hm5 d2 hnb
                have e2' := World.block_lt_of_cell? w5 _ d2'
                clear hs5 hm5
                (try simp only [Act.put, List.setIfInBounds_toArray, List.set_cons_zero, List.set_cons_succ])
                refine wpAnyIn_done (by kernel_rfl) ?_ _
                gi_wp2
                have q1 : ∀ i u, V.cell? ⟨i, 0, none⟩ = some u → i ≠ b → i ≠ g → i ≠ lb → (w5.setCell ⟨lb, 0, none⟩ (.int .i64 (x : Nat))).cell? ⟨i, 0, none⟩ = some u := fun i u hu h1 h2 h3 => (World.cell?_setCell_far w5 ⟨lb, 0, none⟩ ⟨i, 0, none⟩ _ (by simp; omega)).trans (cell_moved HM5.out (keepc HB4.out hu) (by simp; omega))
                obtain ⟨j1, j2, j3, j4, j5, j6, j7⟩ := HJ.out
                have hmv : Moved w5 (w5.setCell ⟨lb, 0, none⟩ (.int .i64 (x : Nat))) [lb] [lb] := Moved.set (by simp) 0 _
                refine ⟨S, ((Touch.below HB4.out _ S).trans (touch_old HM5.out hbm hgm S)).trans (Touch.set w5 ⟨lb, 0, none⟩ _ (.inl hl1')), q1 _ _ j1 (by omega) (by omega) (by omega), ?_, by simp [hf5], q1 _ _ j4 (by omega) (by omega) (by omega), q1 _ _ j5 (by omega) (by omega) (by omega), HS5.out.moved hmv (by simp; omega) (by simp; omega), ?_⟩
                · rw [HLS.out]
                  exact sc_same d2'
                · exact moved_newc ((j7.trans (Moved.below HB4.out _)).trans HM5.out) (by omega) 0 _
          · go_simp
            refine ⟨trivial, fun _ => (by omega), ?_⟩
            refine (callsIn_wide.2 (HATx.out _ HB0.out)).mono ?_
            rintro e w4 ⟨rfl, hb4⟩
            refine hK _ _ ?_
            clear hK K
            have HB4 := hid (below_t HB0.out hb4)
            have d1 := keepc hb4 c1
            have d2 := keepc hb4 c2
            have e1 := World.block_lt_of_cell? w4 _ d1
            have e2 := World.block_lt_of_cell? w4 _ d2
            clear hb4
            (try simp only [Act.put, List.setIfInBounds_toArray, List.set_cons_zero, List.set_cons_succ])
            refine wpAnyIn_take (i := 5) (v := .int .u8 x0) (fuel := 2) rfl rfl (by kernel_rfl) (by kernel_rfl) (by kernel_rfl) (fun _ _ _ h => h) ⟨Or.inl ⟨by rfl, fun w => ?_⟩, fun _ => rfl⟩ ?_
            · go_simp
              try with_reducible rfl
            simp only [Act.put, List.setIfInBounds_toArray, List.set_cons_zero, List.set_cons_succ]
            refine wpAnyIn_ready (rs := [0]) (by kernel_rfl) (by simp) ?_
            refine AllReadyIn.cons (by simp only [List.getElem?_toArray, List.getElem?_cons_zero]; rfl) (fun K hK => ?_) AllReadyIn.nil
            · go_simp
              refine hK _ _ ?_
              clear hK K
              (try simp only [Act.put, List.setIfInBounds_toArray, List.set_cons_zero, List.set_cons_succ])
              refine wpAnyIn_ready (rs := [6]) (by kernel_rfl) (by simp) ?_
              refine AllReadyIn.cons (by simp only [List.getElem?_toArray, List.getElem?_cons_succ, List.getElem?_cons_zero]; rfl) (fun K hK => ?_) AllReadyIn.nil
              · go_simp
                refine ⟨trivial, fun _ => (by omega), ?_⟩
                refine (callsIn_wide.2 (HPUk.out _ (HSV.out.below HB4.out))).mono ?_
                rintro e w5 ⟨⟨v5, rfl⟩, hs5, hm5⟩
                refine hK _ _ ?_
                clear hK K
                have HS5 := hid hs5
                have HM5 := hid hm5
                have hf5 : w5.frozen? ⟨lb, 0, none⟩ = false := (World.frozen?_of_block (a := ⟨lb, 0, none⟩) (hm5.block _ e2 hnb)).trans ((HB4.out.frozen (p := ⟨lb, 0, none⟩) hl2).trans hf2)
                have d2' := cell_moved hm5 d2 hnb
                have e2' := World.block_lt_of_cell? w5 _ d2'
                clear hs5 hm5
                (try simp only [Act.put, List.setIfInBounds_toArray, List.set_cons_zero, List.set_cons_succ])
                refine wpAnyIn_done (by kernel_rfl) ?_ _
                gi_wp2
                have q1 : ∀ i u, V.cell? ⟨i, 0, none⟩ = some u → i ≠ b → i ≠ g → i ≠ lb → (w5.setCell ⟨lb, 0, none⟩ (.int .i64 (x : Nat))).cell? ⟨i, 0, none⟩ = some u := fun i u hu h1 h2 h3 => (World.cell?_setCell_far w5 ⟨lb, 0, none⟩ ⟨i, 0, none⟩ _ (by simp; omega)).trans (cell_moved HM5.out (keepc HB4.out hu) (by simp; omega))
                obtain ⟨j1, j2, j3, j4, j5, j6, j7⟩ := HJ.out
                have hmv : Moved w5 (w5.setCell ⟨lb, 0, none⟩ (.int .i64 (x : Nat))) [lb] [lb] := Moved.set (by simp) 0 _
                refine ⟨S, ((Touch.below HB4.out _ S).trans (touch_old HM5.out hbm hgm S)).trans (Touch.set w5 ⟨lb, 0, none⟩ _ (.inl hl1')), q1 _ _ j1 (by omega) (by omega) (by omega), ?_, by simp [hf5], q1 _ _ j4 (by omega) (by omega) (by omega), q1 _ _ j5 (by omega) (by omega) (by omega), HS5.out.moved hmv (by simp; omega) (by simp; omega), ?_⟩
                · rw [HLS.out]
                  exact sc_same d2'
                · exact moved_newc ((j7.trans (Moved.below HB4.out _)).trans HM5.out) (by omega) 0 _
      · go_simp
        refine hK _ _ ?_
        clear hK K
        (try simp only [Act.put, List.setIfInBounds_toArray, List.set_cons_zero, List.set_cons_succ])
        refine wpAnyIn_ready (rs := [0, 1, 4]) (by kernel_rfl) (by simp) ?_
        refine AllReadyIn.cons (by simp only [List.getElem?_toArray, List.getElem?_cons_zero]; rfl) (fun K hK => ?_) (AllReadyIn.cons (by simp only [List.getElem?_toArray, List.getElem?_cons_succ, List.getElem?_cons_zero]; rfl) (fun K hK => ?_) (AllReadyIn.cons (by simp only [List.getElem?_toArray, List.getElem?_cons_succ, List.getElem?_cons_zero]; rfl) (fun K hK => ?_) AllReadyIn.nil))
        · go_simp
          refine hK _ _ ?_
          clear hK K
          (try simp only [Act.put, List.setIfInBounds_toArray, List.set_cons_zero, List.set_cons_succ])
          refine wpAnyIn_ready (rs := [1, 4]) (by kernel_rfl) (by simp) ?_
          refine AllReadyIn.cons (by simp only [List.getElem?_toArray, List.getElem?_cons_succ, List.getElem?_cons_zero]; rfl) (fun K hK => ?_) (AllReadyIn.cons (by simp only [List.getElem?_toArray, List.getElem?_cons_succ, List.getElem?_cons_zero]; rfl) (fun K hK => ?_) AllReadyIn.nil)
          · go_simp
            refine hK _ _ ?_
            clear hK K
            (try simp only [Act.put, List.setIfInBounds_toArray, List.set_cons_zero, List.set_cons_succ])
            refine wpAnyIn_ready (rs := [4]) (by kernel_rfl) (by simp) ?_
            refine AllReadyIn.cons (by simp only [List.getElem?_toArray, List.getElem?_cons_succ, List.getElem?_cons_zero]; rfl) (fun K hK => ?_) AllReadyIn.nil
            · go_simp
              refine ⟨trivial, fun _ => (by omega), ?_⟩
              refine (callsIn_wide.2 (HATx.out _ HB0.out)).mono ?_
              rintro e w4 ⟨rfl, hb4⟩
              refine hK _ _ ?_
              clear hK K
              have HB4 := hid (below_t HB0.out hb4)
              have d1 := keepc hb4 c1
              have d2 := keepc hb4 c2
              have e1 := World.block_lt_of_cell? w4 _ d1
              have e2 := World.block_lt_of_cell? w4 _ d2
              clear hb4
              (try simp only [Act.put, List.setIfInBounds_toArray, List.set_cons_zero, List.set_cons_succ])
              refine wpAnyIn_take (i := 5) (v := .int .u8 x0) (fuel := 1) rfl rfl (by kernel_rfl) (by kernel_rfl) (by kernel_rfl) (fun _ _ _ h => h) ⟨Or.inl ⟨by rfl, fun w => ?_⟩, fun _ => rfl⟩ ?_
              · go_simp
                try with_reducible rfl
              simp only [Act.put, List.setIfInBounds_toArray, List.set_cons_zero, List.set_cons_succ]
              refine wpAnyIn_ready (rs := [6]) (by kernel_rfl) (by simp) ?_
              refine AllReadyIn.cons (by simp only [List.getElem?_toArray, List.getElem?_cons_succ, List.getElem?_cons_zero]; rfl) (fun K hK => ?_) AllReadyIn.nil
              · go_simp
                refine ⟨trivial, fun _ => (by omega), ?_⟩
                refine (callsIn_wide.2 (HPUk.out _ (HSV.out.below HB4.out))).mono ?_
                rintro e w5 ⟨⟨v5, rfl⟩, hs5, hm5⟩
                refine hK _ _ ?_
                clear hK K
                have HS5 := hid hs5
                have HM5 := hid hm5
                have hf5 : w5.frozen? ⟨lb, 0, none⟩ = false := (World.frozen?_of_block (a := ⟨lb, 0, none⟩) (hm5.block _ e2 hnb)).trans ((HB4.out.frozen (p := ⟨lb, 0, none⟩) hl2).trans hf2)
                have d2' := cell_moved hm5 d2 hnb
                have e2' := World.block_lt_of_cell? w5 _ d2'
                clear hs5 hm5
                (try simp only [Act.put, List.setIfInBounds_toArray, List.set_cons_zero, List.set_cons_succ])
                refine wpAnyIn_done (by kernel_rfl) ?_ _
                gi_wp2
                have q1 : ∀ i u, V.cell? ⟨i, 0, none⟩ = some u → i ≠ b → i ≠ g → i ≠ lb → (w5.setCell ⟨lb, 0, none⟩ (.int .i64 (x : Nat))).cell? ⟨i, 0, none⟩ = some u := fun i u hu h1 h2 h3 => (World.cell?_setCell_far w5 ⟨lb, 0, none⟩ ⟨i, 0, none⟩ _ (by simp; omega)).trans (cell_moved HM5.out (keepc HB4.out hu) (by simp; omega))
                obtain ⟨j1, j2, j3, j4, j5, j6, j7⟩ := HJ.out
                have hmv : Moved w5 (w5.setCell ⟨lb, 0, none⟩ (.int .i64 (x : Nat))) [lb] [lb] := Moved.set (by simp) 0 _
                refine ⟨S, ((Touch.below HB4.out _ S).trans (touch_old HM5.out hbm hgm S)).trans (Touch.set w5 ⟨lb, 0, none⟩ _ (.inl hl1')), q1 _ _ j1 (by omega) (by omega) (by omega), ?_, by simp [hf5], q1 _ _ j4 (by omega) (by omega) (by omega), q1 _ _ j5 (by omega) (by omega) (by omega), HS5.out.moved hmv (by simp; omega) (by simp; omega), ?_⟩
                · rw [HLS.out]
                  exact sc_same d2'
                · exact moved_newc ((j7.trans (Moved.below HB4.out _)).trans HM5.out) (by omega) 0 _
          · go_simp
            refine ⟨trivial, fun _ => (by omega), ?_⟩
            refine (callsIn_wide.2 (HATx.out _ HB0.out)).mono ?_
            rintro e w4 ⟨rfl, hb4⟩
            refine hK _ _ ?_
            clear hK K
            have HB4 := hid (below_t HB0.out hb4)
            have d1 := keepc hb4 c1
            have d2 := keepc hb4 c2
            have e1 := World.block_lt_of_cell? w4 _ d1
            have e2 := World.block_lt_of_cell? w4 _ d2
            clear hb4
            (try simp only [Act.put, List.setIfInBounds_toArray, List.set_cons_zero, List.set_cons_succ])
            refine wpAnyIn_take (i := 5) (v := .int .u8 x0) (fuel := 2) rfl rfl (by kernel_rfl) (by kernel_rfl) (by kernel_rfl) (fun _ _ _ h => h) ⟨Or.inl ⟨by rfl, fun w => ?_⟩, fun _ => rfl⟩ ?_
            · go_simp
              try with_reducible rfl
            simp only [Act.put, List.setIfInBounds_toArray, List.set_cons_zero, List.set_cons_succ]
            refine wpAnyIn_ready (rs := [1]) (by kernel_rfl) (by simp) ?_
            refine AllReadyIn.cons (by simp only [List.getElem?_toArray, List.getElem?_cons_succ, List.getElem?_cons_zero]; rfl) (fun K hK => ?_) AllReadyIn.nil
            · go_simp
              refine hK _ _ ?_
              clear hK K
              (try simp only [Act.put, List.setIfInBounds_toArray, List.set_cons_zero, List.set_cons_succ])
              refine wpAnyIn_ready (rs := [6]) (by kernel_rfl) (by simp) ?_
              refine AllReadyIn.cons (by simp only [List.getElem?_toArray, List.getElem?_cons_succ, List.getElem?_cons_zero]; rfl) (fun K hK => ?_) AllReadyIn.nil
              · go_simp
                refine ⟨trivial, fun _ => (by omega), ?_⟩
                refine (callsIn_wide.2 (HPUk.out _ (HSV.out.below HB4.out))).mono ?_
                rintro e w5 ⟨⟨v5, rfl⟩, hs5, hm5⟩
                refine hK _ _ ?_
                clear hK K
                have HS5 := hid hs5
                have HM5 := hid hm5
                have hf5 : w5.frozen? ⟨lb, 0, none⟩ = false := (World.frozen?_of_block (a := ⟨lb, 0, none⟩) (hm5.block _ e2 hnb)).trans ((HB4.out.frozen (p := ⟨lb, 0, none⟩) hl2).trans hf2)
                have d2' := cell_moved hm5 d2 hnb
                have e2' := World.block_lt_of_cell? w5 _ d2'
                clear hs5 hm5
                (try simp only [Act.put, List.setIfInBounds_toArray, List.set_cons_zero, List.set_cons_succ])
                refine wpAnyIn_done (by kernel_rfl) ?_ _
                gi_wp2
                have q1 : ∀ i u, V.cell? ⟨i, 0, none⟩ = some u → i ≠ b → i ≠ g → i ≠ lb → (w5.setCell ⟨lb, 0, none⟩ (.int .i64 (x : Nat))).cell? ⟨i, 0, none⟩ = some u := fun i u hu h1 h2 h3 => (World.cell?_setCell_far w5 ⟨lb, 0, none⟩ ⟨i, 0, none⟩ _ (by simp; omega)).trans (cell_moved HM5.out (keepc HB4.out hu) (by simp; omega))
                obtain ⟨j1, j2, j3, j4, j5, j6, j7⟩ := HJ.out
                have hmv : Moved w5 (w5.setCell ⟨lb, 0, none⟩ (.int .i64 (x : Nat))) [lb] [lb] := Moved.set (by simp) 0 _
                refine ⟨S, ((Touch.below HB4.out _ S).trans (touch_old HM5.out hbm hgm S)).trans (Touch.set w5 ⟨lb, 0, none⟩ _ (.inl hl1')), q1 _ _ j1 (by omega) (by omega) (by omega), ?_, by simp [hf5], q1 _ _ j4 (by omega) (by omega) (by omega), q1 _ _ j5 (by omega) (by omega) (by omega), HS5.out.moved hmv (by simp; omega) (by simp; omega), ?_⟩
                · rw [HLS.out]
                  exact sc_same d2'
                · exact moved_newc ((j7.trans (Moved.below HB4.out _)).trans HM5.out) (by omega) 0 _
        · go_simp
          refine hK _ _ ?_
          clear hK K
          (try simp only [Act.put, List.setIfInBounds_toArray, List.set_cons_zero, List.set_cons_succ])
          refine wpAnyIn_ready (rs := [0, 4]) (by kernel_rfl) (by simp) ?_
          refine AllReadyIn.cons (by simp only [List.getElem?_toArray, List.getElem?_cons_zero]; rfl) (fun K hK => ?_) (AllReadyIn.cons (by simp only [List.getElem?_toArray, List.getElem?_cons_succ, List.getElem?_cons_zero]; rfl) (fun K hK => ?_) AllReadyIn.nil)
          · go_simp
            refine hK _ _ ?_
            clear hK K
            (try simp only [Act.put, List.setIfInBounds_toArray, List.set_cons_zero, List.set_cons_succ])
            refine wpAnyIn_ready (rs := [4]) (by kernel_rfl) (by simp) ?_
            refine AllReadyIn.cons (by simp only [List.getElem?_toArray, List.getElem?_cons_succ, List.getElem?_cons_zero]; rfl) (fun K hK => ?_) AllReadyIn.nil
            · go_simp
              refine ⟨trivial, fun _ => (by omega), ?_⟩
              refine (callsIn_wide.2 (HATx.out _ HB0.out)).mono ?_
              rintro e w4 ⟨rfl, hb4⟩
              refine hK _ _ ?_
              clear hK K
              have HB4 := hid (below_t HB0.out hb4)
              have d1 := keepc hb4 c1
              have d2 := keepc hb4 c2
              have e1 := World.block_lt_of_cell? w4 _ d1
              have e2 := World.block_lt_of_cell? w4 _ d2
              clear hb4
              (try simp only [Act.put, List.setIfInBounds_toArray, List.set_cons_zero, List.set_cons_succ])
              refine wpAnyIn_take (i := 5) (v := .int .u8 x0) (fuel := 1) rfl rfl (by kernel_rfl) (by kernel_rfl) (by kernel_rfl) (fun _ _ _ h => h) ⟨Or.inl ⟨by rfl, fun w => ?_⟩, fun _ => rfl⟩ ?_
              · go_simp
                try with_reducible rfl
              simp only [Act.put, List.setIfInBounds_toArray, List.set_cons_zero, List.set_cons_succ]
              refine wpAnyIn_ready (rs := [6]) (by kernel_rfl) (by simp) ?_
              refine AllReadyIn.cons (by simp only [List.getElem?_toArray, List.getElem?_cons_succ, List.getElem?_cons_zero]; rfl) (fun K hK => ?_) AllReadyIn.nil
              · go_simp
                refine ⟨trivial, fun _ => (by omega), ?_⟩
                refine (callsIn_wide.2 (HPUk.out _ (HSV.out.below HB4.out))).mono ?_
                rintro e w5 ⟨⟨v5, rfl⟩, hs5, hm5⟩
                refine hK _ _ ?_
                clear hK K
                have HS5 := hid hs5
                have HM5 := hid hm5
                have hf5 : w5.frozen? ⟨lb, 0, none⟩ = false := (World.frozen?_of_block (a := ⟨lb, 0, none⟩) (hm5.block _ e2 hnb)).trans ((HB4.out.frozen (p := ⟨lb, 0, none⟩) hl2).trans hf2)
                have d2' := cell_moved hm5 d2 hnb
                have e2' := World.block_lt_of_cell? w5 _ d2'
                clear hs5 hm5
                (try simp only [Act.put, List.setIfInBounds_toArray, List.set_cons_zero, List.set_cons_succ])
                refine wpAnyIn_done (by kernel_rfl) ?_ _
                gi_wp2
                have q1 : ∀ i u, V.cell? ⟨i, 0, none⟩ = some u → i ≠ b → i ≠ g → i ≠ lb → (w5.setCell ⟨lb, 0, none⟩ (.int .i64 (x : Nat))).cell? ⟨i, 0, none⟩ = some u := fun i u hu h1 h2 h3 => (World.cell?_setCell_far w5 ⟨lb, 0, none⟩ ⟨i, 0, none⟩ _ (by simp; omega)).trans (cell_moved HM5.out (keepc HB4.out hu) (by simp; omega))
                obtain ⟨j1, j2, j3, j4, j5, j6, j7⟩ := HJ.out
                have hmv : Moved w5 (w5.setCell ⟨lb, 0, none⟩ (.int .i64 (x : Nat))) [lb] [lb] := Moved.set (by simp) 0 _
                refine ⟨S, ((Touch.below HB4.out _ S).trans (touch_old HM5.out hbm hgm S)).trans (Touch.set w5 ⟨lb, 0, none⟩ _ (.inl hl1')), q1 _ _ j1 (by omega) (by omega) (by omega), ?_, by simp [hf5], q1 _ _ j4 (by omega) (by omega) (by omega), q1 _ _ j5 (by omega) (by omega) (by omega), HS5.out.moved hmv (by simp; omega) (by simp; omega), ?_⟩
                · rw [HLS.out]
                  exact sc_same d2'
                · exact moved_newc ((j7.trans (Moved.below HB4.out _)).trans HM5.out) (by omega) 0 _
          · go_simp
            refine ⟨trivial, fun _ => (by omega), ?_⟩
            refine (callsIn_wide.2 (HATx.out _ HB0.out)).mono ?_
            rintro e w4 ⟨rfl, hb4⟩
            refine hK _ _ ?_
            clear hK K
            have HB4 := hid (below_t HB0.out hb4)
            have d1 := keepc hb4 c1
            have d2 := keepc hb4 c2
            have e1 := World.block_lt_of_cell? w4 _ d1
            have e2 := World.block_lt_of_cell? w4 _ d2
            clear hb4
            (try simp only [Act.put, List.setIfInBounds_toArray, List.set_cons_zero, List.set_cons_succ])
            refine wpAnyIn_take (i := 5) (v := .int .u8 x0) (fuel := 2) rfl rfl (by kernel_rfl) (by kernel_rfl) (by kernel_rfl) (fun _ _ _ h => h) ⟨Or.inl ⟨by rfl, fun w => ?_⟩, fun _ => rfl⟩ ?_
            · go_simp
              try with_reducible rfl
            simp only [Act.put, List.setIfInBounds_toArray, List.set_cons_zero, List.set_cons_succ]
            refine wpAnyIn_ready (rs := [0]) (by kernel_rfl) (by simp) ?_
            refine AllReadyIn.cons (by simp only [List.getElem?_toArray, List.getElem?_cons_zero]; rfl) (fun K hK => ?_) AllReadyIn.nil
            · go_simp
              refine hK _ _ ?_
              clear hK K
              (try simp only [Act.put, List.setIfInBounds_toArray, List.set_cons_zero, List.set_cons_succ])
              refine wpAnyIn_ready (rs := [6]) (by kernel_rfl) (by simp) ?_
              refine AllReadyIn.cons (by simp only [List.getElem?_toArray, List.getElem?_cons_succ, List.getElem?_cons_zero]; rfl) (fun K hK => ?_) AllReadyIn.nil
              · go_simp
                refine ⟨trivial, fun _ => (by omega), ?_⟩
                refine (callsIn_wide.2 (HPUk.out _ (HSV.out.below HB4.out))).mono ?_
                rintro e w5 ⟨⟨v5, rfl⟩, hs5, hm5⟩
                refine hK _ _ ?_
                clear hK K
                have HS5 := hid hs5
                have HM5 := hid hm5
                have hf5 : w5.frozen? ⟨lb, 0, none⟩ = false := (World.frozen?_of_block (a := ⟨lb, 0, none⟩) (hm5.block _ e2 hnb)).trans ((HB4.out.frozen (p := ⟨lb, 0, none⟩) hl2).trans hf2)
                have d2' := cell_moved hm5 d2 hnb
                have e2' := World.block_lt_of_cell? w5 _ d2'
                clear hs5 hm5
                (try simp only [Act.put, List.setIfInBounds_toArray, List.set_cons_zero, List.set_cons_succ])
                refine wpAnyIn_done (by kernel_rfl) ?_ _
                gi_wp2
                have q1 : ∀ i u, V.cell? ⟨i, 0, none⟩ = some u → i ≠ b → i ≠ g → i ≠ lb → (w5.setCell ⟨lb, 0, none⟩ (.int .i64 (x : Nat))).cell? ⟨i, 0, none⟩ = some u := fun i u hu h1 h2 h3 => (World.cell?_setCell_far w5 ⟨lb, 0, none⟩ ⟨i, 0, none⟩ _ (by simp; omega)).trans (cell_moved HM5.out (keepc HB4.out hu) (by simp; omega))
                obtain ⟨j1, j2, j3, j4, j5, j6, j7⟩ := HJ.out
                have hmv : Moved w5 (w5.setCell ⟨lb, 0, none⟩ (.int .i64 (x : Nat))) [lb] [lb] := Moved.set (by simp) 0 _
                refine ⟨S, ((Touch.below HB4.out _ S).trans (touch_old HM5.out hbm hgm S)).trans (Touch.set w5 ⟨lb, 0, none⟩ _ (.inl hl1')), q1 _ _ j1 (by omega) (by omega) (by omega), ?_, by simp [hf5], q1 _ _ j4 (by omega) (by omega) (by omega), q1 _ _ j5 (by omega) (by omega) (by omega), HS5.out.moved hmv (by simp; omega) (by simp; omega), ?_⟩
                · rw [HLS.out]
                  exact sc_same d2'
                · exact moved_newc ((j7.trans (Moved.below HB4.out _)).trans HM5.out) (by omega) 0 _
        · go_simp
          refine ⟨trivial, fun _ => (by omega), ?_⟩
          refine (callsIn_wide.2 (HATx.out _ HB0.out)).mono ?_
          rintro e w4 ⟨rfl, hb4⟩
          refine hK _ _ ?_
          clear hK K
          have HB4 := hid (below_t HB0.out hb4)
          have d1 := keepc hb4 c1
          have d2 := keepc hb4 c2
          have e1 := World.block_lt_of_cell? w4 _ d1
          have e2 := World.block_lt_of_cell? w4 _ d2
          clear hb4
          (try simp only [Act.put, List.setIfInBounds_toArray, List.set_cons_zero, List.set_cons_succ])
          refine wpAnyIn_take (i := 5) (v := .int .u8 x0) (fuel := 3) rfl rfl (by kernel_rfl) (by kernel_rfl) (by kernel_rfl) (fun _ _ _ h => h) ⟨Or.inl ⟨by rfl, fun w => ?_⟩, fun _ => rfl⟩ ?_
          · go_simp
            try with_reducible rfl
          simp only [Act.put, List.setIfInBounds_toArray, List.set_cons_zero, List.set_cons_succ]
          refine wpAnyIn_ready (rs := [0, 1]) (by kernel_rfl) (by simp) ?_
          refine AllReadyIn.cons (by simp only [List.getElem?_toArray, List.getElem?_cons_zero]; rfl) (fun K hK => ?_) (AllReadyIn.cons (by simp only [List.getElem?_toArray, List.getElem?_cons_succ, List.getElem?_cons_zero]; rfl) (fun K hK => ?_) AllReadyIn.nil)
          · go_simp
            refine hK _ _ ?_
            clear hK K
            (try simp only [Act.put, List.setIfInBounds_toArray, List.set_cons_zero, List.set_cons_succ])
            refine wpAnyIn_ready (rs := [1]) (by kernel_rfl) (by simp) ?_
            refine AllReadyIn.cons (by simp only [List.getElem?_toArray, List.getElem?_cons_succ, List.getElem?_cons_zero]; rfl) (fun K hK => ?_) AllReadyIn.nil
            · go_simp
              refine hK _ _ ?_
              clear hK K
              (try simp only [Act.put, List.setIfInBounds_toArray, List.set_cons_zero, List.set_cons_succ])
              refine wpAnyIn_ready (rs := [6]) (by kernel_rfl) (by simp) ?_
              refine AllReadyIn.cons (by simp only [List.getElem?_toArray, List.getElem?_cons_succ, List.getElem?_cons_zero]; rfl) (fun K hK => ?_) AllReadyIn.nil
              · go_simp
                refine ⟨trivial, fun _ => (by omega), ?_⟩
                refine (callsIn_wide.2 (HPUk.out _ (HSV.out.below HB4.out))).mono ?_
                rintro e w5 ⟨⟨v5, rfl⟩, hs5, hm5⟩
                refine hK _ _ ?_
                clear hK K
                have HS5 := hid hs5
                have HM5 := hid hm5
                have hf5 : w5.frozen? ⟨lb, 0, none⟩ = false := (World.frozen?_of_block (a := ⟨lb, 0, none⟩) (hm5.block _ e2 hnb)).trans ((HB4.out.frozen (p := ⟨lb, 0, none⟩) hl2).trans hf2)
                have d2' := cell_moved hm5 d2 hnb
                have e2' := World.block_lt_of_cell? w5 _ d2'
                clear hs5 hm5
                (try simp only [Act.put, List.setIfInBounds_toArray, List.set_cons_zero, List.set_cons_succ])
                refine wpAnyIn_done (by kernel_rfl) ?_ _
                gi_wp2
                have q1 : ∀ i u, V.cell? ⟨i, 0, none⟩ = some u → i ≠ b → i ≠ g → i ≠ lb → (w5.setCell ⟨lb, 0, none⟩ (.int .i64 (x : Nat))).cell? ⟨i, 0, none⟩ = some u := fun i u hu h1 h2 h3 => (World.cell?_setCell_far w5 ⟨lb, 0, none⟩ ⟨i, 0, none⟩ _ (by simp; omega)).trans (cell_moved HM5.out (keepc HB4.out hu) (by simp; omega))
                obtain ⟨j1, j2, j3, j4, j5, j6, j7⟩ := HJ.out
                have hmv : Moved w5 (w5.setCell ⟨lb, 0, none⟩ (.int .i64 (x : Nat))) [lb] [lb] := Moved.set (by simp) 0 _
                refine ⟨S, ((Touch.below HB4.out _ S).trans (touch_old HM5.out hbm hgm S)).trans (Touch.set w5 ⟨lb, 0, none⟩ _ (.inl hl1')), q1 _ _ j1 (by omega) (by omega) (by omega), ?_, by simp [hf5], q1 _ _ j4 (by omega) (by omega) (by omega), q1 _ _ j5 (by omega) (by omega) (by omega), HS5.out.moved hmv (by simp; omega) (by simp; omega), ?_⟩
                · rw [HLS.out]
                  exact sc_same d2'
                · exact moved_newc ((j7.trans (Moved.below HB4.out _)).trans HM5.out) (by omega) 0 _
          · go_simp
            refine hK _ _ ?_
            clear hK K
            (try simp only [Act.put, List.setIfInBounds_toArray, List.set_cons_zero, List.set_cons_succ])
            refine wpAnyIn_ready (rs := [0]) (by kernel_rfl) (by simp) ?_
            refine AllReadyIn.cons (by simp only [List.getElem?_toArray, List.getElem?_cons_zero]; rfl) (fun K hK => ?_) AllReadyIn.nil
            · go_simp
              refine hK _ _ ?_
              clear hK K
              (try simp only [Act.put, List.setIfInBounds_toArray, List.set_cons_zero, List.set_cons_succ])
              refine wpAnyIn_ready (rs := [6]) (by kernel_rfl) (by simp) ?_
              refine AllReadyIn.cons (by simp only [List.getElem?_toArray, List.getElem?_cons_succ, List.getElem?_cons_zero]; rfl) (fun K hK => ?_) AllReadyIn.nil
              · go_simp
                refine ⟨trivial, fun _ => (by omega), ?_⟩
                refine (callsIn_wide.2 (HPUk.out _ (HSV.out.below HB4.out))).mono ?_
                rintro e w5 ⟨⟨v5, rfl⟩, hs5, hm5⟩
                refine hK _ _ ?_
                clear hK K
                have HS5 := hid hs5
                have HM5 := hid hm5
                have hf5 : w5.frozen? ⟨lb, 0, none⟩ = false := (World.frozen?_of_block (a := ⟨lb, 0, none⟩) (hm5.block _ e2 hnb)).trans ((HB4.out.frozen (p := ⟨lb, 0, none⟩) hl2).trans hf2)
                have d2' := cell_moved hm5 d2 hnb
                have e2' := World.block_lt_of_cell? w5 _ d2'
                clear hs5 hm5
                (try simp only [Act.put, List.setIfInBounds_toArray, List.set_cons_zero, List.set_cons_succ])
                refine wpAnyIn_done (by kernel_rfl) ?_ _
                gi_wp2
                have q1 : ∀ i u, V.cell? ⟨i, 0, none⟩ = some u → i ≠ b → i ≠ g → i ≠ lb → (w5.setCell ⟨lb, 0, none⟩ (.int .i64 (x : Nat))).cell? ⟨i, 0, none⟩ = some u := fun i u hu h1 h2 h3 => (World.cell?_setCell_far w5 ⟨lb, 0, none⟩ ⟨i, 0, none⟩ _ (by simp; omega)).trans (cell_moved HM5.out (keepc HB4.out hu) (by simp; omega))
                obtain ⟨j1, j2, j3, j4, j5, j6, j7⟩ := HJ.out
                have hmv : Moved w5 (w5.setCell ⟨lb, 0, none⟩ (.int .i64 (x : Nat))) [lb] [lb] := Moved.set (by simp) 0 _
                refine ⟨S, ((Touch.below HB4.out _ S).trans (touch_old HM5.out hbm hgm S)).trans (Touch.set w5 ⟨lb, 0, none⟩ _ (.inl hl1')), q1 _ _ j1 (by omega) (by omega) (by omega), ?_, by simp [hf5], q1 _ _ j4 (by omega) (by omega) (by omega), q1 _ _ j5 (by omega) (by omega) (by omega), HS5.out.moved hmv (by simp; omega) (by simp; omega), ?_⟩
                · rw [HLS.out]
                  exact sc_same d2'
                · exact moved_newc ((j7.trans (Moved.below HB4.out _)).trans HM5.out) (by omega) 0 _
    case done =>
      rintro D S V hD ⟨h1, h2, h3, h4, h5, h6, h7⟩ hK
      have l1 := World.block_lt_of_cell? V _ h1
      have l2 := World.block_lt_of_cell? V _ h2
      have HPUk := hid (HPU.out (lastZ n pl pl.length) 0 (HLZ.out _ (Nat.le_refl _)) u8_zero V _ h6)
      have HMOk := hid (fun W t ht => HMO.out W t ht)
      have HK := hid hK
      have H7 := hid h7
      have H1 := hid h1
      have hn1 : w.heap.size ∉ [b, g] := by simp; omega
      have hDn : D ∉ [b, g] := by simp; omega
      clear hK h7 h4 h5 h3
      gi_wp2
      refine ⟨trivial, fun _ => (by omega), ?_⟩
      refine (callsIn_wide.2 HPUk.out).mono ?_
      rintro e w5 ⟨⟨v5, rfl⟩, hs5, hm5⟩
      have HS5 := hid hs5
      have HM5 := hid (H7.out.trans hm5)
      have d1 := cell_moved hm5 H1.out hn1
      have l5 := World.block_lt_of_cell? w5 _ d1
      have HD5 := hid ((hm5.block D (Array.getElem?_eq_some_iff.1 HK.out).1 hDn).trans HK.out)
      clear hs5 hm5
      gi_wp2
      refine ⟨trivial, fun _ => (by omega), ?_⟩
      refine (callsIn_wide.2 (HMOk.out _ _ HS5.out)).mono ?_
      rintro e w6 ⟨rfl, hs6, hm6⟩
      have HS6 := hid hs6
      have HM6 := hid (HM5.out.trans hm6)
      have HD6 := hid ((hm6.block D (Array.getElem?_eq_some_iff.1 HD5.out).1 hDn).trans HD5.out)
      clear hs6 hm6
      gi_wp2
      refine ⟨by simp, .inl ⟨_, _, rfl, run_takeDeferred HD6.out, ?_⟩⟩
      have hg := Grow.put (m := w1.heap.size) (.deferred none) hD HD6.out rfl
      exact ⟨.bool true, by simp [results, Try.f28, go_sem], rfl, HS6.out.grow hg, moved_grow HM6.out hg hlz⟩
    case stop => exact fun _ _ _ _ _ _ _ h => h.elim
end
end Go.Proofs.Ytpehhinpohmpiaa
