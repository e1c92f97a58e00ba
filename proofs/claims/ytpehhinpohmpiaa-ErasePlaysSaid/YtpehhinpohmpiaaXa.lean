/-
  A cell set at all places of a span: Repeat.
-/
import Derived.Test.YtpehhinpohmpiaaEw
namespace Go.Proofs.Ytpehhinpohmpiaa
open Go.RowKit Go.Lib Go.Deep

/-- A cell, set at some places one by one. -/
def repR (s : Spc) (l : List Nat) (c : Cel) : Nat → Spc
  | 0 => s
  | k + 1 => (repR s l c k).setC (l.getD k 0 : Nat) c
/-- The places of a span. -/
def spS (s : Spc) (p q : Int) : List Nat := spN s.L.length (s.wr p) (lenZ s.r s.c p q).toNat
def repS (s : Spc) (p q : Int) (c : Cel) : Spc := repR s (spS s p q) c (spS s p q).length
/-- A cell's box. -/
def CBx (V : World) (a : Nat) (c : Cel) : Prop := V.cell? ⟨a, 0, none⟩ = some (.int .u8 c.ch) ∧ V.cell? ⟨a, 1, none⟩ = some (.bool c.at_) ∧ V.cell? ⟨a, 2, none⟩ = some (.int .u8 c.fa) ∧ V.cell? ⟨a, 3, none⟩ = some (.int .u8 c.hi) ∧ V.cell? ⟨a, 4, none⟩ = some (.int .u8 c.co) ∧ V.cell? ⟨a, 5, none⟩ = some (.int .u8 c.se)
theorem CBx.grow {m a : Nat} {c : Cel} {A B : World} (h : CBx A a c) (hg : Grow m A B) : CBx B a c := ⟨cell_grow hg h.1, cell_grow hg h.2.1, cell_grow hg h.2.2.1, cell_grow hg h.2.2.2.1, cell_grow hg h.2.2.2.2.1, cell_grow hg h.2.2.2.2.2⟩
theorem CBx.moved {a : Nat} {c : Cel} {A B : World} {S S' : List Nat} (h : CBx A a c) (m : Moved A B S S') (ha : a ∉ S) : CBx B a c := ⟨cell_moved m h.1 ha, cell_moved m h.2.1 ha, cell_moved m h.2.2.1 ha, cell_moved m h.2.2.2.1 ha, cell_moved m h.2.2.2.2.1 ha, cell_moved m h.2.2.2.2.2 ha⟩
theorem CBx.step {a : Nat} {c : Cel} {A B : World} (h : CBx A a c) (hb : Below A.heap.size A B) : CBx B a c := h.moved (Moved.below hb []) (fun q => by cases q)
theorem RSp.moved {bx bp bq : Nat} {R C p q : Int} {A B : World} {S S' : List Nat} (h : RSp bx bp bq R C p q A) (m : Moved A B S S') (h1 : bx ∉ S) (h2 : bp ∉ S) (h3 : bq ∉ S) : RSp bx bp bq R C p q B := ⟨cell_moved m h.1 h1, cell_moved m h.2.1 h1, cell_moved m h.2.2.1 h2, cell_moved m h.2.2.2 h3⟩
/-- A setting leaves the size. -/
structure SameSz (s t : Spc) : Prop where
  len : t.L.length = s.L.length
  mo : t.mo = s.mo
  alt : t.alt = s.alt
theorem SameSz.refl (s : Spc) : SameSz s s := ⟨rfl, rfl, rfl⟩
theorem SameSz.r {s t : Spc} (h : SameSz s t) : t.r = s.r := by unfold Spc.r; rw [h.mo, h.alt]
theorem SameSz.c {s t : Spc} (h : SameSz s t) : t.c = s.c := by unfold Spc.c; rw [h.mo, h.alt]
theorem SameSz.set {s t : Spc} (h : SameSz s t) (n : Int) (c : Cel) : SameSz s (t.setC n c) := ⟨by rw [← h.len]; simp [Spc.setC, Spc.put1], h.mo, h.alt⟩
theorem repR_sz (s : Spc) (l : List Nat) (c : Cel) : ∀ k, SameSz s (repR s l c k)
  | 0 => SameSz.refl s
  | k + 1 => (repR_sz s l c k).set _ _
theorem spS_mem {s : Spc} (hok : s.OK) {p q : Int} {x : Nat} (h : x ∈ spS s p q) : x < 10000 := by
  unfold spS spN at h
  obtain ⟨i, -, rfl⟩ := List.mem_map.1 h
  have := hok.pos
  have := Nat.mod_lt (s.wr p + i) (show s.L.length > 0 by omega)
  omega
section
variable {b g : Nat} {s : Spc}
attribute [local go_sem] Oper.semAt_some
set_option maxRecDepth 100000 in
set_option maxHeartbeats 8000000 in
theorem repeat_in (m : Nat) (hm : 10 ≤ m) (p q : Int) (hp : I64 p) (hq : I64 q) (c : Cel) (hc : c.OK) (w : World) (h : SpM w b g s) :
    CallsIn Fence.wide m Try.prog 39 #[.pointer (some ⟨b, 0, none⟩), .int .i64 p, .int .i64 q, c.v] w fun e w' => e = .returned (.int .i64 (lenZ s.r s.c p q)) ∧ SpM w' b g (repS s p q c) ∧ Moved w w' [b, g] [b, g] := by
  have hok := h.ok
  have hN := hok.pos
  have hbw := h.lt.1
  have hgw := h.lt.2
  have HSZ := hid (fun W (t : Spc) (ht : SpM W b g t) => size_any (b := b) (g := g) (s := t) W ht)
  have HLN := hid (fun W => length_ok s.r s.c p q hok.sz hp hq W)
  have HSP := hid h
  obtain ⟨x0, x1, x2, x3, x4, x5⟩ := c
  have HST := hid (fun (n : Int) (hn : I64 n) W (t : Spc) (ht : SpM W b g t) => (show Calls Try.prog 66 #[.pointer (some ⟨b, 0, none⟩), .int .i64 n, .agg #[.int .u8 x0, .bool x1, .int .u8 x2, .int .u8 x3, .int .u8 x4, .int .u8 x5]] W (SpD b g (t.setC n ⟨x0, x1, x2, x3, x4, x5⟩) W) from set_any (b := b) (g := g) (s := t) n hn ⟨x0, x1, x2, x3, x4, x5⟩ hc W ht))
  have HSQ := hid (fun bx bp bq V => (show SeqF Fence.wide (m - 1) Try.prog 139 #[.pointer (some ⟨bx, 0, none⟩), .pointer (some ⟨bp, 0, none⟩), .pointer (some ⟨bq, 0, none⟩)] encI (fun k x _ => (spS s p q)[k]? = some x) (spS s p q).length (RSp bx bp bq s.r s.c p q) V from by
    have q0 := span_seq (m - 1) (by omega) bx bp bq s.L.length s.r s.c p q hok.sz hok.len.symm hp hq V
    unfold spS
    rw [spN_len]
    exact q0))
  have HMB := hid (fun x (hx : x ∈ spS s p q) => spS_mem hok hx)
  have HSR := hid (fun l k => repR_sz s l ⟨x0, x1, x2, x3, x4, x5⟩ k)
  have HSI := hid (fun (p q : Int) W => spanIt s.r s.c p q W)
  unfold repS
  generalize spS s p q = pl at HSQ HMB ⊢
  clear h hc
  refine callsIn_of_wp_marks Try.func39 rfl trivial ?_ rfl
  simp only [Try.ntmps39, List.size_toArray, List.length_cons, List.length_nil, Nat.reduceAdd, Nat.reduceSub, Array.replicate_succ, Array.replicate_zero, List.push_toArray, List.append_toArray, List.nil_append, List.cons_append]
  gi_wp2
  obtain ⟨a0, ha0⟩ : ∃ a0, (w.alloc (.cells #[.pointer (some ⟨b, 0, none⟩)] 25)).alloc (.cells #[.int .u8 x0, .bool x1, .int .u8 x2, .int .u8 x3, .int .u8 x4, .int .u8 x5] 30) = a0 := ⟨_, rfl⟩
  have hz0' : a0.heap.size = w.heap.size + 2 := by rw [← ha0]; simp
  have HA0 := hid (show Below w.heap.size w a0 ∧ a0.cell? ⟨w.heap.size, 0, none⟩ = some (.pointer (some ⟨b, 0, none⟩)) ∧ CBx a0 (w.heap.size + 1) ⟨x0, x1, x2, x3, x4, x5⟩ from ⟨by rw [← ha0]; exact bal (bal (Below.refl _ _) _) _, by rw [← ha0]; simp [go_sem], by rw [← ha0]; exact ⟨by simp [go_sem], by simp [go_sem], by simp [go_sem], by simp [go_sem], by simp [go_sem], by simp [go_sem]⟩⟩)
  simp only [ha0]
  clear ha0
  refine ⟨trivial, fun _ => (by omega), ?_⟩
  refine (callsIn_wide.2 (HSZ.out _ _ (HSP.out.below HA0.out.1))).mono ?_
  rintro e w0 ⟨rfl, hb0⟩
  have H0 := hid (show Below w.heap.size w w0 ∧ w0.cell? ⟨w.heap.size, 0, none⟩ = some (.pointer (some ⟨b, 0, none⟩)) ∧ CBx w0 (w.heap.size + 1) ⟨x0, x1, x2, x3, x4, x5⟩ from ⟨below_t HA0.out.1 hb0, keepc hb0 HA0.out.2.1, HA0.out.2.2.step hb0⟩)
  have hzz := hb0.size
  clear hb0 HA0
  gi_wp2
  refine ⟨trivial, fun _ => (by omega), ?_⟩
  refine (callsIn_wide.2 (HSI.out p q _)).mono ?_
  rintro e w1 ⟨bx, bp, bq, rfl, hbx, hbp, hbq, hrs, hb1⟩
  have hzw := hb1.size
  have hlz : w.heap.size ≤ w1.heap.size := by omega
  have HB1 := hid (below_t H0.out.1 hb1)
  have HI0 := hid (show (w1.cell? ⟨w.heap.size, 0, none⟩ = some (.pointer (some ⟨b, 0, none⟩)) ∧ CBx w1 (w.heap.size + 1) ⟨x0, x1, x2, x3, x4, x5⟩ ∧ RSp bx bp bq s.r s.c p q w1 ∧ SpM w1 b g (repR s pl ⟨x0, x1, x2, x3, x4, x5⟩ 0) ∧ Moved w w1 [b, g] [b, g]) from ⟨keepc hb1 H0.out.2.1, H0.out.2.2.step hb1, hrs, HSP.out.below HB1.out, Moved.below HB1.out _⟩)
  have hbx' : w.heap.size + 2 ≤ bx := by omega
  have hbp' : w.heap.size + 2 ≤ bp := by omega
  have hbq' : w.heap.size + 2 ≤ bq := by omega
  clear hb1 hrs hbx hbp hbq H0
  gi_wp2
  refine rangeFunc_seq (n := m) (w := w1) rfl (by omega) (gf := 139) (lb := #[.pointer (some ⟨bx, 0, none⟩), .pointer (some ⟨bp, 0, none⟩), .pointer (some ⟨bq, 0, none⟩)]) rfl trivial (enters_of Try.func139 (by kernel_rfl) rfl)
    (encs := encI) (fun _ => rfl) (el := fun k x _ => pl[k]? = some x) (N := pl.length) (R := RSp bx bp bq s.r s.c p q)
    (fun k S V => (V.cell? ⟨w.heap.size, 0, none⟩ = some (.pointer (some ⟨b, 0, none⟩)) ∧ CBx V (w.heap.size + 1) ⟨x0, x1, x2, x3, x4, x5⟩ ∧ RSp bx bp bq s.r s.c p q V ∧ SpM V b g (repR s pl ⟨x0, x1, x2, x3, x4, x5⟩ k) ∧ Moved w V [b, g] [b, g])) (fun _ _ _ _ => False) ?hI ?hIx ?hR HI0.out
    (fun k S x a V => (V.cell? ⟨w.heap.size, 0, none⟩ = some (.pointer (some ⟨b, 0, none⟩)) ∧ CBx V (w.heap.size + 1) ⟨x0, x1, x2, x3, x4, x5⟩ ∧ RSp bx bp bq s.r s.c p q V ∧ SpM V b g (repR s pl ⟨x0, x1, x2, x3, x4, x5⟩ k) ∧ Moved w V [b, g] [b, g]) ∧ pl[k]? = some x ∧ a = { tmps := #[.pointer (some ⟨b, 0, none⟩), .int .i64 p, .int .i64 q, .agg #[.int .u8 x0, .bool x1, .int .u8 x2, .int .u8 x3, .int .u8 x4, .int .u8 x5], .pointer (some ⟨w.heap.size, 0, none⟩), undef, undef, .pointer (some ⟨w.heap.size + 1, 0, none⟩), .int .i64 0, .int .i64 (x : Nat), .pointer (some ⟨b, 0, none⟩), sizeV s.r s.c, .int .i64 p, .int .i64 q, .func (.func 139) #[] #[.pointer (some ⟨bx, 0, none⟩), .pointer (some ⟨bp, 0, none⟩), .pointer (some ⟨bq, 0, none⟩)], .int .i64 (x : Nat), undef, undef, undef, undef, undef, undef, undef, undef, undef], defers := [] }) ?hAx ?assign ?body ?iter ?done ?stop
  case hI => exact fun k S A C hg ⟨h1, h2, h3, h4, h5⟩ => ⟨cell_grow hg h1, h2.grow hg, h3.grow hg, h4.grow hg, moved_grow h5 hg hlz⟩
  case hIx => exact fun c k S A C hg h => h.elim
  case hR => exact fun k S V h => h.2.2.1
  case hAx => exact fun k S x a A C hg ⟨⟨h1, h2, h3, h4, h5⟩, h8, h9⟩ => ⟨⟨cell_grow hg h1, h2.grow hg, h3.grow hg, h4.grow hg, moved_grow h5 hg hlz⟩, h8, h9⟩
  case iter => exact fun o1 o2 _ _ => HSQ.out bx bp bq _
  case assign =>
    rintro l' k x S V KK hk hx1 hi' hsz hK
    have HK := hid hK
    have HI := hid hi'
    clear hK hi'
    gi_wp2
    exact HK.out _ _ (Touch.refl _ _ _) ⟨HI.out, hx1, by first | rfl | simp⟩
  case body =>
    rintro l' k x S a' V hk ⟨hJ, hx, rfl⟩ hsz
    have HJ := hid hJ
    have hxm := HMB.out x (List.mem_of_getElem? hx)
    have hxk : pl.getD k 0 = x := by rw [List.getD_eq_getElem?_getD, hx]; rfl
    have hDR : repR s pl ⟨x0, x1, x2, x3, x4, x5⟩ (k + 1) = (repR s pl ⟨x0, x1, x2, x3, x4, x5⟩ k).setC (x : Nat) ⟨x0, x1, x2, x3, x4, x5⟩ := by rw [← hxk]; rfl
    rw [hDR]
    have HSTk := hid (HST.out (x : Int) (i64_small (by omega) (by omega)) V _ hJ.2.2.2.1)
    have c1 := hJ.1
    obtain ⟨d0, d1, d2, d3, d4, d5⟩ := hJ.2.1
    have l1 := World.block_lt_of_cell? V _ c1
    have l2 := World.block_lt_of_cell? V _ d0
    have hbm : b < w1.heap.size := by omega
    have hgm : g < w1.heap.size := by omega
    clear hJ hx hxk hDR
    gi_wp2
    refine ⟨trivial, fun _ => (by omega), ?_⟩
    refine (callsIn_wide.2 HSTk.out).mono ?_
    rintro e w5 ⟨⟨v5, rfl⟩, hs5, hm5⟩
    have HS5 := hid hs5
    have HM5 := hid hm5
    clear hs5 hm5
    gi_wp2
    obtain ⟨j1, j2, j3, j4, j5⟩ := HJ.out
    exact ⟨S, touch_old HM5.out hbm hgm S, cell_moved HM5.out j1 (by simp; omega), j2.moved HM5.out (by simp; omega), j3.moved HM5.out (by simp; omega) (by simp; omega) (by simp; omega), HS5.out, j5.trans HM5.out⟩
  case done =>
    rintro D S V hD ⟨h1, h2, h3, h4, h5⟩ hK
    have l1 := World.block_lt_of_cell? V _ h1
    have HSk := hid (HSZ.out V _ h4)
    rw [(HSR.out pl pl.length).r, (HSR.out pl pl.length).c] at HSk
    have HK := hid hK
    have H4 := hid h4
    have H5 := hid h5
    clear hK h5 h4 h3 h2
    gi_wp2
    refine ⟨trivial, fun _ => (by omega), ?_⟩
    refine (callsIn_wide.2 HSk.out).mono ?_
    rintro e w6 ⟨rfl, hb6⟩
    have HB6 := hid hb6
    clear hb6
    gi_wp2
    refine ⟨trivial, fun _ => (by omega), ?_⟩
    refine (callsIn_wide.2 (HLN.out _)).mono ?_
    rintro e w7 ⟨rfl, hb7⟩
    have HB7 := hid (below_t HB6.out hb7)
    clear hb7
    gi_wp2
    have hD7 := hid ((HB7.out.block D (Array.getElem?_eq_some_iff.1 HK.out).1).trans HK.out)
    refine ⟨by simp, .inl ⟨_, _, rfl, run_takeDeferred hD7.out, ?_⟩⟩
    have hg := Grow.put (m := w1.heap.size) (.deferred none) hD hD7.out rfl
    exact ⟨.int .i64 (lenZ s.r s.c p q), by simp [results, Try.f39, go_sem], rfl, (H4.out.below HB7.out).grow hg, moved_grow (H5.out.trans (Moved.below HB7.out _)) hg hlz⟩
  case stop => exact fun _ _ _ _ _ _ _ h => h.elim
end
end Go.Proofs.Ytpehhinpohmpiaa
