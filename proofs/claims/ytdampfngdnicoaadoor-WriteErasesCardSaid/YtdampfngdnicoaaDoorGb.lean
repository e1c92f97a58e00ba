/-
  What Insert and Delete do to the characters of a row: there and back.
  A cell set at all places of a span: Repeat.
  The open places of a span, nulled: Range.
-/
import Derived.Test.YtdampfngdnicoaaDoorGa
namespace Go.Proofs.YtdampfngdnicoaaDoor
open Go.RowKit Go.Lib Go.Deep

theorem putC_attr {t : Spc} (m x : Int) {i : Nat} (hi : t.P i = true) : (t.putC m x).cel i = t.cel i := by
  unfold Spc.putC
  split
  · rfl
  · rename_i ha
    unfold Spc.setC
    rw [Spc.put1_cel, if_neg]
    rintro ⟨q, -⟩
    exact ha (by unfold Spc.atC; rw [← q]; exact hi)
end Go.Proofs.YtdampfngdnicoaaDoor
namespace Go.Proofs.YtdampfngdnicoaaDoor
open Go.RowKit Go.Lib Go.Deep

/-- A cell, set at some places one by one. -/
def repR (s : Spc) (l : List Nat) (c : Cel) : Nat → Spc
  | 0 => s
  | k + 1 => (repR s l c k).setC (l.getD k 0 : Nat) c
/-- The places of a span. -/
def spS (s : Spc) (p q : Int) : List Nat := spN s.L.length (s.wr p) (lenZ s.r s.c p q).toNat
def repS (s : Spc) (p q : Int) (c : Cel) : Spc := repR s (spS s p q) c (spS s p q).length
/-- A cell's box. -/
def CBx (V : World) (a : Nat) (c : Cel) : Prop := V.cell? ⟨a, 0, none⟩ = some (.int .u8 c.ch) ∧ V.cell? ⟨a, 1, none⟩ = some (.bool c.at_) ∧ V.cell? ⟨a, 2, none⟩ = some (.int .u8 c.fa) ∧ V.cell? ⟨a, 3, none⟩ = some (.int .u8 c.hi) ∧ V.cell? ⟨a, 4, none⟩ = some (.int .u8 c.co) ∧ V.cell? ⟨a, 5, none⟩ = some (.int .u8 c.se)
theorem CBx.grow {m a : Nat} {c : Cel} {A B : World} (h : CBx A a c) (hg : Grow m A B) : CBx B a c := ⟨cell_grow hg h.1, cell_grow hg h.2.1, cell_grow hg h.2.2.1, cell_grow hg h.2.2.2.1, cell_grow hg h.2.2.2.2.1, cell_grow hg h.2.2.2.2.2⟩
theorem CBx.moved {a : Nat} {c : Cel} {A B : World} {S S' : List Nat} (h : CBx A a c) (m : Moved A B S S') (ha : a ∉ S) : CBx B a c := ⟨cell_moved m h.1 ha, cell_moved m h.2.1 ha, cell_moved m h.2.2.1 ha, cell_moved m h.2.2.2.1 ha, cell_moved m h.2.2.2.2.1 ha, cell_moved m h.2.2.2.2.2 ha⟩
theorem CBx.step {a : Nat} {c : Cel} {A B : World} (h : CBx A a c) (hb : Below A.heap.size A B) : CBx B a c := h.moved (Moved.below hb []) (fun q => by cases q)
theorem RSp.moved {bx bp bq : Nat} {R C p q : Int} {A B : World} {S S' : List Nat} (h : RSp bx bp bq R C p q A) (m : Moved A B S S') (h1 : bx ∉ S) (h2 : bp ∉ S) (h3 : bq ∉ S) : RSp bx bp bq R C p q B := ⟨cell_moved m h.1 h1, cell_moved m h.2.1 h1, cell_moved m h.2.2.1 h2, cell_moved m h.2.2.2 h3⟩
/-- A setting leaves the size. -/
structure SameSz (s t : Spc) : Prop where
  len : t.L.length = s.L.length
  mo : t.mo = s.mo
  alt : t.alt = s.alt
theorem SameSz.refl (s : Spc) : SameSz s s := ⟨rfl, rfl, rfl⟩
theorem SameSz.r {s t : Spc} (h : SameSz s t) : t.r = s.r := by unfold Spc.r; rw [h.mo, h.alt]
theorem SameSz.c {s t : Spc} (h : SameSz s t) : t.c = s.c := by unfold Spc.c; rw [h.mo, h.alt]
theorem SameSz.set {s t : Spc} (h : SameSz s t) (n : Int) (c : Cel) : SameSz s (t.setC n c) := ⟨by rw [← h.len]; simp [Spc.setC, Spc.put1], h.mo, h.alt⟩
theorem repR_sz (s : Spc) (l : List Nat) (c : Cel) : ∀ k, SameSz s (repR s l c k)
  | 0 => SameSz.refl s
  | k + 1 => (repR_sz s l c k).set _ _
theorem spS_mem {s : Spc} (hok : s.OK) {p q : Int} {x : Nat} (h : x ∈ spS s p q) : x < 10000 := by
  unfold spS spN at h
  obtain ⟨i, -, rfl⟩ := List.mem_map.1 h
  have := hok.pos
  have := Nat.mod_lt (s.wr p + i) (show s.L.length > 0 by omega)
  omega
section
variable {b g : Nat} {s : Spc}
attribute [local go_sem] Oper.semAt_some
set_option maxRecDepth 100000 in
set_option maxHeartbeats 8000000 in
theorem repeat_in (m : Nat) (hm : 10 ≤ m) (p q : Int) (hp : I64 p) (hq : I64 q) (c : Cel) (hc : c.OK) (w : World) (h : SpM w b g s) :
    CallsIn Fence.wide m Tryd.prog 64 #[.pointer (some ⟨b, 0, none⟩), .int .i64 p, .int .i64 q, c.v] w fun e w' => e = .returned (.int .i64 (lenZ s.r s.c p q)) ∧ SpM w' b g (repS s p q c) ∧ Moved w w' [b, g] [b, g] := by
  have hok := h.ok
  have hN := hok.pos
  have hbw := h.lt.1
  have hgw := h.lt.2
  have HSZ := hid (fun W (t : Spc) (ht : SpM W b g t) => size_any (b := b) (g := g) (s := t) W ht)
  have HLN := hid (fun W => length_ok s.r s.c p q hok.sz hp hq W)
  have HSP := hid h
  obtain ⟨x0, x1, x2, x3, x4, x5⟩ := c
  have HST := hid (fun (n : Int) (hn : I64 n) W (t : Spc) (ht : SpM W b g t) => (show Calls Tryd.prog 29 #[.pointer (some ⟨b, 0, none⟩), .int .i64 n, .agg #[.int .u8 x0, .bool x1, .int .u8 x2, .int .u8 x3, .int .u8 x4, .int .u8 x5]] W (SpD b g (t.setC n ⟨x0, x1, x2, x3, x4, x5⟩) W) from set_any (b := b) (g := g) (s := t) n hn ⟨x0, x1, x2, x3, x4, x5⟩ hc W ht))
  have HSQ := hid (fun bx bp bq V => (show SeqF Fence.wide (m - 1) Tryd.prog 93 #[.pointer (some ⟨bx, 0, none⟩), .pointer (some ⟨bp, 0, none⟩), .pointer (some ⟨bq, 0, none⟩)] encI (fun k x _ => (spS s p q)[k]? = some x) (spS s p q).length (RSp bx bp bq s.r s.c p q) V from by
    have q0 := span_seq (m - 1) (by omega) bx bp bq s.L.length s.r s.c p q hok.sz hok.len.symm hp hq V
    unfold spS
    rw [spN_len]
    exact q0))
  have HMB := hid (fun x (hx : x ∈ spS s p q) => spS_mem hok hx)
  have HSR := hid (fun l k => repR_sz s l ⟨x0, x1, x2, x3, x4, x5⟩ k)
  have HSI := hid (fun (p q : Int) W => spanIt s.r s.c p q W)
  unfold repS
  generalize spS s p q = pl at HSQ HMB ⊢
  clear h hc
  refine callsIn_of_wp_marks Tryd.func64 rfl trivial ?_ rfl
  simp only [Tryd.ntmps64, List.size_toArray, List.length_cons, List.length_nil, Nat.reduceAdd, Nat.reduceSub, Array.replicate_succ, Array.replicate_zero, List.push_toArray, List.append_toArray, List.nil_append, List.cons_append]
  gi_wp2
  obtain ⟨a0, ha0⟩ : ∃ a0, (w.alloc (.cells #[.pointer (some ⟨b, 0, none⟩)] 25)).alloc (.cells #[.int .u8 x0, .bool x1, .int .u8 x2, .int .u8 x3, .int .u8 x4, .int .u8 x5] 47) = a0 := ⟨_, rfl⟩
  have hz0' : a0.heap.size = w.heap.size + 2 := by rw [← ha0]; simp
  have HA0 := hid (show Below w.heap.size w a0 ∧ a0.cell? ⟨w.heap.size, 0, none⟩ = some (.pointer (some ⟨b, 0, none⟩)) ∧ CBx a0 (w.heap.size + 1) ⟨x0, x1, x2, x3, x4, x5⟩ from ⟨by rw [← ha0]; exact bal (bal (Below.refl _ _) _) _, by rw [← ha0]; simp [go_sem], by rw [← ha0]; exact ⟨by simp [go_sem], by simp [go_sem], by simp [go_sem], by simp [go_sem], by simp [go_sem], by simp [go_sem]⟩⟩)
  simp only [ha0]
  clear ha0
  refine ⟨trivial, fun _ => (by omega), ?_⟩
  refine (callsIn_wide.2 (HSZ.out _ _ (HSP.out.below HA0.out.1))).mono ?_
  rintro e w0 ⟨rfl, hb0⟩
  have H0 := hid (show Below w.heap.size w w0 ∧ w0.cell? ⟨w.heap.size, 0, none⟩ = some (.pointer (some ⟨b, 0, none⟩)) ∧ CBx w0 (w.heap.size + 1) ⟨x0, x1, x2, x3, x4, x5⟩ from ⟨below_t HA0.out.1 hb0, keepc hb0 HA0.out.2.1, HA0.out.2.2.step hb0⟩)
  have hzz := hb0.size
  clear hb0 HA0
  gi_wp2
  refine ⟨trivial, fun _ => (by omega), ?_⟩
  refine (callsIn_wide.2 (HSI.out p q _)).mono ?_
  rintro e w1 ⟨bx, bp, bq, rfl, hbx, hbp, hbq, hrs, hb1⟩
  have hzw := hb1.size
  have hlz : w.heap.size ≤ w1.heap.size := by omega
  have HB1 := hid (below_t H0.out.1 hb1)
  have HI0 := hid (show (w1.cell? ⟨w.heap.size, 0, none⟩ = some (.pointer (some ⟨b, 0, none⟩)) ∧ CBx w1 (w.heap.size + 1) ⟨x0, x1, x2, x3, x4, x5⟩ ∧ RSp bx bp bq s.r s.c p q w1 ∧ SpM w1 b g (repR s pl ⟨x0, x1, x2, x3, x4, x5⟩ 0) ∧ Moved w w1 [b, g] [b, g]) from ⟨keepc hb1 H0.out.2.1, H0.out.2.2.step hb1, hrs, HSP.out.below HB1.out, Moved.below HB1.out _⟩)
  have hbx' : w.heap.size + 2 ≤ bx := by omega
  have hbp' : w.heap.size + 2 ≤ bp := by omega
  have hbq' : w.heap.size + 2 ≤ bq := by omega
  clear hb1 hrs hbx hbp hbq H0
  gi_wp2
  refine rangeFunc_seq (n := m) (w := w1) rfl (by omega) (gf := 93) (lb := #[.pointer (some ⟨bx, 0, none⟩), .pointer (some ⟨bp, 0, none⟩), .pointer (some ⟨bq, 0, none⟩)]) rfl trivial (enters_of Tryd.func93 (by kernel_rfl) rfl)
    (encs := encI) (fun _ => rfl) (el := fun k x _ => pl[k]? = some x) (N := pl.length) (R := RSp bx bp bq s.r s.c p q)
    (fun k S V => (V.cell? ⟨w.heap.size, 0, none⟩ = some (.pointer (some ⟨b, 0, none⟩)) ∧ CBx V (w.heap.size + 1) ⟨x0, x1, x2, x3, x4, x5⟩ ∧ RSp bx bp bq s.r s.c p q V ∧ SpM V b g (repR s pl ⟨x0, x1, x2, x3, x4, x5⟩ k) ∧ Moved w V [b, g] [b, g])) (fun _ _ _ _ => False) ?hI ?hIx ?hR HI0.out
    (fun k S x a V => (V.cell? ⟨w.heap.size, 0, none⟩ = some (.pointer (some ⟨b, 0, none⟩)) ∧ CBx V (w.heap.size + 1) ⟨x0, x1, x2, x3, x4, x5⟩ ∧ RSp bx bp bq s.r s.c p q V ∧ SpM V b g (repR s pl ⟨x0, x1, x2, x3, x4, x5⟩ k) ∧ Moved w V [b, g] [b, g]) ∧ pl[k]? = some x ∧ a = { tmps := #[.pointer (some ⟨b, 0, none⟩), .int .i64 p, .int .i64 q, .agg #[.int .u8 x0, .bool x1, .int .u8 x2, .int .u8 x3, .int .u8 x4, .int .u8 x5], .pointer (some ⟨w.heap.size, 0, none⟩), undef, undef, .pointer (some ⟨w.heap.size + 1, 0, none⟩), .int .i64 0, .int .i64 (x : Nat), .pointer (some ⟨b, 0, none⟩), sizeV s.r s.c, .int .i64 p, .int .i64 q, .func (.func 93) #[] #[.pointer (some ⟨bx, 0, none⟩), .pointer (some ⟨bp, 0, none⟩), .pointer (some ⟨bq, 0, none⟩)], .int .i64 (x : Nat), undef, undef, undef, undef, undef, undef, undef, undef, undef], defers := [] }) ?hAx ?assign ?body ?iter ?done ?stop
  case hI => exact fun k S A C hg ⟨h1, h2, h3, h4, h5⟩ => ⟨cell_grow hg h1, h2.grow hg, h3.grow hg, h4.grow hg, moved_grow h5 hg hlz⟩
  case hIx => exact fun c k S A C hg h => h.elim
  case hR => exact fun k S V h => h.2.2.1
  case hAx => exact fun k S x a A C hg ⟨⟨h1, h2, h3, h4, h5⟩, h8, h9⟩ => ⟨⟨cell_grow hg h1, h2.grow hg, h3.grow hg, h4.grow hg, moved_grow h5 hg hlz⟩, h8, h9⟩
  case iter => exact fun o1 o2 _ _ => HSQ.out bx bp bq _
  case assign =>
    rintro l' k x S V KK hk hx1 hi' hsz hK
    have HK := hid hK
    have HI := hid hi'
    clear hK hi'
    gi_wp2
    exact HK.out _ _ (Touch.refl _ _ _) ⟨HI.out, hx1, by first | rfl | simp⟩
  case body =>
    rintro l' k x S a' V hk ⟨hJ, hx, rfl⟩ hsz
    have HJ := hid hJ
    have hxm := HMB.out x (List.mem_of_getElem? hx)
    have hxk : pl.getD k 0 = x := by rw [List.getD_eq_getElem?_getD, hx]; rfl
    have hDR : repR s pl ⟨x0, x1, x2, x3, x4, x5⟩ (k + 1) = (repR s pl ⟨x0, x1, x2, x3, x4, x5⟩ k).setC (x : Nat) ⟨x0, x1, x2, x3, x4, x5⟩ := by rw [← hxk]; rfl
    rw [hDR]
    have HSTk := hid (HST.out (x : Int) (i64_small (by omega) (by omega)) V _ hJ.2.2.2.1)
    have c1 := hJ.1
    obtain ⟨d0, d1, d2, d3, d4, d5⟩ := hJ.2.1
    have l1 := World.block_lt_of_cell? V _ c1
    have l2 := World.block_lt_of_cell? V _ d0
    have hbm : b < w1.heap.size := by omega
    have hgm : g < w1.heap.size := by omega
    clear hJ hx hxk hDR
    gi_wp2
    refine ⟨trivial, fun _ => (by omega), ?_⟩
    refine (callsIn_wide.2 HSTk.out).mono ?_
    rintro e w5 ⟨⟨v5, rfl⟩, hs5, hm5⟩
    have HS5 := hid hs5
    have HM5 := hid hm5
    clear hs5 hm5
    gi_wp2
    obtain ⟨j1, j2, j3, j4, j5⟩ := HJ.out
    exact ⟨S, touch_old HM5.out hbm hgm S, cell_moved HM5.out j1 (by simp; omega), j2.moved HM5.out (by simp; omega), j3.moved HM5.out (by simp; omega) (by simp; omega) (by simp; omega), HS5.out, j5.trans HM5.out⟩
  case done =>
    rintro D S V hD ⟨h1, h2, h3, h4, h5⟩ hK
    have l1 := World.block_lt_of_cell? V _ h1
    have HSk := hid (HSZ.out V _ h4)
    rw [(HSR.out pl pl.length).r, (HSR.out pl pl.length).c] at HSk
    have HK := hid hK
    have H4 := hid h4
    have H5 := hid h5
    clear hK h5 h4 h3 h2
    gi_wp2
    refine ⟨trivial, fun _ => (by omega), ?_⟩
    refine (callsIn_wide.2 HSk.out).mono ?_
    rintro e w6 ⟨rfl, hb6⟩
    have HB6 := hid hb6
    clear hb6
    gi_wp2
    refine ⟨trivial, fun _ => (by omega), ?_⟩
    refine (callsIn_wide.2 (HLN.out _)).mono ?_
    rintro e w7 ⟨rfl, hb7⟩
    have HB7 := hid (below_t HB6.out hb7)
    clear hb7
    gi_wp2
    have hD7 := hid ((HB7.out.block D (Array.getElem?_eq_some_iff.1 HK.out).1).trans HK.out)
    refine ⟨by simp, .inl ⟨_, _, rfl, run_takeDeferred hD7.out, ?_⟩⟩
    have hg := Grow.put (m := w1.heap.size) (.deferred none) hD hD7.out rfl
    exact ⟨.int .i64 (lenZ s.r s.c p q), by simp [results, Tryd.f64, go_sem], rfl, (H4.out.below HB7.out).grow hg, moved_grow (H5.out.trans (Moved.below HB7.out _)) hg hlz⟩
  case stop => exact fun _ _ _ _ _ _ _ h => h.elim
end
end Go.Proofs.YtdampfngdnicoaaDoor
namespace Go.Proofs.YtdampfngdnicoaaDoor
open Go.RowKit Go.Lib Go.Deep

/-- Is the field protected at a place of the list? -/
def flR (s : Spc) (l : List Nat) (f0 : Bool) : Nat → Bool
  | 0 => f0
  | k + 1 => if s.P (l.getD k 0) then (s.cel (l.getD k 0)).prot else flR s l f0 k
/-- The open places, nulled one by one. -/
def rngR (s : Spc) (l : List Nat) (f0 : Bool) : Nat → Spc
  | 0 => s
  | k + 1 => if flR s l f0 (k + 1) then rngR s l f0 k else (rngR s l f0 k).putC (l.getD k 0 : Nat) 0
def fl0 (s : Spc) (p : Int) : Bool := protF s (stF s.P s.L.length (s.wr p))
def rngS (s : Spc) (p q : Int) : Spc := rngR s (spS s p q) (fl0 s p) (spS s p q).length
theorem rngR_alike (s : Spc) (l : List Nat) (f0 : Bool) : ∀ k, Alike s (rngR s l f0 k)
  | 0 => Alike.refl s
  | k + 1 => by
    show Alike s (if _ then _ else _)
    split
    · exact rngR_alike s l f0 k
    · exact (rngR_alike s l f0 k).put _ _
theorem rngR_attr {s : Spc} (l : List Nat) (f0 : Bool) {i : Nat} (hi : s.P i = true) : ∀ k, (rngR s l f0 k).cel i = s.cel i
  | 0 => rfl
  | k + 1 => by
    show (if _ then _ else _ : Spc).cel i = _
    split
    · exact rngR_attr l f0 hi k
    · rw [putC_attr _ _ (by rw [(rngR_alike s l f0 k).P]; exact hi)]
      exact rngR_attr l f0 hi k
/-- A field's box; whether it is protected. -/
def FBx (V : World) (a : Nat) (p : Bool) : Prop := ∃ (n : Bool) (d : Int) (m : Bool), V.cell? ⟨a, 0, none⟩ = some (.bool p) ∧ V.cell? ⟨a, 1, none⟩ = some (.bool n) ∧ V.cell? ⟨a, 2, none⟩ = some (.int .i64 d) ∧ V.cell? ⟨a, 3, none⟩ = some (.bool m) ∧ V.frozen? ⟨a, 0, none⟩ = false ∧ V.frozen? ⟨a, 1, none⟩ = false ∧ V.frozen? ⟨a, 2, none⟩ = false ∧ V.frozen? ⟨a, 3, none⟩ = false
theorem FBx.grow {m a : Nat} {p : Bool} {A B : World} (h : FBx A a p) (hg : Grow m A B) : FBx B a p := by
  obtain ⟨n, d, x, h0, h1, h2, h3, f0, f1, f2, f3⟩ := h
  exact ⟨n, d, x, cell_grow hg h0, cell_grow hg h1, cell_grow hg h2, cell_grow hg h3, frozen_grow hg h0 f0, frozen_grow hg h1 f1, frozen_grow hg h2 f2, frozen_grow hg h3 f3⟩
theorem FBx.moved {a : Nat} {p : Bool} {A B : World} {S S' : List Nat} (h : FBx A a p) (m : Moved A B S S') (ha : a ∉ S) : FBx B a p := by
  obtain ⟨n, d, x, h0, h1, h2, h3, f0, f1, f2, f3⟩ := h
  have hb := m.block a (World.block_lt_of_cell? A _ h0) ha
  exact ⟨n, d, x, cell_moved m h0 ha, cell_moved m h1 ha, cell_moved m h2 ha, cell_moved m h3 ha, (World.frozen?_of_block (a := ⟨a, 0, none⟩) hb).trans f0, (World.frozen?_of_block (a := ⟨a, 1, none⟩) hb).trans f1, (World.frozen?_of_block (a := ⟨a, 2, none⟩) hb).trans f2, (World.frozen?_of_block (a := ⟨a, 3, none⟩) hb).trans f3⟩
theorem FBx.step {a : Nat} {p : Bool} {A B : World} (h : FBx A a p) (hb : Below A.heap.size A B) : FBx B a p := h.moved (Moved.below hb []) (fun q => by cases q)
theorem FBx.lt {a : Nat} {p : Bool} {A : World} (h : FBx A a p) : a < A.heap.size := by
  obtain ⟨_, _, _, h0, _⟩ := h
  exact World.block_lt_of_cell? A _ h0
def put4 (w : World) (b : Nat) (c0 c1 c2 c3 : Value) : World := (((w.setCell ⟨b, 0, none⟩ c0).setCell ⟨b, 1, none⟩ c1).setCell ⟨b, 2, none⟩ c2).setCell ⟨b, 3, none⟩ c3
theorem set_o {w : World} {g i j : Nat} (hij : j ≠ i) {u x : Value} (c : w.cell? ⟨g, j, none⟩ = some u) : (w.setCell ⟨g, i, none⟩ x).cell? ⟨g, j, none⟩ = some u := by
  rw [World.cell?_setCell_other _ _ _ _ (fun q => by injection q; omega)]
  exact c
theorem set_s {w : World} {g i : Nat} {u x : Value} (c : w.cell? ⟨g, i, none⟩ = some u) : (w.setCell ⟨g, i, none⟩ x).cell? ⟨g, i, none⟩ = some x := World.cell?_setCell_same _ _ _ c
theorem FBx.put {a : Nat} {p : Bool} {A : World} (h : FBx A a p) (q n : Bool) (d : Int) (m : Bool) : FBx (put4 A a (.bool q) (.bool n) (.int .i64 d) (.bool m)) a q := by
  obtain ⟨n', d', x, h0, h1, h2, h3, f0, f1, f2, f3⟩ := h
  refine ⟨n, d, m, ?_, ?_, ?_, ?_, ?_, ?_, ?_, ?_⟩
  · exact set_o (by omega) (set_o (by omega) (set_o (by omega) (set_s h0)))
  · exact set_o (by omega) (set_o (by omega) (set_s (set_o (by omega) h1)))
  · exact set_o (by omega) (set_s (set_o (by omega) (set_o (by omega) h2)))
  · exact set_s (set_o (by omega) (set_o (by omega) (set_o (by omega) h3)))
  · unfold put4; simp [f0]
  · unfold put4; simp [f1]
  · unfold put4; simp [f2]
  · unfold put4; simp [f3]
theorem put4_moved (w : World) (b : Nat) (c0 c1 c2 c3 : Value) : Moved w (put4 w b c0 c1 c2 c3) [b] [b] :=
  (((Moved.set (by simp) _ _).trans (Moved.set (by simp) _ _)).trans (Moved.set (by simp) _ _)).trans (Moved.set (by simp) _ _)
theorem put4_touch (w : World) (b m : Nat) (hb : b < m) (c0 c1 c2 c3 : Value) (S : List Nat) : Touch m w (put4 w b c0 c1 c2 c3) S S :=
  (((Touch.set w ⟨b, 0, none⟩ c0 (.inl hb)).trans (Touch.set _ ⟨b, 1, none⟩ c1 (.inl hb))).trans (Touch.set _ ⟨b, 2, none⟩ c2 (.inl hb))).trans (Touch.set _ ⟨b, 3, none⟩ c3 (.inl hb))
theorem put4_newc {w A : World} {S S' : List Nat} (h : Moved w A S S') {i : Nat} (hi : w.heap.size ≤ i) (c0 c1 c2 c3 : Value) : Moved w (put4 A i c0 c1 c2 c3) S S' :=
  moved_newc (moved_newc (moved_newc (moved_newc h hi 0 c0) hi 1 c1) hi 2 c2) hi 3 c3
theorem spS_lt {s : Spc} (hok : s.OK) {p q : Int} {x : Nat} (h : x ∈ spS s p q) : x < s.L.length := by
  unfold spS spN at h
  obtain ⟨i, -, rfl⟩ := List.mem_map.1 h
  have := hok.pos
  exact Nat.mod_lt (s.wr p + i) (show s.L.length > 0 by omega)
section
variable {b g : Nat} {s : Spc}
/-- The field of any place, as a value. -/
theorem fof_any (n : Int) (hn : I64 n) (hok : s.OK) : ∃ (n0 : Bool) (d0 : Int) (m0 ok0 : Bool), ∀ W, SpM W b g s → Calls Tryd.prog 73 #[.pointer (some ⟨b, 0, none⟩), .int .i64 n] W fun e w' => e = .returned (.tuple #[.agg #[.bool (fl0 s n), .bool n0, .int .i64 d0, .bool m0], .bool ok0]) ∧ Below W.heap.size W w' := by
  rcases stF_bd s.P (hok.wr_lt n) with e | ⟨a, ha, hp, e⟩
  · refine ⟨false, 0, false, false, fun W h => ?_⟩
    unfold fl0
    rw [e]
    exact fof_no n hn e W h
  · refine ⟨ofN (s.cel a).fa.toNat, ofD (s.cel a).fa.toNat, ofM (s.cel a).fa.toNat, true, fun W h => ?_⟩
    have q : fl0 s n = ofP (s.cel a).fa.toNat := by
      unfold fl0 protF
      rw [e, if_neg (by omega)]
      rfl
    rw [q]
    exact fof_yes n hn a e W h
attribute [local go_sem] Oper.semAt_some
set_option maxRecDepth 100000 in
set_option maxHeartbeats 8000000 in
theorem range_in (m : Nat) (hm : 10 ≤ m) (p q : Int) (hp : I64 p) (hq : I64 q) (w : World) (h : SpM w b g s) :
    CallsIn Fence.wide m Tryd.prog 55 #[.pointer (some ⟨b, 0, none⟩), .int .i64 p, .int .i64 q] w (SpD b g (rngS s p q) w) := by
  have hok := h.ok
  have hN := hok.pos
  have hbw := h.lt.1
  have hgw := h.lt.2
  have HSZ := hid (fun W (t : Spc) (ht : SpM W b g t) => size_any (b := b) (g := g) (s := t) W ht)
  have HSP := hid h
  obtain ⟨n0, d0, m0, ok0, hof⟩ := fof_any (b := b) (g := g) (s := s) p hp hok
  have HOF := hid hof
  have HPU := hid (fun (q : Int) (hq : I64 q) W (t : Spc) (ht : SpM W b g t) => put_any (b := b) (g := g) (s := t) q hq 0 u8_zero W ht)
  have HSQ := hid (fun bx bp bq V => (show SeqF Fence.wide (m - 1) Tryd.prog 93 #[.pointer (some ⟨bx, 0, none⟩), .pointer (some ⟨bp, 0, none⟩), .pointer (some ⟨bq, 0, none⟩)] encI (fun k x _ => (spS s p q)[k]? = some x) (spS s p q).length (RSp bx bp bq s.r s.c p q) V from by
    have q0 := span_seq (m - 1) (by omega) bx bp bq s.L.length s.r s.c p q hok.sz hok.len.symm hp hq V
    unfold spS
    rw [spN_len]
    exact q0))
  have HMB := hid (fun x (hx : x ∈ spS s p q) => spS_lt hok hx)
  have HAL := hid (fun l f k => rngR_alike s l f k)
  have HAT := hid (fun l f i (hi : s.P i = true) k => rngR_attr l f hi k)
  have HSI := hid (fun (p q : Int) W => spanIt s.r s.c p q W)
  unfold rngS
  generalize spS s p q = pl at HSQ HMB ⊢
  generalize fl0 s p = f0 at HOF ⊢
  clear h hof
  refine callsIn_of_wp_marks Tryd.func55 rfl trivial ?_ rfl
  simp only [Tryd.ntmps55, List.size_toArray, List.length_cons, List.length_nil, Nat.reduceAdd, Nat.reduceSub, Array.replicate_succ, Array.replicate_zero, List.push_toArray, List.append_toArray, List.nil_append, List.cons_append]
  gi_wp2
  obtain ⟨a0, ha0⟩ : ∃ a0, w.alloc (.cells #[.pointer (some ⟨b, 0, none⟩)] 25) = a0 := ⟨_, rfl⟩
  have hz0' : a0.heap.size = w.heap.size + 1 := by rw [← ha0]; simp
  have HA0 := hid (show Below w.heap.size w a0 ∧ a0.cell? ⟨w.heap.size, 0, none⟩ = some (.pointer (some ⟨b, 0, none⟩)) from ⟨by rw [← ha0]; exact bal (Below.refl _ _) _, by rw [← ha0]; simp [go_sem]⟩)
  simp only [ha0]
  clear ha0
  refine ⟨trivial, fun _ => (by omega), ?_⟩
  refine (callsIn_wide.2 (HOF.out _ (HSP.out.below HA0.out.1))).mono ?_
  rintro e wf ⟨rfl, hbf⟩
  have hzf := hbf.size
  obtain ⟨fb, hfb⟩ : ∃ fb, wf.heap.size = fb := ⟨_, rfl⟩
  have hcf := keepc hbf HA0.out.2
  have hlf := World.block_lt_of_cell? wf _ hcf
  obtain ⟨a1, ha1⟩ : ∃ a1, wf.alloc (.cells #[.bool f0, .bool n0, .int .i64 d0, .bool m0] 126) = a1 := ⟨_, rfl⟩
  have HA1 := hid (show Below w.heap.size w a1 ∧ a1.cell? ⟨w.heap.size, 0, none⟩ = some (.pointer (some ⟨b, 0, none⟩)) ∧ FBx a1 fb f0 from ⟨by rw [← ha1]; exact bal (below_t HA0.out.1 hbf) _, by rw [← ha1]; exact keepc (bal (Below.refl _ _) _) hcf, by rw [← ha1, ← hfb]; exact ⟨n0, d0, m0, by simp [go_sem], by simp [go_sem], by simp [go_sem], by simp [go_sem], by simp [go_sem], by simp [go_sem], by simp [go_sem], by simp [go_sem]⟩⟩)
  have hc1 := HA1.out.2.1
  have hl1 := World.block_lt_of_cell? a1 _ hc1
  have hfb1' : fb < a1.heap.size := HA1.out.2.2.lt
  clear hbf hcf HA0
  gi_wp2
  try simp only [ha1]
  (try rw [hfb])
  clear ha1 hlf
  refine ⟨trivial, fun _ => (by omega), ?_⟩
  refine (callsIn_wide.2 (HSZ.out _ _ (HSP.out.below HA1.out.1))).mono ?_
  rintro e w0 ⟨rfl, hb0⟩
  have H0 := hid (show Below w.heap.size w w0 ∧ w0.cell? ⟨w.heap.size, 0, none⟩ = some (.pointer (some ⟨b, 0, none⟩)) ∧ FBx w0 fb f0 from ⟨below_t HA1.out.1 hb0, keepc hb0 HA1.out.2.1, HA1.out.2.2.step hb0⟩)
  have hzz := hb0.size
  clear hb0 HA1 hc1 hl1
  gi_wp2
  refine ⟨trivial, fun _ => (by omega), ?_⟩
  refine (callsIn_wide.2 (HSI.out p q _)).mono ?_
  rintro e w1 ⟨bx, bp, bq, rfl, hbx, hbp, hbq, hrs, hb1⟩
  have hzw := hb1.size
  have hlz : w.heap.size ≤ w1.heap.size := by omega
  have HB1 := hid (below_t H0.out.1 hb1)
  have HI0 := hid (show (w1.cell? ⟨w.heap.size, 0, none⟩ = some (.pointer (some ⟨b, 0, none⟩)) ∧ FBx w1 fb (flR s pl f0 0) ∧ RSp bx bp bq s.r s.c p q w1 ∧ SpM w1 b g (rngR s pl f0 0) ∧ Moved w w1 [b, g] [b, g]) from ⟨keepc hb1 H0.out.2.1, H0.out.2.2.step hb1, hrs, HSP.out.below HB1.out, Moved.below HB1.out _⟩)
  have hfb1 : fb < w1.heap.size := by omega
  have hfw : w.heap.size < fb := by omega
  have hbx' : fb < bx := by omega
  have hbp' : fb < bp := by omega
  have hbq' : fb < bq := by omega
  clear hb1 hrs hbx hbp hbq H0 hfb
  gi_wp2
  refine rangeFunc_seq (n := m) (w := w1) rfl (by omega) (gf := 93) (lb := #[.pointer (some ⟨bx, 0, none⟩), .pointer (some ⟨bp, 0, none⟩), .pointer (some ⟨bq, 0, none⟩)]) rfl trivial (enters_of Tryd.func93 (by kernel_rfl) rfl)
    (encs := encI) (fun _ => rfl) (el := fun k x _ => pl[k]? = some x) (N := pl.length) (R := RSp bx bp bq s.r s.c p q)
    (fun k S V => (V.cell? ⟨w.heap.size, 0, none⟩ = some (.pointer (some ⟨b, 0, none⟩)) ∧ FBx V fb (flR s pl f0 k) ∧ RSp bx bp bq s.r s.c p q V ∧ SpM V b g (rngR s pl f0 k) ∧ Moved w V [b, g] [b, g])) (fun _ _ _ _ => False) ?hI ?hIx ?hR HI0.out
    (fun k S x a V => (V.cell? ⟨w.heap.size, 0, none⟩ = some (.pointer (some ⟨b, 0, none⟩)) ∧ FBx V fb (flR s pl f0 k) ∧ RSp bx bp bq s.r s.c p q V ∧ SpM V b g (rngR s pl f0 k) ∧ Moved w V [b, g] [b, g]) ∧ pl[k]? = some x ∧ a = { tmps := #[.pointer (some ⟨b, 0, none⟩), .int .i64 p, .int .i64 q, .pointer (some ⟨w.heap.size, 0, none⟩), undef, undef, .pointer (some ⟨fb, 0, none⟩), .bool ok0, .int .i64 (x : Nat), .tuple #[.agg #[.bool f0, .bool n0, .int .i64 d0, .bool m0], .bool ok0], .pointer (some ⟨b, 0, none⟩), .int .i64 p, .tuple #[.agg #[.bool f0, .bool n0, .int .i64 d0, .bool m0], .bool ok0], .agg #[.bool f0, .bool n0, .int .i64 d0, .bool m0], .bool ok0, .pointer (some ⟨b, 0, none⟩), sizeV s.r s.c, .int .i64 p, .int .i64 q, .func (.func 93) #[] #[.pointer (some ⟨bx, 0, none⟩), .pointer (some ⟨bp, 0, none⟩), .pointer (some ⟨bq, 0, none⟩)], .int .i64 (x : Nat), undef, undef, undef, undef, undef, undef, undef, undef, undef, undef, undef, undef, undef, undef, undef, undef], defers := [] }) ?hAx ?assign ?body ?iter ?done ?stop
  case hI => exact fun k S A C hg ⟨h1, h2, h3, h4, h5⟩ => ⟨cell_grow hg h1, h2.grow hg, h3.grow hg, h4.grow hg, moved_grow h5 hg hlz⟩
  case hIx => exact fun c k S A C hg h => h.elim
  case hR => exact fun k S V h => h.2.2.1
  case hAx => exact fun k S x a A C hg ⟨⟨h1, h2, h3, h4, h5⟩, h8, h9⟩ => ⟨⟨cell_grow hg h1, h2.grow hg, h3.grow hg, h4.grow hg, moved_grow h5 hg hlz⟩, h8, h9⟩
  case iter => exact fun o1 o2 _ _ => HSQ.out bx bp bq _
  case assign =>
    rintro l' k x S V KK hk hx1 hi' hsz hK
    have HK := hid hK
    have HI := hid hi'
    clear hK hi'
    gi_wp2
    exact HK.out _ _ (Touch.refl _ _ _) ⟨HI.out, hx1, by first | rfl | simp⟩
  case body =>
    rintro l' k x S a' V hk ⟨hJ, hx, rfl⟩ hsz
    have HJ := hid hJ
    have hxm := HMB.out x (List.mem_of_getElem? hx)
    have hxk : pl.getD k 0 = x := by rw [List.getD_eq_getElem?_getD, hx]; rfl
    have HSV := hid hJ.2.2.2.1
    have HFB := hid hJ.2.1
    have hal := HAL.out pl f0 k
    have hxl : x < (rngR s pl f0 k).L.length := by rw [hal.len]; exact hxm
    have HATx := hid (fun W (hb : Below V.heap.size V W) => (show Calls Tryd.prog 14 #[.pointer (some ⟨b, 0, none⟩), .int .i64 (x : Nat)] W fun e w' => e = .returned ((rngR s pl f0 k).cel x).v ∧ Below W.heap.size W w' from by
      have q1 := at_any (b := b) (g := g) (s := rngR s pl f0 k) (x : Int) (i64_small (by omega) (by omega)) W (hJ.2.2.2.1.below hb)
      unfold Spc.atC at q1
      rwa [wr_nat hxl] at q1))
    have HPUk := hid (fun W (hW : SpM W b g (rngR s pl f0 k)) => HPU.out (x : Int) (i64_small (by omega) (by omega)) W _ hW)
    have HOFy := hid (fun (hP : s.P x = true) W (hW : SpM W b g (rngR s pl f0 k)) => fof_yes (b := b) (g := g) (s := rngR s pl f0 k) (x : Int) (i64_small (by omega) (by omega)) x (by rw [wr_nat hxl, hal.P]; exact stF_self (by rw [hal.len]; omega) hP) W hW)
    have hxa : ((rngR s pl f0 k).cel x).at_ = s.P x := congrFun hal.P x
    have hcx := fun (hP : s.P x = true) => HAT.out pl f0 x hP k
    have hfa : s.P x = true → flR s pl f0 (k + 1) = (s.cel x).prot := fun hP => by
      show (if s.P (pl.getD k 0) then _ else _) = _
      rw [hxk, hP]; rfl
    have hfb' : s.P x = false → flR s pl f0 (k + 1) = flR s pl f0 k := fun hP => by
      show (if s.P (pl.getD k 0) then _ else _) = _
      rw [hxk, hP]; rfl
    have hfl : FBx V fb (flR s pl f0 k) := hJ.2.1
    have hf1 := celf1
    have c1 := hJ.1
    have l1 := World.block_lt_of_cell? V _ c1
    have hbm : b < w1.heap.size := by omega
    have hgm : g < w1.heap.size := by omega
    cases hP : s.P x
    · have hfk0 := hfb' hP
      clear hfa hfb' hcx HOFy
      generalize (rngR s pl f0 k).cel x = c at HATx hxa
      obtain ⟨x0, x1, x2, x3, x4, x5⟩ := c
      dsimp only at hxa
      cases hF : flR s pl f0 (k + 1)
      · rw [← hfk0, hF] at HFB
        clear hJ hx hxl hal hfl hfk0
        have hx1 : x1 = false := by rw [hxa]; exact hP
        subst hx1
        have hfk : flR s pl f0 (k + 1) = false := hF
        have hDR : rngR s pl f0 (k + 1) = (rngR s pl f0 k).putC (x : Nat) 0 := by
          show (if flR s pl f0 (k + 1) then _ else (rngR s pl f0 k).putC (pl.getD k 0 : Nat) 0) = _
          rw [hfk, hxk]
          rfl
        rw [hDR]
        (try rw [hfk])
        clear hF hxa
        gi_wp2
        refine ⟨trivial, fun _ => (by omega), ?_⟩
        refine (callsIn_wide.2 (HATx.out _ (Below.refl _ _))).mono ?_
        rintro e w4 ⟨rfl, hb4⟩
        have HB4 := hid hb4
        have d1 := keepc hb4 c1
        have l4 := World.block_lt_of_cell? w4 _ d1
        have HF4 := hid (HFB.out.step hb4)
        clear hb4
        obtain ⟨n', d', m', z0, -⟩ := HF4.out
        have HFp := HF4
        have HSp := hid (HSV.out.below HB4.out)
        have HNP := hid (HJ.out.2.2.2.2.trans (Moved.below HB4.out [b, g]))
        gi_wp2
        refine ⟨trivial, fun _ => (by omega), ?_⟩
        refine (callsIn_wide.2 (HPUk.out _ HSp.out)).mono ?_
        rintro e w6 ⟨⟨v6, rfl⟩, hs6, hm6⟩
        have HS6 := hid hs6
        have HM6 := hid hm6
        clear hs6 hm6
        gi_wp2
        exact ⟨S, (Touch.below HB4.out _ S).trans (touch_old HM6.out hbm hgm S), cell_moved HM6.out (keepc HB4.out HJ.out.1) (by simp; omega), HFp.out.moved HM6.out (by simp; omega), (HJ.out.2.2.1.below HB4.out).moved HM6.out (by simp; omega) (by simp; omega) (by simp; omega), HS6.out, HNP.out.trans HM6.out⟩
      · rw [← hfk0, hF] at HFB
        clear hJ hx hxl hal hfl hfk0
        have hx1 : x1 = false := by rw [hxa]; exact hP
        subst hx1
        have hfk : flR s pl f0 (k + 1) = true := hF
        have hDR : rngR s pl f0 (k + 1) = rngR s pl f0 k := by
          show (if flR s pl f0 (k + 1) then _ else (rngR s pl f0 k).putC (pl.getD k 0 : Nat) 0) = _
          rw [hfk, hxk]
          rfl
        rw [hDR]
        (try rw [hfk])
        clear hF hxa
        gi_wp2
        refine ⟨trivial, fun _ => (by omega), ?_⟩
        refine (callsIn_wide.2 (HATx.out _ (Below.refl _ _))).mono ?_
        rintro e w4 ⟨rfl, hb4⟩
        have HB4 := hid hb4
        have d1 := keepc hb4 c1
        have l4 := World.block_lt_of_cell? w4 _ d1
        have HF4 := hid (HFB.out.step hb4)
        clear hb4
        obtain ⟨n', d', m', z0, -⟩ := HF4.out
        have HFp := HF4
        have HSp := hid (HSV.out.below HB4.out)
        have HNP := hid (HJ.out.2.2.2.2.trans (Moved.below HB4.out [b, g]))
        gi_wp2
        exact ⟨S, (Touch.below HB4.out _ S), keepc HB4.out HJ.out.1, HFp.out, (HJ.out.2.2.1.below HB4.out), HSp.out, HNP.out⟩
    · have hfk0 := hfa hP
      have HOFx0 := hid (HOFy.out hP)
      have hcx1 := hcx hP
      rw [hcx1] at HATx hxa HOFx0
      clear hfa hfb' hcx HOFy hcx1
      have hpr : (s.cel x).prot = ofP (s.cel x).fa.toNat := rfl
      generalize s.cel x = c at HATx hxa HOFx0 hfk0 hpr
      obtain ⟨x0, x1, x2, x3, x4, x5⟩ := c
      dsimp only at hxa hpr
      have HOFx := hid (show ∀ W, SpM W b g (rngR s pl f0 k) → Calls Tryd.prog 73 #[.pointer (some ⟨b, 0, none⟩), .int .i64 (x : Nat)] W fun e w' => e = .returned (.tuple #[.agg #[.bool (ofP x2.toNat), .bool (ofN x2.toNat), .int .i64 (ofD x2.toNat), .bool (ofM x2.toNat)], .bool true]) ∧ Below W.heap.size W w' from HOFx0.out)
      clear HOFx0
      generalize ofN x2.toNat = n1 at HOFx
      generalize ofD x2.toNat = d1x at HOFx
      generalize ofM x2.toNat = m1 at HOFx
      cases hF : flR s pl f0 (k + 1)
      · rw [← hpr, ← hfk0, hF] at HOFx
        clear hJ hx hxl hal hfl hfk0 hpr
        have hx1 : x1 = true := by rw [hxa]; exact hP
        subst hx1
        have hfk : flR s pl f0 (k + 1) = false := hF
        have hDR : rngR s pl f0 (k + 1) = (rngR s pl f0 k).putC (x : Nat) 0 := by
          show (if flR s pl f0 (k + 1) then _ else (rngR s pl f0 k).putC (pl.getD k 0 : Nat) 0) = _
          rw [hfk, hxk]
          rfl
        rw [hDR]
        (try rw [hfk])
        clear hF hxa
        gi_wp2
        refine ⟨trivial, fun _ => (by omega), ?_⟩
        refine (callsIn_wide.2 (HATx.out _ (Below.refl _ _))).mono ?_
        rintro e w4 ⟨rfl, hb4⟩
        have HB4 := hid hb4
        have d1 := keepc hb4 c1
        have l4 := World.block_lt_of_cell? w4 _ d1
        have HF4 := hid (HFB.out.step hb4)
        clear hb4
        gi_wp2
        refine ⟨trivial, fun _ => (by omega), ?_⟩
        refine (callsIn_wide.2 (HOFx.out _ (HSV.out.below HB4.out))).mono ?_
        rintro e w5 ⟨rfl, hb5⟩
        have HB5 := hid (below_t HB4.out hb5)
        have d2 := keepc hb5 d1
        have l5 := World.block_lt_of_cell? w5 _ d2
        have HF5 := hid (HF4.out.step hb5)
        obtain ⟨n', d', m', z0, z1, z2, z3, y0, y1, y2, y3⟩ := HF5.out
        have lf := HF5.out.lt
        obtain ⟨wp, hwp⟩ : ∃ V, put4 w5 fb (.bool false) (.bool n1) (.int .i64 d1x) (.bool m1) = V := ⟨_, rfl⟩
        have HFp := hid (show FBx wp fb false by rw [← hwp]; exact HF5.out.put false n1 d1x m1)
        have mp : Moved w5 wp [fb] [fb] := by rw [← hwp]; exact put4_moved _ _ _ _ _ _
        have HMP := hid mp
        have HTP := hid (show Touch w1.heap.size w5 wp S S by rw [← hwp]; exact put4_touch _ _ _ hfb1 _ _ _ _ _)
        have HNP := hid (show Moved w wp [b, g] [b, g] by rw [← hwp]; exact put4_newc (HJ.out.2.2.2.2.trans (Moved.below HB5.out _)) (by omega) _ _ _ _)
        have HSp := hid ((HSV.out.below HB5.out).moved mp (by simp; omega) (by simp; omega))
        have d3 := cell_moved mp d2 (by simp; omega)
        have l6 := World.block_lt_of_cell? wp _ d3
        have e0 := (show wp.cell? ⟨fb, 0, none⟩ = some (.bool false) from by obtain ⟨_, _, _, q, _⟩ := HFp.out; exact q)
        unfold put4 at hwp
        have HWP := hid hwp
        clear hb5 mp hwp
        clear e0
        gi_wp2
        simp only [HWP.out]
        refine ⟨trivial, fun _ => (by omega), ?_⟩
        refine (callsIn_wide.2 (HPUk.out _ HSp.out)).mono ?_
        rintro e w6 ⟨⟨v6, rfl⟩, hs6, hm6⟩
        have HS6 := hid hs6
        have HM6 := hid hm6
        clear hs6 hm6
        gi_wp2
        exact ⟨S, ((Touch.below HB5.out _ S).trans HTP.out).trans (touch_old HM6.out hbm hgm S), cell_moved HM6.out (cell_moved HMP.out (keepc HB5.out HJ.out.1) (by simp; omega)) (by simp; omega), HFp.out.moved HM6.out (by simp; omega), ((HJ.out.2.2.1.below HB5.out).moved HMP.out (by simp; omega) (by simp; omega) (by simp; omega)).moved HM6.out (by simp; omega) (by simp; omega) (by simp; omega), HS6.out, HNP.out.trans HM6.out⟩
      · rw [← hpr, ← hfk0, hF] at HOFx
        clear hJ hx hxl hal hfl hfk0 hpr
        have hx1 : x1 = true := by rw [hxa]; exact hP
        subst hx1
        have hfk : flR s pl f0 (k + 1) = true := hF
        have hDR : rngR s pl f0 (k + 1) = rngR s pl f0 k := by
          show (if flR s pl f0 (k + 1) then _ else (rngR s pl f0 k).putC (pl.getD k 0 : Nat) 0) = _
          rw [hfk, hxk]
          rfl
        rw [hDR]
        (try rw [hfk])
        clear hF hxa
        gi_wp2
        refine ⟨trivial, fun _ => (by omega), ?_⟩
        refine (callsIn_wide.2 (HATx.out _ (Below.refl _ _))).mono ?_
        rintro e w4 ⟨rfl, hb4⟩
        have HB4 := hid hb4
        have d1 := keepc hb4 c1
        have l4 := World.block_lt_of_cell? w4 _ d1
        have HF4 := hid (HFB.out.step hb4)
        clear hb4
        gi_wp2
        refine ⟨trivial, fun _ => (by omega), ?_⟩
        refine (callsIn_wide.2 (HOFx.out _ (HSV.out.below HB4.out))).mono ?_
        rintro e w5 ⟨rfl, hb5⟩
        have HB5 := hid (below_t HB4.out hb5)
        have d2 := keepc hb5 d1
        have l5 := World.block_lt_of_cell? w5 _ d2
        have HF5 := hid (HF4.out.step hb5)
        obtain ⟨n', d', m', z0, z1, z2, z3, y0, y1, y2, y3⟩ := HF5.out
        have lf := HF5.out.lt
        obtain ⟨wp, hwp⟩ : ∃ V, put4 w5 fb (.bool true) (.bool n1) (.int .i64 d1x) (.bool m1) = V := ⟨_, rfl⟩
        have HFp := hid (show FBx wp fb true by rw [← hwp]; exact HF5.out.put true n1 d1x m1)
        have mp : Moved w5 wp [fb] [fb] := by rw [← hwp]; exact put4_moved _ _ _ _ _ _
        have HMP := hid mp
        have HTP := hid (show Touch w1.heap.size w5 wp S S by rw [← hwp]; exact put4_touch _ _ _ hfb1 _ _ _ _ _)
        have HNP := hid (show Moved w wp [b, g] [b, g] by rw [← hwp]; exact put4_newc (HJ.out.2.2.2.2.trans (Moved.below HB5.out _)) (by omega) _ _ _ _)
        have HSp := hid ((HSV.out.below HB5.out).moved mp (by simp; omega) (by simp; omega))
        have d3 := cell_moved mp d2 (by simp; omega)
        have l6 := World.block_lt_of_cell? wp _ d3
        have e0 := (show wp.cell? ⟨fb, 0, none⟩ = some (.bool true) from by obtain ⟨_, _, _, q, _⟩ := HFp.out; exact q)
        unfold put4 at hwp
        have HWP := hid hwp
        clear hb5 mp hwp
        clear e0 d3 l6
        gi_wp2
        simp only [HWP.out]
        exact ⟨S, ((Touch.below HB5.out _ S).trans HTP.out), cell_moved HMP.out (keepc HB5.out HJ.out.1) (by simp; omega), HFp.out, ((HJ.out.2.2.1.below HB5.out).moved HMP.out (by simp; omega) (by simp; omega) (by simp; omega)), HSp.out, HNP.out⟩
  case done =>
    rintro D S V hD ⟨h1, h2, h3, h4, h5⟩ hK
    have HK := hid hK
    have H4 := hid h4
    have H5 := hid h5
    clear hK h5 h4 h3 h2 h1
    gi_wp2
    refine ⟨by simp, .inl ⟨_, _, rfl, run_takeDeferred HK.out, ?_⟩⟩
    have hg := Grow.put (m := w1.heap.size) (.deferred none) hD HK.out rfl
    exact ⟨_, results_none rfl _ _ _, ⟨_, rfl⟩, H4.out.grow hg, moved_grow H5.out hg hlz⟩
  case stop => exact fun _ _ _ _ _ _ _ h => h.elim
end
end Go.Proofs.YtdampfngdnicoaaDoor
