/-
  NegoAgrees: the law's walk.
-/
import Derived.Test.YtdpfjbpfafekfaaQa
import Derived.Deep.QuietTactic
import Derived.BigQuiet
namespace Go.Proofs.Ytdpfjbpfafekfaa
open Go.RowKit Go.Lib

/-- A config's box. -/
structure CfgB (w : World) (B : Nat) (u0 u1 u2 : Value) : Prop where
  c0 : w.cell? ⟨B, 0, none⟩ = some u0
  c1 : w.cell? ⟨B, 1, none⟩ = some u1
  c2 : w.cell? ⟨B, 2, none⟩ = some u2
  f0 : w.frozen? ⟨B, 0, none⟩ = false
  f1 : w.frozen? ⟨B, 1, none⟩ = false
  f2 : w.frozen? ⟨B, 2, none⟩ = false
theorem CfgB.new (w : World) (u0 u1 u2 : Value) (t : TypeId) : CfgB (w.alloc (.cells #[u0, u1, u2] t)) w.heap.size u0 u1 u2 := ⟨by simp [go_sem], by simp [go_sem], by simp [go_sem], by simp [go_sem], by simp [go_sem], by simp [go_sem]⟩
theorem CfgB.step {w w' : World} {B : Nat} {u0 u1 u2 : Value} (h : CfgB w B u0 u1 u2) (hb : Below w.heap.size w w') : CfgB w' B u0 u1 u2 :=
  have hl : B < w.heap.size := World.block_lt_of_cell? w _ h.c0
  ⟨keepc hb h.c0, keepc hb h.c1, keepc hb h.c2, (hb.frozen hl).trans h.f0, (hb.frozen hl).trans h.f1, (hb.frozen hl).trans h.f2⟩
theorem lit_reads (w : World) (C : Array Value) (fz : Nat × Nat) (xs : List Int) (n : Nat) (hC : C = (xs.map (Value.int .u8)).toArray) (hb : ∀ x ∈ xs, 0 ≤ x ∧ x < 256) (hn : n = xs.length) (hl : n ≤ 1000) : Reads (w.alloc (.cells C 5 fz)) (.slice (some ⟨w.heap.size, 0, none⟩) n n) xs := by
  subst hn
  refine ⟨hb, .inr ⟨⟨w.heap.size, 0, none⟩, _, rfl, Nat.le_refl _, by unfold maxLen; omega, fun i hi => ?_⟩⟩
  rw [addr_add, Nat.zero_add, hC]
  rw [cell_of_row _ w.heap.size i (xs.map (Value.int .u8)).toArray 5 fz (heap_alloc_new w _)]
  simp [List.getD, List.getElem?_eq_getElem hi]
/-- What lies apart from the end. -/
structure Apart (w0 W : World) (B g : Nat) (v vw : Value) (fs r : List Int) : Prop where
  box : W.cell? ⟨B, 2, none⟩ = some v
  of : OwnB W v fs
  ow : OwnB W vw r
  bel : Below w0.heap.size w0 W
  nb : B ≠ g
  nf : g ∉ blkV v
  nw : g ∉ blkV vw
  low : w0.heap.size ≤ g
theorem Apart.step {w0 W W' : World} {B g : Nat} {v vw : Value} {fs r : List Int} (h : Apart w0 W B g v vw fs r) (hb : Below W.heap.size W W') : Apart w0 W' B g v vw fs r := ⟨keepc hb h.box, h.of.step hb, h.ow.step hb, below_t h.bel hb, h.nb, h.nf, h.nw, h.low⟩
theorem Apart.moved {w0 W W' : World} {B g : Nat} {v vw : Value} {fs r : List Int} (h : Apart w0 W B g v vw fs r) (m : Moved W W' [g] [g]) : Apart w0 W' B g v vw fs r :=
  ⟨cell_moved m h.box (fun q => h.nb (List.mem_singleton.1 q)), h.of.moved m (fun k hk q => h.nf (by rw [← List.mem_singleton.1 q]; exact hk)), h.ow.moved m (fun k hk q => h.nw (by rw [← List.mem_singleton.1 q]; exact hk)), h.bel.trans (m.toBelow h.bel.size (fun k hk => by rw [List.mem_singleton.1 hk]; exact h.low)), h.nb, h.nf, h.nw, h.low⟩
theorem bdn (W : World) (n : Nat) : Below W.heap.size W (W.drewN n) := below_dn (Below.refl _ _) n
theorem quiet_same {f : FuncId} {args : Array Value} {W : World} {n : Nat} {v : Value} (h : Calls Try.prog f args (W.drewN n) fun e w' => e = .returned v ∧ W.drewN n = w') : Calls Try.prog f args (W.drewN n) fun e w'' => e = .returned v ∧ ∃ m, w'' = W.drewN m := h.mono fun _ _ ⟨he, hw⟩ => ⟨he, n, hw.symm⟩
set_option maxRecDepth 100000 in
set_option maxHeartbeats 4000000 in
theorem agrees_any (T0 D0 : ByteArray) (x : Option Addr) (n c : Nat) (f0 : List Int) (hx : Option Addr) (hnn hcc : Nat) (lh : List Int) (nm0 : ByteArray) (asks : Bool) (w : World) (hr : Reads w (.slice x n c) f0) (hh : Reads w (.slice hx hnn hcc) lh) (hT0 : T0.size ≤ maxLen) (hD0 : D0.size ≤ maxLen) (hN0 : nm0.size ≤ maxLen) : Calls Try.prog 9 #[.agg #[.string T0, .string D0, .slice x n c], .slice hx hnn hcc, .string nm0, .bool asks] w fun e w' => e = .returned (.bool true) ∧ Below w.heap.size w w' := by
  have HCB := hid (CfgB.new w (.string T0) (.string D0) (.slice x n c) 76)
  have HB0 := hid (bal (Below.refl w.heap.size w) (.cells #[.string T0, .string D0, .slice x n c] 76))
  have HW := hid (nawake_true (w.alloc (.cells #[.string T0, .string D0, .slice x n c] 76)))
  have HFW := hid (fun W (hb : Below w.heap.size w W) => few_any T0 D0 x n c f0 W (reads_below hr hb) hT0 hD0)
  have HCT := hid (fun W => show Calls Try.prog 41 #[.string nm0, .int .i64 45] W (fun e w' => e = .returned (.string (cutS nm0 45)) ∧ W = w') from cutText_any nm0 45 (by omega) W hN0)
  have HHO := hid hh
  have hcv := fun (w : World) (C : Array Value) (n c : Nat) => Lib.run_convert_bytes_const (P := Try.prog) w 22 5 C n c Try.underlying22 Try.underlying5
  have hT1 := cutS_size T0 45
  have hD1 := cutS_size D0 45
  have hM1 := cutS_size nm0 45
  have HNR := hid (fun W => rname_any (cutS nm0 45) W (by unfold maxLen; omega))
  have hfl : (f0.take 8).length ≤ 8 := List.length_take_le _ _
  unfold FewD at HFW
  generalize cutS T0 45 = T at *
  generalize cutS D0 45 = D at *
  generalize cutS nm0 45 = nm at *
  generalize f0.take 8 = fs at *
  have q0 := HCB.out.c0
  have q1 := HCB.out.c1
  have q2 := HCB.out.c2
  clear hr hh
  go_enter Try.func9, Try.ntmps9
  go_wp2_with fail
  with_reducible refine HW.out.mono ?_
  rintro e w1 ⟨rfl, hb1⟩
  have HCB1 := hid (HCB.out.step hb1)
  have q0 := HCB1.out.c0
  have q1 := HCB1.out.c1
  have q2 := HCB1.out.c2
  have HB1 := hid (below_t HB0.out hb1)
  have hwl : w.heap.size < w1.heap.size := World.block_lt_of_cell? w1 _ q0
  clear hb1 HW HCB HB0
  go_wp2_with fail
  with_reducible refine (HFW.out _ HB1.out).mono ?_
  rintro e w2 ⟨v2, rfl, ho2, hb2, hk2⟩
  obtain ⟨x2, c2, rfl⟩ := own_len ho2 _ rfl
  have HCB2 := HCB1.out.step hb2
  obtain ⟨z0, z1, z2, y0, y1, y2⟩ := HCB2
  obtain ⟨nf, hnf⟩ : ∃ nf, fs.length = nf := ⟨_, rfl⟩
  rw [hnf] at ho2 hk2 ⊢
  have hnf8 : nf ≤ 8 := by omega
  have hB2 := below_t HB1.out hb2
  obtain ⟨p0, p1, p2, pb⟩ := put3_end z0 z1 z2 hB2 (Nat.le_refl w.heap.size) (.string T) (.string D) (.slice x2 nf c2)
  have hop : OwnB (put3 w2 w.heap.size (.string T) (.string D) (.slice x2 nf c2)) (.slice x2 nf c2) fs := ho2.moved (((set_moved w2 w.heap.size 0 (.string T)).trans (set_moved _ w.heap.size 1 (.string D))).trans (set_moved _ w.heap.size 2 (.slice x2 nf c2))) (fun k hk q => by have := hk2 k hk; have := List.mem_singleton.1 q; omega)
  have hbk : w.heap.size ∉ blkV (.slice x2 nf c2) := fun q => by have := hk2 _ q; omega
  clear hB2 hb2 hk2 ho2 HCB1 HB1 HFW q0 q1 q2
  go_wp2_with fail
  revert p0 p1 p2 pb hop
  generalize hW3 : put3 w2 w.heap.size (.string T) (.string D) (.slice x2 nf c2) = W3
  intro p0 p1 p2 pb hop
  unfold put3 at hW3
  rw [hW3]
  clear hW3 z0 z1 z2 y0 y1 y2
  have HOP := hid hop
  have HPB := hid pb
  have HNF := hid hnf
  clear hop pb hnf
  with_reducible refine (HCT.out _).mono ?_
  rintro e w6 ⟨rfl, rfl⟩
  clear HCT
  go_wp2_with fail
  with_reducible refine (HNR.out _).mono ?_
  rintro e w6 ⟨rfl, rfl⟩
  clear HNR
  cases hnm : nameB nm
  · have hnmT : nameB (⟨#[76, 85, 49]⟩ : ByteArray) = true := by decide
    have hnmL : 1 ≤ ((⟨#[76, 85, 49]⟩ : ByteArray)).size := by decide
    have hnm45 : ((⟨#[76, 85, 49]⟩ : ByteArray)).size ≤ 45 := by decide
    clear hnm
    go_wp2_with fail
    generalize (⟨#[76, 85, 49]⟩ : ByteArray) = lu at *
    cases hok : nameOk T D
    · have HN := hid (new_bad T D x2 _ c2 fs W3 HOP.out.rdg HNF.out.symm (by omega) (by omega) (by omega) hok)
      clear hok
      with_reducible refine HN.out.mono ?_
      rintro e w3 ⟨rfl, hb3⟩
      have HB3 := hid (below_t HPB.out hb3)
      clear hb3 HN
      go_wp2
      go_ret
      exact ⟨rfl, HB3.out⟩
    cases hri : risesL fs
    · have HN := hid (show Calls Try.prog 34 #[.agg #[.string T, .string D, .slice x2 nf c2]] W3 (NoD 1 W3) by
        by_cases hd : D.size = 0
        · exact new_arg_none T D x2 _ c2 fs W3 HOP.out.rdg HNF.out.symm (by omega) (by omega) (by omega) hd hok hri
        · exact new_arg_some T D x2 _ c2 fs W3 HOP.out.rdg HNF.out.symm (by omega) (by omega) (by omega) hd hok hri)
      clear hok hri
      with_reducible refine HN.out.mono ?_
      rintro e w3 ⟨rfl, hb3⟩
      have HB3 := hid (below_t HPB.out hb3)
      clear hb3 HN
      go_wp2
      go_ret
      exact ⟨rfl, HB3.out⟩
    have HN := hid (show Calls Try.prog 34 #[.agg #[.string T, .string D, .slice x2 nf c2]] W3 (NewD T D fs W3) by
      by_cases hd : D.size = 0
      · exact new_ok_none T D x2 _ c2 fs W3 HOP.out.rdg HNF.out.symm (by omega) (by omega) (by omega) hd hok hri
      · exact new_ok_some T D x2 _ c2 fs W3 HOP.out.rdg HNF.out.symm (by omega) (by omega) (by omega) hd hok hri)
    have hf := rises_le hri HOP.out.1
    have hnd := rises_nodup hri
    have hT2 : 1 ≤ T.size := by
      unfold nameOk at hok
      have : nameB T = true := by
        cases q : nameB T
        · rw [q] at hok
          cases hok
        · rfl
      exact (name_fit this).1
    clear hok hri
    have HSE := hid (fun (W : World) g sv av st dev ag (h : EndM W g sv av T D fs st dev ag) hst y cc hr hg => hear_send g sv av T D fs st dev ag W h (by omega) (by omega) (by omega) hf hst y cc hr hg)
    have HDE := hid (fun (W : World) g sv av dev ag (h : EndM W g sv av T D fs 1 dev ag) y nn cc hr hn hl hg => hear_dev g sv av T D fs 1 dev ag W h (by omega) (by omega) (by omega) hf rfl lu hnmT y nn cc hr hn hl hg)
    have HIS := hid (fun (W : World) g sv av dev ag (h : EndM W g sv av T D fs 2 dev ag) r hri ha y nn cc hr hn hl hg => hear_is g sv av T D fs 2 dev ag W h (by omega) (by omega) (by omega) hf rfl r hri ha y nn cc hr hn hl hg)
    have HRQ := hid (fun (W : World) g sv av dev ag (h : EndM W g sv av T D fs 2 dev ag) r hri ha y nn cc hr hn hl hg => hear_req g sv av T D fs 2 dev ag W h (by omega) (by omega) (by omega) hf rfl r hri ha y nn cc hr hn hl hg)
    have HRN := hid (fun (W : World) g sv av dev ag (h : EndM W g sv av T D fs 2 dev ag) r hri ha y nn cc hr hn hl hg => hear_req_no g sv av T D fs 2 dev ag W h (by omega) (by omega) (by omega) hf rfl r hri ha y nn cc hr hn hl hg)
    clear hf
    with_reducible refine HN.out.mono ?_
    rintro e w4 ⟨g, sv, rfl, hE4, hb4, hg4, hk4⟩
    have hlow : w.heap.size ≤ g := Nat.le_trans HPB.out.size hg4
    have hBg : w.heap.size ≠ g := fun q => by have := World.block_lt_of_cell? W3 _ p0; have h2 : w.heap.size < W3.heap.size := this; omega
    have hgv2 : g ∉ blkV (.slice x2 nf c2) := fun q => by have := HOP.out.lt g q; omega
    have HO4 := hid (HOP.out.step hb4)
    have p2' := keepc hb4 p2
    have HB4 := hid (below_t HPB.out hb4)
    have HBO := hid (both_any x2 nf c2 fs (.slice hx hnn hcc) lh w4 HO4.out.rdg HNF.out.symm (by omega) hnd (reads_below HHO.out HB4.out))
    have HE4 := hid hE4
    have hgl4 := hE4.lt
    clear hE4 hb4 hg4 hk4 HN HOP HPB p0 p1 p2 hnd
    have HRI := hid (rise_once lh)
    have hol := onceH_len lh
    have HON := hid (fun W (hb : Below w.heap.size w W) => once_any (.slice hx hnn hcc) lh W (reads_below HHO.out hb))
    generalize onceH lh = r at *
    have HRW := hid (rise_keep (fs := fs) HRI.out)
    have hwl2 := keep_le fs r
    have HAW := hid (all_keep fs r)
    go_wp2_with fail
    with_reducible refine HBO.out.mono ?_
    rintro e w5 ⟨vw, rfl, ho5, hb5, hk5⟩
    obtain ⟨wl, hwll⟩ : ∃ wl, (keepL fs r).length = wl := ⟨_, rfl⟩
    obtain ⟨xw, cw, rfl⟩ := own_len ho5 wl hwll
    have HAP := hid (show Apart w w5 w.heap.size g (.slice x2 nf c2) (.slice xw wl cw) fs (keepL fs r) from ⟨keepc hb5 p2', HO4.out.step hb5, ho5, below_t HB4.out hb5, hBg, hgv2, (fun q => by have := hk5 g q; omega), hlow⟩)
    have HE5 := hid (HE4.out.step hb5)
    have hgl5 : g < w5.heap.size := HE5.out.lt
    have HWL := hid hwll
    have HL5 := hid (own_lit w5 #[.int .u8 8, .int .u8 2] 2 [8, 2] (fun q hq => by simp at hq; omega) rfl rfl (by omega) w5.heap.size rfl)
    have HC5 := hid (HSE.out _ g sv _ 0 _ _ (HE5.out.step (bal (Below.refl w5.heap.size w5) (.cells #[.int .u8 8, .int .u8 2] 5))) (by omega) (some ⟨w5.heap.size, 0, none⟩) 2 HL5.out.rdg (fun q => by simp [mem_blkV, Value.ownBlock] at q; omega))
    have HAP5 := hid (HAP.out.step (bal (Below.refl w5.heap.size w5) (.cells #[.int .u8 8, .int .u8 2] 5)))
    clear ho5 hb5 hk5 HO4 HB4 HBO HE4 p2' hwll hBg hgv2 HAP HE5 HL5 HSE
    go_wp2_with fail
    with_reducible refine HC5.out.mono ?_
    rintro e w6 ⟨v6, av6, rfl, ho6, hE6, hM6, -⟩
    obtain ⟨g6, cap6, rfl, h61, h62, hg6⟩ := ho6.slice (by simp)
    have a0 := ho6.at 0 (by simp)
    have a1 := ho6.at 1 (by simp)
    rw [show (2 :: 7 :: (strL T ++ devT D)).getD 0 0 = 2 from rfl] at a0
    rw [show (2 :: 7 :: (strL T ++ devT D)).getD 1 0 = 7 from rfl] at a1
    obtain ⟨la, hla⟩ : ∃ la, (2 :: 7 :: (strL T ++ devT D)).length = la := ⟨_, rfl⟩
    rw [hla]
    have hla3 : 3 ≤ la := by
      rw [← hla]
      have := strL_length T
      simp only [List.length_cons, List.length_append]
      omega
    have i3 : ¬ (la : Int) < 3 := by omega
    have i0 : (0 : Int) < la := by omega
    have i1 : (1 : Int) < la := by omega
    have j0 : 0 < la := by omega
    have j1 : 1 < la := by omega
    have HAP6 := hid (HAP5.out.moved hM6)
    have HE6 := hid hE6
    have hgl6 : g < w6.heap.size := hE6.lt
    have HR6 := hid (lit_reads w6 #[.int .u8 2, .int .u8 4, .int .u8 73, .int .u8 66, .int .u8 77, .int .u8 45, .int .u8 51, .int .u8 50, .int .u8 55, .int .u8 56, .int .u8 45, .int .u8 50, .int .u8 1] (13, 14) [2, 4, 73, 66, 77, 45, 51, 50, 55, 56, 45, 50, 1] 13 rfl (by decide) rfl (by omega))
    have hb6 := bal (Below.refl w6.heap.size w6) (.cells #[.int .u8 2, .int .u8 4, .int .u8 73, .int .u8 66, .int .u8 77, .int .u8 45, .int .u8 51, .int .u8 50, .int .u8 55, .int .u8 56, .int .u8 45, .int .u8 50, .int .u8 1] 5 (13, 14))
    have HB6 := hid hb6
    clear ho6 hE6 hM6 HC5 HAP5 hla hb6 h61 h62
    go_wp2_with (first
      | (at_builtin; refine wpList_append_full rfl _ _ rfl rfl HR6.out lu rfl hnmL (by have : ([2, 4, 73, 66, 77, 45, 51, 50, 55, 56, 45, 50, 1] : List Int).length = 13 := rfl; omega) ?_; intro c7 w7 hF7; have HF7 := hid hF7; clear hF7))
    clear i3 i0 i1 j0 j1 hla3 a0 a1
    have HB7 := hid (below_t HB6.out HF7.out.2.1)
    have HC7 := hid (HDE.out w7 g sv _ _ _ (HE6.out.step HB7.out) _ _ c7 HF7.out.1.rdg (by rw [show devM lu = [2, 4, 73, 66, 77, 45, 51, 50, 55, 56, 45, 50, 1] ++ strL lu from rfl, List.length_append, strL_length]; rfl) (by omega) (fun q => by have h1 : w6.heap.size + 1 = g := (by simpa [mem_blkV, Value.ownBlock] using q); omega))
    rw [World.size_alloc] at HC7
    have HAP7 := hid (HAP6.out.step HB7.out)
    clear HF7 HB6 HB7 HAP6 HE6 HR6 HDE
    go_wp2_with fail
    with_reducible refine HC7.out.mono ?_
    rintro e w8 ⟨v8, av8, rfl, ho8, hE8, hM8, -⟩
    obtain ⟨l8, hl8⟩ : ∃ l8, (3 :: 7 :: fs).length = l8 := ⟨_, rfl⟩
    obtain ⟨x8, c8, rfl⟩ := own_len ho8 l8 hl8
    have hl82 : l8 = nf + 2 := by rw [← hl8, ← HNF.out]; rfl
    have hx8 : x8 ≠ none := fun q => by subst q; have := ho8.rdg.none'; omega
    have hsl : ∀ w, (Instr.sliceAt 22 (.slice x8 l8 c8) (some (.int .i64 2)) none none).run Try.prog w = .ok (.slice (fromA x8 c8 2) (l8 - 2) (c8 - 2)) w := run_fromA x8 l8 c8 2 (by omega) (fun q => absurd q hx8)
    have HAP8 := hid (HAP7.out.moved hM8)
    have HSM := hid (fun n => quiet_same (same_true (.slice (fromA x8 c8 2) (l8 - 2) (c8 - 2)) (.slice x2 nf c2) fs (w8.drewN n) (reads_below (ho8.rdg.from' hl8.symm 2 (by omega)).reads (bdn w8 n)) (reads_below HAP8.out.of.reads (bdn w8 n))))
    have HDV := hid (fun n => quiet_same (device_any g sv av8 T D fs 2 lu [] (w8.drewN n) (hE8.step (bdn w8 n))))
    have bx := HAP8.out.box
    have i2 : ¬ l8 < 2 := by omega
    have i2' : ¬ (l8 : Int) < 2 := by omega
    have d2 : decide (l8 < 2) = false := decide_eq_false i2
    have HE8 := hid hE8
    clear ho8 hE8 hM8 HC7 HAP7 hl8 hx8
    generalize fromA x8 c8 2 = y8 at *
    generalize hm8 : l8 - 2 = m8 at *
    clear hm8 hl82
    go_wp2
    go_quiet ((first | (go_at_call 44; exact HDV.out _) | (go_at_call 27; exact HSM.out _)))
    clear hsl HSM HDV bx
    have HAP9 := hid (HAP8.out.step (bdn w8 nq))
    have HE9 := hid (HE8.out.step (bdn w8 nq))
    clear HAP8 HE8
    generalize w8.drewN nq = w9 at *
    cases asks
    · have HFA := hid (Fresh.lit w9 #[.int .u8 3, .int .u8 4] 2 [3, 4] (fun q hq => by simp at hq; omega) rfl rfl (by omega) w9.heap.size rfl)
      have HRA := hid (HAP9.out.step HFA.out.2.1).ow.reads
      have hgl9 := HE9.out.lt
      go_wp2_with (first
        | (at_builtin; refine wpList_append_rd rfl _ _ rfl rfl HFA.out _ (keepL fs r) rfl HRA.out (by simp; omega) ?_; intro xa ca wa hFa; have HFa := hid hFa; clear hFa))
      have HCA := hid (HIS.out wa g sv _ _ _ (HE9.out.step HFa.out.2.1) (keepL fs r) HRW.out HAW.out xa _ ca HFa.out.1.rdg (by simp only [List.length_cons, List.length_nil]; omega) (by simp; omega) (fun q => by have := HFa.out.2.2 g q; omega))
      have HAPa := hid (HAP9.out.step HFa.out.2.1)
      clear HFA HRA HFa HAP9 HE9
      simp only [List.length_cons, List.length_nil, HWL.out] at HCA ⊢
      go_wp2_with fail
      with_reducible refine HCA.out.mono ?_
      rintro e wb ⟨vb, avb, rfl, hob, hEb, hMb, -⟩
      obtain ⟨xb, nb, cb, rfl⟩ := own_slice hob
      have HAPP := hid (HAPa.out.moved hMb)
      have HEE := hid hEb
      clear hob hEb hMb HCA HAPa
      have HRY := hid (ready_any g sv avb T D fs 3 _ (keepL fs r) wb HEE.out)
      rw [show ((3 : Int) == 3) = true from rfl] at HRY
      have HFN := hid (functions_yes g sv avb T D fs 3 _ (keepL fs r) wb HEE.out rfl (by omega))
      have HPP := hid HAPP.out
      clear HEE HAPP
      go_wp2_with fail
      with_reducible refine HRY.out.mono ?_
      rintro e w6 ⟨rfl, rfl⟩
      go_wp2_with fail
      with_reducible refine HFN.out.mono ?_
      rintro e wz ⟨vz, rfl, hoz, hbz, -⟩
      obtain ⟨xz, nz, cz, rfl⟩ := own_slice hoz
      have HSZ := hid (same_true (.slice xz nz cz) (.slice xw wl cw) (keepL fs r) wz hoz.reads ((HPP.out.step hbz).ow.reads))
      have HBZ := hid (below_t HPP.out.bel hbz)
      clear hoz hbz HRY HFN HPP
      go_wp2_with fail
      with_reducible refine HSZ.out.mono ?_
      rintro e w6 ⟨rfl, rfl⟩
      go_wp2
      go_ret
      exact ⟨rfl, HBZ.out⟩
    · have HLA := hid (Fresh.lit w9 #[.int .u8 3, .int .u8 7] 2 [3, 7] (fun q hq => by simp at hq; omega) rfl rfl (by omega) w9.heap.size rfl)
      have HNA := hid (HON.out _ (HAP9.out.step HLA.out.2.1).bel)
      have hgl9 := HE9.out.lt
      go_wp2_with fail
      with_reducible refine HNA.out.mono ?_
      rintro e wo ⟨vo, rfl, hoo, hbo, hko⟩
      obtain ⟨ro, hro⟩ : ∃ ro, r.length = ro := ⟨_, rfl⟩
      obtain ⟨xo, co, rfl⟩ := own_len hoo ro hro
      have HFA := hid (HLA.out.step hbo)
      have HRA := hid hoo.reads
      have HRO := hid hro
      clear hoo hbo hko HNA hro HLA
      go_wp2_with (first
        | (at_builtin; refine wpList_append_rd rfl _ _ rfl rfl HFA.out _ r rfl HRA.out (by simp; omega) ?_; intro xa ca wa hFa; have HFa := hid hFa; clear hFa))
      have HEa := hid (HE9.out.step HFa.out.2.1)
      have HAPa := hid (HAP9.out.step HFa.out.2.1)
      have HGa := hid (show g ∉ blkV (.slice xa ([3, 7].length + r.length) ca) from fun q => by have := HFa.out.2.2 g q; omega)
      cases hall : allF fs r
      · have HCA := hid (HRN.out wa g sv _ _ _ HEa.out r HRI.out hall xa _ ca HFa.out.1.rdg (by simp only [List.length_cons, List.length_nil]; omega) (by simp; omega) HGa.out)
        clear hall HFA HRA HFa HAP9 HE9 HEa HGa
        simp only [List.length_cons, List.length_nil, HRO.out] at HCA ⊢
        go_wp2_with fail
        with_reducible refine HCA.out.mono ?_
        rintro e wb ⟨vb, avb, rfl, hob, hEb, hMb, -⟩
        obtain ⟨lb, hlb⟩ : ∃ lb, (3 :: 7 :: keepL fs r).length = lb := ⟨_, rfl⟩
        obtain ⟨gb, capb, e, hb1, hb2, hgb⟩ := hob.slice (by simp)
        rw [hlb] at e
        subst e
        have b1 := hob.atn hlb.symm 1 (by simp)
        rw [show (3 :: 7 :: keepL fs r).getD 1 0 = 7 from rfl] at b1
        have hlb2 : lb = wl + 2 := by rw [← hlb, ← HWL.out]; rfl
        have k2 : ¬ lb < 2 := by omega
        have k2' : ¬ (lb : Int) < 2 := by omega
        have k1 : (1 : Int) < lb := by omega
        have k1' : 1 < lb := by omega
        have hslb : ∀ w, (Instr.sliceAt 22 (.slice (some ⟨gb, 0, none⟩) lb capb) (some (.int .i64 2)) none none).run Try.prog w = .ok (.slice (fromA (some ⟨gb, 0, none⟩) capb 2) (lb - 2) (capb - 2)) w := run_fromA _ lb capb 2 (by omega) (fun q => by cases q)
        have HFB := hid (Fresh.lit wb #[.int .u8 3, .int .u8 4] 2 [3, 4] (fun q hq => by simp at hq; omega) rfl rfl (by omega) wb.heap.size rfl)
        have HRB := hid (reads_below (hob.rdg.from' hlb.symm 2 (by omega)).reads HFB.out.2.1)
        have HAPb := hid (HAPa.out.moved hMb)
        have HEb := hid hEb
        have hglb := hEb.lt
        have hgbl : gb < wb.heap.size := hgb
        clear hob hEb hMb HCA HAPa hb1 hb2 hlb hgb
        generalize fromA (some ⟨gb, 0, none⟩) capb 2 = yb at *
        generalize hmb : lb - 2 = mb at *
        clear hmb hlb2
        go_wp2_with (first
          | (at_builtin; refine wpList_append_rd rfl _ _ rfl rfl HFB.out _ (keepL fs r) rfl HRB.out (by simp; omega) ?_; intro xc cc' wc hFc; have HFc := hid hFc; clear hFc))
        have HCC := hid (HIS.out wc g sv _ _ _ (HEb.out.step HFc.out.2.1) (keepL fs r) HRW.out HAW.out xc _ cc' HFc.out.1.rdg (by simp only [List.length_cons, List.length_nil]; omega) (by simp; omega) (fun q => by have := HFc.out.2.2 g q; omega))
        have HAPc := hid (HAPb.out.step HFc.out.2.1)
        clear HFB HRB HFc HAPb HEb
        simp only [List.length_cons, List.length_nil, HWL.out] at HCC ⊢
        go_wp2_with fail
        with_reducible refine HCC.out.mono ?_
        rintro e wd ⟨vd, avd, rfl, hod, hEd, hMd, -⟩
        obtain ⟨xd, nd, cd, rfl⟩ := own_slice hod
        have HAPP := hid (HAPc.out.moved hMd)
        have HEE := hid hEd
        clear hod hEd hMd HCC HAPc
        have HRY := hid (ready_any g sv avd T D fs 3 _ (keepL fs r) wd HEE.out)
        rw [show ((3 : Int) == 3) = true from rfl] at HRY
        have HFN := hid (functions_yes g sv avd T D fs 3 _ (keepL fs r) wd HEE.out rfl (by omega))
        have HPP := hid HAPP.out
        clear HEE HAPP
        go_wp2_with fail
        with_reducible refine HRY.out.mono ?_
        rintro e w6 ⟨rfl, rfl⟩
        go_wp2_with fail
        with_reducible refine HFN.out.mono ?_
        rintro e wz ⟨vz, rfl, hoz, hbz, -⟩
        obtain ⟨xz, nz, cz, rfl⟩ := own_slice hoz
        have HSZ := hid (same_true (.slice xz nz cz) (.slice xw wl cw) (keepL fs r) wz hoz.reads ((HPP.out.step hbz).ow.reads))
        have HBZ := hid (below_t HPP.out.bel hbz)
        clear hoz hbz HRY HFN HPP
        go_wp2_with fail
        with_reducible refine HSZ.out.mono ?_
        rintro e w6 ⟨rfl, rfl⟩
        go_wp2
        go_ret
        exact ⟨rfl, HBZ.out⟩
      · have HCA := hid (HRQ.out wa g sv _ _ _ HEa.out r HRI.out hall xa _ ca HFa.out.1.rdg (by simp only [List.length_cons, List.length_nil]; omega) (by simp; omega) HGa.out)
        have HKA := hid (keep_all hall)
        clear hall HFA HRA HFa HAP9 HE9 HEa HGa
        simp only [List.length_cons, List.length_nil, HRO.out] at HCA ⊢
        go_wp2_with fail
        with_reducible refine HCA.out.mono ?_
        rintro e wb ⟨vb, avb, rfl, hob, hEb, hMb, -⟩
        obtain ⟨lb, hlb⟩ : ∃ lb, (3 :: 4 :: r).length = lb := ⟨_, rfl⟩
        obtain ⟨gb, capb, e, hb1, hb2, hgb⟩ := hob.slice (by simp)
        rw [hlb] at e
        subst e
        have b1 := hob.atn hlb.symm 1 (by simp)
        rw [show (3 :: 4 :: r).getD 1 0 = 4 from rfl] at b1
        have hlb2 : lb = ro + 2 := by rw [← hlb, ← HRO.out]; rfl
        have k2 : ¬ lb < 2 := by omega
        have k2' : ¬ (lb : Int) < 2 := by omega
        have k1 : (1 : Int) < lb := by omega
        have k1' : 1 < lb := by omega
        have HAPP := hid (HAPa.out.moved hMb)
        have HEE := hid hEb
        clear hob hEb hMb HCA HAPa hb1 hb2 hlb hgb hlb2
        have HRY := hid (ready_any g sv avb T D fs 3 _ r wb HEE.out)
        rw [show ((3 : Int) == 3) = true from rfl] at HRY
        have HFN := hid (functions_yes g sv avb T D fs 3 _ r wb HEE.out rfl (by omega))
        have HPP := hid HAPP.out
        clear HEE HAPP
        go_wp2_with fail
        with_reducible refine HRY.out.mono ?_
        rintro e w6 ⟨rfl, rfl⟩
        go_wp2_with fail
        with_reducible refine HFN.out.mono ?_
        rintro e wz ⟨vz, rfl, hoz, hbz, -⟩
        obtain ⟨xz, nz, cz, rfl⟩ := own_slice hoz
        have HSZ := hid (same_true (.slice xz nz cz) (.slice xw wl cw) r wz hoz.reads ((by have := (HPP.out.step hbz).ow.reads; rw [HKA.out] at this; exact this)))
        have HBZ := hid (below_t HPP.out.bel hbz)
        clear hoz hbz HRY HFN HPP
        go_wp2_with fail
        with_reducible refine HSZ.out.mono ?_
        rintro e w6 ⟨rfl, rfl⟩
        go_wp2
        go_ret
        exact ⟨rfl, HBZ.out⟩
  · have hnmT : nameB nm = true := hnm
    have hnmL : 1 ≤ nm.size := (name_fit hnm).1
    have hnm45 : nm.size ≤ 45 := hM1
    clear hnm
    go_wp2_with fail
    cases hok : nameOk T D
    · have HN := hid (new_bad T D x2 _ c2 fs W3 HOP.out.rdg HNF.out.symm (by omega) (by omega) (by omega) hok)
      clear hok
      with_reducible refine HN.out.mono ?_
      rintro e w3 ⟨rfl, hb3⟩
      have HB3 := hid (below_t HPB.out hb3)
      clear hb3 HN
      go_wp2
      go_ret
      exact ⟨rfl, HB3.out⟩
    cases hri : risesL fs
    · have HN := hid (show Calls Try.prog 34 #[.agg #[.string T, .string D, .slice x2 nf c2]] W3 (NoD 1 W3) by
        by_cases hd : D.size = 0
        · exact new_arg_none T D x2 _ c2 fs W3 HOP.out.rdg HNF.out.symm (by omega) (by omega) (by omega) hd hok hri
        · exact new_arg_some T D x2 _ c2 fs W3 HOP.out.rdg HNF.out.symm (by omega) (by omega) (by omega) hd hok hri)
      clear hok hri
      with_reducible refine HN.out.mono ?_
      rintro e w3 ⟨rfl, hb3⟩
      have HB3 := hid (below_t HPB.out hb3)
      clear hb3 HN
      go_wp2
      go_ret
      exact ⟨rfl, HB3.out⟩
    have HN := hid (show Calls Try.prog 34 #[.agg #[.string T, .string D, .slice x2 nf c2]] W3 (NewD T D fs W3) by
      by_cases hd : D.size = 0
      · exact new_ok_none T D x2 _ c2 fs W3 HOP.out.rdg HNF.out.symm (by omega) (by omega) (by omega) hd hok hri
      · exact new_ok_some T D x2 _ c2 fs W3 HOP.out.rdg HNF.out.symm (by omega) (by omega) (by omega) hd hok hri)
    have hf := rises_le hri HOP.out.1
    have hnd := rises_nodup hri
    have hT2 : 1 ≤ T.size := by
      unfold nameOk at hok
      have : nameB T = true := by
        cases q : nameB T
        · rw [q] at hok
          cases hok
        · rfl
      exact (name_fit this).1
    clear hok hri
    have HSE := hid (fun (W : World) g sv av st dev ag (h : EndM W g sv av T D fs st dev ag) hst y cc hr hg => hear_send g sv av T D fs st dev ag W h (by omega) (by omega) (by omega) hf hst y cc hr hg)
    have HDE := hid (fun (W : World) g sv av dev ag (h : EndM W g sv av T D fs 1 dev ag) y nn cc hr hn hl hg => hear_dev g sv av T D fs 1 dev ag W h (by omega) (by omega) (by omega) hf rfl nm hnmT y nn cc hr hn hl hg)
    have HIS := hid (fun (W : World) g sv av dev ag (h : EndM W g sv av T D fs 2 dev ag) r hri ha y nn cc hr hn hl hg => hear_is g sv av T D fs 2 dev ag W h (by omega) (by omega) (by omega) hf rfl r hri ha y nn cc hr hn hl hg)
    have HRQ := hid (fun (W : World) g sv av dev ag (h : EndM W g sv av T D fs 2 dev ag) r hri ha y nn cc hr hn hl hg => hear_req g sv av T D fs 2 dev ag W h (by omega) (by omega) (by omega) hf rfl r hri ha y nn cc hr hn hl hg)
    have HRN := hid (fun (W : World) g sv av dev ag (h : EndM W g sv av T D fs 2 dev ag) r hri ha y nn cc hr hn hl hg => hear_req_no g sv av T D fs 2 dev ag W h (by omega) (by omega) (by omega) hf rfl r hri ha y nn cc hr hn hl hg)
    clear hf
    with_reducible refine HN.out.mono ?_
    rintro e w4 ⟨g, sv, rfl, hE4, hb4, hg4, hk4⟩
    have hlow : w.heap.size ≤ g := Nat.le_trans HPB.out.size hg4
    have hBg : w.heap.size ≠ g := fun q => by have := World.block_lt_of_cell? W3 _ p0; have h2 : w.heap.size < W3.heap.size := this; omega
    have hgv2 : g ∉ blkV (.slice x2 nf c2) := fun q => by have := HOP.out.lt g q; omega
    have HO4 := hid (HOP.out.step hb4)
    have p2' := keepc hb4 p2
    have HB4 := hid (below_t HPB.out hb4)
    have HBO := hid (both_any x2 nf c2 fs (.slice hx hnn hcc) lh w4 HO4.out.rdg HNF.out.symm (by omega) hnd (reads_below HHO.out HB4.out))
    have HE4 := hid hE4
    have hgl4 := hE4.lt
    clear hE4 hb4 hg4 hk4 HN HOP HPB p0 p1 p2 hnd
    have HRI := hid (rise_once lh)
    have hol := onceH_len lh
    have HON := hid (fun W (hb : Below w.heap.size w W) => once_any (.slice hx hnn hcc) lh W (reads_below HHO.out hb))
    generalize onceH lh = r at *
    have HRW := hid (rise_keep (fs := fs) HRI.out)
    have hwl2 := keep_le fs r
    have HAW := hid (all_keep fs r)
    go_wp2_with fail
    with_reducible refine HBO.out.mono ?_
    rintro e w5 ⟨vw, rfl, ho5, hb5, hk5⟩
    obtain ⟨wl, hwll⟩ : ∃ wl, (keepL fs r).length = wl := ⟨_, rfl⟩
    obtain ⟨xw, cw, rfl⟩ := own_len ho5 wl hwll
    have HAP := hid (show Apart w w5 w.heap.size g (.slice x2 nf c2) (.slice xw wl cw) fs (keepL fs r) from ⟨keepc hb5 p2', HO4.out.step hb5, ho5, below_t HB4.out hb5, hBg, hgv2, (fun q => by have := hk5 g q; omega), hlow⟩)
    have HE5 := hid (HE4.out.step hb5)
    have hgl5 : g < w5.heap.size := HE5.out.lt
    have HWL := hid hwll
    have HL5 := hid (own_lit w5 #[.int .u8 8, .int .u8 2] 2 [8, 2] (fun q hq => by simp at hq; omega) rfl rfl (by omega) w5.heap.size rfl)
    have HC5 := hid (HSE.out _ g sv _ 0 _ _ (HE5.out.step (bal (Below.refl w5.heap.size w5) (.cells #[.int .u8 8, .int .u8 2] 5))) (by omega) (some ⟨w5.heap.size, 0, none⟩) 2 HL5.out.rdg (fun q => by simp [mem_blkV, Value.ownBlock] at q; omega))
    have HAP5 := hid (HAP.out.step (bal (Below.refl w5.heap.size w5) (.cells #[.int .u8 8, .int .u8 2] 5)))
    clear ho5 hb5 hk5 HO4 HB4 HBO HE4 p2' hwll hBg hgv2 HAP HE5 HL5 HSE
    go_wp2_with fail
    with_reducible refine HC5.out.mono ?_
    rintro e w6 ⟨v6, av6, rfl, ho6, hE6, hM6, -⟩
    obtain ⟨g6, cap6, rfl, h61, h62, hg6⟩ := ho6.slice (by simp)
    have a0 := ho6.at 0 (by simp)
    have a1 := ho6.at 1 (by simp)
    rw [show (2 :: 7 :: (strL T ++ devT D)).getD 0 0 = 2 from rfl] at a0
    rw [show (2 :: 7 :: (strL T ++ devT D)).getD 1 0 = 7 from rfl] at a1
    obtain ⟨la, hla⟩ : ∃ la, (2 :: 7 :: (strL T ++ devT D)).length = la := ⟨_, rfl⟩
    rw [hla]
    have hla3 : 3 ≤ la := by
      rw [← hla]
      have := strL_length T
      simp only [List.length_cons, List.length_append]
      omega
    have i3 : ¬ (la : Int) < 3 := by omega
    have i0 : (0 : Int) < la := by omega
    have i1 : (1 : Int) < la := by omega
    have j0 : 0 < la := by omega
    have j1 : 1 < la := by omega
    have HAP6 := hid (HAP5.out.moved hM6)
    have HE6 := hid hE6
    have hgl6 : g < w6.heap.size := hE6.lt
    have HR6 := hid (lit_reads w6 #[.int .u8 2, .int .u8 4, .int .u8 73, .int .u8 66, .int .u8 77, .int .u8 45, .int .u8 51, .int .u8 50, .int .u8 55, .int .u8 56, .int .u8 45, .int .u8 50, .int .u8 1] (13, 14) [2, 4, 73, 66, 77, 45, 51, 50, 55, 56, 45, 50, 1] 13 rfl (by decide) rfl (by omega))
    have hb6 := bal (Below.refl w6.heap.size w6) (.cells #[.int .u8 2, .int .u8 4, .int .u8 73, .int .u8 66, .int .u8 77, .int .u8 45, .int .u8 51, .int .u8 50, .int .u8 55, .int .u8 56, .int .u8 45, .int .u8 50, .int .u8 1] 5 (13, 14))
    have HB6 := hid hb6
    clear ho6 hE6 hM6 HC5 HAP5 hla hb6 h61 h62
    go_wp2_with (first
      | (at_builtin; refine wpList_append_full rfl _ _ rfl rfl HR6.out nm rfl hnmL (by have : ([2, 4, 73, 66, 77, 45, 51, 50, 55, 56, 45, 50, 1] : List Int).length = 13 := rfl; omega) ?_; intro c7 w7 hF7; have HF7 := hid hF7; clear hF7))
    clear i3 i0 i1 j0 j1 hla3 a0 a1
    have HB7 := hid (below_t HB6.out HF7.out.2.1)
    have HC7 := hid (HDE.out w7 g sv _ _ _ (HE6.out.step HB7.out) _ _ c7 HF7.out.1.rdg (by rw [show devM nm = [2, 4, 73, 66, 77, 45, 51, 50, 55, 56, 45, 50, 1] ++ strL nm from rfl, List.length_append, strL_length]; rfl) (by omega) (fun q => by have h1 : w6.heap.size + 1 = g := (by simpa [mem_blkV, Value.ownBlock] using q); omega))
    rw [World.size_alloc] at HC7
    have HAP7 := hid (HAP6.out.step HB7.out)
    clear HF7 HB6 HB7 HAP6 HE6 HR6 HDE
    go_wp2_with fail
    with_reducible refine HC7.out.mono ?_
    rintro e w8 ⟨v8, av8, rfl, ho8, hE8, hM8, -⟩
    obtain ⟨l8, hl8⟩ : ∃ l8, (3 :: 7 :: fs).length = l8 := ⟨_, rfl⟩
    obtain ⟨x8, c8, rfl⟩ := own_len ho8 l8 hl8
    have hl82 : l8 = nf + 2 := by rw [← hl8, ← HNF.out]; rfl
    have hx8 : x8 ≠ none := fun q => by subst q; have := ho8.rdg.none'; omega
    have hsl : ∀ w, (Instr.sliceAt 22 (.slice x8 l8 c8) (some (.int .i64 2)) none none).run Try.prog w = .ok (.slice (fromA x8 c8 2) (l8 - 2) (c8 - 2)) w := run_fromA x8 l8 c8 2 (by omega) (fun q => absurd q hx8)
    have HAP8 := hid (HAP7.out.moved hM8)
    have HSM := hid (fun n => quiet_same (same_true (.slice (fromA x8 c8 2) (l8 - 2) (c8 - 2)) (.slice x2 nf c2) fs (w8.drewN n) (reads_below (ho8.rdg.from' hl8.symm 2 (by omega)).reads (bdn w8 n)) (reads_below HAP8.out.of.reads (bdn w8 n))))
    have HDV := hid (fun n => quiet_same (device_any g sv av8 T D fs 2 nm [] (w8.drewN n) (hE8.step (bdn w8 n))))
    have bx := HAP8.out.box
    have i2 : ¬ l8 < 2 := by omega
    have i2' : ¬ (l8 : Int) < 2 := by omega
    have d2 : decide (l8 < 2) = false := decide_eq_false i2
    have HE8 := hid hE8
    clear ho8 hE8 hM8 HC7 HAP7 hl8 hx8
    generalize fromA x8 c8 2 = y8 at *
    generalize hm8 : l8 - 2 = m8 at *
    clear hm8 hl82
    go_wp2
    go_quiet ((first | (go_at_call 44; exact HDV.out _) | (go_at_call 27; exact HSM.out _)))
    clear hsl HSM HDV bx
    have HAP9 := hid (HAP8.out.step (bdn w8 nq))
    have HE9 := hid (HE8.out.step (bdn w8 nq))
    clear HAP8 HE8
    generalize w8.drewN nq = w9 at *
    cases asks
    · have HFA := hid (Fresh.lit w9 #[.int .u8 3, .int .u8 4] 2 [3, 4] (fun q hq => by simp at hq; omega) rfl rfl (by omega) w9.heap.size rfl)
      have HRA := hid (HAP9.out.step HFA.out.2.1).ow.reads
      have hgl9 := HE9.out.lt
      go_wp2_with (first
        | (at_builtin; refine wpList_append_rd rfl _ _ rfl rfl HFA.out _ (keepL fs r) rfl HRA.out (by simp; omega) ?_; intro xa ca wa hFa; have HFa := hid hFa; clear hFa))
      have HCA := hid (HIS.out wa g sv _ _ _ (HE9.out.step HFa.out.2.1) (keepL fs r) HRW.out HAW.out xa _ ca HFa.out.1.rdg (by simp only [List.length_cons, List.length_nil]; omega) (by simp; omega) (fun q => by have := HFa.out.2.2 g q; omega))
      have HAPa := hid (HAP9.out.step HFa.out.2.1)
      clear HFA HRA HFa HAP9 HE9
      simp only [List.length_cons, List.length_nil, HWL.out] at HCA ⊢
      go_wp2_with fail
      with_reducible refine HCA.out.mono ?_
      rintro e wb ⟨vb, avb, rfl, hob, hEb, hMb, -⟩
      obtain ⟨xb, nb, cb, rfl⟩ := own_slice hob
      have HAPP := hid (HAPa.out.moved hMb)
      have HEE := hid hEb
      clear hob hEb hMb HCA HAPa
      have HRY := hid (ready_any g sv avb T D fs 3 _ (keepL fs r) wb HEE.out)
      rw [show ((3 : Int) == 3) = true from rfl] at HRY
      have HFN := hid (functions_yes g sv avb T D fs 3 _ (keepL fs r) wb HEE.out rfl (by omega))
      have HPP := hid HAPP.out
      clear HEE HAPP
      go_wp2_with fail
      with_reducible refine HRY.out.mono ?_
      rintro e w6 ⟨rfl, rfl⟩
      go_wp2_with fail
      with_reducible refine HFN.out.mono ?_
      rintro e wz ⟨vz, rfl, hoz, hbz, -⟩
      obtain ⟨xz, nz, cz, rfl⟩ := own_slice hoz
      have HSZ := hid (same_true (.slice xz nz cz) (.slice xw wl cw) (keepL fs r) wz hoz.reads ((HPP.out.step hbz).ow.reads))
      have HBZ := hid (below_t HPP.out.bel hbz)
      clear hoz hbz HRY HFN HPP
      go_wp2_with fail
      with_reducible refine HSZ.out.mono ?_
      rintro e w6 ⟨rfl, rfl⟩
      go_wp2
      go_ret
      exact ⟨rfl, HBZ.out⟩
    · have HLA := hid (Fresh.lit w9 #[.int .u8 3, .int .u8 7] 2 [3, 7] (fun q hq => by simp at hq; omega) rfl rfl (by omega) w9.heap.size rfl)
      have HNA := hid (HON.out _ (HAP9.out.step HLA.out.2.1).bel)
      have hgl9 := HE9.out.lt
      go_wp2_with fail
      with_reducible refine HNA.out.mono ?_
      rintro e wo ⟨vo, rfl, hoo, hbo, hko⟩
      obtain ⟨ro, hro⟩ : ∃ ro, r.length = ro := ⟨_, rfl⟩
      obtain ⟨xo, co, rfl⟩ := own_len hoo ro hro
      have HFA := hid (HLA.out.step hbo)
      have HRA := hid hoo.reads
      have HRO := hid hro
      clear hoo hbo hko HNA hro HLA
      go_wp2_with (first
        | (at_builtin; refine wpList_append_rd rfl _ _ rfl rfl HFA.out _ r rfl HRA.out (by simp; omega) ?_; intro xa ca wa hFa; have HFa := hid hFa; clear hFa))
      have HEa := hid (HE9.out.step HFa.out.2.1)
      have HAPa := hid (HAP9.out.step HFa.out.2.1)
      have HGa := hid (show g ∉ blkV (.slice xa ([3, 7].length + r.length) ca) from fun q => by have := HFa.out.2.2 g q; omega)
      cases hall : allF fs r
      · have HCA := hid (HRN.out wa g sv _ _ _ HEa.out r HRI.out hall xa _ ca HFa.out.1.rdg (by simp only [List.length_cons, List.length_nil]; omega) (by simp; omega) HGa.out)
        clear hall HFA HRA HFa HAP9 HE9 HEa HGa
        simp only [List.length_cons, List.length_nil, HRO.out] at HCA ⊢
        go_wp2_with fail
        with_reducible refine HCA.out.mono ?_
        rintro e wb ⟨vb, avb, rfl, hob, hEb, hMb, -⟩
        obtain ⟨lb, hlb⟩ : ∃ lb, (3 :: 7 :: keepL fs r).length = lb := ⟨_, rfl⟩
        obtain ⟨gb, capb, e, hb1, hb2, hgb⟩ := hob.slice (by simp)
        rw [hlb] at e
        subst e
        have b1 := hob.atn hlb.symm 1 (by simp)
        rw [show (3 :: 7 :: keepL fs r).getD 1 0 = 7 from rfl] at b1
        have hlb2 : lb = wl + 2 := by rw [← hlb, ← HWL.out]; rfl
        have k2 : ¬ lb < 2 := by omega
        have k2' : ¬ (lb : Int) < 2 := by omega
        have k1 : (1 : Int) < lb := by omega
        have k1' : 1 < lb := by omega
        have hslb : ∀ w, (Instr.sliceAt 22 (.slice (some ⟨gb, 0, none⟩) lb capb) (some (.int .i64 2)) none none).run Try.prog w = .ok (.slice (fromA (some ⟨gb, 0, none⟩) capb 2) (lb - 2) (capb - 2)) w := run_fromA _ lb capb 2 (by omega) (fun q => by cases q)
        have HFB := hid (Fresh.lit wb #[.int .u8 3, .int .u8 4] 2 [3, 4] (fun q hq => by simp at hq; omega) rfl rfl (by omega) wb.heap.size rfl)
        have HRB := hid (reads_below (hob.rdg.from' hlb.symm 2 (by omega)).reads HFB.out.2.1)
        have HAPb := hid (HAPa.out.moved hMb)
        have HEb := hid hEb
        have hglb := hEb.lt
        have hgbl : gb < wb.heap.size := hgb
        clear hob hEb hMb HCA HAPa hb1 hb2 hlb hgb
        generalize fromA (some ⟨gb, 0, none⟩) capb 2 = yb at *
        generalize hmb : lb - 2 = mb at *
        clear hmb hlb2
        go_wp2_with (first
          | (at_builtin; refine wpList_append_rd rfl _ _ rfl rfl HFB.out _ (keepL fs r) rfl HRB.out (by simp; omega) ?_; intro xc cc' wc hFc; have HFc := hid hFc; clear hFc))
        have HCC := hid (HIS.out wc g sv _ _ _ (HEb.out.step HFc.out.2.1) (keepL fs r) HRW.out HAW.out xc _ cc' HFc.out.1.rdg (by simp only [List.length_cons, List.length_nil]; omega) (by simp; omega) (fun q => by have := HFc.out.2.2 g q; omega))
        have HAPc := hid (HAPb.out.step HFc.out.2.1)
        clear HFB HRB HFc HAPb HEb
        simp only [List.length_cons, List.length_nil, HWL.out] at HCC ⊢
        go_wp2_with fail
        with_reducible refine HCC.out.mono ?_
        rintro e wd ⟨vd, avd, rfl, hod, hEd, hMd, -⟩
        obtain ⟨xd, nd, cd, rfl⟩ := own_slice hod
        have HAPP := hid (HAPc.out.moved hMd)
        have HEE := hid hEd
        clear hod hEd hMd HCC HAPc
        have HRY := hid (ready_any g sv avd T D fs 3 _ (keepL fs r) wd HEE.out)
        rw [show ((3 : Int) == 3) = true from rfl] at HRY
        have HFN := hid (functions_yes g sv avd T D fs 3 _ (keepL fs r) wd HEE.out rfl (by omega))
        have HPP := hid HAPP.out
        clear HEE HAPP
        go_wp2_with fail
        with_reducible refine HRY.out.mono ?_
        rintro e w6 ⟨rfl, rfl⟩
        go_wp2_with fail
        with_reducible refine HFN.out.mono ?_
        rintro e wz ⟨vz, rfl, hoz, hbz, -⟩
        obtain ⟨xz, nz, cz, rfl⟩ := own_slice hoz
        have HSZ := hid (same_true (.slice xz nz cz) (.slice xw wl cw) (keepL fs r) wz hoz.reads ((HPP.out.step hbz).ow.reads))
        have HBZ := hid (below_t HPP.out.bel hbz)
        clear hoz hbz HRY HFN HPP
        go_wp2_with fail
        with_reducible refine HSZ.out.mono ?_
        rintro e w6 ⟨rfl, rfl⟩
        go_wp2
        go_ret
        exact ⟨rfl, HBZ.out⟩
      · have HCA := hid (HRQ.out wa g sv _ _ _ HEa.out r HRI.out hall xa _ ca HFa.out.1.rdg (by simp only [List.length_cons, List.length_nil]; omega) (by simp; omega) HGa.out)
        have HKA := hid (keep_all hall)
        clear hall HFA HRA HFa HAP9 HE9 HEa HGa
        simp only [List.length_cons, List.length_nil, HRO.out] at HCA ⊢
        go_wp2_with fail
        with_reducible refine HCA.out.mono ?_
        rintro e wb ⟨vb, avb, rfl, hob, hEb, hMb, -⟩
        obtain ⟨lb, hlb⟩ : ∃ lb, (3 :: 4 :: r).length = lb := ⟨_, rfl⟩
        obtain ⟨gb, capb, e, hb1, hb2, hgb⟩ := hob.slice (by simp)
        rw [hlb] at e
        subst e
        have b1 := hob.atn hlb.symm 1 (by simp)
        rw [show (3 :: 4 :: r).getD 1 0 = 4 from rfl] at b1
        have hlb2 : lb = ro + 2 := by rw [← hlb, ← HRO.out]; rfl
        have k2 : ¬ lb < 2 := by omega
        have k2' : ¬ (lb : Int) < 2 := by omega
        have k1 : (1 : Int) < lb := by omega
        have k1' : 1 < lb := by omega
        have HAPP := hid (HAPa.out.moved hMb)
        have HEE := hid hEb
        clear hob hEb hMb HCA HAPa hb1 hb2 hlb hgb hlb2
        have HRY := hid (ready_any g sv avb T D fs 3 _ r wb HEE.out)
        rw [show ((3 : Int) == 3) = true from rfl] at HRY
        have HFN := hid (functions_yes g sv avb T D fs 3 _ r wb HEE.out rfl (by omega))
        have HPP := hid HAPP.out
        clear HEE HAPP
        go_wp2_with fail
        with_reducible refine HRY.out.mono ?_
        rintro e w6 ⟨rfl, rfl⟩
        go_wp2_with fail
        with_reducible refine HFN.out.mono ?_
        rintro e wz ⟨vz, rfl, hoz, hbz, -⟩
        obtain ⟨xz, nz, cz, rfl⟩ := own_slice hoz
        have HSZ := hid (same_true (.slice xz nz cz) (.slice xw wl cw) r wz hoz.reads ((by have := (HPP.out.step hbz).ow.reads; rw [HKA.out] at this; exact this)))
        have HBZ := hid (below_t HPP.out.bel hbz)
        clear hoz hbz HRY HFN HPP
        go_wp2_with fail
        with_reducible refine HSZ.out.mono ?_
        rintro e w6 ⟨rfl, rfl⟩
        go_wp2
        go_ret
        exact ⟨rfl, HBZ.out⟩
end Go.Proofs.Ytdpfjbpfafekfaa
