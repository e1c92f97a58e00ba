/-
  sfield.Fields, and what its iterator tells.
-/
import Derived.Test.YtdpgmepblmlaaaaDoorRb
namespace Go.Proofs.YtdpgmepblmlaaaaDoor
open Go.RowKit Go.Lib Go.Deep Go.Shelf
attribute [local go_sem] Oper.semAt_some

/-- The bytes lie in a box of the iterator's. -/
def FdsD (zs : List Int) (w : World) (e : Ending) (w' : World) : Prop := ∃ bx v, e = .returned (.func (.func 69) #[] #[.pointer (some ⟨bx, 0, none⟩)]) ∧ w'.cell? ⟨bx, 0, none⟩ = some v ∧ OwnB w' v zs ∧ Below w.heap.size w w' ∧ w.heap.size ≤ bx ∧ ∀ k ∈ blkV v, w.heap.size ≤ k
set_option maxRecDepth 100000 in
theorem fields_any (p : Value) (zs : List Int) (w : World) (h : Reads w p zs) (hl : zs.length ≤ 10000000) : Calls Tryd.prog 47 #[p] w (FdsD zs w) := by
  have hmf : ∀ (fn : Fn) (first cap : Array Value) (w : World), (Instr.makeFunc fn first cap).run Tryd.prog w = .ok (.func fn first cap) w := fun _ _ _ _ => rfl
  have H := hid h
  obtain ⟨x0, c0, rfl⟩ := reads_sl h
  clear h
  go_enter Tryd.func47, Tryd.ntmps47
  go_wp2_with fail
  have hA : Below w.heap.size w (w.alloc (.cells #[.slice x0 zs.length c0] 22)) := (Below.refl _ _).alloc (Nat.le_refl _) _
  refine (clone_any _ zs _ (reads_below H.out hA) (by omega)).mono ?_
  rintro e w1 ⟨v, rfl, ho, hb, hk⟩
  obtain ⟨x, n, c, rfl⟩ := own_slice ho
  have HO := hid ho
  have HB := hid (below_t hA hb)
  have HK := hid hk
  have hsz := hb.size
  have hf := hb.frozen (p := ⟨w.heap.size, 0, none⟩) (by simp)
  have hc := keepc (a := ⟨w.heap.size, 0, none⟩) (v := .slice x0 zs.length c0) hb (by simp [go_sem])
  have hf' : w1.frozen? ⟨w.heap.size, 0, none⟩ = false := hf.trans (by simp [go_sem])
  clear hb hk ho hA hf
  go_wp2
  refine bodyPost_ret (v := .func (.func 69) #[] #[.pointer (some ⟨w.heap.size, 0, none⟩)]) (by simp [results, Tryd.results47, go_sem]) rfl ?_
  have hset : Below w.heap.size w (w1.setCell ⟨w.heap.size, 0, none⟩ (.slice x n c)) := HB.out.setCell (Nat.le_refl _) _
  refine ⟨w.heap.size, .slice x n c, rfl, World.cell?_setCell_same _ _ _ hc, HO.out.moved (Moved.set (S := [w.heap.size]) (List.mem_cons_self ..) 0 _) (fun k hk q => ?_), hset, Nat.le_refl _, fun k hk => by have := HK.out k hk; simp at this; omega⟩
  have := HK.out k hk
  have := List.mem_singleton.1 q
  simp at *
  omega
abbrev XS := SfD × Int × Value
abbrev encS (x : XS) : Array Value := #[.agg #[.int .u8 x.1.id, x.2.2], .int .i64 x.2.1]
/-- The k-th that is told. -/
def elS (zs : List Int) (B : Nat) (k : Nat) (x : XS) (V : World) : Prop := (toldS zs)[k]? = some (x.1, x.2.1) ∧ OwnB V x.2.2 x.1.data ∧ ∀ b ∈ blkV x.2.2, B ≤ b
/-- The iterator's bytes. -/
def RS (bx : Nat) (zs : List Int) (V : World) : Prop := ∃ v, V.cell? ⟨bx, 0, none⟩ = some v ∧ Reads V v zs
def RSv (bx : Nat) (v : Value) (zs : List Int) (V : World) : Prop := V.cell? ⟨bx, 0, none⟩ = some v ∧ Reads V v zs
def lenV : Value → Nat | .slice _ n _ => n | _ => 0
set_option maxRecDepth 100000 in
set_option maxHeartbeats 4000000 in
theorem fields_seq (n : Nat) (hn : 6 ≤ n) (bx : Nat) (pv : Value) (zs : List Int) (hl : zs.length ≤ 10000000) (W : World) : SeqF Fence.wide n Tryd.prog 69 #[.pointer (some ⟨bx, 0, none⟩)] encS (elS zs W.heap.size) (toldS zs).length (RSv bx pv zs) W := fun l I Ix hI hIx hR h0 hY => by
  have hlt : bx < W.heap.size := World.block_lt_of_cell? W _ (hR _ _ _ h0).1
  have HFA := hid (fun q m V (hr : Reads V q (zs.drop m)) => sfirst_any q (zs.drop m) V hr (by rw [List.length_drop]; omega))
  have HAT := hid (fun k m (h : PosS zs k m) (hm : m < zs.length) => h.at_ hm)
  have HNX := hid (fun k m (h : PosS zs k m) (hm : m < zs.length) he => (h.good hm he).2.2)
  have HLA := hid (fun k m (h : PosS zs k m) (hm : m < zs.length) he => h.last hm he)
  have HUS := hid (fun m (hm : m < zs.length) (he : (sF (zs.drop m)).1 = 0) => (show 3 ≤ (sF (zs.drop m)).2.2 ∧ m + (sF (zs.drop m)).2.2 ≤ zs.length from by have := sF_used he; rw [List.length_drop] at this; omega))
  have HSTP := hid (fun k (h : PosS zs k zs.length) => h.end_)
  have HS0 := hid (PosS.start zs)
  have HFR := hid (fun m u q V (hr : Reads V q (zs.drop m)) (hu : u ≤ zs.length - m) => (show ∃ x c, (∀ w', (Instr.sliceAt 22 q (some (.int .i64 u)) none none).run Tryd.prog w' = .ok (.slice x (zs.length - m - u) c) w') ∧ ∀ V, Reads V q (zs.drop m) → Reads V (.slice x (zs.length - m - u) c) (zs.drop (m + u)) from by
    obtain ⟨x, c, e, h⟩ := from_all hr u (by rw [List.length_drop]; exact hu)
    rw [List.length_drop] at e h
    rw [List.drop_drop] at h
    exact ⟨x, c, e, h⟩))
  have HY := hid hY
  have HR := hid hR
  have HI := hid hI
  have H0 := hid h0
  obtain ⟨cb0, hrd0⟩ := hR _ _ _ h0
  obtain ⟨x0, c0, rfl⟩ := reads_sl hrd0
  clear hY hR h0 hI hIx hrd0
  obtain ⟨K, hK⟩ : ∃ K, (toldS zs).length = K := ⟨_, rfl⟩
  rw [hK] at HAT HLA HSTP HY ⊢
  clear hK
  obtain ⟨N, hN⟩ : ∃ N, zs.length = N := ⟨_, rfl⟩
  have HN := hid hN
  rw [hN] at HAT HNX HLA HUS HSTP HFR hl cb0
  have HRF : Hid (∀ k S V, I k S V → Reads V (.slice x0 N c0) zs) := hid (fun k S V hi => by have := (HR.out k S V hi).2; rw [hN] at this; exact this)
  clear hN
  refine callsIn_of_wp Tryd.func69 rfl trivial ?_ rfl
  simp only [Tryd.ntmps69, List.size_toArray, List.length_cons, List.length_nil, Nat.reduceAdd, Nat.reduceSub, Array.replicate_succ, Array.replicate_zero, List.push_toArray, List.append_toArray, List.nil_append, List.cons_append]
  gi_wp2
  gi_loopw [3] (fun r wr => ∃ k m x c, m ≤ N ∧ r = .slice x (N - m) c ∧ Hid (∀ V, Reads V (.slice x0 N c0) zs → Reads V (.slice x (N - m) c) (zs.drop m)) ∧ Hid (PosS zs k m) ∧ Hid (∃ S, I k S wr) ∧ W.heap.size ≤ wr.heap.size) (fun r _ => lenV r)
  case atStart => exact ⟨0, 0, x0, c0, Nat.zero_le _, rfl, fun V h => h, HS0.out, ⟨_, H0.out⟩, Nat.le_refl _⟩
  case round =>
    obtain ⟨k, m, x, c, hm, rfl, HRD, HP, ⟨S, hi⟩, hsz⟩ := hrel
    have HI1 := hid hi
    have HQR := hid (HRD.out wr (HRF.out _ _ _ hi))
    clear hi
    obtain ⟨M, hM⟩ : ∃ M, N - m = M := ⟨_, rfl⟩
    rw [hM] at HRD HQR ⊢
    have HM := hid hM
    by_cases hmN : m < N
    · have hki : (0 : Int) < M := by omega
      have hkn : 0 < M := by omega
      have HQ := hid (HFA.out _ m wr HQR.out)
      have HA1 := hid (HAT.out k m HP.out hmN)
      have HN1 := hid (HNX.out k m HP.out hmN)
      have HL1 := hid (HLA.out k m HP.out hmN)
      have HU1 := hid (HUS.out m hmN)
      have HF1 := hid (HFR.out m (sF (zs.drop m)).2.2 _ wr HQR.out)
      rw [hM] at HF1
      unfold FstD at HQ
      generalize sF (zs.drop m) = res at HQ HA1 HN1 HL1 HU1 HF1
      obtain ⟨er, d, u⟩ := res
      dsimp only at HQ HA1 HN1 HL1 HU1 HF1
      obtain ⟨id, ys⟩ := d
      clear hM
      gi_wp2
      refine ⟨trivial, fun _ => (by omega), ?_⟩
      refine (callsIn_wide.2 HQ.out).mono ?_
      rintro e w1 ⟨tv, rfl, ht1, hb1, hk1⟩
      try dsimp only at ht1
      obtain ⟨xt, nt, ct, rfl⟩ := own_slice ht1
      have hz1 : W.heap.size ≤ w1.heap.size := Nat.le_trans hsz hb1.size
      have hal : Below w1.heap.size w1 (w1.alloc (.cells #[.int .u8 id, .slice xt nt ct] 35)) := (Below.refl _ _).alloc (Nat.le_refl _) _
      have HI2 := hid (HI.out _ _ _ _ ((Grow.below hb1 _).trans (Grow.below hal _)) HI1.out)
      have hel : elS zs W.heap.size k (⟨id, ys⟩, er, .slice xt nt ct) (w1.alloc (.cells #[.int .u8 id, .slice xt nt ct] 35)) :=
        ⟨HA1.out.2, ht1.step hal, fun b hb => Nat.le_trans hsz (hk1 b hb)⟩
      obtain ⟨f1, t1, a6, b1, hy, hr⟩ := HY.out k (⟨id, ys⟩, er, .slice xt nt ct) S (w1.alloc (.cells #[.int .u8 id, .slice xt nt ct] 35)) HA1.out.1 hel HI2.out (by simp; omega)
      unfold encS at hy
      dsimp only at hy
      have HRR := hid hr
      clear hr hel hal ht1 hk1 hb1
      gi_wp2
      refine ⟨fun _ => (by omega), HRR.out.mono ?_⟩
      rintro e W1 ⟨S', ht, ⟨rfl, hj⟩ | ⟨rfl, hj⟩⟩
      · have hsz1 : W.heap.size ≤ W1.heap.size := by have := ht.size; simp at this; omega
        by_cases he : er = 0
        · subst he
          have HPN := hid (HN1.out rfl)
          have HUN := hid (HU1.out rfl)
          have hu1 := HUN.out.2
          have hu0 := HUN.out.1
          obtain ⟨x2, c2, hsl, hrd2⟩ := HF1.out (by have := HM.out; omega)
          have HR2 := hid hrd2
          have HJ := hid (show ∃ S, I (k + 1) S W1 from ⟨S', hj⟩)
          have hmu : M - u = N - (m + u) := by have := HM.out; omega
          rw [hmu] at hsl HR2
          have HMU := hid hmu
          have huM : u ≤ M := by have := HM.out; omega
          clear hj ht HI2 hrd2 hmu
          gi_wp2
          go_roundw
          case rel => exact ⟨k + 1, m + u, x2, c2, hu1, rfl, fun V hV => HR2.out V (HRD.out V hV), HPN, HJ, hsz1⟩
          case measure => exact (show N - (m + u) < M by have := HM.out; omega)
        · have hl2 := HL1.out he
          have HJ := hid (show ∃ S, I K S W1 from ⟨S', by rw [← hl2]; exact hj⟩)
          have hne : (er == 0) = false := by simpa using he
          clear hj ht HI2
          gi_wp2
          refine bodyPost_ret (results_none rfl _ _ _) rfl ?_
          exact ⟨⟨_, rfl⟩, .inl HJ.out⟩
      · have HJ := hid hj
        have HKK := hid HA1.out.1
        clear hj ht
        gi_wp2
        refine bodyPost_ret (results_none rfl _ _ _) rfl ?_
        exact ⟨⟨_, rfl⟩, .inr ⟨k, S', HKK.out, HJ.out⟩⟩
    · obtain rfl : m = N := by omega
      obtain rfl : M = 0 := by omega
      have HPK := hid HP.out
      clear hM
      gi_wp2
      go_end0
      have e := HSTP.out k HPK.out
      exact ⟨⟨_, rfl⟩, .inl ⟨S, by rw [← e]; exact HI1.out⟩⟩
end Go.Proofs.YtdpgmepblmlaaaaDoor
