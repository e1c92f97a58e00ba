/-
  What the iterator of order.Parse tells.
-/
import Derived.Test.YtdampfngdnicoaaDoorMh
namespace Go.Proofs.YtdampfngdnicoaaDoor
open Go.RowKit Go.Lib Go.Deep Go.Shelf
attribute [local go_sem] Oper.semAt_some

abbrev XO := OpD × Int × Value × Value
abbrev encO (x : XO) : Array Value := #[opV x.1 x.2.2.1 x.2.2.2, .int .i64 x.2.1]
/-- The k-th that is told. -/
def elO (zs : List Int) (B : Nat) (k : Nat) (x : XO) (V : World) : Prop := (opsL zs)[k]? = some (x.1, x.2.1) ∧ PairsIn V x.2.2.1 x.1.pairs ∧ OwnB V x.2.2.2 x.1.text ∧ ∀ b ∈ blkV x.2.2.2, B ≤ b
/-- The iterator's bytes. -/
def RO (bx : Nat) (zs : List Int) (V : World) : Prop := ∃ v, V.cell? ⟨bx, 0, none⟩ = some v ∧ Reads V v zs
set_option maxRecDepth 100000 in
set_option maxHeartbeats 4000000 in
theorem ops_seq (n : Nat) (hn : 6 ≤ n) (bx : Nat) (zs : List Int) (hl : zs.length ≤ 100000) (W : World) : SeqF Fence.wide n Tryd.prog 59 #[.pointer (some ⟨bx, 0, none⟩)] encO (elO zs W.heap.size) (opsL zs).length (RO bx zs) W := fun l I Ix hI hIx hR h0 hY => by
  have hlt : bx < W.heap.size := by
    obtain ⟨v, hb, _⟩ := hR _ _ _ h0
    exact World.block_lt_of_cell? W _ hb
  have HFA := hid (fun q m (hk : m < zs.length) V (hr : Reads V q (zs.drop m)) => ofirst_any q (zs.drop m) V hr (fun e => by have := congrArg List.length e; rw [List.length_drop] at this; simp at this; omega) (by rw [List.length_drop]; omega))
  have HAT := hid (fun k m (h : PosO zs k m) (hm : m < zs.length) => h.at_ hm)
  have HNX := hid (fun k m (h : PosO zs k m) (hm : m < zs.length) he => h.next hm he)
  have HLA := hid (fun k m (h : PosO zs k m) (hm : m < zs.length) he => h.last hm he)
  have HUS := hid (fun m (hm : m < zs.length) he => fir_used (zs := zs) (k := m) hm he)
  have HSTP := hid (fun k (h : PosO zs k zs.length) => h.stop)
  have HS0 := hid (PosO.start zs)
  have HY := hid hY
  have HR := hid hR
  have HI := hid hI
  have H0 := hid h0
  clear hY hR h0 hI hIx
  obtain ⟨K, hK⟩ : ∃ K, (opsL zs).length = K := ⟨_, rfl⟩
  rw [hK] at HAT HLA HSTP HY ⊢
  have HKL := hid hK
  obtain ⟨N, hN⟩ : ∃ N, zs.length = N := ⟨_, rfl⟩
  have HN := hid hN
  rw [hN] at HFA HAT HNX HLA HUS HSTP hl
  clear hK hN
  refine callsIn_of_wp Tryd.func59 rfl trivial ?_ rfl
  simp only [Tryd.ntmps59, List.size_toArray, List.length_cons, List.length_nil, Nat.reduceAdd, Nat.reduceSub, Array.replicate_succ, Array.replicate_zero, List.push_toArray, List.append_toArray, List.nil_append, List.cons_append]
  gi_wp2
  gi_loopw [3] (fun i wr => ∃ k m : Nat, m ≤ N ∧ i = .int .i64 m ∧ Hid (PosO zs k m) ∧ Hid (∃ S, I k S wr) ∧ W.heap.size ≤ wr.heap.size) (fun i _ => N - (intOf i).toNat)
  case atStart => exact ⟨0, 0, Nat.zero_le _, rfl, HS0.out, ⟨_, H0.out⟩, Nat.le_refl _⟩
  case round =>
    obtain ⟨k, m, hm, rfl, HP, ⟨S, hi⟩, hsz⟩ := hrel
    obtain ⟨v, cb, hrd⟩ := HR.out _ _ _ hi
    obtain ⟨x, c, rfl⟩ := reads_sl hrd
    rw [HN.out] at cb
    have HI1 := hid hi
    have HRD := hid hrd
    clear hi
    by_cases hmN : m < N
    · have hki : (m : Int) < N := by omega
      obtain ⟨q, hsl0, hq⟩ := run_from_all hrd m (by rw [HN.out]; exact hm)
      rw [HN.out] at hsl0
      have hsl := hsl0 wr
      have HQ := hid (HFA.out q m hmN wr hq)
      have HA1 := hid (HAT.out k m HP.out hmN)
      have HN1 := hid (HNX.out k m HP.out hmN)
      have HL1 := hid (HLA.out k m HP.out hmN)
      have HU1 := hid (HUS.out m hmN)
      obtain ⟨xq, cq, rfl⟩ := reads_sl hq
      clear hq hsl0 hrd
      generalize (zs.drop m).length = nq at hsl HQ
      generalize firF (zs.drop m) = res at HQ HA1 HN1 HL1 HU1
      obtain ⟨er, d, u⟩ := res
      dsimp only at HA1 HN1 HL1 HU1
      gi_wp2
      refine ⟨trivial, fun _ => (by omega), ?_⟩
      refine (callsIn_wide.2 HQ.out).mono ?_
      rintro e w1 ⟨pv, tv, rfl, hp1, ht1, hk1, hb1⟩
      dsimp only at hp1 ht1
      obtain ⟨kd, ad, cd, gr, fa, ps, tx⟩ := d
      dsimp only at hp1 ht1
      obtain ⟨xp, cp, rfl⟩ := row_slice hp1
      obtain ⟨xt, nt, ct, rfl⟩ := own_slice ht1
      have hz1 : W.heap.size ≤ w1.heap.size := Nat.le_trans hsz hb1.size
      have hal : Below w1.heap.size w1 (w1.alloc (.cells #[.int .i64 kd, .int .i64 ad, .int .u8 cd, .bool gr, .int .u8 fa, .slice xp ps.length cp, .slice xt nt ct] 93)) := (Below.refl _ _).alloc (Nat.le_refl _) _
      have HI2 := hid (HI.out _ _ _ _ ((Grow.below hb1 _).trans (Grow.below hal _)) HI1.out)
      have hel : elO zs W.heap.size k (⟨kd, ad, cd, gr, fa, ps, tx⟩, er, .slice xp ps.length cp, .slice xt nt ct) (w1.alloc (.cells #[.int .i64 kd, .int .i64 ad, .int .u8 cd, .bool gr, .int .u8 fa, .slice xp ps.length cp, .slice xt nt ct] 93)) :=
        ⟨HA1.out.2, pairs_below (pairs_owned hp1) hal, ht1.step hal, fun b hb => Nat.le_trans hsz (hk1 b hb)⟩
      obtain ⟨f1, t1, a6, b1, hy, hr⟩ := HY.out k (⟨kd, ad, cd, gr, fa, ps, tx⟩, er, .slice xp ps.length cp, .slice xt nt ct) S (w1.alloc (.cells #[.int .i64 kd, .int .i64 ad, .int .u8 cd, .bool gr, .int .u8 fa, .slice xp ps.length cp, .slice xt nt ct] 93)) HA1.out.1 hel HI2.out (by simp; omega)
      unfold encO opV at hy
      dsimp only at hy
      have HRR := hid hr
      clear hr hel hal hp1 ht1 hk1 hb1 cb
      gi_wp2
      refine ⟨fun _ => (by omega), HRR.out.mono ?_⟩
      rintro e W1 ⟨S', ht, ⟨rfl, hj⟩ | ⟨rfl, hj⟩⟩
      · have hsz1 : W.heap.size ≤ W1.heap.size := by have := ht.size; simp at this; omega
        by_cases he : er = 0
        · subst he
          have HPN := hid (HN1.out rfl)
          have HUN := hid (HU1.out rfl)
          have hu1 := HUN.out.2
          have hu0 := HUN.out.1
          have hs1 : IntKind.i64.wrap ((m : Int) + u) = ((m + u : Nat) : Int) := by rw [IntWalk.i64_in _ (by omega)]; push_cast; rfl
          have HJ := hid (show ∃ S, I (k + 1) S W1 from ⟨S', hj⟩)
          clear hj ht HI2
          gi_wp2
          go_roundw
          case rel => exact ⟨k + 1, m + u, hu1, by push_cast; rfl, HPN, HJ, hsz1⟩
          case measure => simp [intOf]; omega
        · have hl2 := HL1.out he
          have HJ := hid (show ∃ S, I K S W1 from ⟨S', by rw [← hl2]; exact hj⟩)
          have hne : (er == 0) = false := by simpa using he
          clear hj ht HI2
          gi_wp2
          refine bodyPost_ret (results_none rfl _ _ _) rfl ?_
          exact ⟨⟨_, rfl⟩, .inl HJ.out⟩
      · have HJ := hid hj
        have HKK := hid HA1.out.1
        clear hj ht
        gi_wp2
        refine bodyPost_ret (results_none rfl _ _ _) rfl ?_
        exact ⟨⟨_, rfl⟩, .inr ⟨k, S', HKK.out, HJ.out⟩⟩
    · obtain rfl : m = N := by omega
      have HPK := hid HP.out
      gi_wp2
      go_end0
      have e := HSTP.out k (by have := HPK.out; exact this)
      exact ⟨⟨_, rfl⟩, .inl ⟨S, by rw [← e]; exact HI1.out⟩⟩
end Go.Proofs.YtdampfngdnicoaaDoor
