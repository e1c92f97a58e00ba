/-
  LinkPlain: the law's walk.
-/
import Derived.Test.YtaanpnmgibcemaaGreatDoorVI
namespace Go.Proofs.YtaanpnmgibcemaaGreatDoor
open Go.RowKit Go.Lib Go.Deep

/-- Rows of bytes, read. -/
def RowsR (w : World) (x : Option Addr) (n : Nat) (us : Nat → Value) (zs : Nat → List Int) : Prop := ∀ i, i < n → ∃ g off, x = some ⟨g, off, none⟩ ∧ w.cell? ⟨g, off + i, none⟩ = some (us i) ∧ Reads w (us i) (zs i)
theorem RowsR.below {w W : World} {x : Option Addr} {n : Nat} {us : Nat → Value} {zs : Nat → List Int} (h : RowsR w x n us zs) (hb : Below w.heap.size w W) : RowsR W x n us zs := fun i hi => by
  obtain ⟨g, off, e, h1, h2⟩ := h i hi
  exact ⟨g, off, e, keepc hb h1, reads_below h2 hb⟩
section
variable {w : World}
set_option maxRecDepth 100000 in
set_option maxHeartbeats 4000000 in
theorem lplain_any (T D : ByteArray) (x : Option Addr) (n c : Nat) (fs : List Int) (b : Bool) (hr : Reads w (.slice x n c) fs) (hT : T.size ≤ maxLen) (hD : D.size ≤ maxLen) (ux : Option Addr) (N uc : Nat) (us : Nat → Value) (zs : Nat → List Int) (hN : N ≤ maxLen) (hu : RowsR w ux N us zs) :
    Calls Tryz.prog 4 #[.agg #[.string T, .string D, .slice x n c], .bool b, .slice ux N uc] w fun e w' => e = .returned (.bool true) ∧ Below w.heap.size w w' := by
  obtain ⟨W0, hW0⟩ : ∃ W0, w.alloc (.cells #[.string T, .string D, .slice x n c] 24) = W0 := ⟨_, rfl⟩
  have hb0 : Below w.heap.size w W0 := by rw [← hW0]; exact bal (Below.refl _ _) _
  have z0 : W0.cell? ⟨w.heap.size, 0, none⟩ = some (.string T) := by rw [← hW0]; simp [go_sem]
  have z1 : W0.cell? ⟨w.heap.size, 1, none⟩ = some (.string D) := by rw [← hW0]; simp [go_sem]
  have z2 : W0.cell? ⟨w.heap.size, 2, none⟩ = some (.slice x n c) := by rw [← hW0]; simp [go_sem]
  have HAW := hid (awake11 W0)
  have HLY := hid (fun W (hb : Below w.heap.size w W) => lay_any (w := W) T D x n c fs b (reads_below hr hb) hT hD)
  have hT2 : (Ng.cutS T 45).size ≤ 1000 := Nat.le_trans (Ng.cutS_size T 45) (by decide)
  have hD2 : (Ng.cutS D 45).size ≤ 1000 := Nat.le_trans (Ng.cutS_size D 45) (by decide)
  have hl2 : (fs.take 8).length ≤ 1000 := by rw [List.length_take]; omega
  have hfb : ∀ x ∈ fs.take 8, 0 ≤ x ∧ x < 256 := fun x hx => hr.1 x (List.mem_of_mem_take hx)
  have HNO := hid (fun (h : cfErr (Ng.cutS T 45) (Ng.cutS D 45) (fs.take 8) = 0) => newOK (b := b) hT2 hD2 hl2 hfb h)
  unfold LayD at HLY
  generalize Ng.cutS T 45 = T2 at HLY HNO
  generalize Ng.cutS D 45 = D2 at HLY HNO
  generalize fs.take 8 = fs2 at HLY HNO
  generalize cfOf T2 D2 fs2 b = cc at HLY HNO
  generalize cfErr T2 D2 fs2 = er at HLY HNO
  have HCT := hid (fun W v xs (h : Reads W v xs) => (show Calls Tryz.prog 9 #[v, .int .i64 300] W (RowDone (xs.take 300) W) from cut_any v 300 (by decide) xs W h))
  have HAG := hid (fun L y k W v ps (h : LkM W L cc y k) (hk : LkOK cc k) (hp : Reads W v ps) (hl : ps.length ≤ 400) ho => callsIn_wide.1 (agreed_in (w := W) 6 (by omega) v ps hl h hk hp ho))
  have HU := hid hu
  have HW0 := hid hW0
  have HB0 := hid hb0
  have hN2 : (N : Int) ≤ 9223372036854775807 := by unfold maxLen at hN; omega
  clear hr hT hD hT2 hD2 hl2 hfb hu hW0 hb0 hN
  go_enter Tryz.func4, Tryz.ntmps4
  go_wp2_with fail
  simp only [HW0.out]
  with_reducible refine HAW.out.mono ?_
  rintro e w1 ⟨rfl, hb1⟩
  have HB1 := hid (below_t HB0.out hb1)
  have y0 := keepc hb1 z0
  have y1 := keepc hb1 z1
  have y2 := keepc hb1 z2
  have hlw := World.block_lt_of_cell? w1 _ y0
  clear z0 z1 z2 hb1
  go_wp2_with fail
  with_reducible refine (HLY.out _ HB1.out).mono ?_
  rintro e w2 ⟨p2, v2, c2, rfl, hb2, hl2⟩
  have HB2 := hid (below_t HB1.out hb2)
  have HL2 := hid hl2
  have HS1 := hid HB1.out.size
  clear hb2 hl2 y0 y1 y2 hlw
  by_cases h0 : er = 0
  · obtain ⟨L, y, rfl, hlk, hnew⟩ := HL2.out h0
    have HLK := hid hlk
    have HOK := hid (HNO.out h0)
    have HNW := hid (show ∀ b ∈ y.foot L, w.heap.size ≤ b from fun b q => Nat.le_trans HS1.out (hnew b q))
    clear hlk hnew HL2
    subst h0
    go_wp2_with fail
    go_loopw [27] (fun i W => ∃ q : Nat, q ≤ N ∧ q ≤ 10 ∧ i = .int .i64 q ∧ ∃ k y, Hid (LkM W L cc y k) ∧ Hid (LkOK cc k) ∧ Hid (∀ b ∈ y.foot L, w.heap.size ≤ b) ∧ Hid (Below w.heap.size w W) ∧ Hid (k.out.length ≤ 3300000 * q)) (fun i _ => N - (RowKit.intOf i).toNat)
    case atStart => exact ⟨0, by omega, by omega, rfl, Lk.new, y, HLK.out, HOK.out, HNW.out, HB2.out, Nat.zero_le _⟩
    case round =>
      clear HLK HOK HNW
      obtain ⟨q, hq, hq10, rfl, k, y, HLK, HOK, HNW, HBW, HOUT⟩ := hrel
      by_cases hqN : q < N
      · have hqi : (q : Int) < N := by omega
        obtain ⟨g, off, rfl, hc, hrd⟩ := HU.out.below HBW.out q hqN
        obtain ⟨ax, an, ac, hus⟩ := Tn.reads_any_slice hrd
        rw [hus] at hc hrd
        have hgl := World.block_lt_of_cell? wr _ hc
        have HRD := hid hrd
        clear hrd hus
        by_cases h10 : q < 10
        · have h10i : ¬ (10 : Int) ≤ q := by omega
          go_wp2_with fail
          with_reducible refine (HCT.out _ _ _ HRD.out).mono ?_
          rintro e w3 ⟨v3, rfl, hr3, hb3, -, -⟩
          have hl3 : ((zs q).take 300).length ≤ 300 := by rw [List.length_take]; omega
          have HQ := hid (HAG.out L y k w3 v3 _ (HLK.out.step hb3) HOK.out hr3 (by omega) (by have := HOUT.out; omega))
          have HL3 := hid hl3
          have HB3 := hid (HBW.out.trans (hb3.mono HBW.out.size))
          clear hr3 hb3 hl3
          go_wp2_with fail
          with_reducible refine HQ.out.mono ?_
          rintro e w4 ⟨rfl, k', y', hlk, hok, hmv, hout⟩
          have HLK4 := hid hlk
          have HOK4 := hid hok
          have HB4 := hid (HB3.out.trans (hmv.toBelow HB3.out.size HNW.out))
          have HNW4 := hid (show ∀ b ∈ y'.foot L, w.heap.size ≤ b from fun b q => by
            rcases hmv.from' b q with r | r
            · exact HNW.out b r
            · exact Nat.le_trans HB3.out.size r)
          have HO4 := hid (show k'.out.length ≤ 3300000 * (q + 1) from by have := HOUT.out; have := HL3.out; omega)
          clear hlk hok hmv hout hc
          go_wp2
          go_roundw
          case rel => exact ⟨q + 1, by omega, by omega, by go_num, k', y', HLK4.out, HOK4.out, HNW4.out, HB4.out, HO4.out⟩
          case measure => simp [RowKit.intOf]; omega
        · have h10i : (10 : Int) ≤ q := by omega
          go_wp2
          go_ret
          exact ⟨by simp, HBW.out⟩
      · obtain rfl : q = N := by omega
        go_wp2
        go_ret
        exact ⟨by simp, HBW.out⟩
  · go_wp2
    go_ret
    exact ⟨by simp, HB2.out⟩
theorem lplain_rows (T D : ByteArray) (x : Option Addr) (n c : Nat) (fs : List Int) (b : Bool) (hr : Reads w (.slice x n c) fs) (hT : T.size ≤ maxLen) (hD : D.size ≤ maxLen) (v : Value) (hv : RowsIn w v) :
    Calls Tryz.prog 4 #[.agg #[.string T, .string D, .slice x n c], .bool b, v] w fun e w' => e = .returned (.bool true) ∧ Below w.heap.size w w' := by
  rcases hv with ⟨ux, uc, rfl⟩ | ⟨g, off, N, uc, rfl, hN, h⟩
  · exact lplain_any T D x n c fs b hr hT hD ux 0 uc (fun _ => undef) (fun _ => []) (Nat.zero_le _) (fun i hi => absurd hi (Nat.not_lt_zero i))
  · have key : ∀ i, ∃ q : Value × List Int, i < N → w.cell? ⟨g, off + i, none⟩ = some q.1 ∧ Reads w q.1 q.2 := fun i => by
      by_cases hi : i < N
      · obtain ⟨u, zs, h1, h2⟩ := h i hi
        exact ⟨(u, zs), fun _ => ⟨h1, h2⟩⟩
      · exact ⟨(undef, []), fun q => absurd q hi⟩
    obtain ⟨f, hf⟩ := Classical.axiomOfChoice key
    exact lplain_any T D x n c fs b hr hT hD _ N uc (fun i => (f i).1) (fun i => (f i).2) hN (fun i hi => ⟨g, off, rfl, (hf i hi).1, (hf i hi).2⟩)
end
end Go.Proofs.YtaanpnmgibcemaaGreatDoor
