/-
  The law's do: one call on a tally and on the reference's counters.
-/
import Derived.Test.YtadoiplfglaonabRfn
namespace Go.Proofs.Ytadoiplfglaonab
open Go.RowKit Go.Shelf Go.Deep Go.Lib

theorem RefIn.put {w : World} {B gl cap : Nat} {ts : List (List UInt8)} {cs : List Int} (h : RefIn w B (.slice (some ⟨gl, 0, none⟩) ts.length cap) ts cs) (j : Nat) (c : Int) : RefIn (w.setCell ⟨gl, j * 2 + 1, none⟩ (.int .u64 c)) B (.slice (some ⟨gl, 0, none⟩) ts.length cap) ts (cs.set j c) ∧ w.grownBy (w.setCell ⟨gl, j * 2 + 1, none⟩ (.int .u64 c)) (some gl) := by
  obtain ⟨h1, h2⟩ := h.row.stored (j * 2 + 1) (.int .u64 c)
  exact ⟨⟨by rw [← cellsC_set]; exact h1, by simpa using h.size⟩, h2⟩
theorem TallyIn.kept {w w' : World} {B t : Nat} {vn : Value} {g : Nat} {ts : List (List UInt8)} {cs : List Int} {r : Nat} {c : Array Value} {fz : Nat × Nat} (h : TallyIn w B t vn g ts cs) (hg : w.grownBy w' (some r)) (hr : w.heap[r]? = some (.cells c 41 fz)) : TallyIn w' B t vn g ts cs := by
  have hne : ∀ (v : Value) (e : TypeId) (size n : Nat) (xs : List Value), w.ownsRow B e size v n xs → e ≠ 41 → v.ownBlock ≠ some r := fun v e size n xs ho he hq => by
    obtain ⟨c', fz', hb⟩ := ownsRow_kind ho r hq
    rw [hr] at hb
    simp at hb
    exact he hb.2.1.symm
  refine ⟨?_, h.base, h.names.kept hg (.inr fun e => hne _ _ _ _ _ h.names (by decide) e), h.counts.kept hg (.inr fun e => hne _ _ _ _ _ h.counts (by decide) e), h.size, h.few, h.rising⟩
  rw [hg.block t (Array.getElem?_eq_some_iff.1 h.block).1 (fun e => by cases e; have hb := h.block; rw [hr] at hb; simp at hb)]
  exact h.block
theorem TallyIn.grown {w w' : World} {B t : Nat} {vn : Value} {g : Nat} {ts : List (List UInt8)} {cs : List Int} (h : TallyIn w B t vn g ts cs) (hg : w.grownBy w' none) : TallyIn w' B t vn g ts cs := by
  have hk : ∀ (v : Value) (e : TypeId) (size n : Nat) (xs : List Value), w.ownsRow B e size v n xs → w'.ownsRow B e size v n xs := fun v e size n xs ho => by
    rcases ho.2 with ⟨rfl, _⟩ | ⟨g', cap, cur, rfl, _⟩
    · exact ho.kept hg (.inl rfl)
    · exact ho.kept hg (.inr (by simp [Value.ownBlock]))
  refine ⟨?_, h.base, hk _ _ _ _ _ h.names, hk _ _ _ _ _ h.counts, h.size, h.few, h.rising⟩
  rw [hg.block t (Array.getElem?_eq_some_iff.1 h.block).1 (by simp)]
  exact h.block
theorem grown_below {w w' : World} {r B : Nat} (h : w.grownBy w' (some r)) (hB : B ≤ r) (hs : B ≤ w.heap.size) : Below B w w' := (Below.refl B w).grown h hs (fun k e => by cases e; exact hB)
theorem grown_below0 {w w' : World} {B : Nat} (h : w.grownBy w' none) (hs : B ≤ w.heap.size) : Below B w w' := (Below.refl B w).grown h hs (fun k e => by cases e)
theorem grown_drw (w : World) : w.grownBy w.drew none := ⟨rfl, rfl, rfl, Nat.le_refl _, fun _ _ _ => rfl⟩
theorem TallyIn.blk {w : World} {B t : Nat} {vn : Value} {g : Nat} {ts : List (List UInt8)} {cs : List Int} (h : TallyIn w B t vn g ts cs) : ∃ cur fz, w.heap[g]? = some (.cells cur 62 fz) := ownsRow_kind h.counts g (by simp [Value.ownBlock])
/-- What has changed lies from B on, and below C, or is new. -/
structure Chg (B C : Nat) (a b : World) : Prop where
  below : Below B a b
  up : ∀ i, C ≤ i → i < a.heap.size → b.heap[i]? = a.heap[i]?
theorem Chg.trans {B C : Nat} {a b c : World} (h : Chg B C a b) (k : Chg B C b c) : Chg B C a c := ⟨h.below.trans k.below, fun i h1 h2 => (k.up i h1 (Nat.lt_of_lt_of_le h2 h.below.size)).trans (h.up i h1 h2)⟩
theorem Chg.none {B C : Nat} {w w' : World} (h : w.grownBy w' none) (hs : B ≤ w.heap.size) : Chg B C w w' := ⟨grown_below0 h hs, fun i _ h2 => h.block i h2 (by simp)⟩
theorem Chg.some {B C r : Nat} {w w' : World} (h : w.grownBy w' (some r)) (hB : B ≤ r) (hs : B ≤ w.heap.size) (hr : r < C) : Chg B C w w' := ⟨grown_below h hB hs, fun i h1 h2 => h.block i h2 (fun e => by have e' := Option.some.inj e; omega)⟩
/-- A tally and the reference's counters, alike. -/
structure PairIn (w : World) (B t : Nat) (vn : Value) (g : Nat) (v : Value) (ts : List (List UInt8)) (cs : List Int) : Prop where
  tally : TallyIn w B t vn g ts cs
  ref : RefIn w B v ts cs
section
variable {w : World} {B t : Nat} {vn : Value} {g : Nat} {v : Value} {ts : List (List UInt8)} {cs : List Int}
theorem PairIn.grown {w' : World} (h : PairIn w B t vn g v ts cs) (hg : w.grownBy w' none) : PairIn w' B t vn g v ts cs := ⟨h.tally.grown hg, h.ref.grown hg⟩
theorem PairIn.size {w : World} (h : PairIn w B t vn g v ts cs) : B ≤ w.heap.size := Nat.le_of_lt (Nat.lt_of_le_of_lt h.tally.base (Array.getElem?_eq_some_iff.1 h.tally.block).1)
end
/-- The call has answered as the reference does, and both are alike. -/
def DoPost (B C t : Nat) (vn : Value) (g : Nat) (v : Value) (ts : List (List UInt8)) (w : World) (e : Ending) (w' : World) : Prop := e = .returned (.bool true) ∧ (∃ cs, PairIn w' B t vn g v ts cs) ∧ Chg B C w w'
section
variable {w : World} {B C t : Nat} {vn : Value} {g : Nat} {v : Value} {ts : List (List UInt8)} {cs : List Int}
/-- Both have turned. -/
theorem do_end {gl cap : Nat} {W w1 w3 : World} {j : Nat} {c : Int} {val : Value} {e : Ending} (h : PairIn w1 B t vn g (.slice (some ⟨gl, 0, none⟩) ts.length cap) ts cs) (hg : B ≤ gl) (hgC : g < C) (hlC : gl < C) (hB : Chg B C W w1) (hd : DoneG val B t vn g ts (cs.set j c) (w1.setCell ⟨gl, j * 2 + 1, none⟩ (.int .u64 c)) e w3) : (∃ cs, PairIn w3 B t vn g (.slice (some ⟨gl, 0, none⟩) ts.length cap) ts cs) ∧ Chg B C W w3 := by
  obtain ⟨hr, hgr⟩ := h.ref.put j c
  obtain ⟨cur, hcur⟩ : ∃ cur, w1.heap[gl]? = some (.cells cur 41 (0, 0)) := by
    rcases h.ref.shape with ⟨h', _⟩ | ⟨g', _, h', _, _, cur, hc⟩
    · simp at h'
    · simp only [Value.slice.injEq, Option.some.injEq, Addr.mk.injEq, and_true, true_and] at h'
      obtain ⟨rfl, _⟩ := h'
      exact ⟨cur, hc⟩
  have hT := h.tally.kept hgr hcur
  obtain ⟨cu, fz, hb⟩ := hT.blk
  refine ⟨⟨_, hd.2.1, hr.kept hd.2.2 hb (by decide)⟩, ?_⟩
  have b1 := hB.trans (Chg.some hgr hg (h.size) hlC)
  exact b1.trans (Chg.some hd.2.2 hT.below (by have := hgr.size; have := h.size; omega) hgC)
theorem do_tally {gl cap : Nat} {w1 : World} {j : Nat} {c : Int} (h : PairIn w1 B t vn g (.slice (some ⟨gl, 0, none⟩) ts.length cap) ts cs) : TallyIn (w1.setCell ⟨gl, j * 2 + 1, none⟩ (.int .u64 c)) B t vn g ts cs := by
  obtain ⟨hr, hgr⟩ := h.ref.put j c
  rcases h.ref.shape with ⟨h', _⟩ | ⟨g', _, h', _, _, cur, hc⟩
  · simp at h'
  · simp only [Value.slice.injEq, Option.some.injEq, Addr.mk.injEq, and_true, true_and] at h'
    obtain ⟨rfl, _⟩ := h'
    exact h.tally.kept hgr hc
theorem do_same {W w1 w3 : World} {val : Value} {e : Ending} (h : PairIn w1 B t vn g v ts cs) (hgC : g < C) (hB : Chg B C W w1) {cs' : List Int} (hcs : cs' = cs) (hd : DoneG val B t vn g ts cs' w1 e w3) : (∃ cs, PairIn w3 B t vn g v ts cs) ∧ Chg B C W w3 := by
  subst hcs
  obtain ⟨cu, fz, hb⟩ := h.tally.blk
  exact ⟨⟨_, hd.2.1, h.ref.kept hd.2.2 hb (by decide)⟩, hB.trans (Chg.some hd.2.2 h.tally.below h.size hgC)⟩
end
set_option maxRecDepth 100000 in
set_option maxHeartbeats 4000000 in
theorem do_some {B C t : Nat} {vn : Value} {g : Nat} {v : Value} {ts : List (List UInt8)} {cs : List Int} (d : Nat) (hd : d < 256) (s : ByteArray) (hs : s.size ≤ maxLen) (n : Int) (_hn0 : 0 ≤ n) (_hn1 : n < 18446744073709551616) (w : World) (hP : PairIn w B t vn g v ts cs) (hgC : g < C) (hvC : ∀ k, v.ownBlock = some k → k < C) :
    Calls Try.prog 10 #[.pointer (some ⟨t, 0, none⟩), v, .agg #[.int .u8 d, .string s, .int .u64 n]] w (DoPost B C t vn g v ts w) := by
  have HP := hid hP
  have HS := hid hs
  have HVC0 := hid hvC
  have hfew := hP.tally.few
  obtain ⟨yv, cv, hv⟩ := row_slice hP.ref.row
  subst hv
  have HVC := HVC0
  obtain ⟨x, hx⟩ : ∃ x, x = cutS s := ⟨_, rfl⟩
  have HF := hid (fun W (h : CRead W (.slice yv ts.length cv) ts cs) => find_any _ ts cs x W h)
  have hsz := hP.size
  have hs1 : Chg B C w (w.alloc (.cells #[.int .u8 d, .string s, .int .u64 n] 35)) := Chg.none (World.grownBy_alloc _ _ none) hsz
  have hP1 : PairIn (w.alloc (.cells #[.int .u8 d, .string s, .int .u64 n] 35)) B t vn g (.slice yv ts.length cv) ts cs := hP.grown (World.grownBy_alloc _ _ none)
  have HP1 := hid hP1
  have HB1 := hid hs1
  have HCR := hid (hP1.ref.read hfew)
  have HFEW := hid hfew
  clear hP hs hP1 hs1 hfew hvC HVC0
  go_enter Try.func10, Try.ntmps10
  go_wp2_with (first
    | (go_at_call 15; refine (cutText_any s _ HS.out).mono ?_; rintro e w' ⟨rfl, rfl⟩)
    | fail)
  rw [← hx]
  refine (HF.out _ HCR.out).mono ?_
  rintro e w1 ⟨hg1, hfd⟩
  have HXE := hid hx
  have bk0 : ∀ i, w1.cell? ⟨w.heap.size, i, none⟩ = (w.alloc (.cells #[.int .u8 d, .string s, .int .u64 n] 35)).cell? ⟨w.heap.size, i, none⟩ := fun i => World.cell?_of_block (hg1.block w.heap.size (by simp) (by simp))
  have k0 : w1.cell? ⟨w.heap.size, 0, none⟩ = some (.int .u8 d) := (bk0 0).trans (by simp [go_sem])
  have k2 : w1.cell? ⟨w.heap.size, 2, none⟩ = some (.int .u64 n) := (bk0 2).trans (by simp [go_sem])
  have hbz : w.heap.size < w1.heap.size := World.block_lt_of_cell? w1 _ k0
  have HPW := hid (HP1.out.grown hg1)
  have HBW := hid (HB1.out.trans (Chg.none hg1 (by simp; omega)))
  clear bk0 HP1 HB1 HCR HF hx hg1
  have h6 : d % 6 = 0 ∨ d % 6 = 1 ∨ d % 6 = 2 ∨ d % 6 = 3 ∨ d % 6 = 4 ∨ d % 6 = 5 := by omega
  rcases hfd with ⟨j, hj, hjx, rfl⟩ | ⟨hno, rfl⟩
  · have HJX := hid hjx
    clear hjx
    obtain ⟨gl, cp, hyv, hglB, hgl⟩ : ∃ gl cp, Value.slice yv ts.length cv = .slice (some ⟨gl, 0, none⟩) ts.length cp ∧ B ≤ gl ∧ gl < w.heap.size := by
      rcases HP.out.ref.shape with ⟨_, h0⟩ | ⟨gl, cp, h1, h2, h3, _⟩
      · omega
      · exact ⟨gl, cp, h1, h2, h3⟩
    simp only [Value.slice.injEq, true_and] at hyv
    obtain ⟨rfl, rfl⟩ := hyv
    obtain ⟨_, c1, c1f⟩ := HPW.out.ref.cells hj
    have hne : ¬ w.heap.size = gl := by omega
    have hlC : gl < C := HVC.out gl rfl
    have HGLB := hid hglB
    clear HP hglB
    have HADD := hid (fun W (hT : TallyIn W B t vn g ts cs) => add_g x n W hT j hj HJX.out)
    have HMOST := hid (fun W (hT : TallyIn W B t vn g ts cs) => most_g x n W hT j hj HJX.out)
    have HTAKE := hid (fun W (hT : TallyIn W B t vn g ts cs) => take_g x W hT j hj HJX.out)
    have HGET := hid (fun W (hT : TallyIn W B t vn g ts cs) => get_g x W hT j hj HJX.out)
    obtain ⟨N, hN⟩ : ∃ N, N = ts.length := ⟨_, rfl⟩
    obtain ⟨c, hc⟩ : ∃ c, c = cs.getD j 0 := ⟨_, rfl⟩
    have HNN := hid hN
    have HCC := hid hc
    have hjN : j < N := by rw [hN]; exact hj
    rw [← hc] at c1 HADD HMOST HTAKE HGET
    rw [← hN]
    clear hN hc hj
    have hN64 : N ≤ 64 := by rw [HNN.out]; exact HFEW.out
    have hj0 : (0 : Int) ≤ (j : Int) := by omega
    rcases h6 with h | h | h | h | h | h
    · have hr : (d : Int) % 6 = 0 := by omega
      clear h
      go_wp2_with fail
      refine wp_region_held_drew (S := (fun w' => w'.cell? ⟨w.heap.size, 2, none⟩ = some (.int .u64 n))) (by kernel_rfl) k2 (fun hHeld => ?_)
      refine takeD (i := 0) (v := ?_) 87 rfl rfl (by kernel_rfl) (by kernel_rfl) (by kernel_rfl) (fun _ _ _ h => h) (by assumption) (Or.inl ⟨by rfl, ?_⟩) ?_
      rotate_left
      · intro w hSw
        (try dsimp only at hSw)
        go_simp
        try with_reducible rfl
      simp only [List.setIfInBounds_toArray, List.set_cons_zero, List.set_cons_succ]
      refine takeD (i := 1) (v := ?_) 88 rfl rfl (by kernel_rfl) (by kernel_rfl) (by kernel_rfl) (fun _ _ _ h => h) (by assumption) (Or.inl ⟨by rfl, ?_⟩) ?_
      rotate_left
      · intro w hSw
        (try dsimp only at hSw)
        go_simp
        try with_reducible rfl
      simp only [List.setIfInBounds_toArray, List.set_cons_zero, List.set_cons_succ]
      refine takeD (i := 2) (v := ?_) 89 rfl rfl (by kernel_rfl) (by kernel_rfl) (by kernel_rfl) (fun _ _ _ h => h) (by assumption) (Or.inl ⟨by rfl, ?_⟩) ?_
      rotate_left
      · intro w hSw
        (try dsimp only at hSw)
        go_simp
        try with_reducible rfl
      simp only [List.setIfInBounds_toArray, List.set_cons_zero, List.set_cons_succ]
      refine takeD (i := 3) (v := ?_) 90 rfl rfl (by kernel_rfl) (by kernel_rfl) (by kernel_rfl) (fun _ _ _ h => h) (by assumption) (Or.inl ⟨by rfl, ?_⟩) ?_
      rotate_left
      · intro w hSw
        (try dsimp only at hSw)
        go_simp
        try with_reducible rfl
      simp only [List.setIfInBounds_toArray, List.set_cons_zero, List.set_cons_succ]
      refine takeD (i := 5) (v := ?_) 92 rfl rfl (by kernel_rfl) (by kernel_rfl) (by kernel_rfl) (fun _ _ _ h => h) (by assumption) (Or.inl ⟨by rfl, ?_⟩) ?_
      rotate_left
      · intro w hSw
        (try dsimp only at hSw)
        go_simp
        try with_reducible rfl
      simp only [List.setIfInBounds_toArray, List.set_cons_zero, List.set_cons_succ]
      refine takeD (i := 6) (v := ?_) 93 rfl rfl (by kernel_rfl) (by kernel_rfl) (by kernel_rfl) (fun _ _ _ h => h) (by assumption) (Or.inl ⟨by rfl, ?_⟩) ?_
      rotate_left
      · intro w hSw
        (try dsimp only at hSw)
        go_simp
        try with_reducible rfl
      simp only [List.setIfInBounds_toArray, List.set_cons_zero, List.set_cons_succ]
      refine wpAnyH_ready (rs := [4]) (by kernel_rfl) (by simp) ?_
      refine AllReadyH.cons (by simp only [List.getElem?_toArray, List.getElem?_cons_succ, List.getElem?_cons_zero]; rfl) (fun K hK => ?_) AllReadyH.nil
      go_simp

      refine hK.out _ _ ?_ (fun hHeldN => ?_)
      · exact hHeld
      clear hK K hHeld
      have hHeld := hHeldN
      clear hHeldN
      refine takeD (i := 7) (v := ?_) 94 rfl rfl (by kernel_rfl) (by kernel_rfl) (by kernel_rfl) (fun _ _ _ h => h) (by assumption) (Or.inl ⟨by rfl, ?_⟩) ?_
      rotate_left
      · intro w hSw
        (try dsimp only at hSw)
        go_simp
        try with_reducible rfl
      simp only [List.setIfInBounds_toArray, List.set_cons_zero, List.set_cons_succ]
      refine takeD (i := 8) (v := ?_) 95 rfl rfl (by kernel_rfl) (by kernel_rfl) (by kernel_rfl) (fun _ _ _ h => h) (by assumption) (Or.inl ⟨by rfl, ?_⟩) ?_
      rotate_left
      · intro w hSw
        (try dsimp only at hSw)
        go_simp
        try with_reducible rfl
      simp only [List.setIfInBounds_toArray, List.set_cons_zero, List.set_cons_succ]
      refine takeD (i := 9) (v := ?_) 96 rfl rfl (by kernel_rfl) (by kernel_rfl) (by kernel_rfl) (fun _ _ _ h => h) (by assumption) (Or.inl ⟨by rfl, ?_⟩) ?_
      rotate_left
      · intro w hSw
        (try dsimp only at hSw)
        go_simp
        try with_reducible rfl
      simp only [List.setIfInBounds_toArray, List.set_cons_zero, List.set_cons_succ]
      refine wpAnyH_ready (rs := [10]) (by kernel_rfl) (by simp) ?_
      refine AllReadyH.cons (by simp only [List.getElem?_toArray, List.getElem?_cons_succ, List.getElem?_cons_zero]; rfl) (fun K hK => ?_) AllReadyH.nil
      go_simp

      refine hK.out _ _ ?_ (fun hHeldN => ?_)
      · exact (World.cell?_setCell_other (w1.drew) _ _ _ (by simp <;> omega)).trans k2
      clear hK K hHeld
      have hHeld := hHeldN
      clear hHeldN
      refine wpAnyH_done (by kernel_rfl) ?_ _
      have HTW := hid (do_tally (j := j) (c := ((c + n) % 18446744073709551616)) (HPW.out.grown (grown_drw w1)))
      go_wp2_with (go_at_call 17; refine (HADD.out _ HTW.out).mono ?_; rintro e w3 hd3; have HD3 := hid hd3; obtain ⟨rfl, _, _⟩ := hd3)
      go_ret
      refine ⟨by simp, ?_⟩
      exact do_end (j := j) (c := ((c + n) % 18446744073709551616)) (HPW.out.grown (grown_drw w1)) HGLB.out hgC hlC (HBW.out.trans (Chg.none (grown_drw _) (by omega))) HD3.out
    · have hr : (d : Int) % 6 = 1 := by omega
      clear h
      go_wp2_with fail
      refine wp_region_held_drew (S := (fun w' => w'.cell? ⟨w.heap.size, 2, none⟩ = some (.int .u64 n))) (by kernel_rfl) k2 (fun hHeld => ?_)
      refine takeD (i := 0) (v := ?_) 87 rfl rfl (by kernel_rfl) (by kernel_rfl) (by kernel_rfl) (fun _ _ _ h => h) (by assumption) (Or.inl ⟨by rfl, ?_⟩) ?_
      rotate_left
      · intro w hSw
        (try dsimp only at hSw)
        go_simp
        try with_reducible rfl
      simp only [List.setIfInBounds_toArray, List.set_cons_zero, List.set_cons_succ]
      refine takeD (i := 1) (v := ?_) 88 rfl rfl (by kernel_rfl) (by kernel_rfl) (by kernel_rfl) (fun _ _ _ h => h) (by assumption) (Or.inl ⟨by rfl, ?_⟩) ?_
      rotate_left
      · intro w hSw
        (try dsimp only at hSw)
        go_simp
        try with_reducible rfl
      simp only [List.setIfInBounds_toArray, List.set_cons_zero, List.set_cons_succ]
      refine takeD (i := 2) (v := ?_) 89 rfl rfl (by kernel_rfl) (by kernel_rfl) (by kernel_rfl) (fun _ _ _ h => h) (by assumption) (Or.inl ⟨by rfl, ?_⟩) ?_
      rotate_left
      · intro w hSw
        (try dsimp only at hSw)
        go_simp
        try with_reducible rfl
      simp only [List.setIfInBounds_toArray, List.set_cons_zero, List.set_cons_succ]
      refine takeD (i := 3) (v := ?_) 90 rfl rfl (by kernel_rfl) (by kernel_rfl) (by kernel_rfl) (fun _ _ _ h => h) (by assumption) (Or.inl ⟨by rfl, ?_⟩) ?_
      rotate_left
      · intro w hSw
        (try dsimp only at hSw)
        go_simp
        try with_reducible rfl
      simp only [List.setIfInBounds_toArray, List.set_cons_zero, List.set_cons_succ]
      refine takeD (i := 5) (v := ?_) 92 rfl rfl (by kernel_rfl) (by kernel_rfl) (by kernel_rfl) (fun _ _ _ h => h) (by assumption) (Or.inl ⟨by rfl, ?_⟩) ?_
      rotate_left
      · intro w hSw
        (try dsimp only at hSw)
        go_simp
        try with_reducible rfl
      simp only [List.setIfInBounds_toArray, List.set_cons_zero, List.set_cons_succ]
      refine takeD (i := 6) (v := ?_) 93 rfl rfl (by kernel_rfl) (by kernel_rfl) (by kernel_rfl) (fun _ _ _ h => h) (by assumption) (Or.inl ⟨by rfl, ?_⟩) ?_
      rotate_left
      · intro w hSw
        (try dsimp only at hSw)
        go_simp
        try with_reducible rfl
      simp only [List.setIfInBounds_toArray, List.set_cons_zero, List.set_cons_succ]
      refine wpAnyH_ready (rs := [4]) (by kernel_rfl) (by simp) ?_
      refine AllReadyH.cons (by simp only [List.getElem?_toArray, List.getElem?_cons_succ, List.getElem?_cons_zero]; rfl) (fun K hK => ?_) AllReadyH.nil
      go_simp

      refine hK.out _ _ ?_ (fun hHeldN => ?_)
      · exact hHeld
      clear hK K hHeld
      have hHeld := hHeldN
      clear hHeldN
      refine takeD (i := 7) (v := ?_) 94 rfl rfl (by kernel_rfl) (by kernel_rfl) (by kernel_rfl) (fun _ _ _ h => h) (by assumption) (Or.inl ⟨by rfl, ?_⟩) ?_
      rotate_left
      · intro w hSw
        (try dsimp only at hSw)
        go_simp
        try with_reducible rfl
      simp only [List.setIfInBounds_toArray, List.set_cons_zero, List.set_cons_succ]
      refine takeD (i := 8) (v := ?_) 95 rfl rfl (by kernel_rfl) (by kernel_rfl) (by kernel_rfl) (fun _ _ _ h => h) (by assumption) (Or.inl ⟨by rfl, ?_⟩) ?_
      rotate_left
      · intro w hSw
        (try dsimp only at hSw)
        go_simp
        try with_reducible rfl
      simp only [List.setIfInBounds_toArray, List.set_cons_zero, List.set_cons_succ]
      refine takeD (i := 9) (v := ?_) 96 rfl rfl (by kernel_rfl) (by kernel_rfl) (by kernel_rfl) (fun _ _ _ h => h) (by assumption) (Or.inl ⟨by rfl, ?_⟩) ?_
      rotate_left
      · intro w hSw
        (try dsimp only at hSw)
        go_simp
        try with_reducible rfl
      simp only [List.setIfInBounds_toArray, List.set_cons_zero, List.set_cons_succ]
      refine wpAnyH_ready (rs := [10]) (by kernel_rfl) (by simp) ?_
      refine AllReadyH.cons (by simp only [List.getElem?_toArray, List.getElem?_cons_succ, List.getElem?_cons_zero]; rfl) (fun K hK => ?_) AllReadyH.nil
      go_simp

      refine hK.out _ _ ?_ (fun hHeldN => ?_)
      · exact (World.cell?_setCell_other (w1.drew) _ _ _ (by simp <;> omega)).trans k2
      clear hK K hHeld
      have hHeld := hHeldN
      clear hHeldN
      refine wpAnyH_done (by kernel_rfl) ?_ _
      have HTW := hid (do_tally (j := j) (c := ((c + n) % 18446744073709551616)) (HPW.out.grown (grown_drw w1)))
      go_wp2_with (go_at_call 17; refine (HADD.out _ HTW.out).mono ?_; rintro e w3 hd3; have HD3 := hid hd3; obtain ⟨rfl, _, _⟩ := hd3)
      go_ret
      refine ⟨by simp, ?_⟩
      exact do_end (j := j) (c := ((c + n) % 18446744073709551616)) (HPW.out.grown (grown_drw w1)) HGLB.out hgC hlC (HBW.out.trans (Chg.none (grown_drw _) (by omega))) HD3.out
    · have hr : (d : Int) % 6 = 2 := by omega
      clear h
      go_wp2_with fail
      refine wp_region_held_drew (S := (fun w' => w'.cell? ⟨w.heap.size, 2, none⟩ = some (.int .u64 n))) (by kernel_rfl) k2 (fun hHeld => ?_)
      refine takeD (i := 0) (v := ?_) 31 rfl rfl (by kernel_rfl) (by kernel_rfl) (by kernel_rfl) (fun _ _ _ h => h) (by assumption) (Or.inl ⟨by rfl, ?_⟩) ?_
      rotate_left
      · intro w hSw
        (try dsimp only at hSw)
        go_simp
        try with_reducible rfl
      simp only [List.setIfInBounds_toArray, List.set_cons_zero, List.set_cons_succ]
      refine takeD (i := 1) (v := ?_) 32 rfl rfl (by kernel_rfl) (by kernel_rfl) (by kernel_rfl) (fun _ _ _ h => h) (by assumption) (Or.inl ⟨by rfl, ?_⟩) ?_
      rotate_left
      · intro w hSw
        (try dsimp only at hSw)
        go_simp
        try with_reducible rfl
      simp only [List.setIfInBounds_toArray, List.set_cons_zero, List.set_cons_succ]
      refine takeD (i := 2) (v := ?_) 33 rfl rfl (by kernel_rfl) (by kernel_rfl) (by kernel_rfl) (fun _ _ _ h => h) (by assumption) (Or.inl ⟨by rfl, ?_⟩) ?_
      rotate_left
      · intro w hSw
        (try dsimp only at hSw)
        go_simp
        try with_reducible rfl
      simp only [List.setIfInBounds_toArray, List.set_cons_zero, List.set_cons_succ]
      refine takeD (i := 3) (v := ?_) 34 rfl rfl (by kernel_rfl) (by kernel_rfl) (by kernel_rfl) (fun _ _ _ h => h) (by assumption) (Or.inl ⟨by rfl, ?_⟩) ?_
      rotate_left
      · intro w hSw
        (try dsimp only at hSw)
        go_simp
        try with_reducible rfl
      simp only [List.setIfInBounds_toArray, List.set_cons_zero, List.set_cons_succ]
      refine takeD (i := 4) (v := ?_) 35 rfl rfl (by kernel_rfl) (by kernel_rfl) (by kernel_rfl) (fun _ _ _ h => h) (by assumption) (Or.inl ⟨by rfl, ?_⟩) ?_
      rotate_left
      · intro w hSw
        (try dsimp only at hSw)
        go_simp
        try with_reducible rfl
      simp only [List.setIfInBounds_toArray, List.set_cons_zero, List.set_cons_succ]
      refine takeD (i := 5) (v := ?_) 36 rfl rfl (by kernel_rfl) (by kernel_rfl) (by kernel_rfl) (fun _ _ _ h => h) (by assumption) (Or.inl ⟨by rfl, ?_⟩) ?_
      rotate_left
      · intro w hSw
        (try dsimp only at hSw)
        go_simp
        try with_reducible rfl
      simp only [List.setIfInBounds_toArray, List.set_cons_zero, List.set_cons_succ]
      refine takeD (i := 7) (v := ?_) 38 rfl rfl (by kernel_rfl) (by kernel_rfl) (by kernel_rfl) (fun _ _ _ h => h) (by assumption) (Or.inl ⟨by rfl, ?_⟩) ?_
      rotate_left
      · intro w hSw
        (try dsimp only at hSw)
        go_simp
        try with_reducible rfl
      simp only [List.setIfInBounds_toArray, List.set_cons_zero, List.set_cons_succ]
      refine takeD (i := 8) (v := ?_) 39 rfl rfl (by kernel_rfl) (by kernel_rfl) (by kernel_rfl) (fun _ _ _ h => h) (by assumption) (Or.inl ⟨by rfl, ?_⟩) ?_
      rotate_left
      · intro w hSw
        (try dsimp only at hSw)
        go_simp
        try with_reducible rfl
      simp only [List.setIfInBounds_toArray, List.set_cons_zero, List.set_cons_succ]
      refine wpAnyH_ready (rs := [6]) (by kernel_rfl) (by simp) ?_
      refine AllReadyH.cons (by simp only [List.getElem?_toArray, List.getElem?_cons_succ, List.getElem?_cons_zero]; rfl) (fun K hK => ?_) AllReadyH.nil
      go_simp

      refine hK.out _ _ ?_ (fun hHeldN => ?_)
      · exact hHeld
      clear hK K hHeld
      have hHeld := hHeldN
      clear hHeldN
      refine takeD (i := 9) (v := ?_) 40 rfl rfl (by kernel_rfl) (by kernel_rfl) (by kernel_rfl) (fun _ _ _ h => h) (by assumption) (Or.inl ⟨by rfl, ?_⟩) ?_
      rotate_left
      · intro w hSw
        (try dsimp only at hSw)
        go_simp
        try with_reducible rfl
      simp only [List.setIfInBounds_toArray, List.set_cons_zero, List.set_cons_succ]
      refine takeD (i := 10) (v := ?_) 41 rfl rfl (by kernel_rfl) (by kernel_rfl) (by kernel_rfl) (fun _ _ _ h => h) (by assumption) (Or.inl ⟨by rfl, ?_⟩) ?_
      rotate_left
      · intro w hSw
        (try dsimp only at hSw)
        go_simp
        try with_reducible rfl
      simp only [List.setIfInBounds_toArray, List.set_cons_zero, List.set_cons_succ]
      refine takeD (i := 11) (v := ?_) 42 rfl rfl (by kernel_rfl) (by kernel_rfl) (by kernel_rfl) (fun _ _ _ h => h) (by assumption) (Or.inl ⟨by rfl, ?_⟩) ?_
      rotate_left
      · intro w hSw
        (try dsimp only at hSw)
        go_simp
        try with_reducible rfl
      simp only [List.setIfInBounds_toArray, List.set_cons_zero, List.set_cons_succ]
      refine wpAnyH_ready (rs := [12]) (by kernel_rfl) (by simp) ?_
      refine AllReadyH.cons (by simp only [List.getElem?_toArray, List.getElem?_cons_succ, List.getElem?_cons_zero]; rfl) (fun K hK => ?_) AllReadyH.nil
      go_simp

      refine hK.out _ _ ?_ (fun hHeldN => ?_)
      · exact (World.cell?_setCell_other (w1.drew) _ _ _ (by simp <;> omega)).trans k2
      clear hK K hHeld
      have hHeld := hHeldN
      clear hHeldN
      refine wpAnyH_done (by kernel_rfl) ?_ _
      have HTW := hid (do_tally (j := j) (c := (max c n)) (HPW.out.grown (grown_drw w1)))
      go_wp2_with (go_at_call 18; refine (HMOST.out _ HTW.out).mono ?_; rintro e w3 hd3; have HD3 := hid hd3; obtain ⟨rfl, _, _⟩ := hd3)
      go_ret
      refine ⟨by simp, ?_⟩
      exact do_end (j := j) (c := (max c n)) (HPW.out.grown (grown_drw w1)) HGLB.out hgC hlC (HBW.out.trans (Chg.none (grown_drw _) (by omega))) HD3.out
    · have hr : (d : Int) % 6 = 3 := by omega
      clear h
      have HTW := hid (do_tally (j := j) (c := 0) HPW.out)
      go_wp2_with (go_at_call 19; refine (HTAKE.out _ HTW.out).mono ?_; rintro e w3 hd3; have HD3 := hid hd3; obtain ⟨rfl, _, _⟩ := hd3)
      go_ret
      refine ⟨by simp, ?_⟩
      exact do_end (j := j) (c := 0) HPW.out HGLB.out hgC hlC HBW.out HD3.out
    · have hr : (d : Int) % 6 = 4 := by omega
      clear h
      go_wp2_with (go_at_call 20; refine (HGET.out _ HPW.out.tally).mono ?_; rintro e w3 hd3; have HD3 := hid hd3; obtain ⟨rfl, _, _⟩ := hd3)
      go_ret
      refine ⟨by simp, ?_⟩
      exact do_same HPW.out hgC HBW.out rfl HD3.out
    · have hr : (d : Int) % 6 = 5 := by omega
      clear h
      go_wp2
      go_loopw [75] (fun i wr => ∃ k : Nat, k ≤ N ∧ i = .int .i64 k ∧ Hid (TallyIn wr B t vn g ts cs) ∧ Hid (RefIn wr B (.slice (some ⟨gl, 0, none⟩) ts.length cv) ts (List.replicate k 0 ++ cs.drop k)) ∧ Hid (Chg B C w wr)) (fun i _ => N - (intOf i).toNat)
      case atStart => exact ⟨0, Nat.zero_le _, rfl, HPW.out.tally, by simpa [Hid] using HPW.out.ref, HBW⟩
      case round =>
        obtain ⟨k, hk, rfl, HT5, HR5, HB5⟩ := hrel
        by_cases hlt : k < N
        · obtain ⟨gq, cq, hyq, hgqB, cur, hcur⟩ : ∃ gq cq, Value.slice (some ⟨gl, 0, none⟩) ts.length cv = .slice (some ⟨gq, 0, none⟩) ts.length cq ∧ (B ≤ gq ∧ gq < C) ∧ ∃ cur, wr.heap[gq]? = some (.cells cur 41 (0, 0)) := by
            rcases HR5.out.shape with ⟨_, h0⟩ | ⟨gl, cp, h1, h2, h3, hc⟩
            · have := HNN.out; omega
            · exact ⟨gl, cp, h1, ⟨h2, HVC.out gl (by rw [h1]; rfl)⟩, hc⟩
          simp only [Value.slice.injEq, true_and] at hyq
          obtain ⟨hyq1, rfl⟩ := hyq
          simp only [Option.some.injEq, Addr.mk.injEq, and_true] at hyq1
          subst hyq1
          obtain ⟨_, e1, e1f⟩ := HR5.out.cells (j := k) (by rw [← HNN.out]; exact hlt)
          obtain ⟨c5, hc5⟩ : ∃ c5, c5 = (List.replicate k (0 : Int) ++ cs.drop k).getD k 0 := ⟨_, rfl⟩
          rw [← hc5] at e1
          have HCUR := hid hcur
          have HGQ := hid hgqB
          clear hc5 hcur hgqB
          go_wp2
          go_roundw
          case rel =>
            obtain ⟨q1, q2⟩ := HR5.out.put k 0
            rw [set_zero cs k (by rw [HT5.out.size, ← HNN.out]; exact hlt)] at q1
            exact ⟨k + 1, by omega, by go_num, HT5.out.kept q2 HCUR.out, q1, HB5.out.trans (Chg.some q2 HGQ.out.1 (by have := HT5.out.base; have := (Array.getElem?_eq_some_iff.1 HT5.out.block).1; omega) HGQ.out.2)⟩
          case measure => simp [intOf]; omega
        · have hkn : k = N := by omega
          subst hkn
          have hR6 : RefIn wr B (.slice (some ⟨gl, 0, none⟩) ts.length cv) ts (List.replicate ts.length 0) := by
            have q := HR5.out
            rwa [List.drop_eq_nil_of_le (by rw [HT5.out.size, HNN.out]; exact Nat.le_refl _), List.append_nil, HNN.out] at q
          have HR6 := hid hR6
          clear hR6 HR5
          go_wp2_with (go_at_call 16; refine (reset_g _ HT5.out).mono ?_; rintro e w3 ⟨rfl, hT6, hg6⟩)
          go_ret
          refine ⟨rfl, ?_⟩
          obtain ⟨cu, fz, hb⟩ := HT5.out.blk
          exact ⟨⟨_, hT6, HR6.out.kept hg6 hb (by decide)⟩, HB5.out.trans (Chg.some hg6 HT5.out.below (by have := HT5.out.base; have := (Array.getElem?_eq_some_iff.1 HT5.out.block).1; omega) hgC)⟩
  · have HADD := hid (fun W (hT : TallyIn W B t vn g ts cs) => add_no x n W hT hno)
    have HMOST := hid (fun W (hT : TallyIn W B t vn g ts cs) => most_no x n W hT hno)
    have HTAKE := hid (fun W (hT : TallyIn W B t vn g ts cs) => take_no x W hT hno)
    have HGET := hid (fun W (hT : TallyIn W B t vn g ts cs) => get_no x W hT hno)
    obtain ⟨N, hN⟩ : ∃ N, N = ts.length := ⟨_, rfl⟩
    have HNN := hid hN
    rw [← hN]
    clear hN hno HP
    have hN64 : N ≤ 64 := by rw [HNN.out]; exact HFEW.out
    rcases h6 with h | h | h | h | h | h
    · have hr : (d : Int) % 6 = 0 := by omega
      clear h
      go_wp2_with (go_at_call 17; refine (HADD.out _ HPW.out.tally).mono ?_; rintro e w3 hd3; have HD3 := hid hd3; obtain ⟨rfl, _, _⟩ := hd3)
      go_ret
      refine ⟨by simp, ?_⟩
      exact do_same HPW.out hgC HBW.out rfl HD3.out
    · have hr : (d : Int) % 6 = 1 := by omega
      clear h
      go_wp2_with (go_at_call 17; refine (HADD.out _ HPW.out.tally).mono ?_; rintro e w3 hd3; have HD3 := hid hd3; obtain ⟨rfl, _, _⟩ := hd3)
      go_ret
      refine ⟨by simp, ?_⟩
      exact do_same HPW.out hgC HBW.out rfl HD3.out
    · have hr : (d : Int) % 6 = 2 := by omega
      clear h
      go_wp2_with (go_at_call 18; refine (HMOST.out _ HPW.out.tally).mono ?_; rintro e w3 hd3; have HD3 := hid hd3; obtain ⟨rfl, _, _⟩ := hd3)
      go_ret
      refine ⟨by simp, ?_⟩
      exact do_same HPW.out hgC HBW.out rfl HD3.out
    · have hr : (d : Int) % 6 = 3 := by omega
      clear h
      go_wp2_with (go_at_call 19; refine (HTAKE.out _ HPW.out.tally).mono ?_; rintro e w3 hd3; have HD3 := hid hd3; obtain ⟨rfl, _, _⟩ := hd3)
      go_ret
      refine ⟨by simp, ?_⟩
      exact do_same HPW.out hgC HBW.out rfl HD3.out
    · have hr : (d : Int) % 6 = 4 := by omega
      clear h
      go_wp2_with (go_at_call 20; refine (HGET.out _ HPW.out.tally).mono ?_; rintro e w3 hd3; have HD3 := hid hd3; obtain ⟨rfl, _, _⟩ := hd3)
      go_ret
      refine ⟨by simp, ?_⟩
      exact do_same HPW.out hgC HBW.out rfl HD3.out
    · have hr : (d : Int) % 6 = 5 := by omega
      clear h
      go_wp2
      go_loopw [75] (fun i wr => ∃ k : Nat, k ≤ N ∧ i = .int .i64 k ∧ Hid (TallyIn wr B t vn g ts cs) ∧ Hid (RefIn wr B (.slice yv ts.length cv) ts (List.replicate k 0 ++ cs.drop k)) ∧ Hid (Chg B C w wr)) (fun i _ => N - (intOf i).toNat)
      case atStart => exact ⟨0, Nat.zero_le _, rfl, HPW.out.tally, by simpa [Hid] using HPW.out.ref, HBW⟩
      case round =>
        obtain ⟨k, hk, rfl, HT5, HR5, HB5⟩ := hrel
        by_cases hlt : k < N
        · obtain ⟨gq, cq, hyq, hgqB, cur, hcur⟩ : ∃ gq cq, Value.slice yv ts.length cv = .slice (some ⟨gq, 0, none⟩) ts.length cq ∧ (B ≤ gq ∧ gq < C) ∧ ∃ cur, wr.heap[gq]? = some (.cells cur 41 (0, 0)) := by
            rcases HR5.out.shape with ⟨_, h0⟩ | ⟨gl, cp, h1, h2, h3, hc⟩
            · have := HNN.out; omega
            · exact ⟨gl, cp, h1, ⟨h2, HVC.out gl (by rw [h1]; rfl)⟩, hc⟩
          simp only [Value.slice.injEq, true_and] at hyq
          obtain ⟨rfl, rfl⟩ := hyq
          obtain ⟨_, e1, e1f⟩ := HR5.out.cells (j := k) (by rw [← HNN.out]; exact hlt)
          obtain ⟨c5, hc5⟩ : ∃ c5, c5 = (List.replicate k (0 : Int) ++ cs.drop k).getD k 0 := ⟨_, rfl⟩
          rw [← hc5] at e1
          have HCUR := hid hcur
          have HGQ := hid hgqB
          clear hc5 hcur hgqB
          go_wp2
          go_roundw
          case rel =>
            obtain ⟨q1, q2⟩ := HR5.out.put k 0
            rw [set_zero cs k (by rw [HT5.out.size, ← HNN.out]; exact hlt)] at q1
            exact ⟨k + 1, by omega, by go_num, HT5.out.kept q2 HCUR.out, q1, HB5.out.trans (Chg.some q2 HGQ.out.1 (by have := HT5.out.base; have := (Array.getElem?_eq_some_iff.1 HT5.out.block).1; omega) HGQ.out.2)⟩
          case measure => simp [intOf]; omega
        · have hkn : k = N := by omega
          subst hkn
          have hR6 : RefIn wr B (.slice yv ts.length cv) ts (List.replicate ts.length 0) := by
            have q := HR5.out
            rwa [List.drop_eq_nil_of_le (by rw [HT5.out.size, HNN.out]; exact Nat.le_refl _), List.append_nil, HNN.out] at q
          have HR6 := hid hR6
          clear hR6 HR5
          go_wp2_with (go_at_call 16; refine (reset_g _ HT5.out).mono ?_; rintro e w3 ⟨rfl, hT6, hg6⟩)
          go_ret
          refine ⟨rfl, ?_⟩
          obtain ⟨cu, fz, hb⟩ := HT5.out.blk
          exact ⟨⟨_, hT6, HR6.out.kept hg6 hb (by decide)⟩, HB5.out.trans (Chg.some hg6 HT5.out.below (by have := HT5.out.base; have := (Array.getElem?_eq_some_iff.1 HT5.out.block).1; omega) hgC)⟩
end Go.Proofs.Ytadoiplfglaonab
