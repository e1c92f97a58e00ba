/-
  A header, its bytes; whether it is valid.
-/
import Derived.Test.YtahminbgedmgcaaDoorBc
import Derived.IntWalk
namespace Go.Proofs.YtahminbgedmgcaaDoor
open Go.RowKit Go.Lib

/-- A header in memory. -/
abbrev hdrV (t r s q : Int) : Value := .agg #[.int .u8 t, .int .u8 r, .int .u8 s, .int .u16 q]
/-- Its numbers fit. -/
structure HFit (t r s q : Int) : Prop where
  t0 : 0 ≤ t
  t1 : t < 256
  r0 : 0 ≤ r
  r1 : r < 256
  s0 : 0 ≤ s
  s1 : s < 256
  q0 : 0 ≤ q
  q1 : q < 65536
/-- Is it one? -/
def okH (t s : Int) : Bool := decide (t ≤ 8 ∧ s ≤ 2 ∧ ¬ (t = 2 ∧ s = 2))
theorem okH_true {t s : Int} (h : okH t s = true) : t ≤ 8 ∧ s ≤ 2 ∧ ¬ (t = 2 ∧ s = 2) := of_decide_eq_true h
theorem okH_false {t s : Int} (h : okH t s = false) : ¬ (t ≤ 8 ∧ s ≤ 2 ∧ ¬ (t = 2 ∧ s = 2)) := of_decide_eq_false h
/-- A header's bytes. -/
def hdrL (t r s q : Int) : List Int := [t, r, s, q / 256, q % 256]

set_option maxRecDepth 100000 in
theorem valid_true (t r s q : Int) (w : World) (F : HFit t r s q) (h : okH t s = true) : Calls Tryd.prog 25 #[hdrV t r s q] w fun e w' => e = .returned (.bool true) ∧ Below w.heap.size w w' := by
  obtain ⟨h1, h2, h3⟩ := okH_true h
  obtain ⟨t0, t1, r0, r1, s0, s1, q0, q1⟩ := F
  clear h
  by_cases ht : t = 2
  · subst ht
    have hs : s ≤ 1 := by omega
    go_enter Tryd.func25, Tryd.ntmps25
    go_wp2
    go_ret
    exact ⟨rfl, (Below.refl _ _).alloc (Nat.le_refl _) _⟩
  · have e1 : (t == 2) = false := by simpa using ht
    have h9 : t < 9 := by omega
    go_enter Tryd.func25, Tryd.ntmps25
    go_wp2
    go_ret
    exact ⟨rfl, (Below.refl _ _).alloc (Nat.le_refl _) _⟩
set_option maxRecDepth 100000 in
theorem valid_false (t r s q : Int) (w : World) (F : HFit t r s q) (h : okH t s = false) : Calls Tryd.prog 25 #[hdrV t r s q] w fun e w' => e = .returned (.bool false) ∧ Below w.heap.size w w' := by
  have h1 := okH_false h
  obtain ⟨t0, t1, r0, r1, s0, s1, q0, q1⟩ := F
  clear h
  by_cases ht : t = 2
  · subst ht
    have hs : ¬ s ≤ 1 := by omega
    clear h1
    go_enter Tryd.func25, Tryd.ntmps25
    go_wp2
    go_ret
    exact ⟨rfl, (Below.refl _ _).alloc (Nat.le_refl _) _⟩
  · have e1 : (t == 2) = false := by simpa using ht
    by_cases h9 : t < 9
    · have hs : ¬ s ≤ 2 := by omega
      clear h1
      go_enter Tryd.func25, Tryd.ntmps25
      go_wp2
      go_ret
      exact ⟨rfl, (Below.refl _ _).alloc (Nat.le_refl _) _⟩
    · clear h1
      go_enter Tryd.func25, Tryd.ntmps25
      go_wp2
      go_ret
      exact ⟨rfl, (Below.refl _ _).alloc (Nat.le_refl _) _⟩
/-- A row that was just laid. -/
theorem own_lit (w : World) (cs : Array Value) (n : Nat) (xs : List Int) (hb : ∀ x ∈ xs, 0 ≤ x ∧ x < 256) (hc : cs.toList = xs.map (Value.int .u8)) (hn : n = xs.length) (hl : n ≤ 1000) (b : Nat) (hbk : b = w.heap.size) : OwnB (w.alloc (.cells cs 5)) (.slice (some ⟨b, 0, none⟩) n n) xs := by
  subst hbk
  refine ⟨hb, ?_⟩
  have hs : cs.size = n * 1 := by rw [← Array.length_toList, hc, List.length_map]; omega
  have := World.ownsRow_lit (e := 5) (size := 1) (base := 0) w cs n (Nat.zero_le _) (by unfold maxLen; omega) hs
  rw [hc] at this
  rw [← hn]
  exact this
theorem hdrL_fit {t r s q : Int} (F : HFit t r s q) : ∀ x ∈ hdrL t r s q, 0 ≤ x ∧ x < 256 := by
  obtain ⟨t0, t1, r0, r1, s0, s1, q0, q1⟩ := F
  simp [hdrL]
  omega
/-- Bytes of one's own, and an error's number. -/
def BytesE (xs : List Int) (er : Int) (w : World) (e : Ending) (w' : World) : Prop := ∃ v, e = .returned (.tuple #[v, .int .i64 er]) ∧ OwnB w' v xs ∧ Below w.heap.size w w' ∧ ∀ k ∈ blkV v, w.heap.size ≤ k
theorem blk_lit (w : World) (b : Nat) (n c : Nat) (h : w.heap.size ≤ b) : ∀ k ∈ blkV (.slice (some ⟨b, 0, none⟩) n c), w.heap.size ≤ k := fun k hk => by
  have : b = k := by simpa [mem_blkV, Value.ownBlock] using hk
  omega
set_option maxRecDepth 100000 in
theorem hbytes_ok (t r s q : Int) (w : World) (F : HFit t r s q) (h : okH t s = true) : Calls Tryd.prog 7 #[hdrV t r s q] w (BytesE (hdrL t r s q) 0 w) := by
  have HV := hid (valid_true t r s q · F h)
  have HF := hid F
  obtain ⟨t0, t1, r0, r1, s0, s1, q0, q1⟩ := F
  clear h
  go_enter Tryd.func7, Tryd.ntmps7
  go_wp2_with fail
  with_reducible refine (HV.out _).mono ?_
  rintro e w1 ⟨rfl, hb1⟩
  have c0 := hb1.cell (p := ⟨w.heap.size, 0, none⟩) (by simp)
  have c1 := hb1.cell (p := ⟨w.heap.size, 1, none⟩) (by simp)
  have c2 := hb1.cell (p := ⟨w.heap.size, 2, none⟩) (by simp)
  have c3 := hb1.cell (p := ⟨w.heap.size, 3, none⟩) (by simp)
  have H1 := hid hb1
  clear hb1
  go_wp2
  go_ret2
  have hb := ((Below.refl w.heap.size w).alloc (Nat.le_refl _) _).trans (H1.out.mono (by simp))
  exact ⟨_, rfl, own_lit _ _ 5 _ (hdrL_fit HF.out) rfl rfl (by omega) _ (by first | rfl | simp), hb.alloc hb.size _, blk_lit _ _ _ _ (by first | exact hb.size | omega)⟩
set_option maxRecDepth 100000 in
theorem hbytes_no (t r s q : Int) (w : World) (F : HFit t r s q) (h : okH t s = false) : Calls Tryd.prog 7 #[hdrV t r s q] w (BytesE [] 1 w) := by
  have HV := hid (valid_false t r s q · F h)
  obtain ⟨t0, t1, r0, r1, s0, s1, q0, q1⟩ := F
  clear h
  go_enter Tryd.func7, Tryd.ntmps7
  go_wp2_with fail
  with_reducible refine (HV.out _).mono ?_
  rintro e w1 ⟨rfl, hb1⟩
  have H1 := hid hb1
  clear hb1
  go_wp2
  go_ret2
  exact ⟨_, rfl, OwnB.nil _, ((Below.refl w.heap.size w).alloc (Nat.le_refl _) _).trans (H1.out.mono (by simp)), fun k hk => by cases hk⟩
theorem div256 {q : Int} (q0 : 0 ≤ q) (q1 : q < 65536) : IntKind.u16.wrap (q.tdiv 256) = q / 256 := by
  rw [Int.tdiv_eq_ediv_of_nonneg q0]
  simp [IntKind.wrap, IntKind.signed, IntKind.bits]
  omega
set_option maxRecDepth 100000 in
theorem rbytes_ok (t r s q : Int) (w : World) (F : HFit t r s q) (h : okH t s = true) : Calls Tryd.prog 8 #[hdrV t r s q] w (BytesE (hdrL t r s q) 0 w) := by
  obtain ⟨h1, h2, h3⟩ := okH_true h
  have HF := hid F
  obtain ⟨t0, t1, r0, r1, s0, s1, q0, q1⟩ := F
  clear h
  by_cases ht : t = 2
  · subst ht
    have hs : (s == 2) = false := by simp at h3; simpa using h3
    clear h3
    have hd := div256 q0 q1
    go_enter Tryd.func8, Tryd.ntmps8
    go_wp2
    go_ret2
    have hb := (Below.refl w.heap.size w).alloc (Nat.le_refl _) (.cells #[.int .u8 2, .int .u8 r, .int .u8 s, .int .u16 q] 24)
    exact ⟨_, rfl, own_lit _ _ 5 _ (hdrL_fit HF.out) rfl rfl (by omega) _ (by first | rfl | simp), hb.alloc hb.size _, blk_lit _ _ _ _ (by first | exact hb.size | omega)⟩
  · have e1 : (t == 2) = false := by simpa using ht
    clear h3
    have hd := div256 q0 q1
    go_enter Tryd.func8, Tryd.ntmps8
    go_wp2
    go_ret2
    have hb := (Below.refl w.heap.size w).alloc (Nat.le_refl _) (.cells #[.int .u8 t, .int .u8 r, .int .u8 s, .int .u16 q] 24)
    exact ⟨_, rfl, own_lit _ _ 5 _ (hdrL_fit HF.out) rfl rfl (by omega) _ (by first | rfl | simp), hb.alloc hb.size _, blk_lit _ _ _ _ (by first | exact hb.size | omega)⟩
set_option maxRecDepth 100000 in
theorem rbytes_no (t r s q : Int) (w : World) (F : HFit t r s q) (h : okH t s = false) : Calls Tryd.prog 8 #[hdrV t r s q] w (BytesE [] 1 w) := by
  have h1 := okH_false h
  obtain ⟨t0, t1, r0, r1, s0, s1, q0, q1⟩ := F
  clear h
  by_cases ht : t ≤ 8
  · by_cases hs : s ≤ 2
    · obtain rfl : t = 2 := by omega
      obtain rfl : s = 2 := by omega
      clear h1
      go_enter Tryd.func8, Tryd.ntmps8
      go_wp2
      go_ret2
      exact ⟨_, rfl, OwnB.nil _, (Below.refl w.heap.size w).alloc (Nat.le_refl _) _, fun k hk => by cases hk⟩
    · clear h1
      go_enter Tryd.func8, Tryd.ntmps8
      go_wp2
      go_ret2
      exact ⟨_, rfl, OwnB.nil _, (Below.refl w.heap.size w).alloc (Nat.le_refl _) _, fun k hk => by cases hk⟩
  · clear h1
    go_enter Tryd.func8, Tryd.ntmps8
    go_wp2
    go_ret2
    exact ⟨_, rfl, OwnB.nil _, (Below.refl w.heap.size w).alloc (Nat.le_refl _) _, fun k hk => by cases hk⟩
end Go.Proofs.YtahminbgedmgcaaDoor
