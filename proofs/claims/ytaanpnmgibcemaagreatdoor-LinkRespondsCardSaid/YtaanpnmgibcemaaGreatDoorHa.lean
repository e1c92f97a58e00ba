/-
  header.
-/
import Derived.Test.YtaanpnmgibcemaaGreatDoorBa
import Derived.IntWalk
import Derived.Deep.RegionHeld3
import Derived.Laws.BitsLemmas
namespace Go.Proofs.YtaanpnmgibcemaaGreatDoor.Hd
/-! XHa -/
section
open Go.RowKit Go.Lib
/-- A header in memory. -/
abbrev hdrV (t r s q : Int) : Value := .agg #[.int .u8 t, .int .u8 r, .int .u8 s, .int .u16 q]
/-- Its numbers fit. -/
structure HFit (t r s q : Int) : Prop where
  t0 : 0 ≤ t
  t1 : t < 256
  r0 : 0 ≤ r
  r1 : r < 256
  s0 : 0 ≤ s
  s1 : s < 256
  q0 : 0 ≤ q
  q1 : q < 65536
/-- Is it one? -/
def okH (t s : Int) : Bool := decide (t ≤ 8 ∧ s ≤ 2 ∧ ¬ (t = 2 ∧ s = 2))
theorem okH_true {t s : Int} (h : okH t s = true) : t ≤ 8 ∧ s ≤ 2 ∧ ¬ (t = 2 ∧ s = 2) := of_decide_eq_true h
theorem okH_false {t s : Int} (h : okH t s = false) : ¬ (t ≤ 8 ∧ s ≤ 2 ∧ ¬ (t = 2 ∧ s = 2)) := of_decide_eq_false h
/-- A header's bytes. -/
def hdrL (t r s q : Int) : List Int := [t, r, s, q / 256, q % 256]
set_option maxRecDepth 100000 in
theorem valid_true (t r s q : Int) (w : World) (F : HFit t r s q) (h : okH t s = true) : Calls Tryz.prog 73 #[hdrV t r s q] w fun e w' => e = .returned (.bool true) ∧ Below w.heap.size w w' := by
  obtain ⟨h1, h2, h3⟩ := okH_true h
  obtain ⟨t0, t1, r0, r1, s0, s1, q0, q1⟩ := F
  clear h
  by_cases ht : t = 2
  · subst ht
    have hs : s ≤ 1 := by omega
    go_enter Tryz.func73, Tryz.ntmps73
    go_wp2
    go_ret
    exact ⟨rfl, (Below.refl _ _).alloc (Nat.le_refl _) _⟩
  · have e1 : (t == 2) = false := by simpa using ht
    have h9 : t < 9 := by omega
    go_enter Tryz.func73, Tryz.ntmps73
    go_wp2
    go_ret
    exact ⟨rfl, (Below.refl _ _).alloc (Nat.le_refl _) _⟩
set_option maxRecDepth 100000 in
theorem valid_false (t r s q : Int) (w : World) (F : HFit t r s q) (h : okH t s = false) : Calls Tryz.prog 73 #[hdrV t r s q] w fun e w' => e = .returned (.bool false) ∧ Below w.heap.size w w' := by
  have h1 := okH_false h
  obtain ⟨t0, t1, r0, r1, s0, s1, q0, q1⟩ := F
  clear h
  by_cases ht : t = 2
  · subst ht
    have hs : ¬ s ≤ 1 := by omega
    clear h1
    go_enter Tryz.func73, Tryz.ntmps73
    go_wp2
    go_ret
    exact ⟨rfl, (Below.refl _ _).alloc (Nat.le_refl _) _⟩
  · have e1 : (t == 2) = false := by simpa using ht
    by_cases h9 : t < 9
    · have hs : ¬ s ≤ 2 := by omega
      clear h1
      go_enter Tryz.func73, Tryz.ntmps73
      go_wp2
      go_ret
      exact ⟨rfl, (Below.refl _ _).alloc (Nat.le_refl _) _⟩
    · clear h1
      go_enter Tryz.func73, Tryz.ntmps73
      go_wp2
      go_ret
      exact ⟨rfl, (Below.refl _ _).alloc (Nat.le_refl _) _⟩
theorem hdrL_fit {t r s q : Int} (F : HFit t r s q) : ∀ x ∈ hdrL t r s q, 0 ≤ x ∧ x < 256 := by
  obtain ⟨t0, t1, r0, r1, s0, s1, q0, q1⟩ := F
  simp [hdrL]
  omega
/-- Bytes of one's own, and an error's number. -/
def BytesE (xs : List Int) (er : Int) (w : World) (e : Ending) (w' : World) : Prop := ∃ v, e = .returned (.tuple #[v, .int .i64 er]) ∧ OwnB w' v xs ∧ Below w.heap.size w w' ∧ ∀ k ∈ blkV v, w.heap.size ≤ k
set_option maxRecDepth 100000 in
theorem hbytes_ok (t r s q : Int) (w : World) (F : HFit t r s q) (h : okH t s = true) : Calls Tryz.prog 52 #[hdrV t r s q] w (BytesE (hdrL t r s q) 0 w) := by
  have HV := hid (valid_true t r s q · F h)
  have HF := hid F
  obtain ⟨t0, t1, r0, r1, s0, s1, q0, q1⟩ := F
  clear h
  go_enter Tryz.func52, Tryz.ntmps52
  go_wp2_with fail
  with_reducible refine (HV.out _).mono ?_
  rintro e w1 ⟨rfl, hb1⟩
  have c0 := hb1.cell (p := ⟨w.heap.size, 0, none⟩) (by simp)
  have c1 := hb1.cell (p := ⟨w.heap.size, 1, none⟩) (by simp)
  have c2 := hb1.cell (p := ⟨w.heap.size, 2, none⟩) (by simp)
  have c3 := hb1.cell (p := ⟨w.heap.size, 3, none⟩) (by simp)
  have H1 := hid hb1
  clear hb1
  go_wp2
  go_ret2
  have hb := ((Below.refl w.heap.size w).alloc (Nat.le_refl _) _).trans (H1.out.mono (by simp))
  exact ⟨_, rfl, own_lit _ _ 5 _ (hdrL_fit HF.out) rfl rfl (by omega) _ (by first | rfl | simp), hb.alloc hb.size _, blk_lit _ _ _ _ (by first | exact hb.size | omega)⟩
set_option maxRecDepth 100000 in
theorem hbytes_no (t r s q : Int) (w : World) (F : HFit t r s q) (h : okH t s = false) : Calls Tryz.prog 52 #[hdrV t r s q] w (BytesE [] 1 w) := by
  have HV := hid (valid_false t r s q · F h)
  obtain ⟨t0, t1, r0, r1, s0, s1, q0, q1⟩ := F
  clear h
  go_enter Tryz.func52, Tryz.ntmps52
  go_wp2_with fail
  with_reducible refine (HV.out _).mono ?_
  rintro e w1 ⟨rfl, hb1⟩
  have H1 := hid hb1
  clear hb1
  go_wp2
  go_ret2
  exact ⟨_, rfl, OwnB.nil _, ((Below.refl w.heap.size w).alloc (Nat.le_refl _) _).trans (H1.out.mono (by simp)), fun k hk => by cases hk⟩
theorem div256 {q : Int} (q0 : 0 ≤ q) (q1 : q < 65536) : IntKind.u16.wrap (q.tdiv 256) = q / 256 := by
  rw [Int.tdiv_eq_ediv_of_nonneg q0]
  simp [IntKind.wrap, IntKind.signed, IntKind.bits]
  omega
set_option maxRecDepth 100000 in
theorem rbytes_ok (t r s q : Int) (w : World) (F : HFit t r s q) (h : okH t s = true) : Calls Tryz.prog 21 #[hdrV t r s q] w (BytesE (hdrL t r s q) 0 w) := by
  obtain ⟨h1, h2, h3⟩ := okH_true h
  have HF := hid F
  obtain ⟨t0, t1, r0, r1, s0, s1, q0, q1⟩ := F
  clear h
  by_cases ht : t = 2
  · subst ht
    have hs : (s == 2) = false := by simp at h3; simpa using h3
    clear h3
    have hd := div256 q0 q1
    go_enter Tryz.func21, Tryz.ntmps21
    go_wp2
    go_ret2
    have hb := (Below.refl w.heap.size w).alloc (Nat.le_refl _) (.cells #[.int .u8 2, .int .u8 r, .int .u8 s, .int .u16 q] 36)
    exact ⟨_, rfl, own_lit _ _ 5 _ (hdrL_fit HF.out) rfl rfl (by omega) _ (by first | rfl | simp), hb.alloc hb.size _, blk_lit _ _ _ _ (by first | exact hb.size | omega)⟩
  · have e1 : (t == 2) = false := by simpa using ht
    clear h3
    have hd := div256 q0 q1
    go_enter Tryz.func21, Tryz.ntmps21
    go_wp2
    go_ret2
    have hb := (Below.refl w.heap.size w).alloc (Nat.le_refl _) (.cells #[.int .u8 t, .int .u8 r, .int .u8 s, .int .u16 q] 36)
    exact ⟨_, rfl, own_lit _ _ 5 _ (hdrL_fit HF.out) rfl rfl (by omega) _ (by first | rfl | simp), hb.alloc hb.size _, blk_lit _ _ _ _ (by first | exact hb.size | omega)⟩
set_option maxRecDepth 100000 in
theorem rbytes_no (t r s q : Int) (w : World) (F : HFit t r s q) (h : okH t s = false) : Calls Tryz.prog 21 #[hdrV t r s q] w (BytesE [] 1 w) := by
  have h1 := okH_false h
  obtain ⟨t0, t1, r0, r1, s0, s1, q0, q1⟩ := F
  clear h
  by_cases ht : t ≤ 8
  · by_cases hs : s ≤ 2
    · obtain rfl : t = 2 := by omega
      obtain rfl : s = 2 := by omega
      clear h1
      go_enter Tryz.func21, Tryz.ntmps21
      go_wp2
      go_ret2
      exact ⟨_, rfl, OwnB.nil _, (Below.refl w.heap.size w).alloc (Nat.le_refl _) _, fun k hk => by cases hk⟩
    · clear h1
      go_enter Tryz.func21, Tryz.ntmps21
      go_wp2
      go_ret2
      exact ⟨_, rfl, OwnB.nil _, (Below.refl w.heap.size w).alloc (Nat.le_refl _) _, fun k hk => by cases hk⟩
  · clear h1
    go_enter Tryz.func21, Tryz.ntmps21
    go_wp2
    go_ret2
    exact ⟨_, rfl, OwnB.nil _, (Below.refl w.heap.size w).alloc (Nat.le_refl _) _, fun k hk => by cases hk⟩
end
/-! XHb -/
section
open Go.RowKit Go.Lib
/-- A response's bytes. -/
def rspL (k q c : Int) : List Int := [2, 0, k, q / 256, q % 256, c]
theorem rspL_fit {k q c : Int} (k0 : 0 ≤ k) (k1 : k < 256) (q0 : 0 ≤ q) (q1 : q < 65536) (c0 : 0 ≤ c) (c1 : c < 256) : ∀ x ∈ rspL k q c, 0 ≤ x ∧ x < 256 := by
  simp [rspL]
  omega
set_option maxRecDepth 100000 in
theorem respond_any (k q c : Int) (w : World) (k0 : 0 ≤ k) (k1 : k < 256) (q0 : 0 ≤ q) (q1 : q < 65536) (c0 : 0 ≤ c) (c1 : c < 256) : Calls Tryz.prog 69 #[.int .u8 k, .int .u16 q, .int .u8 c] w (CloneDone (rspL k q c) w) := by
  have HF := hid (rspL_fit k0 k1 q0 q1 c0 c1)
  go_enter Tryz.func69, Tryz.ntmps69
  go_wp2
  go_ret
  exact ⟨_, rfl, own_lit _ _ 6 _ HF.out rfl rfl (by omega) _ (by first | rfl | simp), (Below.refl w.heap.size w).alloc (Nat.le_refl _) _, blk_lit _ _ _ _ (Nat.le_refl _)⟩
set_option maxRecDepth 100000 in
theorem positive_any (q : Int) (w : World) (q0 : 0 ≤ q) (q1 : q < 65536) : Calls Tryz.prog 68 #[.int .u16 q] w (CloneDone (rspL 0 q 0) w) := by
  have H := hid (respond_any 0 q 0 w (by omega) (by omega) q0 q1 (by omega) (by omega))
  go_enter Tryz.func68, Tryz.ntmps68
  go_wp2_with fail
  with_reducible refine H.out.mono ?_
  rintro e w1 ⟨v, rfl, h1⟩
  have H1 := hid h1
  clear h1
  go_wp2
  go_ret
  exact ⟨_, rfl, H1.out⟩
/-- One more byte behind what was new. -/
theorem more_done {w w1 w2 : World} {v v1 : Value} {xs ys : List Int} {c : Int} {o : Obj} (hf : ∀ x ∈ ys, 0 ≤ x ∧ x < 256) (hy : ys = xs ++ [c]) (hB : Below w.heap.size w w1) (hK : ∀ k ∈ blkV v, w.heap.size ≤ k)
    (hO : w2.ownsRow 0 5 1 v1 (xs.length + 1) (xs.map (Value.int .u8) ++ [.int .u8 c])) (hG : (w1.alloc o).grownBy w2 v.ownBlock) (hK1 : ∀ k ∈ blkV v1, k ∈ blkV v ∨ (w1.alloc o).heap.size ≤ k) : CloneDone ys w (.returned v1) w2 := by
  have hs := hB.size
  refine ⟨v1, rfl, ⟨hf, ?_⟩, (hB.alloc hB.size _).grown hG (by simp; omega) (fun k hk => hK k (mem_blkV.2 hk)), fun k hk => ?_⟩
  · subst hy
    simpa using hO
  · rcases hK1 k hk with h | h
    · exact hK k h
    · simp at h
      omega
set_option maxRecDepth 100000 in
theorem rresponse_ok (q c : Int) (w : World) (q0 : 0 ≤ q) (q1 : q < 65536) : Calls Tryz.prog 48 #[.int .u16 q, .bool true, .int .u8 c] w (CloneDone (rspL 0 q 0) w) := by
  have F : HFit 2 0 0 q := ⟨by omega, by omega, by omega, by omega, by omega, by omega, q0, q1⟩
  have H := hid (rbytes_ok 2 0 0 q w F (by decide))
  obtain ⟨i0, hi, hz0, hz1, hz2⟩ := info_parts info5
  have HF := hid (rspL_fit (k := 0) (c := 0) (by omega) (by omega) q0 q1 (by omega) (by omega))
  clear F
  go_enter Tryz.func48, Tryz.ntmps48
  go_wp2_with fail
  with_reducible refine H.out.mono ?_
  rintro e w1 ⟨v, rfl, ho, hb, hk⟩
  have HO := hid ho
  have HB := hid hb
  have HK := hid hk
  clear ho hb hk
  go_wp2_with (first
    | (at_builtin; refine wpList_append_blk _ rfl _ _ 22 rfl 5 i0 (.int .u8 0) 1 1 Tryz.underlying22 hi hz0 hz1 hz2 rfl (by decide) v 5 ((hdrL 2 0 0 q).map (Value.int .u8)) rfl (OwnB.moved HO.out (Moved.alloc _ _ []) (fun _ _ h => by cases h)).2 ⟨w1.heap.size, 0, none⟩ 1 1 [.int .u8 0] rfl rfl (one_src _ _ _ rfl) (ints_oneCell .u8 [0]) (by unfold maxLen; omega) (by omega) ?_; intro v1 w2 hown1 hgrow1 hnil1 hblk1; have HO1 := hid hown1; have HG := hid hgrow1; have HNL := hid hnil1; have HK1 := hid hblk1; clear hown1 hgrow1 hnil1 hblk1))
  go_ret
  exact more_done HF.out rfl HB.out HK.out HO1.out HG.out HK1.out
set_option maxRecDepth 100000 in
theorem rresponse_no (q c : Int) (w : World) (q0 : 0 ≤ q) (q1 : q < 65536) (c0 : 0 ≤ c) (c1 : c < 256) : Calls Tryz.prog 48 #[.int .u16 q, .bool false, .int .u8 c] w (CloneDone (rspL 1 q c) w) := by
  have F : HFit 2 0 0 q := ⟨by omega, by omega, by omega, by omega, by omega, by omega, q0, q1⟩
  have H := hid (rbytes_ok 2 0 0 q w F (by decide))
  obtain ⟨i0, hi, hz0, hz1, hz2⟩ := info_parts info5
  have HF := hid (rspL_fit (k := 1) (c := c) (by omega) (by omega) q0 q1 c0 c1)
  clear F
  go_enter Tryz.func48, Tryz.ntmps48
  go_wp2_with fail
  with_reducible refine H.out.mono ?_
  rintro e w1 ⟨v, rfl, ho, hb, hk⟩
  obtain ⟨g, cap, rfl, h1, h2, h3⟩ := ho.slice (by simp [hdrL])
  have e2 := ho.at 2 (by simp [hdrL])
  have f2 := World.ownsRow.frozenAt ho.2 2
  have HO := hid (ho.stored 2 1 (by omega))
  have HB := hid (hb.setCell (p := ⟨g, 2, none⟩) (hk g (by simp [blkV, Value.ownBlock])) (.int .u8 1))
  have HK := hid hk
  have h5 : 5 ≤ cap := h1
  clear ho hb hk h1
  have hl : (hdrL 2 0 0 q).length = 5 := rfl
  rw [hl] at HO HK ⊢
  clear hl
  go_wp2_with (first
    | (at_builtin; refine wpList_append_blk _ rfl _ _ 22 rfl 5 i0 (.int .u8 0) 1 1 Tryz.underlying22 hi hz0 hz1 hz2 rfl (by decide) (.slice (some ⟨g, 0, none⟩) 5 cap) 5 (((hdrL 2 0 0 q).set 2 1).map (Value.int .u8)) rfl (OwnB.moved HO.out (Moved.alloc _ _ []) (fun _ _ h => by cases h)).2 ⟨w1.heap.size, 0, none⟩ 1 1 [.int .u8 c] rfl rfl (one_src _ _ _ (by simp [World.setCell])) (ints_oneCell .u8 [c]) (by unfold maxLen; omega) (by omega) ?_; intro v1 w2 hown1 hgrow1 hnil1 hblk1; have HO1 := hid hown1; have HG := hid hgrow1; have HNL := hid hnil1; have HK1 := hid hblk1; clear hown1 hgrow1 hnil1 hblk1))
  go_ret
  exact more_done HF.out rfl HB.out HK.out HO1.out HG.out HK1.out
/-- An error's code. -/
def codeN (e : Int) : Int := if e = 11 then 0 else if e = 3 ∨ e = 7 then 3 else if e = 6 ∨ e = 8 then 1 else 2
theorem codeN_le (e : Int) : 0 ≤ codeN e ∧ codeN e ≤ 3 := by
  unfold codeN
  repeat' split
  all_goals omega
theorem code_parts (e : Int) : e = 11 ∨ e = 3 ∨ e = 7 ∨ e = 6 ∨ e = 8 ∨ ((e == 11) = false ∧ (e == 3) = false ∧ (e == 7) = false ∧ (e == 6) = false ∧ (e == 8) = false ∧ codeN e = 2) := by
  by_cases h1 : e = 11; · exact .inl h1
  by_cases h2 : e = 3; · exact .inr (.inl h2)
  by_cases h3 : e = 7; · exact .inr (.inr (.inl h3))
  by_cases h4 : e = 6; · exact .inr (.inr (.inr (.inl h4)))
  by_cases h5 : e = 8; · exact .inr (.inr (.inr (.inr (.inl h5))))
  simp [h1, h2, h3, h4, h5, codeN]
set_option maxRecDepth 100000 in
theorem code_any (x : Int) (w : World) : Calls Tryz.prog 70 #[.int .i64 x] w fun e w' => e = .returned (.int .u8 (codeN x)) ∧ w = w' := by
  rcases code_parts x with rfl | rfl | rfl | rfl | rfl | ⟨h1, h2, h3, h4, h5, h6⟩
  case inr.inr.inr.inr.inr =>
    have H := hid h6
    clear h6
    go_enter Tryz.func70, Tryz.ntmps70
    go_wp2
    go_ret
    exact ⟨by rw [H.out]; rfl, rfl⟩
  all_goals
    go_enter Tryz.func70, Tryz.ntmps70
    go_wp2
    go_ret
    exact ⟨rfl, rfl⟩
set_option maxRecDepth 100000 in
theorem rcode_any (x : Int) (w : World) : Calls Tryz.prog 49 #[.int .i64 x] w fun e w' => e = .returned (.int .u8 (codeN x)) ∧ w = w' := by
  rcases code_parts x with rfl | rfl | rfl | rfl | rfl | ⟨h1, h2, h3, h4, h5, h6⟩
  case inr.inr.inr.inr.inr =>
    have H := hid h6
    clear h6
    go_enter Tryz.func49, Tryz.ntmps49
    go_wp2
    go_ret
    exact ⟨by rw [H.out]; rfl, rfl⟩
  all_goals
    go_enter Tryz.func49, Tryz.ntmps49
    go_wp2
    go_ret
    exact ⟨rfl, rfl⟩
end
/-! XHc -/
section
open Go.RowKit Go.Lib
theorem wraps_u16 (n : Int) (h₀ : 0 ≤ n) (h₁ : n < 2 ^ 16) : IntKind.u16.wrap n = n := by simp [IntKind.wrap, IntKind.signed, IntKind.bits]; omega
theorem or256u (a b : Int) (ha : 0 ≤ a) (ha2 : a < 256) (hb : 0 ≤ b) (hb2 : b < 256) : bits .or .u16 (a * 256) b = 256 * a + b := by
  rw [bits_join .u16 16 (by decide) wraps_u16 8 (a * 256) b (by omega) (by omega) (by omega) hb (by omega) (by omega)]
  omega
/-- What was read: a header, the rest, an error. -/
def ParseE (t r s q : Int) (xs : List Int) (er : Int) (w : World) (e : Ending) (w' : World) : Prop := ∃ v, e = .returned (.tuple #[hdrV t r s q, v, .int .i64 er]) ∧ OwnB w' v xs ∧ Below w.heap.size w w' ∧ ∀ k ∈ blkV v, w.heap.size ≤ k
/-- Five cells of a row. -/
def Five (w0 w : World) (g off : Nat) (t r s a b : Int) : Prop := w.cell? ⟨g, off, none⟩ = some (.int .u8 t) ∧ w.cell? ⟨g, off + 1, none⟩ = some (.int .u8 r) ∧ w.cell? ⟨g, off + 2, none⟩ = some (.int .u8 s) ∧ w.cell? ⟨g, off + 3, none⟩ = some (.int .u8 a) ∧ w.cell? ⟨g, off + 4, none⟩ = some (.int .u8 b) ∧ Below w0.heap.size w0 w
theorem Five.step {w0 w w' : World} {g off : Nat} {t r s a b : Int} (h : Five w0 w g off t r s a b) (hb : Below w.heap.size w w') : Five w0 w' g off t r s a b := by
  obtain ⟨h1, h2, h3, h4, h5, h6⟩ := h
  exact ⟨keepc hb h1, keepc hb h2, keepc hb h3, keepc hb h4, keepc hb h5, below_t h6 hb⟩
theorem Five.drew {w0 w : World} {g off : Nat} {t r s a b : Int} (h : Five w0 w g off t r s a b) : Five w0 w.drew g off t r s a b := h.step (Below.refl _ _).drew
theorem Five.alloc {w0 w : World} {g off : Nat} {t r s a b : Int} (h : Five w0 w g off t r s a b) (o : Obj) : Five w0 (w.alloc o) g off t r s a b := h.step ((Below.refl _ _).alloc (Nat.le_refl _) _)
/-- A header's block that may be written. -/
def Open4 (w : World) (b : Nat) : Prop := ∀ j, j < 4 → (w.cell? ⟨b, j, none⟩).isSome = true ∧ w.frozen? ⟨b, j, none⟩ = false
theorem Open4.step {w w' : World} {b : Nat} (h : Open4 w b) (hb : Below w.heap.size w w') : Open4 w' b := fun j hj => by
  obtain ⟨h1, h2⟩ := h j hj
  obtain ⟨v, hv⟩ := Option.isSome_iff_exists.1 h1
  exact ⟨by rw [keepc hb hv]; rfl, (hb.frozen (World.block_lt_of_cell? w _ hv)).trans h2⟩
theorem Open4.set {w : World} {b : Nat} (h : Open4 w b) (g i : Nat) (v : Value) : Open4 (w.setCell ⟨g, i, none⟩ v) b := fun j hj => by
  obtain ⟨h1, h2⟩ := h j hj
  obtain ⟨u, hu⟩ := Option.isSome_iff_exists.1 h1
  refine ⟨?_, by simp [h2]⟩
  by_cases e : (⟨g, i, none⟩ : Addr) = ⟨b, j, none⟩
  · rw [e, World.cell?_setCell_same (h := hu)]; rfl
  · rw [World.cell?_setCell_other (h := e), hu]; rfl
theorem Open4.lt {w : World} {b : Nat} (h : Open4 w b) : b < w.heap.size := by
  obtain ⟨v, hv⟩ := Option.isSome_iff_exists.1 (h 0 (by omega)).1
  exact World.block_lt_of_cell? w _ hv
theorem Open4.ex {w : World} {b : Nat} (h : Open4 w b) : ∃ u0 u1 u2 u3, w.cell? ⟨b, 0, none⟩ = some u0 ∧ w.cell? ⟨b, 1, none⟩ = some u1 ∧ w.cell? ⟨b, 2, none⟩ = some u2 ∧ w.cell? ⟨b, 3, none⟩ = some u3 ∧ w.frozen? ⟨b, 0, none⟩ = false ∧ w.frozen? ⟨b, 1, none⟩ = false ∧ w.frozen? ⟨b, 2, none⟩ = false ∧ w.frozen? ⟨b, 3, none⟩ = false := by
  obtain ⟨u0, h0⟩ := Option.isSome_iff_exists.1 (h 0 (by omega)).1
  obtain ⟨u1, h1⟩ := Option.isSome_iff_exists.1 (h 1 (by omega)).1
  obtain ⟨u2, h2⟩ := Option.isSome_iff_exists.1 (h 2 (by omega)).1
  obtain ⟨u3, h3⟩ := Option.isSome_iff_exists.1 (h 3 (by omega)).1
  exact ⟨u0, u1, u2, u3, h0, h1, h2, h3, (h 0 (by omega)).2, (h 1 (by omega)).2, (h 2 (by omega)).2, (h 3 (by omega)).2⟩
theorem Open4.out {w : World} {b : Nat} (h : Open4 w b) : (w.cell? ⟨b, 0, none⟩).isSome = true ∧ (w.cell? ⟨b, 1, none⟩).isSome = true ∧ (w.cell? ⟨b, 2, none⟩).isSome = true ∧ (w.cell? ⟨b, 3, none⟩).isSome = true ∧ w.frozen? ⟨b, 0, none⟩ = false ∧ w.frozen? ⟨b, 1, none⟩ = false ∧ w.frozen? ⟨b, 2, none⟩ = false ∧ w.frozen? ⟨b, 3, none⟩ = false :=
  ⟨(h 0 (by omega)).1, (h 1 (by omega)).1, (h 2 (by omega)).1, (h 3 (by omega)).1, (h 0 (by omega)).2, (h 1 (by omega)).2, (h 2 (by omega)).2, (h 3 (by omega)).2⟩
/-- A header's own cells, beside a block that may be written. -/
def Four (w0 w : World) (g b : Nat) (t r s q : Int) : Prop := w.cell? ⟨g, 0, none⟩ = some (.int .u8 t) ∧ w.cell? ⟨g, 1, none⟩ = some (.int .u8 r) ∧ w.cell? ⟨g, 2, none⟩ = some (.int .u8 s) ∧ w.cell? ⟨g, 3, none⟩ = some (.int .u16 q) ∧ Below w0.heap.size w0 w ∧ Open4 w b
theorem Four.step {w0 w w' : World} {g b : Nat} {t r s q : Int} (h : Four w0 w g b t r s q) (hb : Below w.heap.size w w') : Four w0 w' g b t r s q := by
  obtain ⟨h1, h2, h3, h4, h6, h7⟩ := h
  exact ⟨keepc hb h1, keepc hb h2, keepc hb h3, keepc hb h4, below_t h6 hb, h7.step hb⟩
theorem Four.drew {w0 w : World} {g b : Nat} {t r s q : Int} (h : Four w0 w g b t r s q) : Four w0 w.drew g b t r s q := h.step (Below.refl _ _).drew
theorem four_kept {w0 w w' : World} {g b : Nat} {t r s q : Int} (h : w.cell? ⟨g, 0, none⟩ = some (.int .u8 t) ∧ w.cell? ⟨g, 1, none⟩ = some (.int .u8 r) ∧ w.cell? ⟨g, 2, none⟩ = some (.int .u8 s) ∧ w.cell? ⟨g, 3, none⟩ = some (.int .u16 q) ∧ Below w0.heap.size w0 w ∧ Open4 w b) (hb : Below w.heap.size w w') : w'.cell? ⟨g, 0, none⟩ = some (.int .u8 t) ∧ w'.cell? ⟨g, 1, none⟩ = some (.int .u8 r) ∧ w'.cell? ⟨g, 2, none⟩ = some (.int .u8 s) ∧ w'.cell? ⟨g, 3, none⟩ = some (.int .u16 q) ∧ Below w0.heap.size w0 w' ∧ Open4 w' b := Four.step h hb
theorem four_below {w0 w : World} {g b : Nat} {t r s q : Int} (h : w.cell? ⟨g, 0, none⟩ = some (.int .u8 t) ∧ w.cell? ⟨g, 1, none⟩ = some (.int .u8 r) ∧ w.cell? ⟨g, 2, none⟩ = some (.int .u8 s) ∧ w.cell? ⟨g, 3, none⟩ = some (.int .u16 q) ∧ Below w0.heap.size w0 w ∧ Open4 w b) : Below w0.heap.size w0 w := h.2.2.2.2.1
theorem four_open {w0 w : World} {g b : Nat} {t r s q : Int} (h : w.cell? ⟨g, 0, none⟩ = some (.int .u8 t) ∧ w.cell? ⟨g, 1, none⟩ = some (.int .u8 r) ∧ w.cell? ⟨g, 2, none⟩ = some (.int .u8 s) ∧ w.cell? ⟨g, 3, none⟩ = some (.int .u16 q) ∧ Below w0.heap.size w0 w ∧ Open4 w b) : Open4 w b := h.2.2.2.2.2
/-- The four stores. -/
def put4 (w : World) (b : Nat) (c0 c1 c2 c3 : Value) : World := (((w.setCell ⟨b, 0, none⟩ c0).setCell ⟨b, 1, none⟩ c1).setCell ⟨b, 2, none⟩ c2).setCell ⟨b, 3, none⟩ c3
theorem put4_cells {w : World} {b : Nat} (h : Open4 w b) (c0 c1 c2 c3 : Value) : (put4 w b c0 c1 c2 c3).cell? ⟨b, 0, none⟩ = some c0 ∧ (put4 w b c0 c1 c2 c3).cell? ⟨b, 1, none⟩ = some c1 ∧ (put4 w b c0 c1 c2 c3).cell? ⟨b, 2, none⟩ = some c2 ∧ (put4 w b c0 c1 c2 c3).cell? ⟨b, 3, none⟩ = some c3 := by
  obtain ⟨h0, h1, h2, h3, _⟩ := h.out
  have n (i j : Nat) (hij : i ≠ j) : (⟨b, i, none⟩ : Addr) ≠ ⟨b, j, none⟩ := fun e => hij (by injection e)
  unfold put4
  refine ⟨?_, ?_, ?_, ?_⟩
  · rw [World.cell?_setCell_other (h := n 3 0 (by omega)), World.cell?_setCell_other (h := n 2 0 (by omega)), World.cell?_setCell_other (h := n 1 0 (by omega))]
    exact World.cell?_setCell_same' _ _ _ h0
  · rw [World.cell?_setCell_other (h := n 3 1 (by omega)), World.cell?_setCell_other (h := n 2 1 (by omega))]
    exact World.cell?_setCell_same' _ _ _ ((h.set b 0 c0).out.2.1)
  · rw [World.cell?_setCell_other (h := n 3 2 (by omega))]
    exact World.cell?_setCell_same' _ _ _ (((h.set b 0 c0).set b 1 c1).out.2.2.1)
  · exact World.cell?_setCell_same' _ _ _ ((((h.set b 0 c0).set b 1 c1).set b 2 c2).out.2.2.2.1)
theorem put4_own {w : World} {b : Nat} {v : Value} {xs : List Int} (c0 c1 c2 c3 : Value) (h : OwnB w v xs) (hk : ∀ k ∈ blkV v, b < k) : OwnB (put4 w b c0 c1 c2 c3) v xs := by
  have m : Moved w (put4 w b c0 c1 c2 c3) [b] [b] := (((Moved.set (by simp) _ _).trans (Moved.set (by simp) _ _)).trans (Moved.set (by simp) _ _)).trans (Moved.set (by simp) _ _)
  exact h.moved m (fun k hh hm => by have := hk k hh; simp at hm; omega)
theorem put4_below {w0 w : World} {b : Nat} (c0 c1 c2 c3 : Value) (h : Below w0.heap.size w0 w) (hb : w0.heap.size ≤ b) : Below w0.heap.size w0 (put4 w b c0 c1 c2 c3) := (((h.setCell (by exact hb) _).setCell (by exact hb) _).setCell (by exact hb) _).setCell (by exact hb) _
theorem four_put {w0 w : World} {g b : Nat} {t r s q : Int} (h : w.cell? ⟨g, 0, none⟩ = some (.int .u8 t) ∧ w.cell? ⟨g, 1, none⟩ = some (.int .u8 r) ∧ w.cell? ⟨g, 2, none⟩ = some (.int .u8 s) ∧ w.cell? ⟨g, 3, none⟩ = some (.int .u16 q) ∧ Below w0.heap.size w0 w ∧ Open4 w b) (hb : w0.heap.size ≤ b) (hg : b < g) (c0 c1 c2 c3 : Value) : Four w0 (put4 w b c0 c1 c2 c3) g b t r s q := by
  obtain ⟨h1, h2, h3, h4, h6, h7⟩ := h
  have n (i j : Nat) : (⟨b, i, none⟩ : Addr) ≠ ⟨g, j, none⟩ := fun e => by injection e; omega
  have c (j : Nat) : (put4 w b c0 c1 c2 c3).cell? ⟨g, j, none⟩ = w.cell? ⟨g, j, none⟩ := by
    unfold put4
    rw [World.cell?_setCell_other (h := n 3 j), World.cell?_setCell_other (h := n 2 j), World.cell?_setCell_other (h := n 1 j), World.cell?_setCell_other (h := n 0 j)]
  exact ⟨(c 0).trans h1, (c 1).trans h2, (c 2).trans h3, (c 3).trans h4, put4_below _ _ _ _ h6 hb, (((h7.set _ _ _).set _ _ _).set _ _ _).set _ _ _⟩
theorem clone_end {w0 w w2 : World} {g b : Nat} {t r s q : Int} {v : Value} {xs : List Int} (ho : OwnB w2 v xs) (hb : Below w.heap.size w w2) (hk : ∀ k ∈ blkV v, w.heap.size ≤ k) (h : w.cell? ⟨g, 0, none⟩ = some (.int .u8 t) ∧ w.cell? ⟨g, 1, none⟩ = some (.int .u8 r) ∧ w.cell? ⟨g, 2, none⟩ = some (.int .u8 s) ∧ w.cell? ⟨g, 3, none⟩ = some (.int .u16 q) ∧ Below w0.heap.size w0 w ∧ Open4 w b) : OwnB w2 v xs ∧ (∀ k ∈ blkV v, b < k) ∧ Below w0.heap.size w0 w2 ∧ Open4 w2 b :=
  ⟨ho, fun k h' => Nat.lt_of_lt_of_le (Open4.lt (four_open h)) (hk k h'), below_t (four_below h) hb, (four_open h).step hb⟩
/-- What stands behind the first five. -/
theorem run_from5 (a : Addr) (n cap : Nat) (h5 : 5 ≤ n) : ∃ x, (∀ w, (Instr.sliceAt 22 (.slice (some a) n cap) (some (.int .i64 5)) none none).run Tryz.prog w = .ok (.slice (some x) (n - 5) (cap - 5)) w) ∧ ∀ w xs, Reads w (.slice (some a) n cap) xs → Reads w (.slice (some x) (n - 5) (cap - 5)) (xs.drop 5) := by
  refine ⟨if cap = 5 then a else a.add 5, fun w => ?_, fun w xs hr => ?_⟩
  · have h5' : (5 : Int) ≤ n := by omega
    simp [Instr.sliceAt, Instr.slice, run_underlying Tryz.underlying22, Instr.sliceBounds, Instr.sliceBound, asIntOf, h5']
    split <;> rfl
  · obtain ⟨hb, ⟨hv, _⟩ | ⟨a', cap', hv, h1, h2, h3⟩⟩ := hr
    · cases hv
    · cases hv
      have hlen : (xs.drop 5).length = xs.length - 5 := List.length_drop
      refine ⟨fun y hy => hb y (List.mem_of_mem_drop hy), .inr ⟨_, cap - 5, by rw [hlen], by omega, by omega, fun i hi => ?_⟩⟩
      rw [hlen] at hi
      rw [if_neg (by omega)]
      have c0 := h3 0 (by omega)
      obtain ⟨g, off, spot⟩ := a
      obtain rfl : spot = none := by simpa [Addr.add] using World.cell?_spot c0
      have c := h3 (5 + i) (by omega)
      rw [addr_add] at c
      rw [addr_add, addr_add, Nat.add_assoc, c, List.getD, List.getD, List.getElem?_drop]
set_option maxRecDepth 100000 in
theorem parse_short (x : Option Addr) (n cap : Nat) (w : World) (h : n < 5) : Calls Tryz.prog 109 #[.slice x n cap] w (ParseE 0 0 0 0 [] 2 w) := by
  go_enter Tryz.func109, Tryz.ntmps109
  go_wp2
  refine bodyPost_ret (v := .tuple #[hdrV 0 0 0 0, .slice none 0 0, .int .i64 2]) (by simp [results, Tryz.results109, go_sem]) rfl ⟨_, rfl, OwnB.nil _, ?_, fun k hk => by cases hk⟩
  exact (Below.refl _ _).alloc (Nat.le_refl _) _
set_option maxRecDepth 100000 in
set_option maxHeartbeats 2000000 in
theorem parse_ok (g off n cap : Nat) (t r s a b : Int) (rest : List Int) (w : World) (h5 : Five w w g off t r s a b) (hn : n = rest.length + 5) (_hc : n ≤ cap) (_hm : cap ≤ maxLen) (F : HFit t r s (256 * a + b)) (ha : 0 ≤ a ∧ a < 256) (hb : 0 ≤ b ∧ b < 256) (hr : Reads w (.slice (some ⟨g, off, none⟩) n cap) (t :: r :: s :: a :: b :: rest)) (hl : n ≤ 1000000) (hk : okH t s = true) : Calls Tryz.prog 109 #[.slice (some ⟨g, off, none⟩) n cap] w (ParseE t r s (256 * a + b) rest 0 w) := by
  have HX := hid (h5.alloc (.cells #[.int .u8 0, .int .u8 0, .int .u8 0, .int .u16 0] 54))
  have HV := hid (valid_true t r s (256 * a + b) · F hk)
  obtain ⟨x5, hx5, hrd⟩ := run_from5 ⟨g, off, none⟩ n cap (by omega)
  have HR := hid (hrd w _ hr)
  clear hrd
  obtain ⟨t0, t1, r0, r1, s0, s1, q0, q1⟩ := F
  have l0 : 0 < n := by omega
  have l1 : 1 < n := by omega
  have l2 : 2 < n := by omega
  have l3 : 3 < n := by omega
  have l4 : 4 < n := by omega
  have l5 : ¬ n < 5 := by omega
  have i1 : (1 : Int) < n := by omega
  have i2 : (2 : Int) < n := by omega
  have i3 : (3 : Int) < n := by omega
  have i4 : (4 : Int) < n := by omega
  obtain ⟨a0, a1⟩ := ha
  obtain ⟨b0, b1⟩ := hb
  have HN := hid hn
  clear h5 hr hk hn
  have e1 : IntKind.u16.wrap a = a := wraps_u16 a (by omega) (by omega)
  have e2 : IntKind.u16.wrap b = b := wraps_u16 b (by omega) (by omega)
  have e3 : IntKind.u16.wrap (a * 256) = a * 256 := wraps_u16 _ (by omega) (by omega)
  have e4 : bits .or .u16 (a * 256) b = 256 * a + b := or256u a b a0 a1 b0 b1
  go_enter Tryz.func109, Tryz.ntmps109
  go_wp2
  go_region_held3 (fun w' => w'.cell? ⟨g, off, none⟩ = some (.int .u8 t) ∧ w'.cell? ⟨g, off + 1, none⟩ = some (.int .u8 r) ∧ w'.cell? ⟨g, off + 2, none⟩ = some (.int .u8 s) ∧ w'.cell? ⟨g, off + 3, none⟩ = some (.int .u8 a) ∧ w'.cell? ⟨g, off + 4, none⟩ = some (.int .u8 b) ∧ Below w.heap.size w w') (first | exact HX.out.drew | exact HX.out.drew.alloc _) (first | fail)
  rename_i hH
  clear hH e1 e2 e3 e4
  go_wp2_with fail
  with_reducible refine (HV.out _).mono ?_
  rintro e w1 ⟨rfl, hb1⟩
  have q0 := keepc (a := ⟨w.heap.size + 1, 0, none⟩) (v := .int .u8 t) hb1 (by simp [go_sem])
  have q1 := keepc (a := ⟨w.heap.size + 1, 1, none⟩) (v := .int .u8 r) hb1 (by simp [go_sem])
  have q2 := keepc (a := ⟨w.heap.size + 1, 2, none⟩) (v := .int .u8 s) hb1 (by simp [go_sem])
  have q3 := keepc (a := ⟨w.heap.size + 1, 3, none⟩) (v := .int .u16 (256 * a + b)) hb1 (by simp [go_sem])
  have HB1 := hid (below_t (((Below.refl w.heap.size w).alloc (Nat.le_refl _) _).alloc (by simp) _).drew hb1)
  have hop : Open4 w1 w.heap.size := Open4.step (fun j hj => by have h4 : j = 0 ∨ j = 1 ∨ j = 2 ∨ j = 3 := (by omega); (rcases h4 with rfl | rfl | rfl | rfl <;> simp [go_sem])) hb1
  have HX1 := hid (show Four w w1 _ w.heap.size _ _ _ _ from ⟨q0, q1, q2, q3, HB1.out, hop⟩)
  have HCL := hid (fun W (hW : Below w.heap.size w W) => clone_any _ rest W (reads_below HR.out hW) (by have := HN.out; omega))
  clear hb1 hop q0 q1 q2 q3
  go_wp2
  go_region_held3 (fun w' => w'.cell? ⟨w.heap.size + 1, 0, none⟩ = some (.int .u8 t) ∧ w'.cell? ⟨w.heap.size + 1, 1, none⟩ = some (.int .u8 r) ∧ w'.cell? ⟨w.heap.size + 1, 2, none⟩ = some (.int .u8 s) ∧ w'.cell? ⟨w.heap.size + 1, 3, none⟩ = some (.int .u16 (256 * a + b)) ∧ Below w.heap.size w w' ∧ Open4 w' w.heap.size) (first | exact HX1.out.drew | exact four_kept (by assumption) (by assumption) | exact four_put (by assumption) (Nat.le_refl _) (Nat.lt_succ_self _) _ _ _ _) (first | (go_at_call 63; (with_reducible refine (HCL.out _ (four_below (by first | assumption | exact HX1.out.drew))).mono ?_); rintro e w2 ⟨v2, rfl, ho2, hb2, hk2⟩; have HE := hid (clone_end ho2 hb2 hk2 (by first | assumption | exact HX1.out.drew)); clear ho2 hk2; obtain ⟨u0, u1, u2, u3, z0, z1, z2, z3, y0, y1, y2, y3⟩ := HE.out.2.2.2.ex))
  rename_i hH
  clear hH hb2 z0 z1 z2 z3 y0 y1 y2 y3
  obtain ⟨ho, hk, hb, hop⟩ := HE.out
  have HF := hid (show ParseE t r s (256 * a + b) rest 0 w _ (put4 w2 w.heap.size (.int .u8 t) (.int .u8 r) (.int .u8 s) (.int .u16 (256 * a + b))) from ⟨_, rfl, put4_own _ _ _ _ ho hk, put4_below _ _ _ _ hb (Nat.le_refl _), fun k h => Nat.le_of_lt (hk k h)⟩)
  obtain ⟨k0, k1, k2, k3⟩ := put4_cells hop (.int .u8 t) (.int .u8 r) (.int .u8 s) (.int .u16 (256 * a + b))
  clear ho hk hb hop HE
  revert HF k0 k1 k2 k3
  generalize hW : put4 w2 w.heap.size (.int .u8 t) (.int .u8 r) (.int .u8 s) (.int .u16 (256 * a + b)) = Wf
  intro HF k0 k1 k2 k3
  unfold put4 at hW
  rw [hW]
  clear hW
  go_wp2
  exact bodyPost_ret (by simp [results, Tryz.results109, go_sem, k0, k1, k2, k3]) rfl HF.out
set_option maxRecDepth 100000 in
set_option maxHeartbeats 2000000 in
theorem parse_no (g off n cap : Nat) (t r s a b : Int) (rest : List Int) (w : World) (h5 : Five w w g off t r s a b) (hn : n = rest.length + 5) (_hc : n ≤ cap) (_hm : cap ≤ maxLen) (F : HFit t r s (256 * a + b)) (ha : 0 ≤ a ∧ a < 256) (hb : 0 ≤ b ∧ b < 256) (hr : Reads w (.slice (some ⟨g, off, none⟩) n cap) (t :: r :: s :: a :: b :: rest)) (hl : n ≤ 1000000) (hk : okH t s = false) : Calls Tryz.prog 109 #[.slice (some ⟨g, off, none⟩) n cap] w (ParseE 0 0 0 0 [] 1 w) := by
  have HX := hid (h5.alloc (.cells #[.int .u8 0, .int .u8 0, .int .u8 0, .int .u16 0] 54))
  have HV := hid (valid_false t r s (256 * a + b) · F hk)
  obtain ⟨x5, hx5, hrd⟩ := run_from5 ⟨g, off, none⟩ n cap (by omega)
  have HR := hid (hrd w _ hr)
  clear hrd
  obtain ⟨t0, t1, r0, r1, s0, s1, q0, q1⟩ := F
  have l0 : 0 < n := by omega
  have l1 : 1 < n := by omega
  have l2 : 2 < n := by omega
  have l3 : 3 < n := by omega
  have l4 : 4 < n := by omega
  have l5 : ¬ n < 5 := by omega
  have i1 : (1 : Int) < n := by omega
  have i2 : (2 : Int) < n := by omega
  have i3 : (3 : Int) < n := by omega
  have i4 : (4 : Int) < n := by omega
  obtain ⟨a0, a1⟩ := ha
  obtain ⟨b0, b1⟩ := hb
  have HN := hid hn
  clear h5 hr hk hn
  have e1 : IntKind.u16.wrap a = a := wraps_u16 a (by omega) (by omega)
  have e2 : IntKind.u16.wrap b = b := wraps_u16 b (by omega) (by omega)
  have e3 : IntKind.u16.wrap (a * 256) = a * 256 := wraps_u16 _ (by omega) (by omega)
  have e4 : bits .or .u16 (a * 256) b = 256 * a + b := or256u a b a0 a1 b0 b1
  go_enter Tryz.func109, Tryz.ntmps109
  go_wp2
  go_region_held3 (fun w' => w'.cell? ⟨g, off, none⟩ = some (.int .u8 t) ∧ w'.cell? ⟨g, off + 1, none⟩ = some (.int .u8 r) ∧ w'.cell? ⟨g, off + 2, none⟩ = some (.int .u8 s) ∧ w'.cell? ⟨g, off + 3, none⟩ = some (.int .u8 a) ∧ w'.cell? ⟨g, off + 4, none⟩ = some (.int .u8 b) ∧ Below w.heap.size w w') (first | exact HX.out.drew | exact HX.out.drew.alloc _) (first | fail)
  rename_i hH
  clear hH e1 e2 e3 e4
  go_wp2_with fail
  with_reducible refine (HV.out _).mono ?_
  rintro e w1 ⟨rfl, hb1⟩
  have hop : Open4 w1 w.heap.size := Open4.step (fun j hj => by have h4 : j = 0 ∨ j = 1 ∨ j = 2 ∨ j = 3 := (by omega); (rcases h4 with rfl | rfl | rfl | rfl <;> simp [go_sem])) hb1
  have HB1 := hid (below_t (((Below.refl w.heap.size w).alloc (Nat.le_refl _) _).alloc (by simp) _).drew hb1)
  have HF := hid (show ParseE 0 0 0 0 [] 1 w _ (put4 w1 w.heap.size (.int .u8 0) (.int .u8 0) (.int .u8 0) (.int .u16 0)) from ⟨_, rfl, OwnB.nil _, put4_below _ _ _ _ HB1.out (Nat.le_refl _), fun k h => by cases h⟩)
  obtain ⟨k0, k1, k2, k3⟩ := put4_cells hop (.int .u8 0) (.int .u8 0) (.int .u8 0) (.int .u16 0)
  have HKK := hid (And.intro k0 (And.intro k1 (And.intro k2 k3)))
  obtain ⟨u0, u1, u2, u3, z0, z1, z2, z3, y0, y1, y2, y3⟩ := hop.ex
  clear hb1 hop k0 k1 k2 k3
  go_wp2
  revert HF HKK
  generalize hW : put4 w1 w.heap.size (.int .u8 0) (.int .u8 0) (.int .u8 0) (.int .u16 0) = Wf
  intro HF HKK
  obtain ⟨k0, k1, k2, k3⟩ := HKK.out
  unfold put4 at hW
  rw [hW]
  clear hW
  exact bodyPost_ret (by simp [results, Tryz.results109, go_sem, k0, k1, k2, k3]) rfl HF.out
end
end Go.Proofs.YtaanpnmgibcemaaGreatDoor.Hd
