/-
  Responses, codes, numbers.
-/
import Derived.Test.YtahminbgedmgcaaDoorHa
namespace Go.Proofs.YtahminbgedmgcaaDoor
open Go.RowKit Go.Lib

/-- A response's bytes. -/
def rspL (k q c : Int) : List Int := [2, 0, k, q / 256, q % 256, c]
theorem rspL_fit {k q c : Int} (k0 : 0 ≤ k) (k1 : k < 256) (q0 : 0 ≤ q) (q1 : q < 65536) (c0 : 0 ≤ c) (c1 : c < 256) : ∀ x ∈ rspL k q c, 0 ≤ x ∧ x < 256 := by
  simp [rspL]
  omega
set_option maxRecDepth 100000 in
theorem respond_any (k q c : Int) (w : World) (k0 : 0 ≤ k) (k1 : k < 256) (q0 : 0 ≤ q) (q1 : q < 65536) (c0 : 0 ≤ c) (c1 : c < 256) : Calls Tryd.prog 27 #[.int .u8 k, .int .u16 q, .int .u8 c] w (CloneDone (rspL k q c) w) := by
  have HF := hid (rspL_fit k0 k1 q0 q1 c0 c1)
  go_enter Tryd.func27, Tryd.ntmps27
  go_wp2
  go_ret
  exact ⟨_, rfl, own_lit _ _ 6 _ HF.out rfl rfl (by omega) _ (by first | rfl | simp), (Below.refl w.heap.size w).alloc (Nat.le_refl _) _, blk_lit _ _ _ _ (Nat.le_refl _)⟩
set_option maxRecDepth 100000 in
theorem positive_any (q : Int) (w : World) (q0 : 0 ≤ q) (q1 : q < 65536) : Calls Tryd.prog 21 #[.int .u16 q] w (CloneDone (rspL 0 q 0) w) := by
  have H := hid (respond_any 0 q 0 w (by omega) (by omega) q0 q1 (by omega) (by omega))
  go_enter Tryd.func21, Tryd.ntmps21
  go_wp2_with fail
  with_reducible refine H.out.mono ?_
  rintro e w1 ⟨v, rfl, h1⟩
  have H1 := hid h1
  clear h1
  go_wp2
  go_ret
  exact ⟨_, rfl, H1.out⟩
set_option maxRecDepth 100000 in
theorem negative_ok (q c : Int) (w : World) (q0 : 0 ≤ q) (q1 : q < 65536) (c0 : 0 ≤ c) (c1 : c ≤ 3) : Calls Tryd.prog 19 #[.int .u16 q, .int .u8 c] w (BytesE (rspL 1 q c) 0 w) := by
  have H := hid (respond_any 1 q c w (by omega) (by omega) q0 q1 c0 (by omega))
  go_enter Tryd.func19, Tryd.ntmps19
  go_wp2_with fail
  with_reducible refine H.out.mono ?_
  rintro e w1 ⟨v, rfl, h1⟩
  have H1 := hid h1
  clear h1
  go_wp2
  go_ret2
  exact ⟨_, rfl, H1.out⟩
set_option maxRecDepth 100000 in
theorem negative_no (q c : Int) (w : World) (c0 : 3 < c) : Calls Tryd.prog 19 #[.int .u16 q, .int .u8 c] w (BytesE [] 1 w) := by
  have c1 : ¬ c ≤ 3 := by omega
  go_enter Tryd.func19, Tryd.ntmps19
  go_wp2
  go_ret2
  exact ⟨_, rfl, OwnB.nil _, Below.refl _ _, fun k hk => by cases hk⟩
theorem one_src (w : World) (z : Int) (b : Nat) (hb : b = w.heap.size) : ∀ j u, ([.int .u8 z] : List Value)[j]? = some u → (w.alloc (.cells #[.int .u8 z] 5)).cell? ((⟨b, 0, none⟩ : Addr).add j) = some u := fun j u hu => by
  subst hb
  rcases j with _ | j
  · simp at hu
    subst hu
    rw [addr_add]
    simp [go_sem]
  · simp at hu
/-- One more byte behind what was new. -/
theorem more_done {w w1 w2 : World} {v v1 : Value} {xs ys : List Int} {c : Int} {o : Obj} (hf : ∀ x ∈ ys, 0 ≤ x ∧ x < 256) (hy : ys = xs ++ [c]) (hB : Below w.heap.size w w1) (hK : ∀ k ∈ blkV v, w.heap.size ≤ k)
    (hO : w2.ownsRow 0 5 1 v1 (xs.length + 1) (xs.map (Value.int .u8) ++ [.int .u8 c])) (hG : (w1.alloc o).grownBy w2 v.ownBlock) (hK1 : ∀ k ∈ blkV v1, k ∈ blkV v ∨ (w1.alloc o).heap.size ≤ k) : CloneDone ys w (.returned v1) w2 := by
  have hs := hB.size
  refine ⟨v1, rfl, ⟨hf, ?_⟩, (hB.alloc hB.size _).grown hG (by simp; omega) (fun k hk => hK k (mem_blkV.2 hk)), fun k hk => ?_⟩
  · subst hy
    simpa using hO
  · rcases hK1 k hk with h | h
    · exact hK k h
    · simp at h
      omega
set_option maxRecDepth 100000 in
theorem rresponse_ok (q c : Int) (w : World) (q0 : 0 ≤ q) (q1 : q < 65536) : Calls Tryd.prog 20 #[.int .u16 q, .bool true, .int .u8 c] w (CloneDone (rspL 0 q 0) w) := by
  have F : HFit 2 0 0 q := ⟨by omega, by omega, by omega, by omega, by omega, by omega, q0, q1⟩
  have H := hid (rbytes_ok 2 0 0 q w F (by decide))
  obtain ⟨i0, hi, hz0, hz1, hz2⟩ := info_parts info5
  have HF := hid (rspL_fit (k := 0) (c := 0) (by omega) (by omega) q0 q1 (by omega) (by omega))
  clear F
  go_enter Tryd.func20, Tryd.ntmps20
  go_wp2_with fail
  with_reducible refine H.out.mono ?_
  rintro e w1 ⟨v, rfl, ho, hb, hk⟩
  have HO := hid ho
  have HB := hid hb
  have HK := hid hk
  clear ho hb hk
  go_wp2_with (first
    | (at_builtin; refine wpList_append_blk _ rfl _ _ 25 rfl 5 i0 (.int .u8 0) 1 1 Tryd.underlying25 hi hz0 hz1 hz2 rfl (by decide) v 5 ((hdrL 2 0 0 q).map (Value.int .u8)) rfl (OwnB.moved HO.out (Moved.alloc _ _ []) (fun _ _ h => by cases h)).2 ⟨w1.heap.size, 0, none⟩ 1 1 [.int .u8 0] rfl rfl (one_src _ _ _ rfl) (ints_oneCell .u8 [0]) (by unfold maxLen; omega) (by omega) ?_; intro v1 w2 hown1 hgrow1 hnil1 hblk1; have HO1 := hid hown1; have HG := hid hgrow1; have HNL := hid hnil1; have HK1 := hid hblk1; clear hown1 hgrow1 hnil1 hblk1))
  go_ret
  exact more_done HF.out rfl HB.out HK.out HO1.out HG.out HK1.out
theorem OwnB.at {w : World} {g cap : Nat} {xs : List Int} (h : OwnB w (.slice (some ⟨g, 0, none⟩) xs.length cap) xs) (i : Nat) (hi : i < xs.length) : w.cell? ⟨g, i, none⟩ = some (.int .u8 (xs.getD i 0)) := by
  rw [World.ownsRow.cellAt h.2 i (by omega), List.getElem?_map, List.getD, List.getElem?_eq_getElem hi]
  rfl
theorem OwnB.slice {w : World} {v : Value} {xs : List Int} (h : OwnB w v xs) (hx : xs ≠ []) : ∃ g cap, v = .slice (some ⟨g, 0, none⟩) xs.length cap ∧ xs.length ≤ cap ∧ cap ≤ maxLen ∧ g < w.heap.size := by
  rcases h.2.2 with ⟨_, e⟩ | ⟨g, cap, cur, rfl, hg, hh, h1, h2, h3, h4⟩
  · exact absurd (List.length_eq_zero_iff.1 e) hx
  · exact ⟨g, cap, rfl, h1, h2, (Array.getElem?_eq_some_iff.1 hh).1⟩
theorem OwnB.stored {w : World} {g cap : Nat} {xs : List Int} (h : OwnB w (.slice (some ⟨g, 0, none⟩) xs.length cap) xs) (i : Nat) (z : Int) (hz : 0 ≤ z ∧ z < 256) : OwnB (w.setCell ⟨g, i, none⟩ (.int .u8 z)) (.slice (some ⟨g, 0, none⟩) xs.length cap) (xs.set i z) := by
  refine ⟨fun x hx => ?_, ?_⟩
  · rcases List.mem_or_eq_of_mem_set hx with h1 | rfl
    · exact h.1 x h1
    · exact hz
  · have q := (World.ownsRow.stored h.2 i (.int .u8 z)).1
    rw [List.map_set, List.length_set]
    exact q
set_option maxRecDepth 100000 in
theorem rresponse_no (q c : Int) (w : World) (q0 : 0 ≤ q) (q1 : q < 65536) (c0 : 0 ≤ c) (c1 : c < 256) : Calls Tryd.prog 20 #[.int .u16 q, .bool false, .int .u8 c] w (CloneDone (rspL 1 q c) w) := by
  have F : HFit 2 0 0 q := ⟨by omega, by omega, by omega, by omega, by omega, by omega, q0, q1⟩
  have H := hid (rbytes_ok 2 0 0 q w F (by decide))
  obtain ⟨i0, hi, hz0, hz1, hz2⟩ := info_parts info5
  have HF := hid (rspL_fit (k := 1) (c := c) (by omega) (by omega) q0 q1 c0 c1)
  clear F
  go_enter Tryd.func20, Tryd.ntmps20
  go_wp2_with fail
  with_reducible refine H.out.mono ?_
  rintro e w1 ⟨v, rfl, ho, hb, hk⟩
  obtain ⟨g, cap, rfl, h1, h2, h3⟩ := ho.slice (by simp [hdrL])
  have e2 := ho.at 2 (by simp [hdrL])
  have f2 := World.ownsRow.frozenAt ho.2 2
  have HO := hid (ho.stored 2 1 (by omega))
  have HB := hid (hb.setCell (p := ⟨g, 2, none⟩) (hk g (by simp [blkV, Value.ownBlock])) (.int .u8 1))
  have HK := hid hk
  have h5 : 5 ≤ cap := h1
  clear ho hb hk h1
  have hl : (hdrL 2 0 0 q).length = 5 := rfl
  rw [hl] at HO HK ⊢
  clear hl
  go_wp2_with (first
    | (at_builtin; refine wpList_append_blk _ rfl _ _ 25 rfl 5 i0 (.int .u8 0) 1 1 Tryd.underlying25 hi hz0 hz1 hz2 rfl (by decide) (.slice (some ⟨g, 0, none⟩) 5 cap) 5 (((hdrL 2 0 0 q).set 2 1).map (Value.int .u8)) rfl (OwnB.moved HO.out (Moved.alloc _ _ []) (fun _ _ h => by cases h)).2 ⟨w1.heap.size, 0, none⟩ 1 1 [.int .u8 c] rfl rfl (one_src _ _ _ (by simp [World.setCell])) (ints_oneCell .u8 [c]) (by unfold maxLen; omega) (by omega) ?_; intro v1 w2 hown1 hgrow1 hnil1 hblk1; have HO1 := hid hown1; have HG := hid hgrow1; have HNL := hid hnil1; have HK1 := hid hblk1; clear hown1 hgrow1 hnil1 hblk1))
  go_ret
  exact more_done HF.out rfl HB.out HK.out HO1.out HG.out HK1.out
/-- An error's code. -/
def codeN (e : Int) : Int := if e = 11 then 0 else if e = 3 ∨ e = 7 then 3 else if e = 6 ∨ e = 8 then 1 else 2
theorem codeN_le (e : Int) : 0 ≤ codeN e ∧ codeN e ≤ 3 := by
  unfold codeN
  repeat' split
  all_goals omega
theorem code_parts (e : Int) : e = 11 ∨ e = 3 ∨ e = 7 ∨ e = 6 ∨ e = 8 ∨ ((e == 11) = false ∧ (e == 3) = false ∧ (e == 7) = false ∧ (e == 6) = false ∧ (e == 8) = false ∧ codeN e = 2) := by
  by_cases h1 : e = 11; · exact .inl h1
  by_cases h2 : e = 3; · exact .inr (.inl h2)
  by_cases h3 : e = 7; · exact .inr (.inr (.inl h3))
  by_cases h4 : e = 6; · exact .inr (.inr (.inr (.inl h4)))
  by_cases h5 : e = 8; · exact .inr (.inr (.inr (.inr (.inl h5))))
  simp [h1, h2, h3, h4, h5, codeN]
set_option maxRecDepth 100000 in
theorem code_any (x : Int) (w : World) : Calls Tryd.prog 17 #[.int .i64 x] w fun e w' => e = .returned (.int .u8 (codeN x)) ∧ w = w' := by
  rcases code_parts x with rfl | rfl | rfl | rfl | rfl | ⟨h1, h2, h3, h4, h5, h6⟩
  case inr.inr.inr.inr.inr =>
    have H := hid h6
    clear h6
    go_enter Tryd.func17, Tryd.ntmps17
    go_wp2
    go_ret
    exact ⟨by rw [H.out]; rfl, rfl⟩
  all_goals
    go_enter Tryd.func17, Tryd.ntmps17
    go_wp2
    go_ret
    exact ⟨rfl, rfl⟩
set_option maxRecDepth 100000 in
theorem rcode_any (x : Int) (w : World) : Calls Tryd.prog 18 #[.int .i64 x] w fun e w' => e = .returned (.int .u8 (codeN x)) ∧ w = w' := by
  rcases code_parts x with rfl | rfl | rfl | rfl | rfl | ⟨h1, h2, h3, h4, h5, h6⟩
  case inr.inr.inr.inr.inr =>
    have H := hid h6
    clear h6
    go_enter Tryd.func18, Tryd.ntmps18
    go_wp2
    go_ret
    exact ⟨by rw [H.out]; rfl, rfl⟩
  all_goals
    go_enter Tryd.func18, Tryd.ntmps18
    go_wp2
    go_ret
    exact ⟨rfl, rfl⟩
end Go.Proofs.YtahminbgedmgcaaDoor
