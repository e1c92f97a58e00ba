/-
  header: answers.
-/
import Derived.Test.YtaanpnmgibcemaaGreatDoorHa
import Derived.Deep.RegionHeld3
namespace Go.Proofs.YtaanpnmgibcemaaGreatDoor.Hd
/-! XHe -/
section
open Go.RowKit Go.Lib
/-- What answers a record. -/
def ansL (t s q x : Int) : List Int := if t = 2 ∨ t = 6 then [] else if s = 2 ∧ x = 0 then rspL 0 q 0 else if (s = 1 ∨ s = 2) ∧ x ≠ 0 then rspL 1 q (codeN x) else []
/-- Is there an answer? -/
def ansB (t s x : Int) : Bool := decide (¬ (t = 2 ∨ t = 6) ∧ (s = 2 ∨ s = 1 ∧ x ≠ 0))
/-- Bytes and whether. -/
def BytesB (xs : List Int) (b : Bool) (w : World) (e : Ending) (w' : World) : Prop := ∃ v, e = .returned (.tuple #[v, .bool b]) ∧ OwnB w' v xs ∧ Below w.heap.size w w' ∧ ∀ k ∈ blkV v, w.heap.size ≤ k
theorem ans_type {t s q x : Int} (h : t = 2 ∨ t = 6) : ansL t s q x = [] ∧ ansB t s x = false := ⟨if_pos h, by simp [ansB, h]⟩
theorem ans_pos {t s q x : Int} (h : ¬ (t = 2 ∨ t = 6)) (hs : s = 2) (hx : x = 0) : ansL t s q x = rspL 0 q 0 ∧ ansB t s x = true := ⟨by unfold ansL; rw [if_neg h, if_pos ⟨hs, hx⟩], by simp [ansB, h, hs]⟩
theorem ans_neg {t s q x : Int} (h : ¬ (t = 2 ∨ t = 6)) (hs : s = 1 ∨ s = 2) (hx : x ≠ 0) : ansL t s q x = rspL 1 q (codeN x) ∧ ansB t s x = true := ⟨by unfold ansL; rw [if_neg h, if_neg (fun q => hx q.2), if_pos ⟨hs, hx⟩], by rcases hs with hs | hs <;> simp [ansB, h, hs, hx]⟩
theorem ans_none {t s q x : Int} (h : ¬ (t = 2 ∨ t = 6)) (h1 : ¬ (s = 2 ∧ x = 0)) (h2 : ¬ ((s = 1 ∨ s = 2) ∧ x ≠ 0)) : ansL t s q x = [] ∧ ansB t s x = false := ⟨by unfold ansL; rw [if_neg h, if_neg h1, if_neg h2], by simp [ansB]; intro _ _; omega⟩
theorem box_lit (w : World) (c0 c1 c2 c3 : Value) (t : TypeId) : Below w.heap.size w (w.alloc (.cells #[c0, c1, c2, c3] t)) := (Below.refl _ _).alloc (Nat.le_refl _) _
theorem box3 (w : World) (t r s q : Int) (T : TypeId) : (w.alloc (.cells #[.int .u8 t, .int .u8 r, .int .u8 s, .int .u16 q] T)).cell? ⟨w.heap.size, 3, none⟩ = some (.int .u16 q) ∧ Below w.heap.size w (w.alloc (.cells #[.int .u8 t, .int .u8 r, .int .u8 s, .int .u16 q] T)) := ⟨by simp [go_sem], box_lit _ _ _ _ _ _⟩
theorem hbox_drew {w0 w : World} {p : Addr} {x : Value} (h : w.cell? p = some x ∧ Below w0.heap.size w0 w) : w.drew.cell? p = some x ∧ Below w0.heap.size w0 w.drew := ⟨h.1, h.2.drew⟩
theorem hbox_kept {w0 w w' : World} {p : Addr} {x : Value} (h : w.cell? p = some x ∧ Below w0.heap.size w0 w) (hb : Below w.heap.size w w') : w'.cell? p = some x ∧ Below w0.heap.size w0 w' := ⟨(hb.cell (World.block_lt_of_cell? w _ h.1)).trans h.1, h.2.trans (hb.mono h.2.size)⟩
set_option maxRecDepth 100000 in
set_option maxHeartbeats 2000000 in
theorem answer_any (t r s q x : Int) (w : World) (F : HFit t r s q) : Calls Tryz.prog 45 #[hdrV t r s q, .int .i64 x] w (BytesB (ansL t s q x) (ansB t s x) w) := by
  obtain ⟨t0, t1, r0, r1, s0, s1, q0, q1⟩ := F
  by_cases ht : t = 2 ∨ t = 6
  · obtain ⟨e1, e2⟩ := ans_type (s := s) (q := q) (x := x) ht
    rw [e1, e2]
    clear e1 e2
    rcases ht with rfl | rfl
    all_goals
      go_enter Tryz.func45, Tryz.ntmps45
      go_wp2
      go_ret2
      exact ⟨_, rfl, OwnB.nil _, box_lit _ _ _ _ _ _, fun k hk => by cases hk⟩
  · have n2 : (t == 2) = false := by simpa using fun h => ht (.inl h)
    have n6 : (t == 6) = false := by simpa using fun h => ht (.inr h)
    by_cases hx : x = 0
    · by_cases hs : s = 2
      · obtain ⟨e1, e2⟩ := ans_pos (q := q) ht hs hx
        rw [e1, e2]
        subst hx hs
        have H := hid (fun W => positive_any q W q0 q1)
        clear e1 e2 ht
        go_enter Tryz.func45, Tryz.ntmps45
        go_wp2_with fail
        with_reducible refine (H.out _).mono ?_
        rintro e w1 ⟨v, rfl, ho, hb, hk⟩
        have HO := hid ho
        have HB := hid hb
        have HK := hid hk
        clear ho hb hk
        go_wp2
        go_ret2
        exact ⟨_, rfl, HO.out, (box_lit _ _ _ _ _ _).trans (HB.out.mono (box_lit _ _ _ _ _ _).size), fun k hk => Nat.le_trans (box_lit _ _ _ _ _ _).size (HK.out k hk)⟩
      · obtain ⟨e1, e2⟩ := ans_none (q := q) ht (fun h => hs h.1) (fun h => h.2 hx)
        rw [e1, e2]
        subst hx
        have n3 : (s == 2) = false := by simpa using hs
        clear e1 e2 ht hs
        by_cases h1 : s = 1
        · subst h1
          go_enter Tryz.func45, Tryz.ntmps45
          go_wp2
          go_ret2
          exact ⟨_, rfl, OwnB.nil _, box_lit _ _ _ _ _ _, fun k hk => by cases hk⟩
        · have n4 : (s == 1) = false := by simpa using h1
          clear h1
          go_enter Tryz.func45, Tryz.ntmps45
          go_wp2
          go_ret2
          exact ⟨_, rfl, OwnB.nil _, box_lit _ _ _ _ _ _, fun k hk => by cases hk⟩
    · have m0 : (x == 0) = false := by simpa using hx
      have m1 : (x != 0) = true := by simpa using hx
      by_cases hs : s = 1 ∨ s = 2
      · obtain ⟨e1, e2⟩ := ans_neg (q := q) ht hs hx
        rw [e1, e2]
        have hcb := codeN_le x
        have H := hid (fun W => respond_any 1 q (codeN x) W (by omega) (by omega) q0 q1 (by omega) (by omega))
        have HC := hid (fun W => code_any x W)
        have HX := hid (box3 w t r s q 54)
        clear e1 e2 ht hx
        generalize codeN x = cx at *
        rcases hs with rfl | rfl
        all_goals
          go_enter Tryz.func45, Tryz.ntmps45
          go_wp2
          go_region_held3 (fun w' => w'.cell? ⟨w.heap.size, 3, none⟩ = some (.int .u16 q) ∧ Below w.heap.size w w') (first | exact hbox_drew HX.out | assumption | exact hbox_kept (by first | assumption | exact hbox_drew HX.out) (by assumption)) (first | (go_at_call 70; (with_reducible refine (HC.out _).mono ?_); rintro e w2 ⟨rfl, rfl⟩) | (go_at_call 69; (with_reducible refine (H.out _).mono ?_); rintro e w2 ⟨v2, rfl, ho2, hb2, hk2⟩; have HE := hid (And.intro ho2 (And.intro hb2 hk2)); clear ho2 hk2))
          rename_i hH
          go_wp2
          go_ret2
          exact ⟨_, rfl, HE.out.1, hH.2, fun k hk => Nat.le_trans (by simp) (HE.out.2.2 k hk)⟩
      · obtain ⟨e1, e2⟩ := ans_none (q := q) ht (fun h => hs (.inr h.1)) (fun h => hs h.1)
        rw [e1, e2]
        have n3 : (s == 2) = false := by simpa using fun h => hs (.inr h)
        have n4 : (s == 1) = false := by simpa using fun h => hs (.inl h)
        clear e1 e2 ht hs hx
        go_enter Tryz.func45, Tryz.ntmps45
        go_wp2
        go_ret2
        exact ⟨_, rfl, OwnB.nil _, box_lit _ _ _ _ _ _, fun k hk => by cases hk⟩
set_option maxRecDepth 100000 in
set_option maxHeartbeats 2000000 in
theorem ranswer_any (t r s q x : Int) (w : World) (F : HFit t r s q) : Calls Tryz.prog 25 #[hdrV t r s q, .int .i64 x] w (CloneDone (ansL t s q x) w) := by
  obtain ⟨t0, t1, r0, r1, s0, s1, q0, q1⟩ := F
  by_cases ht : t = 2 ∨ t = 6
  · obtain ⟨e1, e2⟩ := ans_type (s := s) (q := q) (x := x) ht
    rw [e1]
    clear e1 e2
    rcases ht with rfl | rfl
    all_goals
      go_enter Tryz.func25, Tryz.ntmps25
      go_wp2
      go_ret
      exact ⟨_, rfl, OwnB.nil _, box_lit _ _ _ _ _ _, fun k hk => by cases hk⟩
  · have n2 : (t == 2) = false := by simpa using fun h => ht (.inl h)
    have n6 : (t == 6) = false := by simpa using fun h => ht (.inr h)
    by_cases hx : x = 0
    · by_cases hs : s = 2
      · obtain ⟨e1, e2⟩ := ans_pos (q := q) ht hs hx
        rw [e1]
        subst hx hs
        have H := hid (fun W => rresponse_ok q 0 W q0 q1)
        clear e1 e2 ht
        go_enter Tryz.func25, Tryz.ntmps25
        go_wp2_with fail
        with_reducible refine (H.out _).mono ?_
        rintro e w1 ⟨v, rfl, ho, hb, hk⟩
        have HO := hid ho
        have HB := hid hb
        have HK := hid hk
        clear ho hb hk
        go_wp2
        go_ret
        exact ⟨_, rfl, HO.out, (box_lit _ _ _ _ _ _).trans (HB.out.mono (box_lit _ _ _ _ _ _).size), fun k hk => Nat.le_trans (box_lit _ _ _ _ _ _).size (HK.out k hk)⟩
      · obtain ⟨e1, e2⟩ := ans_none (q := q) ht (fun h => hs h.1) (fun h => h.2 hx)
        rw [e1]
        subst hx
        have n3 : (s == 2) = false := by simpa using hs
        clear e1 e2 ht hs
        by_cases h1 : s = 1
        · subst h1
          go_enter Tryz.func25, Tryz.ntmps25
          go_wp2
          go_ret
          exact ⟨_, rfl, OwnB.nil _, box_lit _ _ _ _ _ _, fun k hk => by cases hk⟩
        · have n4 : (s == 1) = false := by simpa using h1
          clear h1
          go_enter Tryz.func25, Tryz.ntmps25
          go_wp2
          go_ret
          exact ⟨_, rfl, OwnB.nil _, box_lit _ _ _ _ _ _, fun k hk => by cases hk⟩
    · have m0 : (x == 0) = false := by simpa using hx
      have m1 : (x != 0) = true := by simpa using hx
      by_cases hs : s = 1 ∨ s = 2
      · obtain ⟨e1, e2⟩ := ans_neg (q := q) ht hs hx
        rw [e1]
        have hcb := codeN_le x
        have H := hid (fun W => rresponse_no q (codeN x) W q0 q1 (by omega) (by omega))
        have HC := hid (fun W => rcode_any x W)
        have HX := hid (box3 w t r s q 36)
        clear e1 e2 ht hx
        generalize codeN x = cx at *
        rcases hs with rfl | rfl
        all_goals
          go_enter Tryz.func25, Tryz.ntmps25
          go_wp2
          go_region_held3 (fun w' => w'.cell? ⟨w.heap.size, 3, none⟩ = some (.int .u16 q) ∧ Below w.heap.size w w') (first | exact hbox_drew HX.out | assumption | exact hbox_kept (by first | assumption | exact hbox_drew HX.out) (by assumption)) (first | (go_at_call 49; (with_reducible refine (HC.out _).mono ?_); rintro e w2 ⟨rfl, rfl⟩) | (go_at_call 48; (with_reducible refine (H.out _).mono ?_); rintro e w2 ⟨v2, rfl, ho2, hb2, hk2⟩; have HE := hid (And.intro ho2 (And.intro hb2 hk2)); clear ho2 hk2))
          rename_i hH
          go_wp2
          go_ret
          exact ⟨_, rfl, HE.out.1, hH.2, fun k hk => Nat.le_trans (by simp) (HE.out.2.2 k hk)⟩
      · obtain ⟨e1, e2⟩ := ans_none (q := q) ht (fun h => hs (.inr h.1)) (fun h => hs h.1)
        rw [e1]
        have n3 : (s == 2) = false := by simpa using fun h => hs (.inr h)
        have n4 : (s == 1) = false := by simpa using fun h => hs (.inl h)
        clear e1 e2 ht hs hx
        go_enter Tryz.func25, Tryz.ntmps25
        go_wp2
        go_ret
        exact ⟨_, rfl, OwnB.nil _, box_lit _ _ _ _ _ _, fun k hk => by cases hk⟩
end
/-! XHf -/
section
open Go.RowKit Go.Lib
set_option maxRecDepth 100000 in
theorem next_any (q : Int) (q0 : 0 ≤ q) (q1 : q < 65536) (w : World) : Calls Tryz.prog 72 #[.int .u16 q] w fun e w' => e = .returned (.int .u16 (if q < 32767 then q + 1 else 0)) ∧ w = w' := by
  by_cases h : q < 32767
  · rw [if_pos h]
    have h' : ¬ 32767 ≤ q := by omega
    go_enter Tryz.func72, Tryz.ntmps72
    go_wp2
    go_ret
    exact ⟨rfl, rfl⟩
  · rw [if_neg h]
    have h' : 32767 ≤ q := by omega
    go_enter Tryz.func72, Tryz.ntmps72
    go_wp2
    go_ret
    exact ⟨rfl, rfl⟩
/-- A header's bytes in memory: what may be read of them. -/
theorem five_own {w : World} {g cap : Nat} {t r s a b : Int} {rest : List Int} (h : OwnB w (.slice (some ⟨g, 0, none⟩) (t :: r :: s :: a :: b :: rest).length cap) (t :: r :: s :: a :: b :: rest)) : Five w w g 0 t r s a b :=
  ⟨h.at 0 (by simp), h.at 1 (by simp), h.at 2 (by simp), h.at 3 (by simp), h.at 4 (by simp), Below.refl _ _⟩
theorem parse_own {w : World} {v : Value} {t r s a b : Int} {rest : List Int} (h : OwnB w v (t :: r :: s :: a :: b :: rest)) (hl : rest.length ≤ 100000) (hk : okH t s = true) : Calls Tryz.prog 109 #[v] w (ParseE t r s (256 * a + b) rest 0 w) := by
  obtain ⟨g, cap, rfl, h1, h2, _⟩ := h.slice (by simp)
  have hb := h.1
  simp at hb
  obtain ⟨ht, hr, hs, ha, hb', _⟩ := hb
  simp at h1
  exact parse_ok g 0 _ cap t r s a b rest w (five_own h) (by simp) (by simpa using h1) h2 ⟨ht.1, ht.2, hr.1, hr.2, hs.1, hs.2, by omega, by omega⟩ ha hb' h.reads (by simp; omega) hk
theorem parse_own_no {w : World} {v : Value} {t r s a b : Int} {rest : List Int} (h : OwnB w v (t :: r :: s :: a :: b :: rest)) (hl : rest.length ≤ 100000) (hk : okH t s = false) : Calls Tryz.prog 109 #[v] w (ParseE 0 0 0 0 [] 1 w) := by
  obtain ⟨g, cap, rfl, h1, h2, _⟩ := h.slice (by simp)
  have hb := h.1
  simp at hb
  obtain ⟨ht, hr, hs, ha, hb', _⟩ := hb
  simp at h1
  exact parse_no g 0 _ cap t r s a b rest w (five_own h) (by simp) (by simpa using h1) h2 ⟨ht.1, ht.2, hr.1, hr.2, hs.1, hs.2, by omega, by omega⟩ ha hb' h.reads (by simp; omega) hk
theorem parse_own_short {w : World} {v : Value} {xs : List Int} (h : OwnB w v xs) (hl : xs.length < 5) : Calls Tryz.prog 109 #[v] w (ParseE 0 0 0 0 [] 2 w) := by
  rcases h.2.2 with ⟨rfl, _⟩ | ⟨g, cap, cur, rfl, _⟩
  · exact parse_short none 0 0 w (by omega)
  · exact parse_short _ _ cap w hl
end
end Go.Proofs.YtaanpnmgibcemaaGreatDoor.Hd
