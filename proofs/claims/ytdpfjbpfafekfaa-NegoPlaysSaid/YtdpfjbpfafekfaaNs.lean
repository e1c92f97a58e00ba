/-
  A terminal's end is made.
-/
import Derived.Test.YtdpfjbpfafekfaaNr
namespace Go.Proofs.Ytdpfjbpfafekfaa
open Go.RowKit Go.Lib

/-- May there be such an end? -/
def nameOk (T D : ByteArray) : Bool := nameB T && (decide (D.size = 0) || nameB D)
/-- An end was made. -/
def NewD (T D : ByteArray) (fs : List Int) (w : World) (e : Ending) (w' : World) : Prop :=
  ∃ g sv, e = .returned (.tuple #[.pointer (some ⟨g, 0, none⟩), .int .i64 0]) ∧ EndM w' g sv (.slice none 0 0) T D fs 0 ⟨#[]⟩ [] ∧ Below w.heap.size w w' ∧ w.heap.size ≤ g ∧ ∀ k ∈ blkV sv, w.heap.size ≤ k
/-- None was made. -/
def NoD (er : Int) (w : World) (e : Ending) (w' : World) : Prop := e = .returned (.tuple #[.pointer none, .int .i64 er]) ∧ Below w.heap.size w w'
theorem empty_size : (⟨#[]⟩ : ByteArray).size = 0 := rfl
theorem not_empty {D : ByteArray} (hd : D.size ≠ 0) : D.toList.isEmpty = false := by
  rw [Lib.toList_data, List.isEmpty_eq_false_iff]
  intro q
  refine hd ?_
  show D.data.size = 0
  rw [← Array.length_toList, q]
  rfl
theorem cfg_kept {w0 w w' : World} {b : Nat} {u0 u1 u2 : Value} (h : w.cell? ⟨b, 0, none⟩ = some u0 ∧ w.cell? ⟨b, 1, none⟩ = some u1 ∧ w.cell? ⟨b, 2, none⟩ = some u2 ∧ Below w0.heap.size w0 w) (hb : Below w.heap.size w w') : w'.cell? ⟨b, 0, none⟩ = some u0 ∧ w'.cell? ⟨b, 1, none⟩ = some u1 ∧ w'.cell? ⟨b, 2, none⟩ = some u2 ∧ Below w0.heap.size w0 w' := ⟨keepc hb h.1, keepc hb h.2.1, keepc hb h.2.2.1, below_t h.2.2.2 hb⟩
theorem cfg_alloc {w0 w : World} {b : Nat} {u0 u1 u2 : Value} {o : Obj} (h : w.cell? ⟨b, 0, none⟩ = some u0 ∧ w.cell? ⟨b, 1, none⟩ = some u1 ∧ w.cell? ⟨b, 2, none⟩ = some u2 ∧ Below w0.heap.size w0 w) : (w.alloc o).cell? ⟨b, 0, none⟩ = some u0 ∧ (w.alloc o).cell? ⟨b, 1, none⟩ = some u1 ∧ (w.alloc o).cell? ⟨b, 2, none⟩ = some u2 ∧ Below w0.heap.size w0 (w.alloc o) := cfg_kept h (bal (Below.refl _ _) _)
theorem newEnd {w w1 : World} {T D : ByteArray} {v : Value} {fs : List Int} (ho : OwnB w1 v fs) (hb : Below w.heap.size w w1) (hk : ∀ k ∈ blkV v, w.heap.size ≤ k) (t : TypeId) : NewD T D fs w (.returned (.tuple #[.pointer (some ⟨w1.heap.size, 0, none⟩), .int .i64 0])) (w1.alloc (.cells #[.string T, .string D, v, .int .i64 0, .string ⟨#[]⟩, .slice none 0 0] t)) := by
  refine ⟨w1.heap.size, v, rfl, ⟨?_, ?_, ?_, ?_, ?_, ?_, ?_, ho.step (bal (Below.refl _ _) _), OwnB.nil _, fun q => ?_, fun q => by cases q⟩, bal hb _, hb.size, hk⟩
  · simp [go_sem]
  · simp [go_sem]
  · simp [go_sem]
  · simp [go_sem]
  · simp [go_sem]
  · simp [go_sem]
  · intro i hi
    simp [go_sem]
  · have := ho.lt _ q
    omega
set_option maxRecDepth 100000 in
set_option maxHeartbeats 2000000 in
theorem new_bad (T D : ByteArray) (x : Option Addr) (n c : Nat) (fs : List Int) (w : World) (hr : RdG w (.slice x n c) fs) (hn : n = fs.length) (hl : n ≤ 1000) (hT : T.size ≤ 1000) (hD : D.size ≤ 1000) (h : nameOk T D = false) : Calls Try.prog 34 #[.agg #[.string T, .string D, .slice x n c]] w (NoD 4 w) := by
  have HNT := hid (fun W => name_any T W (by unfold maxLen; omega))
  have HND := hid (fun W => name_any D W (by unfold maxLen; omega))
  cases h1 : nameB T
  · rw [h1] at HNT
    clear h h1 hr hn
    go_enter Try.func34, Try.ntmps34
    go_wp2_with fail
    with_reducible refine (HNT.out _).mono ?_
    rintro e w1 ⟨rfl, rfl⟩
    go_wp2
    go_ret2
    exact ⟨rfl, bal (Below.refl _ _) _⟩
  · rw [h1] at HNT
    cases h2 : nameB D
    · rw [h2] at HND
      have hd : D.size ≠ 0 := fun q => by
        unfold nameOk at h
        rw [h1, show decide (D.size = 0) = true from decide_eq_true q] at h
        cases h
      have hd1 := not_empty hd
      clear h h1 h2 hr hn hd
      go_enter Try.func34, Try.ntmps34
      go_wp2_with fail
      with_reducible refine (HNT.out _).mono ?_
      rintro e w1 ⟨rfl, rfl⟩
      go_wp2_with fail
      with_reducible refine (HND.out _).mono ?_
      rintro e w1 ⟨rfl, rfl⟩
      go_wp2
      go_ret2
      exact ⟨rfl, bal (Below.refl _ _) _⟩
    · unfold nameOk at h
      rw [h1, h2] at h
      simp at h
set_option maxRecDepth 100000 in
set_option maxHeartbeats 2000000 in
theorem new_arg_none (T D : ByteArray) (x : Option Addr) (n c : Nat) (fs : List Int) (w : World) (hr : RdG w (.slice x n c) fs) (hn : n = fs.length) (hl : n ≤ 1000) (hT : T.size ≤ 1000) (hD : D.size ≤ 1000) (hd : D.size = 0) (h : nameOk T D = true) (hf : risesL fs = false) : Calls Try.prog 34 #[.agg #[.string T, .string D, .slice x n c]] w (NoD 1 w) := by
  have HNT := hid (fun W => name_any T W (by unfold maxLen; omega))
  have HND := hid (fun W => name_any D W (by unfold maxLen; omega))
  have h1 : nameB T = true := by
    unfold nameOk at h
    cases q : nameB T
    · rw [q] at h
      cases h
    · rfl
  rw [h1] at HNT
  obtain rfl := eq_empty hd
  have HAR := hid (areFunctions_any _ fs _ (hr.step (bal (Below.refl w.heap.size w) (.cells #[.string T, .string ⟨#[]⟩, .slice x n c] 82))) (by omega))
  rw [hf] at HAR
  clear h h1 hr hn hf hd
  go_enter Try.func34, Try.ntmps34
  go_wp2_with fail
  with_reducible refine (HNT.out _).mono ?_
  rintro e w1 ⟨rfl, rfl⟩
  go_wp2_with fail
  with_reducible refine HAR.out.mono ?_
  rintro e w1 ⟨rfl, rfl⟩
  go_wp2
  go_ret2
  exact ⟨rfl, bal (Below.refl _ _) _⟩
set_option maxRecDepth 100000 in
set_option maxHeartbeats 2000000 in
theorem new_ok_none (T D : ByteArray) (x : Option Addr) (n c : Nat) (fs : List Int) (w : World) (hr : RdG w (.slice x n c) fs) (hn : n = fs.length) (hl : n ≤ 1000) (hT : T.size ≤ 1000) (hD : D.size ≤ 1000) (hd : D.size = 0) (h : nameOk T D = true) (hf : risesL fs = true) : Calls Try.prog 34 #[.agg #[.string T, .string D, .slice x n c]] w (NewD T D fs w) := by
  have HNT := hid (fun W => name_any T W (by unfold maxLen; omega))
  have HND := hid (fun W => name_any D W (by unfold maxLen; omega))
  have h1 : nameB T = true := by
    unfold nameOk at h
    cases q : nameB T
    · rw [q] at h
      cases h
    · rfl
  rw [h1] at HNT
  obtain rfl := eq_empty hd
  have HAR := hid (areFunctions_any _ fs _ (hr.step (bal (Below.refl w.heap.size w) (.cells #[.string T, .string ⟨#[]⟩, .slice x n c] 82))) (by omega))
  rw [hf] at HAR
  have HCL := hid (fun (W : World) (hb : Below w.heap.size w W) => clone_any _ fs W (hr.step hb).reads (by omega))
  have HS0 := hid (show (w.alloc (.cells #[.string T, .string ⟨#[]⟩, .slice x n c] 82)).cell? ⟨w.heap.size, 0, none⟩ = some (.string T) ∧ (w.alloc (.cells #[.string T, .string ⟨#[]⟩, .slice x n c] 82)).cell? ⟨w.heap.size, 1, none⟩ = some (.string ⟨#[]⟩) ∧ (w.alloc (.cells #[.string T, .string ⟨#[]⟩, .slice x n c] 82)).cell? ⟨w.heap.size, 2, none⟩ = some (.slice x n c) ∧ Below w.heap.size w (w.alloc (.cells #[.string T, .string ⟨#[]⟩, .slice x n c] 82)) from ⟨by simp [go_sem], by simp [go_sem], by simp [go_sem], bal (Below.refl _ _) _⟩)
  clear h h1 hr hn hf hd
  go_enter Try.func34, Try.ntmps34
  go_wp2_with fail
  with_reducible refine (HNT.out _).mono ?_
  rintro e w1 ⟨rfl, rfl⟩
  go_wp2_with fail
  with_reducible refine HAR.out.mono ?_
  rintro e w1 ⟨rfl, rfl⟩
  go_wp2
  go_region_held3 (fun w' => w'.cell? ⟨w.heap.size, 0, none⟩ = some (.string T) ∧ w'.cell? ⟨w.heap.size, 1, none⟩ = some (.string ⟨#[]⟩) ∧ w'.cell? ⟨w.heap.size, 2, none⟩ = some (.slice x n c) ∧ Below w.heap.size w w') (first | exact cfg_kept HS0.out (Below.refl _ _).drew | assumption | exact cfg_kept (by assumption) (by assumption) | exact cfg_alloc (by assumption) | fail) (first | (go_at_call 62; (with_reducible refine (HCL.out _ (show _ ∧ _ ∧ _ ∧ _ from (by first | assumption | exact cfg_kept HS0.out (Below.refl _ _).drew)).2.2.2).mono ?_); rintro e w2 ⟨v2, rfl, ho2, hb2, hk2⟩; obtain ⟨x2, n2, c2, rfl⟩ := own_slice ho2) | fail)
  rename_i hH
  have hbw : Below w.heap.size w w2 := below_t ((bal (Below.refl w.heap.size w) (.cells #[.string T, .string ⟨#[]⟩, .slice x n c] 82)).drew) hb2
  have HX := hid (newEnd (T := T) (D := ⟨#[]⟩) ho2 hbw (fun k hk => by have := hk2 k hk; simp at this; omega) 126)
  clear ho2 hb2 hk2 hH hbw
  go_wp2
  go_ret2
  exact HX.out
set_option maxRecDepth 100000 in
set_option maxHeartbeats 2000000 in
theorem new_arg_some (T D : ByteArray) (x : Option Addr) (n c : Nat) (fs : List Int) (w : World) (hr : RdG w (.slice x n c) fs) (hn : n = fs.length) (hl : n ≤ 1000) (hT : T.size ≤ 1000) (hD : D.size ≤ 1000) (hd : D.size ≠ 0) (h : nameOk T D = true) (hf : risesL fs = false) : Calls Try.prog 34 #[.agg #[.string T, .string D, .slice x n c]] w (NoD 1 w) := by
  have HNT := hid (fun W => name_any T W (by unfold maxLen; omega))
  have HND := hid (fun W => name_any D W (by unfold maxLen; omega))
  have h1 : nameB T = true := by
    unfold nameOk at h
    cases q : nameB T
    · rw [q] at h
      cases h
    · rfl
  rw [h1] at HNT
  have h2 : nameB D = true := by
    unfold nameOk at h
    rw [h1, show decide (D.size = 0) = false from decide_eq_false hd] at h
    simpa using h
  rw [h2] at HND
  clear h2
  have hd1 := not_empty hd
  have HAR := hid (areFunctions_any _ fs _ (hr.step (bal (Below.refl w.heap.size w) (.cells #[.string T, .string D, .slice x n c] 82))) (by omega))
  rw [hf] at HAR
  clear h h1 hr hn hf hd
  go_enter Try.func34, Try.ntmps34
  go_wp2_with fail
  with_reducible refine (HNT.out _).mono ?_
  rintro e w1 ⟨rfl, rfl⟩
  go_wp2_with fail
  with_reducible refine (HND.out _).mono ?_
  rintro e w1 ⟨rfl, rfl⟩
  go_wp2_with fail
  with_reducible refine HAR.out.mono ?_
  rintro e w1 ⟨rfl, rfl⟩
  go_wp2
  go_ret2
  exact ⟨rfl, bal (Below.refl _ _) _⟩
set_option maxRecDepth 100000 in
set_option maxHeartbeats 2000000 in
theorem new_ok_some (T D : ByteArray) (x : Option Addr) (n c : Nat) (fs : List Int) (w : World) (hr : RdG w (.slice x n c) fs) (hn : n = fs.length) (hl : n ≤ 1000) (hT : T.size ≤ 1000) (hD : D.size ≤ 1000) (hd : D.size ≠ 0) (h : nameOk T D = true) (hf : risesL fs = true) : Calls Try.prog 34 #[.agg #[.string T, .string D, .slice x n c]] w (NewD T D fs w) := by
  have HNT := hid (fun W => name_any T W (by unfold maxLen; omega))
  have HND := hid (fun W => name_any D W (by unfold maxLen; omega))
  have h1 : nameB T = true := by
    unfold nameOk at h
    cases q : nameB T
    · rw [q] at h
      cases h
    · rfl
  rw [h1] at HNT
  have h2 : nameB D = true := by
    unfold nameOk at h
    rw [h1, show decide (D.size = 0) = false from decide_eq_false hd] at h
    simpa using h
  rw [h2] at HND
  clear h2
  have hd1 := not_empty hd
  have HAR := hid (areFunctions_any _ fs _ (hr.step (bal (Below.refl w.heap.size w) (.cells #[.string T, .string D, .slice x n c] 82))) (by omega))
  rw [hf] at HAR
  have HCL := hid (fun (W : World) (hb : Below w.heap.size w W) => clone_any _ fs W (hr.step hb).reads (by omega))
  have HS0 := hid (show (w.alloc (.cells #[.string T, .string D, .slice x n c] 82)).cell? ⟨w.heap.size, 0, none⟩ = some (.string T) ∧ (w.alloc (.cells #[.string T, .string D, .slice x n c] 82)).cell? ⟨w.heap.size, 1, none⟩ = some (.string D) ∧ (w.alloc (.cells #[.string T, .string D, .slice x n c] 82)).cell? ⟨w.heap.size, 2, none⟩ = some (.slice x n c) ∧ Below w.heap.size w (w.alloc (.cells #[.string T, .string D, .slice x n c] 82)) from ⟨by simp [go_sem], by simp [go_sem], by simp [go_sem], bal (Below.refl _ _) _⟩)
  clear h h1 hr hn hf hd
  go_enter Try.func34, Try.ntmps34
  go_wp2_with fail
  with_reducible refine (HNT.out _).mono ?_
  rintro e w1 ⟨rfl, rfl⟩
  go_wp2_with fail
  with_reducible refine (HND.out _).mono ?_
  rintro e w1 ⟨rfl, rfl⟩
  go_wp2_with fail
  with_reducible refine HAR.out.mono ?_
  rintro e w1 ⟨rfl, rfl⟩
  go_wp2
  go_region_held3 (fun w' => w'.cell? ⟨w.heap.size, 0, none⟩ = some (.string T) ∧ w'.cell? ⟨w.heap.size, 1, none⟩ = some (.string D) ∧ w'.cell? ⟨w.heap.size, 2, none⟩ = some (.slice x n c) ∧ Below w.heap.size w w') (first | exact cfg_kept HS0.out (Below.refl _ _).drew | assumption | exact cfg_kept (by assumption) (by assumption) | exact cfg_alloc (by assumption) | fail) (first | (go_at_call 62; (with_reducible refine (HCL.out _ (show _ ∧ _ ∧ _ ∧ _ from (by first | assumption | exact cfg_kept HS0.out (Below.refl _ _).drew)).2.2.2).mono ?_); rintro e w2 ⟨v2, rfl, ho2, hb2, hk2⟩; obtain ⟨x2, n2, c2, rfl⟩ := own_slice ho2) | fail)
  rename_i hH
  have hbw : Below w.heap.size w w2 := below_t ((bal (Below.refl w.heap.size w) (.cells #[.string T, .string D, .slice x n c] 82)).drew) hb2
  have HX := hid (newEnd (T := T) (D := D) ho2 hbw (fun k hk => by have := hk2 k hk; simp at this; omega) 126)
  clear ho2 hb2 hk2 hH hbw
  go_wp2
  go_ret2
  exact HX.out
end Go.Proofs.Ytdpfjbpfafekfaa
