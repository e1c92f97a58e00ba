/-
  The reference's Few; the law's awake.
-/
import Derived.Test.YtdpfjbpfafekfaaNs
namespace Go.Proofs.Ytdpfjbpfafekfaa
open Go.RowKit Go.Lib

/-- At most so many bytes of a text. -/
def cutS (s : ByteArray) (m : Nat) : ByteArray := if m < s.size then s.extract 0 m else s
theorem cutS_size (s : ByteArray) (m : Nat) : (cutS s m).size ≤ m := by
  unfold cutS
  split
  · simp
    omega
  · omega
set_option maxRecDepth 100000 in
theorem cutText_any (s : ByteArray) (m : Nat) (hm : m ≤ 1000) (w : World) (hs : s.size ≤ maxLen) : Calls Try.prog 41 #[.string s, .int .i64 m] w fun e w' => e = .returned (.string (cutS s m)) ∧ w = w' := by
  unfold maxLen at hs
  by_cases h : m < s.size
  · rw [show cutS s m = s.extract 0 m from if_pos h]
    have h' : (m : Int) < s.size := by omega
    go_enter Try.func41, Try.ntmps41
    go_wp2
    go_ret
    exact ⟨rfl, rfl⟩
  · rw [show cutS s m = s from if_neg h]
    have h' : ¬ (m : Int) < s.size := by omega
    go_enter Try.func41, Try.ntmps41
    go_wp2
    go_ret
    exact ⟨rfl, rfl⟩
/-- A small config of one's own. -/
def FewD (T D : ByteArray) (fs : List Int) (w : World) (e : Ending) (w' : World) : Prop :=
  ∃ v, e = .returned (.agg #[.string (cutS T 45), .string (cutS D 45), v]) ∧ OwnB w' v (fs.take 8) ∧ Below w.heap.size w w' ∧ ∀ k ∈ blkV v, w.heap.size ≤ k
/-- What the region holds: a box's cells, a result's block that may be written. -/
def Fw (w0 w : World) (b r : Nat) (u0 u1 u2 : Value) : Prop := w.cell? ⟨b, 0, none⟩ = some u0 ∧ w.cell? ⟨b, 1, none⟩ = some u1 ∧ w.cell? ⟨b, 2, none⟩ = some u2 ∧ Below w0.heap.size w0 w ∧ (∀ j, j < 3 → (w.cell? ⟨r, j, none⟩).isSome = true ∧ w.frozen? ⟨r, j, none⟩ = false)
theorem fw_kept {w0 w w' : World} {b r : Nat} {u0 u1 u2 : Value} (h : w.cell? ⟨b, 0, none⟩ = some u0 ∧ w.cell? ⟨b, 1, none⟩ = some u1 ∧ w.cell? ⟨b, 2, none⟩ = some u2 ∧ Below w0.heap.size w0 w ∧ (∀ j, j < 3 → (w.cell? ⟨r, j, none⟩).isSome = true ∧ w.frozen? ⟨r, j, none⟩ = false)) (hb : Below w.heap.size w w') : w'.cell? ⟨b, 0, none⟩ = some u0 ∧ w'.cell? ⟨b, 1, none⟩ = some u1 ∧ w'.cell? ⟨b, 2, none⟩ = some u2 ∧ Below w0.heap.size w0 w' ∧ (∀ j, j < 3 → (w'.cell? ⟨r, j, none⟩).isSome = true ∧ w'.frozen? ⟨r, j, none⟩ = false) :=
  ⟨keepc hb h.1, keepc hb h.2.1, keepc hb h.2.2.1, below_t h.2.2.2.1 hb, fun j hj => by
    obtain ⟨h1, h2⟩ := h.2.2.2.2 j hj
    obtain ⟨v, hv⟩ := Option.isSome_iff_exists.1 h1
    exact ⟨by rw [keepc hb hv]; rfl, (hb.frozen (World.block_lt_of_cell? w _ hv)).trans h2⟩⟩
theorem fw_below {w0 w : World} {b r : Nat} {u0 u1 u2 : Value} (h : w.cell? ⟨b, 0, none⟩ = some u0 ∧ w.cell? ⟨b, 1, none⟩ = some u1 ∧ w.cell? ⟨b, 2, none⟩ = some u2 ∧ Below w0.heap.size w0 w ∧ (∀ j, j < 3 → (w.cell? ⟨r, j, none⟩).isSome = true ∧ w.frozen? ⟨r, j, none⟩ = false)) : Below w0.heap.size w0 w := h.2.2.2.1
theorem fw_ex {w0 w : World} {b r : Nat} {u0 u1 u2 : Value} (h : w.cell? ⟨b, 0, none⟩ = some u0 ∧ w.cell? ⟨b, 1, none⟩ = some u1 ∧ w.cell? ⟨b, 2, none⟩ = some u2 ∧ Below w0.heap.size w0 w ∧ (∀ j, j < 3 → (w.cell? ⟨r, j, none⟩).isSome = true ∧ w.frozen? ⟨r, j, none⟩ = false)) : ∃ z0 z1 z2, w.cell? ⟨r, 0, none⟩ = some z0 ∧ w.cell? ⟨r, 1, none⟩ = some z1 ∧ w.cell? ⟨r, 2, none⟩ = some z2 ∧ w.frozen? ⟨r, 0, none⟩ = false ∧ w.frozen? ⟨r, 1, none⟩ = false ∧ w.frozen? ⟨r, 2, none⟩ = false ∧ Below w0.heap.size w0 w := by
  obtain ⟨z0, h0⟩ := Option.isSome_iff_exists.1 (h.2.2.2.2 0 (by omega)).1
  obtain ⟨z1, h1⟩ := Option.isSome_iff_exists.1 (h.2.2.2.2 1 (by omega)).1
  obtain ⟨z2, h2⟩ := Option.isSome_iff_exists.1 (h.2.2.2.2 2 (by omega)).1
  exact ⟨z0, z1, z2, h0, h1, h2, (h.2.2.2.2 0 (by omega)).2, (h.2.2.2.2 1 (by omega)).2, (h.2.2.2.2 2 (by omega)).2, h.2.2.2.1⟩
theorem fw_set {w0 w : World} {b r : Nat} {u0 u1 u2 : Value} (h : w.cell? ⟨b, 0, none⟩ = some u0 ∧ w.cell? ⟨b, 1, none⟩ = some u1 ∧ w.cell? ⟨b, 2, none⟩ = some u2 ∧ Below w0.heap.size w0 w ∧ (∀ j, j < 3 → (w.cell? ⟨r, j, none⟩).isSome = true ∧ w.frozen? ⟨r, j, none⟩ = false)) (hbr : b ≠ r) (hr : w0.heap.size ≤ r) (i : Nat) (u : Value) : Fw w0 (w.setCell ⟨r, i, none⟩ u) b r u0 u1 u2 := by
  have n (j : Nat) : (⟨r, i, none⟩ : Addr) ≠ ⟨b, j, none⟩ := fun q => hbr (by injection q with q1; exact q1.symm)
  refine ⟨by rw [World.cell?_setCell_other (h := n 0)]; exact h.1, by rw [World.cell?_setCell_other (h := n 1)]; exact h.2.1, by rw [World.cell?_setCell_other (h := n 2)]; exact h.2.2.1, h.2.2.2.1.setCell (by exact hr) _, fun j hj => ?_⟩
  obtain ⟨h1, h2⟩ := h.2.2.2.2 j hj
  obtain ⟨v, hv⟩ := Option.isSome_iff_exists.1 h1
  refine ⟨?_, by rw [World.frozen?_setCell]; exact h2⟩
  by_cases e : i = j
  · subst e
    rw [World.cell?_setCell_same (h := hv)]
    rfl
  · rw [World.cell?_setCell_other (h := fun q => e (by injection q with q1 q2)), hv]
    rfl
set_option maxRecDepth 100000 in
set_option maxHeartbeats 2000000 in
theorem few_any (T D : ByteArray) (x : Option Addr) (n c : Nat) (fs : List Int) (w : World) (hr : Reads w (.slice x n c) fs) (hT : T.size ≤ maxLen) (hD : D.size ≤ maxLen) : Calls Try.prog 33 #[.agg #[.string T, .string D, .slice x n c]] w (FewD T D fs w) := by
  have HCT := hid (fun W => show Calls Try.prog 41 #[.string T, .int .i64 45] W (fun e w' => e = .returned (.string (cutS T 45)) ∧ W = w') from cutText_any T 45 (by omega) W hT)
  have HCD := hid (fun W => show Calls Try.prog 41 #[.string D, .int .i64 45] W (fun e w' => e = .returned (.string (cutS D 45)) ∧ W = w') from cutText_any D 45 (by omega) W hD)
  have HCU := hid (fun (W : World) (hb : Below w.heap.size w W) => show Calls Try.prog 12 #[.slice x n c, .int .i64 8] W (OwnDone (fs.take 8) W) from rcut_own (.slice x n c) 8 (by omega) fs W (reads_below hr hb))
  have HS0 := hid (show Fw w ((w.alloc (.cells #[.string T, .string D, .slice x n c] 76)).alloc (.cells #[.string ⟨#[]⟩, .string ⟨#[]⟩, .slice none 0 0] 76)) w.heap.size (w.heap.size + 1) (.string T) (.string D) (.slice x n c) from ⟨by simp [go_sem], by simp [go_sem], by simp [go_sem], bal (bal (Below.refl _ _) _) _, fun j hj => by have h3 : j = 0 ∨ j = 1 ∨ j = 2 := (by omega); (rcases h3 with rfl | rfl | rfl <;> simp [go_sem])⟩)
  unfold FewD
  generalize cutS T 45 = T1 at *
  generalize cutS D 45 = D1 at *
  clear hr hT hD
  go_enter Try.func33, Try.ntmps33
  go_wp2
  go_region_held3 (fun w' => w'.cell? ⟨w.heap.size, 0, none⟩ = some (.string T) ∧ w'.cell? ⟨w.heap.size, 1, none⟩ = some (.string D) ∧ w'.cell? ⟨w.heap.size, 2, none⟩ = some (.slice x n c) ∧ Below w.heap.size w w' ∧ (∀ j, j < 3 → (w'.cell? ⟨w.heap.size + 1, j, none⟩).isSome = true ∧ w'.frozen? ⟨w.heap.size + 1, j, none⟩ = false)) (first | exact fw_kept HS0.out (Below.refl _ _).drew | assumption | exact fw_kept (by assumption) (by assumption) | exact fw_set (fw_set (fw_set (by assumption) (by omega) (by omega) _ _) (by omega) (by omega) _ _) (by omega) (by omega) _ _ | fail) (first | (go_at_call 41; (with_reducible refine (HCT.out _).mono ?_); rintro e w1 ⟨rfl, rfl⟩) | (go_at_call 41; (with_reducible refine (HCD.out _).mono ?_); rintro e w1 ⟨rfl, rfl⟩) | (go_at_call 12; (with_reducible refine (HCU.out _ (fw_below (by first | assumption | exact fw_kept HS0.out (Below.refl _ _).drew))).mono ?_); rintro e w2 ⟨v2, rfl, ho2, hb2, hk2⟩; obtain ⟨x2, n2, c2, rfl⟩ := own_slice ho2; obtain ⟨q0, q1, q2, z0, z1, z2, y0, y1, y2, zb⟩ := fw_ex (fw_kept (by first | assumption | exact fw_kept HS0.out (Below.refl _ _).drew) hb2)) | fail)
  rename_i hH
  have HX := hid (And.intro ho2 (And.intro zb (show ∀ k ∈ blkV (.slice x2 n2 c2), w.heap.size ≤ k from fun k hk => by have := hk2 k hk; simp at this; omega)))
  have HKK := hid (show ∀ k ∈ blkV (.slice x2 n2 c2), k ≠ w.heap.size + 1 from fun k hk => by have := hk2 k hk; simp at this; omega)
  clear hH ho2 hb2 hk2
  obtain ⟨p0, p1, p2, pb⟩ := put3_end z0 z1 z2 zb (show w.heap.size ≤ w.heap.size + 1 by omega) (.string T1) (.string D1) (.slice x2 n2 c2)
  have HOP := hid (HX.out.1.moved (((set_moved w2 (w.heap.size + 1) 0 (.string T1)).trans (set_moved _ (w.heap.size + 1) 1 (.string D1))).trans (set_moved _ (w.heap.size + 1) 2 (.slice x2 n2 c2))) (fun k hk q => HKK.out k hk (List.mem_singleton.1 q)))
  have HOP2 : Hid (OwnB (put3 w2 (w.heap.size + 1) (.string T1) (.string D1) (.slice x2 n2 c2)) (.slice x2 n2 c2) (fs.take 8)) := HOP.out
  clear HOP zb z0 z1 z2 y0 y1 y2
  revert p0 p1 p2 pb HOP2
  generalize hW : put3 w2 (w.heap.size + 1) (.string T1) (.string D1) (.slice x2 n2 c2) = Wf
  intro p0 p1 p2 pb HOP2
  unfold put3 at hW
  rw [hW]
  clear hW
  go_wp2
  exact bodyPost_ret (v := .agg #[.string T1, .string D1, .slice x2 n2 c2]) (by simp [results, Try.results33, go_sem, p0, p1, p2]) rfl ⟨_, rfl, HOP2.out, pb, HX.out.2.2⟩
end Go.Proofs.Ytdpfjbpfafekfaa
