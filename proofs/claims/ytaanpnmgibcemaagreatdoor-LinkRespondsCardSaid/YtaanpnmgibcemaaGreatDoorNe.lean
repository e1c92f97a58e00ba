/-
  nego: the reference's end is made.
-/
import Derived.Test.YtaanpnmgibcemaaGreatDoorNd
namespace Go.Proofs.YtaanpnmgibcemaaGreatDoor.Ng
/-! XNt -/
section
open Go.RowKit Go.Lib
/-- At most so many bytes of a text. -/
def cutS (s : ByteArray) (m : Nat) : ByteArray := if m < s.size then s.extract 0 m else s
theorem cutS_size (s : ByteArray) (m : Nat) : (cutS s m).size ≤ m := by
  unfold cutS
  split
  · simp
    omega
  · omega
set_option maxRecDepth 100000 in
theorem cutText_any (s : ByteArray) (m : Nat) (hm : m ≤ 1000) (w : World) (_hs : s.size ≤ maxLen) : Calls Tryz.prog 55 #[.string s, .int .i64 m] w fun e w' => e = .returned (.string (cutS s m)) ∧ w = w' := by
  unfold maxLen at _hs
  by_cases h : m < s.size
  · rw [show cutS s m = s.extract 0 m from if_pos h]
    have h' : (m : Int) < s.size := by omega
    go_enter Tryz.func55, Tryz.ntmps55
    go_wp2
    go_ret
    exact ⟨rfl, rfl⟩
  · rw [show cutS s m = s from if_neg h]
    have h' : ¬ (m : Int) < s.size := by omega
    go_enter Tryz.func55, Tryz.ntmps55
    go_wp2
    go_ret
    exact ⟨rfl, rfl⟩
/-- A small config of one's own. -/
def FewD (T D : ByteArray) (fs : List Int) (w : World) (e : Ending) (w' : World) : Prop :=
  ∃ v, e = .returned (.agg #[.string (cutS T 45), .string (cutS D 45), v]) ∧ OwnB w' v (fs.take 8) ∧ Below w.heap.size w w' ∧ ∀ k ∈ blkV v, w.heap.size ≤ k
/-- What the region holds: a box's cells, a result's block that may be written. -/
def Fw (w0 w : World) (b r : Nat) (u0 u1 u2 : Value) : Prop := w.cell? ⟨b, 0, none⟩ = some u0 ∧ w.cell? ⟨b, 1, none⟩ = some u1 ∧ w.cell? ⟨b, 2, none⟩ = some u2 ∧ Below w0.heap.size w0 w ∧ (∀ j, j < 3 → (w.cell? ⟨r, j, none⟩).isSome = true ∧ w.frozen? ⟨r, j, none⟩ = false)
theorem fw_kept {w0 w w' : World} {b r : Nat} {u0 u1 u2 : Value} (h : w.cell? ⟨b, 0, none⟩ = some u0 ∧ w.cell? ⟨b, 1, none⟩ = some u1 ∧ w.cell? ⟨b, 2, none⟩ = some u2 ∧ Below w0.heap.size w0 w ∧ (∀ j, j < 3 → (w.cell? ⟨r, j, none⟩).isSome = true ∧ w.frozen? ⟨r, j, none⟩ = false)) (hb : Below w.heap.size w w') : w'.cell? ⟨b, 0, none⟩ = some u0 ∧ w'.cell? ⟨b, 1, none⟩ = some u1 ∧ w'.cell? ⟨b, 2, none⟩ = some u2 ∧ Below w0.heap.size w0 w' ∧ (∀ j, j < 3 → (w'.cell? ⟨r, j, none⟩).isSome = true ∧ w'.frozen? ⟨r, j, none⟩ = false) :=
  ⟨keepc hb h.1, keepc hb h.2.1, keepc hb h.2.2.1, below_t h.2.2.2.1 hb, fun j hj => by
    obtain ⟨h1, h2⟩ := h.2.2.2.2 j hj
    obtain ⟨v, hv⟩ := Option.isSome_iff_exists.1 h1
    exact ⟨by rw [keepc hb hv]; rfl, (hb.frozen (World.block_lt_of_cell? w _ hv)).trans h2⟩⟩
theorem fw_below {w0 w : World} {b r : Nat} {u0 u1 u2 : Value} (h : w.cell? ⟨b, 0, none⟩ = some u0 ∧ w.cell? ⟨b, 1, none⟩ = some u1 ∧ w.cell? ⟨b, 2, none⟩ = some u2 ∧ Below w0.heap.size w0 w ∧ (∀ j, j < 3 → (w.cell? ⟨r, j, none⟩).isSome = true ∧ w.frozen? ⟨r, j, none⟩ = false)) : Below w0.heap.size w0 w := h.2.2.2.1
theorem fw_ex {w0 w : World} {b r : Nat} {u0 u1 u2 : Value} (h : w.cell? ⟨b, 0, none⟩ = some u0 ∧ w.cell? ⟨b, 1, none⟩ = some u1 ∧ w.cell? ⟨b, 2, none⟩ = some u2 ∧ Below w0.heap.size w0 w ∧ (∀ j, j < 3 → (w.cell? ⟨r, j, none⟩).isSome = true ∧ w.frozen? ⟨r, j, none⟩ = false)) : ∃ z0 z1 z2, w.cell? ⟨r, 0, none⟩ = some z0 ∧ w.cell? ⟨r, 1, none⟩ = some z1 ∧ w.cell? ⟨r, 2, none⟩ = some z2 ∧ w.frozen? ⟨r, 0, none⟩ = false ∧ w.frozen? ⟨r, 1, none⟩ = false ∧ w.frozen? ⟨r, 2, none⟩ = false ∧ Below w0.heap.size w0 w := by
  obtain ⟨z0, h0⟩ := Option.isSome_iff_exists.1 (h.2.2.2.2 0 (by omega)).1
  obtain ⟨z1, h1⟩ := Option.isSome_iff_exists.1 (h.2.2.2.2 1 (by omega)).1
  obtain ⟨z2, h2⟩ := Option.isSome_iff_exists.1 (h.2.2.2.2 2 (by omega)).1
  exact ⟨z0, z1, z2, h0, h1, h2, (h.2.2.2.2 0 (by omega)).2, (h.2.2.2.2 1 (by omega)).2, (h.2.2.2.2 2 (by omega)).2, h.2.2.2.1⟩
theorem fw_set {w0 w : World} {b r : Nat} {u0 u1 u2 : Value} (h : w.cell? ⟨b, 0, none⟩ = some u0 ∧ w.cell? ⟨b, 1, none⟩ = some u1 ∧ w.cell? ⟨b, 2, none⟩ = some u2 ∧ Below w0.heap.size w0 w ∧ (∀ j, j < 3 → (w.cell? ⟨r, j, none⟩).isSome = true ∧ w.frozen? ⟨r, j, none⟩ = false)) (hbr : b ≠ r) (hr : w0.heap.size ≤ r) (i : Nat) (u : Value) : Fw w0 (w.setCell ⟨r, i, none⟩ u) b r u0 u1 u2 := by
  have n (j : Nat) : (⟨r, i, none⟩ : Addr) ≠ ⟨b, j, none⟩ := fun q => hbr (by injection q with q1; exact q1.symm)
  refine ⟨by rw [World.cell?_setCell_other (h := n 0)]; exact h.1, by rw [World.cell?_setCell_other (h := n 1)]; exact h.2.1, by rw [World.cell?_setCell_other (h := n 2)]; exact h.2.2.1, h.2.2.2.1.setCell (by exact hr) _, fun j hj => ?_⟩
  obtain ⟨h1, h2⟩ := h.2.2.2.2 j hj
  obtain ⟨v, hv⟩ := Option.isSome_iff_exists.1 h1
  refine ⟨?_, by rw [World.frozen?_setCell]; exact h2⟩
  by_cases e : i = j
  · subst e
    rw [World.cell?_setCell_same (h := hv)]
    rfl
  · rw [World.cell?_setCell_other (h := fun q => e (by injection q with q1 q2)), hv]
    rfl
set_option maxRecDepth 100000 in
set_option maxHeartbeats 2000000 in
theorem few_any (T D : ByteArray) (x : Option Addr) (n c : Nat) (fs : List Int) (w : World) (hr : Reads w (.slice x n c) fs) (hT : T.size ≤ maxLen) (hD : D.size ≤ maxLen) : Calls Tryz.prog 31 #[.agg #[.string T, .string D, .slice x n c]] w (FewD T D fs w) := by
  have HCT := hid (fun W => show Calls Tryz.prog 55 #[.string T, .int .i64 45] W (fun e w' => e = .returned (.string (cutS T 45)) ∧ W = w') from cutText_any T 45 (by omega) W hT)
  have HCD := hid (fun W => show Calls Tryz.prog 55 #[.string D, .int .i64 45] W (fun e w' => e = .returned (.string (cutS D 45)) ∧ W = w') from cutText_any D 45 (by omega) W hD)
  have HCU := hid (fun (W : World) (hb : Below w.heap.size w W) => show Calls Tryz.prog 9 #[.slice x n c, .int .i64 8] W (OwnDone (fs.take 8) W) from rcut_own (.slice x n c) 8 (by omega) fs W (reads_below hr hb))
  have HS0 := hid (show Fw w ((w.alloc (.cells #[.string T, .string D, .slice x n c] 24)).alloc (.cells #[.string ⟨#[]⟩, .string ⟨#[]⟩, .slice none 0 0] 24)) w.heap.size (w.heap.size + 1) (.string T) (.string D) (.slice x n c) from ⟨by simp [go_sem], by simp [go_sem], by simp [go_sem], bal (bal (Below.refl _ _) _) _, fun j hj => by have h3 : j = 0 ∨ j = 1 ∨ j = 2 := (by omega); (rcases h3 with rfl | rfl | rfl <;> simp [go_sem])⟩)
  unfold FewD
  generalize cutS T 45 = T1 at *
  generalize cutS D 45 = D1 at *
  clear hr hT hD
  go_enter Tryz.func31, Tryz.ntmps31
  go_wp2
  go_region_held3 (fun w' => w'.cell? ⟨w.heap.size, 0, none⟩ = some (.string T) ∧ w'.cell? ⟨w.heap.size, 1, none⟩ = some (.string D) ∧ w'.cell? ⟨w.heap.size, 2, none⟩ = some (.slice x n c) ∧ Below w.heap.size w w' ∧ (∀ j, j < 3 → (w'.cell? ⟨w.heap.size + 1, j, none⟩).isSome = true ∧ w'.frozen? ⟨w.heap.size + 1, j, none⟩ = false)) (first | exact fw_kept HS0.out (Below.refl _ _).drew | assumption | exact fw_kept (by assumption) (by assumption) | exact fw_set (fw_set (fw_set (by assumption) (by omega) (by omega) _ _) (by omega) (by omega) _ _) (by omega) (by omega) _ _ | fail) (first | (go_at_call 55; (with_reducible refine (HCT.out _).mono ?_); rintro e w1 ⟨rfl, rfl⟩) | (go_at_call 55; (with_reducible refine (HCD.out _).mono ?_); rintro e w1 ⟨rfl, rfl⟩) | (go_at_call 9; (with_reducible refine (HCU.out _ (fw_below (by first | assumption | exact fw_kept HS0.out (Below.refl _ _).drew))).mono ?_); rintro e w2 ⟨v2, rfl, ho2, hb2, hk2⟩; obtain ⟨x2, n2, c2, rfl⟩ := own_slice ho2; obtain ⟨q0, q1, q2, z0, z1, z2, y0, y1, y2, zb⟩ := fw_ex (fw_kept (by first | assumption | exact fw_kept HS0.out (Below.refl _ _).drew) hb2)) | fail)
  rename_i hH
  have HX := hid (And.intro ho2 (And.intro zb (show ∀ k ∈ blkV (.slice x2 n2 c2), w.heap.size ≤ k from fun k hk => by have := hk2 k hk; simp at this; omega)))
  have HKK := hid (show ∀ k ∈ blkV (.slice x2 n2 c2), k ≠ w.heap.size + 1 from fun k hk => by have := hk2 k hk; simp at this; omega)
  clear hH ho2 hb2 hk2
  obtain ⟨p0, p1, p2, pb⟩ := put3_end z0 z1 z2 zb (show w.heap.size ≤ w.heap.size + 1 by omega) (.string T1) (.string D1) (.slice x2 n2 c2)
  have HOP := hid (HX.out.1.moved (((set_moved w2 (w.heap.size + 1) 0 (.string T1)).trans (set_moved _ (w.heap.size + 1) 1 (.string D1))).trans (set_moved _ (w.heap.size + 1) 2 (.slice x2 n2 c2))) (fun k hk q => HKK.out k hk (List.mem_singleton.1 q)))
  have HOP2 : Hid (OwnB (put3 w2 (w.heap.size + 1) (.string T1) (.string D1) (.slice x2 n2 c2)) (.slice x2 n2 c2) (fs.take 8)) := HOP.out
  clear HOP zb z0 z1 z2 y0 y1 y2
  revert p0 p1 p2 pb HOP2
  generalize hW : put3 w2 (w.heap.size + 1) (.string T1) (.string D1) (.slice x2 n2 c2) = Wf
  intro p0 p1 p2 pb HOP2
  unfold put3 at hW
  rw [hW]
  clear hW
  go_wp2
  exact bodyPost_ret (v := .agg #[.string T1, .string D1, .slice x2 n2 c2]) (by simp [results, Tryz.results31, go_sem, p0, p1, p2]) rfl ⟨_, rfl, HOP2.out, pb, HX.out.2.2⟩
end
/-! XRa -/
section
open Go.RowKit Go.Lib
/-- The reference's end was made: of the config's own functions. -/
def RNewD (T D : ByteArray) (sv : Value) (fs : List Int) (w : World) (e : Ending) (w' : World) : Prop :=
  ∃ g, e = .returned (.tuple #[.pointer (some ⟨g, 0, none⟩), .int .i64 0]) ∧ EndM w' g sv (.slice none 0 0) T D fs 0 ⟨#[]⟩ [] ∧ Below w.heap.size w w' ∧ w.heap.size ≤ g
theorem rnewEnd {w w1 : World} {T D : ByteArray} {v : Value} {fs : List Int} (ho : OwnB w1 v fs) (hb : Below w.heap.size w w1) (t : TypeId) : RNewD T D v fs w (.returned (.tuple #[.pointer (some ⟨w1.heap.size, 0, none⟩), .int .i64 0])) (w1.alloc (.cells #[.string T, .string D, v, .int .i64 0, .string ⟨#[]⟩, .slice none 0 0] t)) := by
  refine ⟨w1.heap.size, rfl, ⟨?_, ?_, ?_, ?_, ?_, ?_, ?_, ho.step (bal (Below.refl _ _) _), OwnB.nil _, fun q => ?_, fun q => by cases q⟩, bal hb _, hb.size⟩
  · simp [go_sem]
  · simp [go_sem]
  · simp [go_sem]
  · simp [go_sem]
  · simp [go_sem]
  · simp [go_sem]
  · intro i hi
    simp [go_sem]
  · have := ho.lt _ q
    omega
set_option maxRecDepth 100000 in
set_option maxHeartbeats 2000000 in
theorem rnew_bad (T D : ByteArray) (x : Option Addr) (n c : Nat) (fs : List Int) (w : World) (_ho : OwnB w (.slice x n c) fs) (_hn : n = fs.length) (_hl : n ≤ 1000) (hT : T.size ≤ 1000) (hD : D.size ≤ 1000) (h : nameOk T D = false) : Calls Tryz.prog 60 #[.agg #[.string T, .string D, .slice x n c]] w (NoD 4 w) := by
  have HNT := hid (fun W => rname_any T W (by unfold maxLen; omega))
  have HND := hid (fun W => rname_any D W (by unfold maxLen; omega))
  cases h1 : nameB T
  · rw [h1] at HNT
    clear h h1
    go_enter Tryz.func60, Tryz.ntmps60
    go_wp2_with fail
    with_reducible refine (HNT.out _).mono ?_
    rintro e w1 ⟨rfl, rfl⟩
    go_wp2
    go_ret2
    exact ⟨rfl, bal (Below.refl _ _) _⟩
  · rw [h1] at HNT
    cases h2 : nameB D
    · rw [h2] at HND
      have hd : D.size ≠ 0 := fun q => by
        unfold nameOk at h
        rw [h1, show decide (D.size = 0) = true from decide_eq_true q] at h
        cases h
      have hd1 : 0 < D.size := by omega
      have hd2 : (0 : Int) < D.size := by omega
      clear h h1 h2 hd
      go_enter Tryz.func60, Tryz.ntmps60
      go_wp2_with fail
      with_reducible refine (HNT.out _).mono ?_
      rintro e w1 ⟨rfl, rfl⟩
      go_wp2_with fail
      with_reducible refine (HND.out _).mono ?_
      rintro e w1 ⟨rfl, rfl⟩
      go_wp2
      go_ret2
      exact ⟨rfl, bal (Below.refl _ _) _⟩
    · unfold nameOk at h
      rw [h1, h2] at h
      simp at h
/-- The last one so far. -/
def lastOf (fs : List Int) (k : Nat) : Int := if k = 0 then -1 else fs.getD (k - 1) 0
theorem lastOf_succ (fs : List Int) (k : Nat) : lastOf fs (k + 1) = fs.getD k 0 := by unfold lastOf; rw [if_neg (by omega)]; rfl
theorem lastOf_pos (fs : List Int) {k : Nat} (h : 0 < k) : lastOf fs k = fs.getD (k - 1) 0 := if_neg (by omega)
theorem lastOf_lt {fs : List Int} (h : ∀ x ∈ fs, 0 ≤ x ∧ x < 256) {k : Nat} (hk : k ≤ fs.length) : -1 ≤ lastOf fs k ∧ lastOf fs k < 256 := by
  unfold lastOf
  split
  · omega
  · have := getD_byte h (k - 1) (by omega)
    omega
set_option maxRecDepth 100000 in
set_option maxHeartbeats 2000000 in
theorem rnew_arg_none (T D : ByteArray) (x : Option Addr) (n c : Nat) (fs : List Int) (w : World) (ho : OwnB w (.slice x n c) fs) (hn : n = fs.length) (hl : n ≤ 1000) (hT : T.size ≤ 1000) (hD : D.size ≤ 1000) (hd : D.size = 0) (h : nameOk T D = true) (hf : risesL fs = false) : Calls Tryz.prog 60 #[.agg #[.string T, .string D, .slice x n c]] w (NoD 1 w) := by
  have HNT := hid (fun W => rname_any T W (by unfold maxLen; omega))
  have HND := hid (fun W => rname_any D W (by unfold maxLen; omega))
  have h1 : nameB T = true := by
    unfold nameOk at h
    cases q : nameB T
    · rw [q] at h
      cases h
    · rfl
  rw [h1] at HNT
  obtain rfl := eq_empty hd
  have HBX := hid (bal (Below.refl w.heap.size w) (.cells #[.string T, .string ⟨#[]⟩, .slice x n c] 24))
  have HRD := hid ho.rdg
  have HOW := hid (ho.step HBX.out)
  have HN := hid hn
  clear h h1 ho hn hd
  go_enter Tryz.func60, Tryz.ntmps60
  go_wp2_with fail
  with_reducible refine (HNT.out _).mono ?_
  rintro e w1 ⟨rfl, rfl⟩
  go_wp2
  go_loop [4, 26] (fun la i => ∃ k : Nat, k ≤ n ∧ i = .int .i64 k ∧ la = .int .i64 (lastOf fs k) ∧ Hid (∀ i, i < k → fs.getD i 0 ≤ 4 ∧ (0 < i → fs.getD (i - 1) 0 < fs.getD i 0))) (fun _ i => n - (RowKit.intOf i).toNat)
  case atStart => exact ⟨0, Nat.zero_le _, rfl, rfl, hid (fun i h => absurd h (by omega))⟩
  case round =>
    obtain ⟨k, hk, rfl, rfl, HA⟩ := hrel
    by_cases hlt : k < n
    · have hkx : k < fs.length := by rw [← HN.out]; exact hlt
      have hki : (k : Int) < n := by omega
      obtain ⟨g2, o2, cap2, e2, _, _, h2⟩ := HRD.out.row (fun q => by rw [q] at hkx; cases hkx)
      cases e2
      have c0 := keepc HBX.out (h2 k hkx)
      obtain ⟨b0, b1⟩ := getD_byte HRD.out.1 k hkx
      have HLS := hid (lastOf_succ fs k)
      have hlk := lastOf_lt HRD.out.1 (show k ≤ fs.length by omega)
      clear h2
      by_cases hle : fs.getD k 0 ≤ lastOf fs k
      · have hk0 : 0 < k := by
          rcases Nat.eq_zero_or_pos k with h0 | h0
          · subst h0
            have : lastOf fs 0 = -1 := rfl
            omega
          · exact h0
        have HFL := hid (rises_fall k hkx (fun q => by have := q.2 hk0; rw [lastOf_pos fs hk0] at hle; omega))
        generalize fs.getD k 0 = z at *
        generalize lastOf fs k = y at *
        go_wp2
        go_ret2
        exact ⟨rfl, HBX.out⟩
      · by_cases h4 : (4 : Int) < fs.getD k 0
        · have HFL := hid (rises_fall k hkx (fun q => by omega))
          have hle' : ¬ fs.getD k 0 ≤ lastOf fs k := hle
          generalize fs.getD k 0 = z at *
          generalize lastOf fs k = y at *
          go_wp2
          go_ret2
          exact ⟨rfl, HBX.out⟩
        · have HA2 := hid (show ∀ i, i < k + 1 → fs.getD i 0 ≤ 4 ∧ (0 < i → fs.getD (i - 1) 0 < fs.getD i 0) from fun i hi => by
            by_cases hik : i < k
            · exact HA.out i hik
            · obtain rfl : i = k := by omega
              exact ⟨by omega, fun h0 => by rw [lastOf_pos fs h0] at hle; omega⟩)
          have hw : IntKind.i64.wrap (fs.getD k 0) = fs.getD k 0 := IntWalk.i64_in _ (by omega)
          generalize fs.getD k 0 = z at c0 b0 b1 hle h4 HLS hw
          go_wp2
          go_round
          case rel => exact ⟨k + 1, by omega, by go_num, (by rw [HLS.out]), HA2.out⟩
          case measure => simp [RowKit.intOf]; omega
    · obtain rfl : k = n := by omega
      exact absurd (show risesL fs = true from decide_eq_true (by rw [← HN.out]; exact HA.out)) (by rw [hf]; decide)
set_option maxRecDepth 100000 in
set_option maxHeartbeats 2000000 in
theorem rnew_ok_none (T D : ByteArray) (x : Option Addr) (n c : Nat) (fs : List Int) (w : World) (ho : OwnB w (.slice x n c) fs) (hn : n = fs.length) (hl : n ≤ 1000) (hT : T.size ≤ 1000) (hD : D.size ≤ 1000) (hd : D.size = 0) (h : nameOk T D = true) (hf : risesL fs = true) : Calls Tryz.prog 60 #[.agg #[.string T, .string D, .slice x n c]] w (RNewD T D (.slice x n c) fs w) := by
  have HNT := hid (fun W => rname_any T W (by unfold maxLen; omega))
  have HND := hid (fun W => rname_any D W (by unfold maxLen; omega))
  have h1 : nameB T = true := by
    unfold nameOk at h
    cases q : nameB T
    · rw [q] at h
      cases h
    · rfl
  rw [h1] at HNT
  obtain rfl := eq_empty hd
  have HBX := hid (bal (Below.refl w.heap.size w) (.cells #[.string T, .string ⟨#[]⟩, .slice x n c] 24))
  have HRD := hid ho.rdg
  have HOW := hid (ho.step HBX.out)
  have HN := hid hn
  clear h h1 ho hn hd
  go_enter Tryz.func60, Tryz.ntmps60
  go_wp2_with fail
  with_reducible refine (HNT.out _).mono ?_
  rintro e w1 ⟨rfl, rfl⟩
  go_wp2
  go_loop [4, 26] (fun la i => ∃ k : Nat, k ≤ n ∧ i = .int .i64 k ∧ la = .int .i64 (lastOf fs k) ∧ Hid (∀ i, i < k → fs.getD i 0 ≤ 4 ∧ (0 < i → fs.getD (i - 1) 0 < fs.getD i 0))) (fun _ i => n - (RowKit.intOf i).toNat)
  case atStart => exact ⟨0, Nat.zero_le _, rfl, rfl, hid (fun i h => absurd h (by omega))⟩
  case round =>
    obtain ⟨k, hk, rfl, rfl, HA⟩ := hrel
    by_cases hlt : k < n
    · have hkx : k < fs.length := by rw [← HN.out]; exact hlt
      have hki : (k : Int) < n := by omega
      obtain ⟨g2, o2, cap2, e2, _, _, h2⟩ := HRD.out.row (fun q => by rw [q] at hkx; cases hkx)
      cases e2
      have c0 := keepc HBX.out (h2 k hkx)
      obtain ⟨b0, b1⟩ := getD_byte HRD.out.1 k hkx
      have HLS := hid (lastOf_succ fs k)
      have hlk := lastOf_lt HRD.out.1 (show k ≤ fs.length by omega)
      clear h2
      by_cases hle : fs.getD k 0 ≤ lastOf fs k
      · have hk0 : 0 < k := by
          rcases Nat.eq_zero_or_pos k with h0 | h0
          · subst h0
            have : lastOf fs 0 = -1 := rfl
            omega
          · exact h0
        have HFL := hid (rises_fall k hkx (fun q => by have := q.2 hk0; rw [lastOf_pos fs hk0] at hle; omega))
        exact absurd HFL.out (by rw [hf]; decide)
      · by_cases h4 : (4 : Int) < fs.getD k 0
        · have HFL := hid (rises_fall k hkx (fun q => by omega))
          exact absurd HFL.out (by rw [hf]; decide)
        · have HA2 := hid (show ∀ i, i < k + 1 → fs.getD i 0 ≤ 4 ∧ (0 < i → fs.getD (i - 1) 0 < fs.getD i 0) from fun i hi => by
            by_cases hik : i < k
            · exact HA.out i hik
            · obtain rfl : i = k := by omega
              exact ⟨by omega, fun h0 => by rw [lastOf_pos fs h0] at hle; omega⟩)
          have hw : IntKind.i64.wrap (fs.getD k 0) = fs.getD k 0 := IntWalk.i64_in _ (by omega)
          generalize fs.getD k 0 = z at c0 b0 b1 hle h4 HLS hw
          go_wp2
          go_round
          case rel => exact ⟨k + 1, by omega, by go_num, (by rw [HLS.out]), HA2.out⟩
          case measure => simp [RowKit.intOf]; omega
    · obtain rfl : k = n := by omega
      have HX := hid (rnewEnd (T := T) (D := ⟨#[]⟩) HOW.out HBX.out 152)
      rw [World.size_alloc] at HX
      go_wp2
      go_ret2
      exact HX.out
set_option maxRecDepth 100000 in
set_option maxHeartbeats 2000000 in
theorem rnew_arg_some (T D : ByteArray) (x : Option Addr) (n c : Nat) (fs : List Int) (w : World) (ho : OwnB w (.slice x n c) fs) (hn : n = fs.length) (hl : n ≤ 1000) (hT : T.size ≤ 1000) (hD : D.size ≤ 1000) (hd : D.size ≠ 0) (h : nameOk T D = true) (hf : risesL fs = false) : Calls Tryz.prog 60 #[.agg #[.string T, .string D, .slice x n c]] w (NoD 1 w) := by
  have HNT := hid (fun W => rname_any T W (by unfold maxLen; omega))
  have HND := hid (fun W => rname_any D W (by unfold maxLen; omega))
  have h1 : nameB T = true := by
    unfold nameOk at h
    cases q : nameB T
    · rw [q] at h
      cases h
    · rfl
  rw [h1] at HNT
  have h2 : nameB D = true := by
    unfold nameOk at h
    rw [h1, show decide (D.size = 0) = false from decide_eq_false hd] at h
    simpa using h
  rw [h2] at HND
  clear h2
  have hd1 : 0 < D.size := by omega
  have hd2 : (0 : Int) < D.size := by omega
  have HBX := hid (bal (Below.refl w.heap.size w) (.cells #[.string T, .string D, .slice x n c] 24))
  have HRD := hid ho.rdg
  have HOW := hid (ho.step HBX.out)
  have HN := hid hn
  clear h h1 ho hn hd
  go_enter Tryz.func60, Tryz.ntmps60
  go_wp2_with fail
  with_reducible refine (HNT.out _).mono ?_
  rintro e w1 ⟨rfl, rfl⟩
  go_wp2_with fail
  with_reducible refine (HND.out _).mono ?_
  rintro e w1 ⟨rfl, rfl⟩
  go_wp2
  go_loop [4, 26] (fun la i => ∃ k : Nat, k ≤ n ∧ i = .int .i64 k ∧ la = .int .i64 (lastOf fs k) ∧ Hid (∀ i, i < k → fs.getD i 0 ≤ 4 ∧ (0 < i → fs.getD (i - 1) 0 < fs.getD i 0))) (fun _ i => n - (RowKit.intOf i).toNat)
  case atStart => exact ⟨0, Nat.zero_le _, rfl, rfl, hid (fun i h => absurd h (by omega))⟩
  case round =>
    obtain ⟨k, hk, rfl, rfl, HA⟩ := hrel
    by_cases hlt : k < n
    · have hkx : k < fs.length := by rw [← HN.out]; exact hlt
      have hki : (k : Int) < n := by omega
      obtain ⟨g2, o2, cap2, e2, _, _, h2⟩ := HRD.out.row (fun q => by rw [q] at hkx; cases hkx)
      cases e2
      have c0 := keepc HBX.out (h2 k hkx)
      obtain ⟨b0, b1⟩ := getD_byte HRD.out.1 k hkx
      have HLS := hid (lastOf_succ fs k)
      have hlk := lastOf_lt HRD.out.1 (show k ≤ fs.length by omega)
      clear h2
      by_cases hle : fs.getD k 0 ≤ lastOf fs k
      · have hk0 : 0 < k := by
          rcases Nat.eq_zero_or_pos k with h0 | h0
          · subst h0
            have : lastOf fs 0 = -1 := rfl
            omega
          · exact h0
        have HFL := hid (rises_fall k hkx (fun q => by have := q.2 hk0; rw [lastOf_pos fs hk0] at hle; omega))
        generalize fs.getD k 0 = z at *
        generalize lastOf fs k = y at *
        go_wp2
        go_ret2
        exact ⟨rfl, HBX.out⟩
      · by_cases h4 : (4 : Int) < fs.getD k 0
        · have HFL := hid (rises_fall k hkx (fun q => by omega))
          have hle' : ¬ fs.getD k 0 ≤ lastOf fs k := hle
          generalize fs.getD k 0 = z at *
          generalize lastOf fs k = y at *
          go_wp2
          go_ret2
          exact ⟨rfl, HBX.out⟩
        · have HA2 := hid (show ∀ i, i < k + 1 → fs.getD i 0 ≤ 4 ∧ (0 < i → fs.getD (i - 1) 0 < fs.getD i 0) from fun i hi => by
            by_cases hik : i < k
            · exact HA.out i hik
            · obtain rfl : i = k := by omega
              exact ⟨by omega, fun h0 => by rw [lastOf_pos fs h0] at hle; omega⟩)
          have hw : IntKind.i64.wrap (fs.getD k 0) = fs.getD k 0 := IntWalk.i64_in _ (by omega)
          generalize fs.getD k 0 = z at c0 b0 b1 hle h4 HLS hw
          go_wp2
          go_round
          case rel => exact ⟨k + 1, by omega, by go_num, (by rw [HLS.out]), HA2.out⟩
          case measure => simp [RowKit.intOf]; omega
    · obtain rfl : k = n := by omega
      exact absurd (show risesL fs = true from decide_eq_true (by rw [← HN.out]; exact HA.out)) (by rw [hf]; decide)
set_option maxRecDepth 100000 in
set_option maxHeartbeats 2000000 in
theorem rnew_ok_some (T D : ByteArray) (x : Option Addr) (n c : Nat) (fs : List Int) (w : World) (ho : OwnB w (.slice x n c) fs) (hn : n = fs.length) (hl : n ≤ 1000) (hT : T.size ≤ 1000) (hD : D.size ≤ 1000) (hd : D.size ≠ 0) (h : nameOk T D = true) (hf : risesL fs = true) : Calls Tryz.prog 60 #[.agg #[.string T, .string D, .slice x n c]] w (RNewD T D (.slice x n c) fs w) := by
  have HNT := hid (fun W => rname_any T W (by unfold maxLen; omega))
  have HND := hid (fun W => rname_any D W (by unfold maxLen; omega))
  have h1 : nameB T = true := by
    unfold nameOk at h
    cases q : nameB T
    · rw [q] at h
      cases h
    · rfl
  rw [h1] at HNT
  have h2 : nameB D = true := by
    unfold nameOk at h
    rw [h1, show decide (D.size = 0) = false from decide_eq_false hd] at h
    simpa using h
  rw [h2] at HND
  clear h2
  have hd1 : 0 < D.size := by omega
  have hd2 : (0 : Int) < D.size := by omega
  have HBX := hid (bal (Below.refl w.heap.size w) (.cells #[.string T, .string D, .slice x n c] 24))
  have HRD := hid ho.rdg
  have HOW := hid (ho.step HBX.out)
  have HN := hid hn
  clear h h1 ho hn hd
  go_enter Tryz.func60, Tryz.ntmps60
  go_wp2_with fail
  with_reducible refine (HNT.out _).mono ?_
  rintro e w1 ⟨rfl, rfl⟩
  go_wp2_with fail
  with_reducible refine (HND.out _).mono ?_
  rintro e w1 ⟨rfl, rfl⟩
  go_wp2
  go_loop [4, 26] (fun la i => ∃ k : Nat, k ≤ n ∧ i = .int .i64 k ∧ la = .int .i64 (lastOf fs k) ∧ Hid (∀ i, i < k → fs.getD i 0 ≤ 4 ∧ (0 < i → fs.getD (i - 1) 0 < fs.getD i 0))) (fun _ i => n - (RowKit.intOf i).toNat)
  case atStart => exact ⟨0, Nat.zero_le _, rfl, rfl, hid (fun i h => absurd h (by omega))⟩
  case round =>
    obtain ⟨k, hk, rfl, rfl, HA⟩ := hrel
    by_cases hlt : k < n
    · have hkx : k < fs.length := by rw [← HN.out]; exact hlt
      have hki : (k : Int) < n := by omega
      obtain ⟨g2, o2, cap2, e2, _, _, h2⟩ := HRD.out.row (fun q => by rw [q] at hkx; cases hkx)
      cases e2
      have c0 := keepc HBX.out (h2 k hkx)
      obtain ⟨b0, b1⟩ := getD_byte HRD.out.1 k hkx
      have HLS := hid (lastOf_succ fs k)
      have hlk := lastOf_lt HRD.out.1 (show k ≤ fs.length by omega)
      clear h2
      by_cases hle : fs.getD k 0 ≤ lastOf fs k
      · have hk0 : 0 < k := by
          rcases Nat.eq_zero_or_pos k with h0 | h0
          · subst h0
            have : lastOf fs 0 = -1 := rfl
            omega
          · exact h0
        have HFL := hid (rises_fall k hkx (fun q => by have := q.2 hk0; rw [lastOf_pos fs hk0] at hle; omega))
        exact absurd HFL.out (by rw [hf]; decide)
      · by_cases h4 : (4 : Int) < fs.getD k 0
        · have HFL := hid (rises_fall k hkx (fun q => by omega))
          exact absurd HFL.out (by rw [hf]; decide)
        · have HA2 := hid (show ∀ i, i < k + 1 → fs.getD i 0 ≤ 4 ∧ (0 < i → fs.getD (i - 1) 0 < fs.getD i 0) from fun i hi => by
            by_cases hik : i < k
            · exact HA.out i hik
            · obtain rfl : i = k := by omega
              exact ⟨by omega, fun h0 => by rw [lastOf_pos fs h0] at hle; omega⟩)
          have hw : IntKind.i64.wrap (fs.getD k 0) = fs.getD k 0 := IntWalk.i64_in _ (by omega)
          generalize fs.getD k 0 = z at c0 b0 b1 hle h4 HLS hw
          go_wp2
          go_round
          case rel => exact ⟨k + 1, by omega, by go_num, (by rw [HLS.out]), HA2.out⟩
          case measure => simp [RowKit.intOf]; omega
    · obtain rfl : k = n := by omega
      have HX := hid (rnewEnd (T := T) (D := D) HOW.out HBX.out 152)
      rw [World.size_alloc] at HX
      go_wp2
      go_ret2
      exact HX.out
end
end Go.Proofs.YtaanpnmgibcemaaGreatDoor.Ng
