/-
  The reference's reading of a header.
-/
import Derived.Test.YtahminbgedmgcaaDoorHc
namespace Go.Proofs.YtahminbgedmgcaaDoor
open Go.RowKit Go.Lib

theorem own_slice {w : World} {v : Value} {xs : List Int} (h : OwnB w v xs) : ∃ x n c, v = .slice x n c := by
  rcases h.2.2 with ⟨rfl, _⟩ | ⟨g, cap, cur, rfl, _⟩
  · exact ⟨_, _, _, rfl⟩
  · exact ⟨_, _, _, rfl⟩
theorem rcopy_any (v : Value) (xs : List Int) (w : World) (h : Reads w v xs) (hlen : xs.length ≤ 140737488355328) : Calls Tryd.prog 12 #[v] w (CloneDone xs w) :=
  (copy_any v xs w h hlen).mono fun _ _ ⟨v', he, hr, hb, ho, _⟩ => ⟨v', he, ⟨hr.1, ho.mono (Nat.zero_le _)⟩, hb, fun k hk => (ho.lt k (mem_blkV.1 hk)).1⟩
theorem rcut_any (v : Value) (m : Nat) (hm : m ≤ 1000000) (xs : List Int) (w : World) (h : Reads w v xs) : Calls Tryd.prog 10 #[v, .int .i64 m] w (CloneDone (xs.take m) w) :=
  (cut_any v m hm xs w h).mono fun _ _ ⟨v', he, hr, hb, ho, _⟩ => ⟨v', he, ⟨hr.1, ho.mono (Nat.zero_le _)⟩, hb, fun k hk => (ho.lt k (mem_blkV.1 hk)).1⟩
set_option maxRecDepth 100000 in
theorem rparse_short (x : Option Addr) (n cap : Nat) (w : World) (h : n < 5) : Calls Tryd.prog 13 #[.slice x n cap] w (ParseE 0 0 0 0 [] 2 w) := by
  go_enter Tryd.func13, Tryd.ntmps13
  go_wp2
  refine bodyPost_ret (v := .tuple #[hdrV 0 0 0 0, .slice none 0 0, .int .i64 2]) (by simp [results, Tryd.results13, go_sem]) rfl ⟨_, rfl, OwnB.nil _, ?_, fun k hk => by cases hk⟩
  exact (Below.refl _ _).alloc (Nat.le_refl _) _
set_option maxRecDepth 100000 in
set_option maxHeartbeats 2000000 in
theorem rparse_ok (g off n cap : Nat) (t r s a b : Int) (rest : List Int) (w : World) (h5 : Five w w g off t r s a b) (hn : n = rest.length + 5) (hc : n ≤ cap) (hm : cap ≤ maxLen) (F : HFit t r s (256 * a + b)) (ha : 0 ≤ a ∧ a < 256) (hb : 0 ≤ b ∧ b < 256) (hr : Reads w (.slice (some ⟨g, off, none⟩) n cap) (t :: r :: s :: a :: b :: rest)) (hl : n ≤ 1000000) (hk : okH t s = true) : Calls Tryd.prog 13 #[.slice (some ⟨g, off, none⟩) n cap] w (ParseE t r s (256 * a + b) rest 0 w) := by
  have HX := hid (h5.alloc (.cells #[.int .u8 0, .int .u8 0, .int .u8 0, .int .u16 0] 24))
  have HV := hid (rbytes_ok t r s (256 * a + b) · F hk)
  obtain ⟨x5, hx5, hrd⟩ := run_from5 ⟨g, off, none⟩ n cap (by omega)
  have HR := hid (hrd w _ hr)
  clear hrd
  obtain ⟨t0, t1, r0, r1, s0, s1, q0, q1⟩ := F
  have l0 : 0 < n := by omega
  have l1 : 1 < n := by omega
  have l2 : 2 < n := by omega
  have l3 : 3 < n := by omega
  have l4 : 4 < n := by omega
  have l5 : ¬ n < 5 := by omega
  have i1 : (1 : Int) < n := by omega
  have i2 : (2 : Int) < n := by omega
  have i3 : (3 : Int) < n := by omega
  have i4 : (4 : Int) < n := by omega
  obtain ⟨a0, a1⟩ := ha
  obtain ⟨b0, b1⟩ := hb
  have HN := hid hn
  clear h5 hr hk hn
  have e1 : IntKind.u16.wrap a = a := wraps_u16 a (by omega) (by omega)
  have e2 : IntKind.u16.wrap b = b := wraps_u16 b (by omega) (by omega)
  have e3 : IntKind.u16.wrap (256 * a) = 256 * a := wraps_u16 _ (by omega) (by omega)
  have e4 : IntKind.u16.wrap (256 * a + b) = 256 * a + b := wraps_u16 _ (by omega) (by omega)
  go_enter Tryd.func13, Tryd.ntmps13
  go_wp2
  go_region_held3 (fun w' => w'.cell? ⟨g, off, none⟩ = some (.int .u8 t) ∧ w'.cell? ⟨g, off + 1, none⟩ = some (.int .u8 r) ∧ w'.cell? ⟨g, off + 2, none⟩ = some (.int .u8 s) ∧ w'.cell? ⟨g, off + 3, none⟩ = some (.int .u8 a) ∧ w'.cell? ⟨g, off + 4, none⟩ = some (.int .u8 b) ∧ Below w.heap.size w w') (first | exact HX.out.drew | exact HX.out.drew.alloc _) (first | fail)
  rename_i hH
  clear hH e1 e2 e3 e4
  go_wp2_with fail
  with_reducible refine (HV.out _).mono ?_
  rintro e w1 ⟨vb, rfl, hob, hb1, hkb⟩
  obtain ⟨xb, nb, cb, rfl⟩ := own_slice hob
  clear hob hkb
  have q0 := keepc (a := ⟨w.heap.size + 1, 0, none⟩) (v := .int .u8 t) hb1 (by simp [go_sem])
  have q1 := keepc (a := ⟨w.heap.size + 1, 1, none⟩) (v := .int .u8 r) hb1 (by simp [go_sem])
  have q2 := keepc (a := ⟨w.heap.size + 1, 2, none⟩) (v := .int .u8 s) hb1 (by simp [go_sem])
  have q3 := keepc (a := ⟨w.heap.size + 1, 3, none⟩) (v := .int .u16 (256 * a + b)) hb1 (by simp [go_sem])
  have HB1 := hid (below_t (((Below.refl w.heap.size w).alloc (Nat.le_refl _) _).alloc (by simp) _).drew hb1)
  have hop : Open4 w1 w.heap.size := Open4.step (fun j hj => by have h4 : j = 0 ∨ j = 1 ∨ j = 2 ∨ j = 3 := (by omega); (rcases h4 with rfl | rfl | rfl | rfl <;> simp [go_sem])) hb1
  have HX1 := hid (show Four w w1 _ w.heap.size _ _ _ _ from ⟨q0, q1, q2, q3, HB1.out, hop⟩)
  have HCL := hid (fun W (hW : Below w.heap.size w W) => rcopy_any _ rest W (reads_below HR.out hW) (by have := HN.out; omega))
  clear hb1 hop q0 q1 q2 q3
  go_wp2
  go_region_held3 (fun w' => w'.cell? ⟨w.heap.size + 1, 0, none⟩ = some (.int .u8 t) ∧ w'.cell? ⟨w.heap.size + 1, 1, none⟩ = some (.int .u8 r) ∧ w'.cell? ⟨w.heap.size + 1, 2, none⟩ = some (.int .u8 s) ∧ w'.cell? ⟨w.heap.size + 1, 3, none⟩ = some (.int .u16 (256 * a + b)) ∧ Below w.heap.size w w' ∧ Open4 w' w.heap.size) (first | exact HX1.out.drew | exact four_kept (by assumption) (by assumption) | exact four_put (by assumption) (Nat.le_refl _) (Nat.lt_succ_self _) _ _ _ _) (first | (go_at_call 12; (with_reducible refine (HCL.out _ (four_below (by first | assumption | exact HX1.out.drew))).mono ?_); rintro e w2 ⟨v2, rfl, ho2, hb2, hk2⟩; have HE := hid (clone_end ho2 hb2 hk2 (by first | assumption | exact HX1.out.drew)); clear ho2 hk2; obtain ⟨u0, u1, u2, u3, z0, z1, z2, z3, y0, y1, y2, y3⟩ := HE.out.2.2.2.ex))
  rename_i hH
  clear hH hb2 z0 z1 z2 z3 y0 y1 y2 y3
  obtain ⟨ho, hk, hb, hop⟩ := HE.out
  have HF := hid (show ParseE t r s (256 * a + b) rest 0 w _ (put4 w2 w.heap.size (.int .u8 t) (.int .u8 r) (.int .u8 s) (.int .u16 (256 * a + b))) from ⟨_, rfl, put4_own _ _ _ _ ho hk, put4_below _ _ _ _ hb (Nat.le_refl _), fun k h => Nat.le_of_lt (hk k h)⟩)
  obtain ⟨k0, k1, k2, k3⟩ := put4_cells hop (.int .u8 t) (.int .u8 r) (.int .u8 s) (.int .u16 (256 * a + b))
  clear ho hk hb hop HE
  revert HF k0 k1 k2 k3
  generalize hW : put4 w2 w.heap.size (.int .u8 t) (.int .u8 r) (.int .u8 s) (.int .u16 (256 * a + b)) = Wf
  intro HF k0 k1 k2 k3
  unfold put4 at hW
  rw [hW]
  clear hW
  go_wp2
  exact bodyPost_ret (by simp [results, Tryd.results13, go_sem, k0, k1, k2, k3]) rfl HF.out
set_option maxRecDepth 100000 in
set_option maxHeartbeats 2000000 in
theorem rparse_no (g off n cap : Nat) (t r s a b : Int) (rest : List Int) (w : World) (h5 : Five w w g off t r s a b) (hn : n = rest.length + 5) (hc : n ≤ cap) (hm : cap ≤ maxLen) (F : HFit t r s (256 * a + b)) (ha : 0 ≤ a ∧ a < 256) (hb : 0 ≤ b ∧ b < 256) (hr : Reads w (.slice (some ⟨g, off, none⟩) n cap) (t :: r :: s :: a :: b :: rest)) (hl : n ≤ 1000000) (hk : okH t s = false) : Calls Tryd.prog 13 #[.slice (some ⟨g, off, none⟩) n cap] w (ParseE 0 0 0 0 [] 1 w) := by
  have HX := hid (h5.alloc (.cells #[.int .u8 0, .int .u8 0, .int .u8 0, .int .u16 0] 24))
  have HV := hid (rbytes_no t r s (256 * a + b) · F hk)
  obtain ⟨x5, hx5, hrd⟩ := run_from5 ⟨g, off, none⟩ n cap (by omega)
  have HR := hid (hrd w _ hr)
  clear hrd
  obtain ⟨t0, t1, r0, r1, s0, s1, q0, q1⟩ := F
  have l0 : 0 < n := by omega
  have l1 : 1 < n := by omega
  have l2 : 2 < n := by omega
  have l3 : 3 < n := by omega
  have l4 : 4 < n := by omega
  have l5 : ¬ n < 5 := by omega
  have i1 : (1 : Int) < n := by omega
  have i2 : (2 : Int) < n := by omega
  have i3 : (3 : Int) < n := by omega
  have i4 : (4 : Int) < n := by omega
  obtain ⟨a0, a1⟩ := ha
  obtain ⟨b0, b1⟩ := hb
  have HN := hid hn
  clear h5 hr hk hn
  have e1 : IntKind.u16.wrap a = a := wraps_u16 a (by omega) (by omega)
  have e2 : IntKind.u16.wrap b = b := wraps_u16 b (by omega) (by omega)
  have e3 : IntKind.u16.wrap (256 * a) = 256 * a := wraps_u16 _ (by omega) (by omega)
  have e4 : IntKind.u16.wrap (256 * a + b) = 256 * a + b := wraps_u16 _ (by omega) (by omega)
  go_enter Tryd.func13, Tryd.ntmps13
  go_wp2
  go_region_held3 (fun w' => w'.cell? ⟨g, off, none⟩ = some (.int .u8 t) ∧ w'.cell? ⟨g, off + 1, none⟩ = some (.int .u8 r) ∧ w'.cell? ⟨g, off + 2, none⟩ = some (.int .u8 s) ∧ w'.cell? ⟨g, off + 3, none⟩ = some (.int .u8 a) ∧ w'.cell? ⟨g, off + 4, none⟩ = some (.int .u8 b) ∧ Below w.heap.size w w') (first | exact HX.out.drew | exact HX.out.drew.alloc _) (first | fail)
  rename_i hH
  clear hH e1 e2 e3 e4
  go_wp2_with fail
  with_reducible refine (HV.out _).mono ?_
  rintro e w1 ⟨vb, rfl, hob, hb1, hkb⟩
  obtain ⟨xb, nb, cb, rfl⟩ := own_slice hob
  clear hob hkb
  have hop : Open4 w1 w.heap.size := Open4.step (fun j hj => by have h4 : j = 0 ∨ j = 1 ∨ j = 2 ∨ j = 3 := (by omega); (rcases h4 with rfl | rfl | rfl | rfl <;> simp [go_sem])) hb1
  have HB1 := hid (below_t (((Below.refl w.heap.size w).alloc (Nat.le_refl _) _).alloc (by simp) _).drew hb1)
  have HF := hid (show ParseE 0 0 0 0 [] 1 w _ (put4 w1 w.heap.size (.int .u8 0) (.int .u8 0) (.int .u8 0) (.int .u16 0)) from ⟨_, rfl, OwnB.nil _, put4_below _ _ _ _ HB1.out (Nat.le_refl _), fun k h => by cases h⟩)
  obtain ⟨k0, k1, k2, k3⟩ := put4_cells hop (.int .u8 0) (.int .u8 0) (.int .u8 0) (.int .u16 0)
  have HKK := hid (And.intro k0 (And.intro k1 (And.intro k2 k3)))
  obtain ⟨u0, u1, u2, u3, z0, z1, z2, z3, y0, y1, y2, y3⟩ := hop.ex
  clear hb1 hop k0 k1 k2 k3
  go_wp2
  revert HF HKK
  generalize hW : put4 w1 w.heap.size (.int .u8 0) (.int .u8 0) (.int .u8 0) (.int .u16 0) = Wf
  intro HF HKK
  obtain ⟨k0, k1, k2, k3⟩ := HKK.out
  unfold put4 at hW
  rw [hW]
  clear hW
  exact bodyPost_ret (by simp [results, Tryd.results13, go_sem, k0, k1, k2, k3]) rfl HF.out
end Go.Proofs.YtahminbgedmgcaaDoor
