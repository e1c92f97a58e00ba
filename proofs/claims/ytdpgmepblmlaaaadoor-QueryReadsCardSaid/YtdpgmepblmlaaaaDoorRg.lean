/-
  sfield: what the data behind a partition mean.
-/
import Derived.Test.YtdpgmepblmlaaaaDoorRf
import Derived.BigQuiet
namespace Go.Proofs.YtdpgmepblmlaaaaDoor
open Go.RowKit Go.Lib Go.Deep

def acV (a : AcD) (cv rv : Value) : Value := .agg #[.int .i64 a.kind, .int .i64 a.cmd, .int .i64 a.mode, .bool a.alt, .int .u8 a.req, cv, rv]
/-- An act and where its bytes lie, of one's own. -/
def ActM (w w' : World) (a : AcD) (cv rv : Value) : Prop := OwnB w' cv a.codes ∧ OwnB w' rv a.rcd ∧ Below w.heap.size w w' ∧ (∀ k ∈ blkV cv, w.heap.size ≤ k) ∧ ∀ k ∈ blkV rv, w.heap.size ≤ k
def MeanD (m : AcD × Bool) (w : World) (e : Ending) (w' : World) : Prop := ∃ cv rv, e = .returned (.tuple #[acV m.1 cv rv, .bool m.2]) ∧ ActM w w' m.1 cv rv
theorem mean_plain {m : AcD × Bool} {w w' : World} (hc : m.1.codes = []) (hr : m.1.rcd = []) (hb : Below w.heap.size w w') : MeanD m w (.returned (.tuple #[acV m.1 (.slice none 0 0) (.slice none 0 0), .bool m.2])) w' :=
  ⟨_, _, rfl, by rw [hc]; exact OwnB.nil _, by rw [hr]; exact OwnB.nil _, hb, fun _ q => (by cases q), fun _ q => (by cases q)⟩
/-- A box of seven cells that may be written. -/
def Opn7 (w : World) (b : Nat) : Prop := ∃ v0 v1 v2 v3 v4 v5 v6, Box7 w b v0 v1 v2 v3 v4 v5 v6
theorem Opn7.out {w : World} {b : Nat} (h : Opn7 w b) : ∃ v0 v1 v2 v3 v4 v5 v6, w.cell? ⟨b, 0, none⟩ = some v0 ∧ w.cell? ⟨b, 1, none⟩ = some v1 ∧ w.cell? ⟨b, 2, none⟩ = some v2 ∧ w.cell? ⟨b, 3, none⟩ = some v3 ∧ w.cell? ⟨b, 4, none⟩ = some v4 ∧ w.cell? ⟨b, 5, none⟩ = some v5 ∧ w.cell? ⟨b, 6, none⟩ = some v6 ∧ w.frozen? ⟨b, 0, none⟩ = false ∧ w.frozen? ⟨b, 1, none⟩ = false ∧ w.frozen? ⟨b, 2, none⟩ = false ∧ w.frozen? ⟨b, 3, none⟩ = false ∧ w.frozen? ⟨b, 4, none⟩ = false ∧ w.frozen? ⟨b, 5, none⟩ = false ∧ w.frozen? ⟨b, 6, none⟩ = false := by
  obtain ⟨v0, v1, v2, v3, v4, v5, v6, h⟩ := h
  exact ⟨v0, v1, v2, v3, v4, v5, v6, h.c0, h.c1, h.c2, h.c3, h.c4, h.c5, h.c6, h.fr 0 (by omega), h.fr 1 (by omega), h.fr 2 (by omega), h.fr 3 (by omega), h.fr 4 (by omega), h.fr 5 (by omega), h.fr 6 (by omega)⟩
theorem Opn7.lt {w : World} {b : Nat} (h : Opn7 w b) : b < w.heap.size := by
  obtain ⟨_, _, _, _, _, _, _, h⟩ := h
  exact h.lt
theorem Opn7.step {w w' : World} {b : Nat} (h : Opn7 w b) (hb : Below w.heap.size w w') : Opn7 w' b := by
  obtain ⟨v0, v1, v2, v3, v4, v5, v6, h⟩ := h
  exact ⟨v0, v1, v2, v3, v4, v5, v6, h.step hb⟩
theorem Opn7.put {w : World} {b : Nat} (h : Opn7 w b) (u0 u1 u2 u3 u4 u5 u6 : Value) : Box7 (put7 w b u0 u1 u2 u3 u4 u5 u6) b u0 u1 u2 u3 u4 u5 u6 := by
  obtain ⟨v0, v1, v2, v3, v4, v5, v6, h⟩ := h
  exact h.put u0 u1 u2 u3 u4 u5 u6
theorem put7_below {w0 w : World} {b : Nat} (h : Below w0.heap.size w0 w) (hb : w0.heap.size ≤ b) (u0 u1 u2 u3 u4 u5 u6 : Value) : Below w0.heap.size w0 (put7 w b u0 u1 u2 u3 u4 u5 u6) :=
  ((((((h.setCell (by exact hb) _).setCell (by exact hb) _).setCell (by exact hb) _).setCell (by exact hb) _).setCell (by exact hb) _).setCell (by exact hb) _).setCell (by exact hb) _
theorem put7_own {w : World} {b : Nat} {v : Value} {xs : List Int} (h : OwnB w v xs) (hk : ∀ k ∈ blkV v, b < k) (u0 u1 u2 u3 u4 u5 u6 : Value) : OwnB (put7 w b u0 u1 u2 u3 u4 u5 u6) v xs :=
  h.moved (put7_moved w b u0 u1 u2 u3 u4 u5 u6) (fun k hk1 hk2 => by have := hk k hk1; have := List.mem_singleton.1 hk2; omega)
/-- An old cell, beside a box that may be written. -/
abbrev Sev (w0 w : World) (g o B : Nat) (a : Int) : Prop := w.cell? ⟨g, o, none⟩ = some (.int .u8 a) ∧ Opn7 w B ∧ Below w0.heap.size w0 w
theorem sev_step {w0 w w' : World} {g o B : Nat} {a : Int} (h : w.cell? ⟨g, o, none⟩ = some (.int .u8 a) ∧ Opn7 w B ∧ Below w0.heap.size w0 w) (hb : Below w.heap.size w w') : Sev w0 w' g o B a := ⟨keepc hb h.1, h.2.1.step hb, below_t h.2.2 hb⟩
theorem Sev.drew {w0 w : World} {g o B : Nat} {a : Int} (h : Sev w0 w g o B a) : Sev w0 w.drew g o B a := sev_step h (Below.refl _ _).drew
theorem sev_below {w0 w : World} {g o B : Nat} {a : Int} (h : w.cell? ⟨g, o, none⟩ = some (.int .u8 a) ∧ Opn7 w B ∧ Below w0.heap.size w0 w) : Below w0.heap.size w0 w := h.2.2
theorem sev_put {w0 w : World} {g o B : Nat} {a : Int} (h : w.cell? ⟨g, o, none⟩ = some (.int .u8 a) ∧ Opn7 w B ∧ Below w0.heap.size w0 w) (hB : w0.heap.size ≤ B) (hg : g < w0.heap.size) (u0 u1 u2 u3 u4 u5 u6 : Value) : Sev w0 (((((((w.setCell ⟨B, 0, none⟩ u0).setCell ⟨B, 1, none⟩ u1).setCell ⟨B, 2, none⟩ u2).setCell ⟨B, 3, none⟩ u3).setCell ⟨B, 4, none⟩ u4).setCell ⟨B, 5, none⟩ u5).setCell ⟨B, 6, none⟩ u6) g o B a :=
  ⟨cell_moved (put7_moved w B u0 u1 u2 u3 u4 u5 u6) h.1 (fun q => by have := List.mem_singleton.1 q; have h2 : g = B := this; omega), ⟨_, _, _, _, _, _, _, h.2.1.put u0 u1 u2 u3 u4 u5 u6⟩, put7_below h.2.2 hB _ _ _ _ _ _ _⟩
theorem sev_clone {w0 w w2 : World} {g o B : Nat} {a : Int} {v : Value} {xs : List Int} (ho : OwnB w2 v xs) (hb : Below w.heap.size w w2) (hk : ∀ k ∈ blkV v, w.heap.size ≤ k) (h : w.cell? ⟨g, o, none⟩ = some (.int .u8 a) ∧ Opn7 w B ∧ Below w0.heap.size w0 w) : OwnB w2 v xs ∧ (∀ k ∈ blkV v, B < k) ∧ Below w0.heap.size w0 w2 ∧ Opn7 w2 B :=
  ⟨ho, fun k h' => Nat.lt_of_lt_of_le h.2.1.lt (hk k h'), below_t h.2.2 hb, h.2.1.step hb⟩
set_option maxRecDepth 100000 in
theorem createAct_any (v : Value) (xs : List Int) (w : World) (h : Reads w v xs) : Calls Tryd.prog 52 #[v] w (MeanD (createM xs) w) := by
  have HE := hid (fun w' hb => mean_plain (m := createM xs) (w := w) (w' := w') rfl rfl hb)
  obtain ⟨x, c, rfl⟩ := reads_sl h
  clear h
  go_enter Tryd.func52, Tryd.ntmps52
  go_wp2
  refine bodyPost_ret (v := .tuple #[.agg #[.int .i64 6, .int .i64 0, .int .i64 0, .bool false, .int .u8 0, .slice none 0 0, .slice none 0 0], .bool true]) (by simp [results, Tryd.results52, go_sem]) rfl (HE.out _ ?_)
  exact (Below.refl _ _).alloc (Nat.le_refl _) _
set_option maxRecDepth 100000 in
theorem destroyAct_any (v : Value) (xs : List Int) (w : World) (h : Reads w v xs) : Calls Tryd.prog 53 #[v] w (MeanD (destroyM xs) w) := by
  have HE := hid (fun w' hb => mean_plain (m := destroyM xs) (w := w) (w' := w') rfl rfl hb)
  obtain ⟨x, c, rfl⟩ := reads_sl h
  clear h
  match xs with
  | [] =>
    go_enter Tryd.func53, Tryd.ntmps53
    go_wp2
    refine bodyPost_ret (v := .tuple #[.agg #[.int .i64 7, .int .i64 0, .int .i64 0, .bool false, .int .u8 0, .slice none 0 0, .slice none 0 0], .bool true]) (by simp [results, Tryd.results53, go_sem]) rfl (HE.out _ ?_)
    exact (Below.refl _ _).alloc (Nat.le_refl _) _
  | a :: r =>
    obtain ⟨n, hn⟩ : ∃ n, (a :: r).length = n := ⟨_, rfl⟩
    rw [hn]
    have h0 : ((n : Int) == 0) = false := by rw [List.length_cons] at hn; simp; omega
    clear hn
    go_enter Tryd.func53, Tryd.ntmps53
    go_wp2
    refine bodyPost_ret (v := .tuple #[.agg #[.int .i64 7, .int .i64 0, .int .i64 0, .bool false, .int .u8 0, .slice none 0 0, .slice none 0 0], .bool false]) (by simp [results, Tryd.results53, go_sem]) rfl (HE.out _ ?_)
    exact (Below.refl _ _).alloc (Nat.le_refl _) _
set_option maxRecDepth 100000 in
theorem activateAct_any (v : Value) (xs : List Int) (w : World) (h : Reads w v xs) : Calls Tryd.prog 54 #[v] w (MeanD (activateM xs) w) := by
  have HE := hid (fun w' hb => mean_plain (m := activateM xs) (w := w) (w' := w') rfl rfl hb)
  obtain ⟨x, c, rfl⟩ := reads_sl h
  clear h
  match xs with
  | [] =>
    go_enter Tryd.func54, Tryd.ntmps54
    go_wp2
    refine bodyPost_ret (v := .tuple #[.agg #[.int .i64 8, .int .i64 0, .int .i64 0, .bool false, .int .u8 0, .slice none 0 0, .slice none 0 0], .bool true]) (by simp [results, Tryd.results54, go_sem]) rfl (HE.out _ ?_)
    exact (Below.refl _ _).alloc (Nat.le_refl _) _
  | a :: r =>
    obtain ⟨n, hn⟩ : ∃ n, (a :: r).length = n := ⟨_, rfl⟩
    rw [hn]
    have h0 : ((n : Int) == 0) = false := by rw [List.length_cons] at hn; simp; omega
    clear hn
    go_enter Tryd.func54, Tryd.ntmps54
    go_wp2
    refine bodyPost_ret (v := .tuple #[.agg #[.int .i64 8, .int .i64 0, .int .i64 0, .bool false, .int .u8 0, .slice none 0 0, .slice none 0 0], .bool false]) (by simp [results, Tryd.results54, go_sem]) rfl (HE.out _ ?_)
    exact (Below.refl _ _).alloc (Nat.le_refl _) _
def reqB (b : Int) : Bool := decide (b = 0 ∨ b = 64 ∨ b = 128)
set_option maxRecDepth 100000 in
theorem isRequest_any (b : Int) (w : World) : Calls Tryd.prog 84 #[.int .u8 b] w fun e w' => e = .returned (.bool (reqB b)) ∧ w = w' := by
  by_cases h0 : b = 0
  · subst h0
    go_enter Tryd.func84, Tryd.ntmps84
    go_wp2
    go_ret
    exact ⟨rfl, rfl⟩
  by_cases h1 : b = 64
  · subst h1
    go_enter Tryd.func84, Tryd.ntmps84
    go_wp2
    go_ret
    exact ⟨rfl, rfl⟩
  by_cases h2 : b = 128
  · subst h2
    go_enter Tryd.func84, Tryd.ntmps84
    go_wp2
    go_ret
    exact ⟨rfl, rfl⟩
  have e : reqB b = false := by unfold reqB; simp [h0, h1, h2]
  have e0 : (b == 0) = false := by simpa using h0
  have e1 : (b == 64) = false := by simpa using h1
  have e2 : (b == 128) = false := by simpa using h2
  rw [e]
  clear e h0 h1 h2
  go_enter Tryd.func84, Tryd.ntmps84
  go_wp2
  go_ret
  exact ⟨rfl, rfl⟩
set_option maxRecDepth 100000 in
set_option maxHeartbeats 2000000 in
theorem listAct_any (v : Value) (xs : List Int) (w : World) (h : Reads w v xs) (hl : xs.length ≤ 10000000) : Calls Tryd.prog 72 #[v] w (MeanD (listM xs) w) := by
  rcases reads_cons h with ⟨x, c, rfl, rfl⟩ | ⟨g, o, c, r, q, hq, rfl, rfl, c0, hc, hm⟩
  · have HE := hid (fun w' hb => mean_plain (m := listM []) (w := w) (w' := w') rfl rfl hb)
    clear h
    go_enter Tryd.func72, Tryd.ntmps72
    go_wp2
    refine bodyPost_ret (v := .tuple #[.agg #[.int .i64 0, .int .i64 0, .int .i64 0, .bool false, .int .u8 0, .slice none 0 0, .slice none 0 0], .bool false]) (by simp [results, Tryd.results72, go_sem]) rfl (HE.out _ ?_)
    exact (Below.refl _ _).alloc (Nat.le_refl _) _
  · have HIR := hid (isRequest_any q)
    have hgl : g < w.heap.size := World.block_lt_of_cell? w _ c0
    by_cases hr : (q : Int) = 0 ∨ (q : Int) = 64 ∨ (q : Int) = 128
    · have e : listM ((q : Int) :: r) = (⟨2, 0, 0, false, q, r, []⟩, true) := by rw [listM_cons, if_pos hr]
      have eq : reqB q = true := by unfold reqB; exact decide_eq_true hr
      rw [e]
      rw [eq] at HIR
      obtain ⟨xs, cs, hsl0, hrd⟩ := from_all h 1 (by simp)
      have hdr : ((q : Int) :: r).drop 1 = r := rfl
      rw [hdr] at hrd
      have hlen : ((q : Int) :: r).length - 1 = r.length := by simp
      rw [hlen] at hsl0 hrd
      have HCL := hid (fun W (hW : Below w.heap.size w W) => clone_any _ r W (hrd W (reads_below h hW)) (by simp at hl; omega))
      have hn0 : (((r.length + 1 : Nat) : Int) == 0) = false := by simp; omega
      have hn1 : (0 : Int) < ((r.length + 1 : Nat) : Int) := by omega
      have hl0 : 0 < r.length + 1 := by omega
      generalize r.length = n at *
      obtain ⟨N, hN⟩ : ∃ N, n + 1 = N := ⟨_, rfl⟩
      rw [hN] at hn0 hn1 hl0 hsl0 ⊢
      have hsl : ∀ w', (Instr.sliceAt 22 (.slice (some ⟨g, o, none⟩) N c) (some (.int .i64 1)) none none).run Tryd.prog w' = .ok (.slice xs n cs) w' := hsl0
      clear h hr e eq hrd hsl0 hlen hdr hl hc hm hN
      have hbx := Box7.new (v0 := .int .i64 0) (v1 := .int .i64 0) (v2 := .int .i64 0) (v3 := .bool false) (v4 := .int .u8 0) (v5 := .slice none 0 0) (v6 := .slice none 0 0) w 38
      have HBX := hid hbx
      have HC0 := hid c0
      clear hbx
      go_enter Tryd.func72, Tryd.ntmps72
      go_wp2_with fail
      with_reducible refine (HIR.out _).mono ?_
      rintro e w1 ⟨rfl, rfl⟩
      have HX1 := hid (show Sev w (w.alloc (.cells #[.int .i64 0, .int .i64 0, .int .i64 0, .bool false, .int .u8 0, .slice none 0 0, .slice none 0 0] 38)) g o w.heap.size q from ⟨keepc (bal (Below.refl _ _) _) HC0.out, ⟨_, _, _, _, _, _, _, HBX.out⟩, bal (Below.refl _ _) _⟩)
      clear c0
      go_wp2
      go_region_held3 (fun w' => w'.cell? ⟨g, o, none⟩ = some (.int .u8 q) ∧ Opn7 w' w.heap.size ∧ Below w.heap.size w w') (first | with_reducible exact HX1.out.drew | with_reducible exact sev_step (by assumption) (by assumption) | with_reducible exact sev_put (by assumption) (Nat.le_refl _) hgl _ _ _ _ _ _ _ | fail) (first | (go_at_call 68; (with_reducible refine (HCL.out _ (sev_below (by first | assumption | with_reducible exact HX1.out.drew))).mono ?_); rintro e w2 ⟨v2, rfl, ho2, hb2, hk2⟩; have HO := hid (sev_clone ho2 hb2 hk2 (by first | assumption | with_reducible exact HX1.out.drew)); obtain ⟨xv, nv, cv, rfl⟩ := own_slice ho2; clear ho2 hk2; obtain ⟨z0, z1, z2, z3, z4, z5, z6, y0, y1, y2, y3, y4, y5, y6, y7, y8, y9, ya, yb, yc, yd⟩ := HO.out.2.2.2.out))
      rename_i hH
      clear hH hb2 y0 y1 y2 y3 y4 y5 y6 y7 y8 y9 ya yb yc yd z0 z1 z2 z3 z4 z5 z6
      obtain ⟨ho, hk, hb, hop⟩ := HO.out
      have HF := hid (show MeanD (⟨2, 0, 0, false, q, r, []⟩, true) w (.returned (.tuple #[acV ⟨2, 0, 0, false, q, r, []⟩ (.slice xv nv cv) (.slice none 0 0), .bool true])) (put7 w2 w.heap.size (.int .i64 2) (.int .i64 0) (.int .i64 0) (.bool false) (.int .u8 q) (.slice xv nv cv) (.slice none 0 0)) from
        ⟨_, _, rfl, put7_own ho hk _ _ _ _ _ _ _, OwnB.nil _, put7_below hb (Nat.le_refl _) _ _ _ _ _ _ _, fun k h => Nat.le_of_lt (hk k h), fun _ q => (by cases q)⟩)
      obtain ⟨k0, k1, k2, k3, k4, k5, k6, -⟩ := hop.put (.int .i64 2) (.int .i64 0) (.int .i64 0) (.bool false) (.int .u8 q) (.slice xv nv cv) (.slice none 0 0)
      clear ho hk hb hop HO HCL
      revert HF k0 k1 k2 k3 k4 k5 k6
      generalize hW : put7 w2 w.heap.size (.int .i64 2) (.int .i64 0) (.int .i64 0) (.bool false) (.int .u8 q) (.slice xv nv cv) (.slice none 0 0) = Wf
      intro HF k0 k1 k2 k3 k4 k5 k6
      unfold put7 at hW
      rw [hW]
      clear hW
      go_wp2
      exact bodyPost_ret (v := .tuple #[.agg #[.int .i64 2, .int .i64 0, .int .i64 0, .bool false, .int .u8 q, .slice xv nv cv, .slice none 0 0], .bool true]) (by simp [results, Tryd.results72, go_sem, k0, k1, k2, k3, k4, k5, k6]) rfl HF.out
    · have e : listM ((q : Int) :: r) = (acZ, false) := by rw [listM_cons, if_neg hr]
      have eq : reqB q = false := by unfold reqB; exact decide_eq_false hr
      have HE := hid (fun w' hb => mean_plain (m := (acZ, false)) (w := w) (w' := w') rfl rfl hb)
      rw [e]
      rw [eq] at HIR
      have hn0 : (((r.length + 1 : Nat) : Int) == 0) = false := by simp; omega
      have hn1 : (0 : Int) < ((r.length + 1 : Nat) : Int) := by omega
      have hl0 : 0 < r.length + 1 := by omega
      generalize r.length + 1 = N at *
      clear h hr e eq hl hc hm
      go_enter Tryd.func72, Tryd.ntmps72
      go_wp2_with fail
      with_reducible refine (HIR.out _).mono ?_
      rintro e w1 ⟨rfl, rfl⟩
      go_wp2
      refine bodyPost_ret (v := .tuple #[.agg #[.int .i64 0, .int .i64 0, .int .i64 0, .bool false, .int .u8 0, .slice none 0 0, .slice none 0 0], .bool false]) (by simp [results, Tryd.results72, go_sem]) rfl (HE.out _ ?_)
      exact (Below.refl _ _).alloc (Nat.le_refl _) _
set_option maxRecDepth 100000 in
set_option maxHeartbeats 2000000 in
theorem modeAct_any (v : Value) (xs : List Int) (w : World) (h : Reads w v xs) : Calls Tryd.prog 51 #[v] w (MeanD (modeM xs) w) := by
  rcases reads_cons h with ⟨x, c, rfl, rfl⟩ | ⟨g, o, c, r, q, hq, rfl, rfl, c0, hc, hm⟩
  · have HE := hid (fun w' hb => mean_plain (m := modeM []) (w := w) (w' := w') rfl rfl hb)
    clear h
    go_enter Tryd.func51, Tryd.ntmps51
    go_wp2
    refine bodyPost_ret (v := .tuple #[.agg #[.int .i64 0, .int .i64 0, .int .i64 0, .bool false, .int .u8 0, .slice none 0 0, .slice none 0 0], .bool false]) (by simp [results, Tryd.results51, go_sem]) rfl (HE.out _ ?_)
    exact (Below.refl _ _).alloc (Nat.le_refl _) _
  · have hgl : g < w.heap.size := World.block_lt_of_cell? w _ c0
    have HE := hid (fun (m : AcD × Bool) (e : modeM ((q : Int) :: r) = m) (h1 : m.1.codes = []) (h2 : m.1.rcd = []) w' hb => (show MeanD (modeM ((q : Int) :: r)) w _ w' from by rw [e]; exact mean_plain (m := m) (w := w) (w' := w') h1 h2 hb))
    have hM := modeM_cons (q : Int) r
    by_cases h2 : (2 : Int) < q
    · have HE1 := hid (HE.out (acZ, false) (by rw [hM, if_pos (.inl h2)]) rfl rfl)
      have hn0 : (((r.length + 1 : Nat) : Int) == 0) = false := by simp; omega
      have hn1 : (0 : Int) < ((r.length + 1 : Nat) : Int) := by omega
      have hl0 : 0 < r.length + 1 := by omega
      generalize r.length + 1 = N at *
      clear h hc hm hM HE
      go_enter Tryd.func51, Tryd.ntmps51
      go_wp2
      refine bodyPost_ret (v := .tuple #[.agg #[.int .i64 0, .int .i64 0, .int .i64 0, .bool false, .int .u8 0, .slice none 0 0, .slice none 0 0], .bool false]) (by simp [results, Tryd.results51, go_sem]) rfl (HE1.out _ ?_)
      exact (Below.refl _ _).alloc (Nat.le_refl _) _
    · by_cases h3 : (q : Int) < 2 ∧ r ≠ []
      · have HE1 := hid (HE.out (acZ, false) (by rw [hM, if_pos (.inr h3)]) rfl rfl)
        have hr0 : 0 < r.length := List.length_pos_iff.2 h3.2
        have hn0 : (((r.length + 1 : Nat) : Int) == 0) = false := by simp; omega
        have hn1 : (0 : Int) < ((r.length + 1 : Nat) : Int) := by omega
        have hn2 : (1 : Int) < ((r.length + 1 : Nat) : Int) := by omega
        have hn3 : 1 < r.length + 1 := by omega
        have hl0 : 0 < r.length + 1 := by omega
        have h4 := h3.1
        generalize r.length + 1 = N at *
        clear h hc hm hM HE h3 hr0
        go_enter Tryd.func51, Tryd.ntmps51
        go_wp2
        refine bodyPost_ret (v := .tuple #[.agg #[.int .i64 0, .int .i64 0, .int .i64 0, .bool false, .int .u8 0, .slice none 0 0, .slice none 0 0], .bool false]) (by simp [results, Tryd.results51, go_sem]) rfl (HE1.out _ ?_)
        exact (Below.refl _ _).alloc (Nat.le_refl _) _
      · have HE1 := hid (HE.out (⟨5, 0, q, false, 0, [], []⟩, true) (by rw [hM, if_neg (fun hh => hh.elim h2 h3)]) rfl rfl)
        have hn0 : (((r.length + 1 : Nat) : Int) == 0) = false := by simp; omega
        have hn1 : (0 : Int) < ((r.length + 1 : Nat) : Int) := by omega
        have hl0 : 0 < r.length + 1 := by omega
        have hw : IntKind.i64.wrap (q : Int) = q := wraps_i64 _ (by omega) (by omega)
        by_cases h4 : (q : Int) < 2
        · have hr : r = [] := Classical.byContradiction fun hh => h3 ⟨h4, hh⟩
          subst hr
          clear h hc hm hM HE h3
          simp only [List.length_nil, Nat.zero_add] at *
          go_enter Tryd.func51, Tryd.ntmps51
          go_wp2
          refine bodyPost_ret (v := .tuple #[.agg #[.int .i64 5, .int .i64 0, .int .i64 q, .bool false, .int .u8 0, .slice none 0 0, .slice none 0 0], .bool true]) (by simp [results, Tryd.results51, go_sem]) rfl (HE1.out _ ?_)
          exact (Below.refl _ _).alloc (Nat.le_refl _) _
        · generalize r.length + 1 = N at *
          clear h hc hm hM HE h3
          go_enter Tryd.func51, Tryd.ntmps51
          go_wp2
          refine bodyPost_ret (v := .tuple #[.agg #[.int .i64 5, .int .i64 0, .int .i64 q, .bool false, .int .u8 0, .slice none 0 0, .slice none 0 0], .bool true]) (by simp [results, Tryd.results51, go_sem]) rfl (HE1.out _ ?_)
          exact (Below.refl _ _).alloc (Nat.le_refl _) _
/-- What an erase asks for. -/
def ErD (m : Int × AcD) (w : World) (e : Ending) (w' : World) : Prop := ∃ cv rv, e = .returned (.tuple #[acV m.2 cv rv, .int .i64 m.1]) ∧ ActM w w' m.2 cv rv
theorem er_plain {m : Int × AcD} {w w' : World} (hc : m.2.codes = []) (hr : m.2.rcd = []) (hb : Below w.heap.size w w') : ErD m w (.returned (.tuple #[acV m.2 (.slice none 0 0) (.slice none 0 0), .int .i64 m.1])) w' :=
  ⟨_, _, rfl, by rw [hc]; exact OwnB.nil _, by rw [hr]; exact OwnB.nil _, hb, fun _ q => (by cases q), fun _ q => (by cases q)⟩
set_option maxRecDepth 100000 in
set_option maxHeartbeats 2000000 in
theorem eraseAct_any (v : Value) (xs : List Int) (w : World) (h : Reads w v xs) : Calls Tryd.prog 50 #[v] w (ErD (eraseM xs) w) := by
  have HE := hid (fun (m : Int × AcD) (e : eraseM xs = m) (h1 : m.2.codes = []) (h2 : m.2.rcd = []) w' hb => (show ErD (eraseM xs) w _ w' from by rw [e]; exact er_plain (m := m) (w := w) (w' := w') h1 h2 hb))
  rcases reads_cons h with ⟨x, c, rfl, rfl⟩ | ⟨g, o, c, r, q, hq, rfl, rfl, c0, hc, hm⟩
  · have HE1 := hid (HE.out (4, acZ) rfl rfl rfl)
    clear h HE
    go_enter Tryd.func50, Tryd.ntmps50
    go_wp2
    refine bodyPost_ret (v := .tuple #[.agg #[.int .i64 0, .int .i64 0, .int .i64 0, .bool false, .int .u8 0, .slice none 0 0, .slice none 0 0], .int .i64 4]) (by simp [results, Tryd.results50, go_sem]) rfl (HE1.out _ ?_)
    exact (Below.refl _ _).alloc (Nat.le_refl _) _
  · have hgl : g < w.heap.size := World.block_lt_of_cell? w _ c0
    by_cases hr : r = []
    · subst hr
      simp only [List.length_nil, Nat.zero_add] at *
      clear h hc hm
      by_cases h0 : (q : Int) = 0
      · have HE1 := hid (HE.out (0, acK 4) (by rw [h0]; rfl) rfl rfl)
        obtain rfl : q = 0 := by omega
        clear HE h0
        go_enter Tryd.func50, Tryd.ntmps50
        go_wp2
        refine bodyPost_ret (v := .tuple #[.agg #[.int .i64 4, .int .i64 0, .int .i64 0, .bool false, .int .u8 0, .slice none 0 0, .slice none 0 0], .int .i64 0]) (by simp [results, Tryd.results50, go_sem]) rfl (HE1.out _ ?_)
        exact (Below.refl _ _).alloc (Nat.le_refl _) _
      · by_cases h1 : (q : Int) = 128
        · have HE1 := hid (HE.out (0, ⟨4, 0, 0, true, 0, [], []⟩) (by rw [h1]; rfl) rfl rfl)
          obtain rfl : q = 128 := by omega
          clear HE h0 h1
          go_enter Tryd.func50, Tryd.ntmps50
          go_wp2
          refine bodyPost_ret (v := .tuple #[.agg #[.int .i64 4, .int .i64 0, .int .i64 0, .bool true, .int .u8 0, .slice none 0 0, .slice none 0 0], .int .i64 0]) (by simp [results, Tryd.results50, go_sem]) rfl (HE1.out _ ?_)
          exact (Below.refl _ _).alloc (Nat.le_refl _) _
        · have HE1 := hid (HE.out (4, acZ) (by unfold eraseM; rw [if_neg (by simpa using h0), if_neg (by simpa using h1)]) rfl rfl)
          have e0 : ((q : Int) == 0) = false := by simpa using h0
          have e1 : ((q : Int) == 128) = false := by simpa using h1
          have e2 : ((q : Int) != 0) = true := by simpa using h0
          have e3 : ((q : Int) != 128) = true := by simpa using h1
          clear HE h0 h1
          go_enter Tryd.func50, Tryd.ntmps50
          go_wp2
          refine bodyPost_ret (v := .tuple #[.agg #[.int .i64 0, .int .i64 0, .int .i64 0, .bool false, .int .u8 0, .slice none 0 0, .slice none 0 0], .int .i64 4]) (by simp [results, Tryd.results50, go_sem]) rfl (HE1.out _ ?_)
          exact (Below.refl _ _).alloc (Nat.le_refl _) _
    · have hr0 : 0 < r.length := List.length_pos_iff.2 hr
      have HE1 := hid (HE.out (4, acZ) (by unfold eraseM; rw [if_neg (fun e => hr (List.cons.inj e).2), if_neg (fun e => hr (List.cons.inj e).2)]) rfl rfl)
      have e0 : (((r.length + 1 : Nat) : Int) == 1) = false := by simp; omega
      have e1 : (((r.length + 1 : Nat) : Int) != 1) = true := by simp; omega
      generalize r.length + 1 = N at *
      clear h hc hm hr0 HE hr
      go_enter Tryd.func50, Tryd.ntmps50
      go_wp2
      refine bodyPost_ret (v := .tuple #[.agg #[.int .i64 0, .int .i64 0, .int .i64 0, .bool false, .int .u8 0, .slice none 0 0, .slice none 0 0], .int .i64 4]) (by simp [results, Tryd.results50, go_sem]) rfl (HE1.out _ ?_)
      exact (Below.refl _ _).alloc (Nat.le_refl _) _
theorem Cods.go {w w' : World} (h : Cods w) (hb : Below w.heap.size w w') : Cods w' := h.below h.2 hb
set_option maxRecDepth 100000 in
set_option maxHeartbeats 2000000 in
theorem outboundAct_any (v : Value) (xs : List Int) (w : World) (h : Reads w v xs) (hl : xs.length ≤ 10000000) (hC : Cods w) : Calls Tryd.prog 55 #[v] w (MeanD (outM xs) w) := by
  rcases reads_cons h with ⟨x, c, rfl, rfl⟩ | ⟨g, o, c, r, q, hq, rfl, rfl, c0, hc, hm⟩
  · have HE := hid (fun w' hb => mean_plain (m := outM []) (w := w) (w' := w') rfl rfl hb)
    clear h
    go_enter Tryd.func55, Tryd.ntmps55
    go_wp2
    refine bodyPost_ret (v := .tuple #[.agg #[.int .i64 0, .int .i64 0, .int .i64 0, .bool false, .int .u8 0, .slice none 0 0, .slice none 0 0], .bool false]) (by simp [results, Tryd.results55, go_sem]) rfl (HE.out _ ?_)
    exact (Below.refl _ _).alloc (Nat.le_refl _) _
  · have hgl : g < w.heap.size := World.block_lt_of_cell? w _ c0
    have HR := hid h
    have hn0 : (((r.length + 1 : Nat) : Int) == 0) = false := by simp; omega
    have hn1 : (0 : Int) < ((r.length + 1 : Nat) : Int) := by omega
    have hl0 : 0 < r.length + 1 := by omega
    generalize r.length + 1 = N at h HR hn0 hn1 hl0 hc ⊢
    have hal : Below w.heap.size w (w.alloc (.cells #[.int .i64 0, .int .i64 0, .int .i64 0, .bool false, .int .u8 0, .slice none 0 0, .slice none 0 0] 38)) := bal (Below.refl _ _) _
    have HCM := hid (command_any q hq _ (hC.go hal))
    have HBX := hid (Box7.new (v0 := .int .i64 0) (v1 := .int .i64 0) (v2 := .int .i64 0) (v3 := .bool false) (v4 := .int .u8 0) (v5 := .slice none 0 0) (v6 := .slice none 0 0) w 38)
    have HAL := hid hal
    have HM := hid (show outM ((q : Int) :: r) = (⟨9, 0, 0, false, 0, [], (q : Int) :: r⟩, (cmdF q).2 && decide ((cmdF q).1 ≤ 4)) from rfl)
    rw [HM.out]
    have HLL := hid (show ((q : Int) :: r).length ≤ 140737488355328 by omega)
    generalize cmdF (q : Int) = cm at HCM ⊢
    obtain ⟨C, F⟩ := cm
    dsimp only at HCM ⊢
    obtain ⟨Rs, hRs⟩ : ∃ Rs, (F && decide (C ≤ 4)) = Rs := ⟨_, rfl⟩
    rw [hRs]
    have HRS := hid hRs
    clear h hC hal hc hm hl hRs
    go_enter Tryd.func55, Tryd.ntmps55
    go_wp2_with fail
    with_reducible refine HCM.out.mono ?_
    rintro e w1 ⟨rfl, hb1⟩
    have HB1 := hid (below_t HAL.out hb1)
    have HBX1 := hid (HBX.out.step hb1)
    have HCL := hid (clone_any _ _ w1 (reads_below HR.out HB1.out) HLL.out)
    have hz1 := hb1.size
    clear hb1
    go_wp2_with fail
    with_reducible refine HCL.out.mono ?_
    rintro e w2 ⟨v2, rfl, ho, hb2, hk⟩
    obtain ⟨xv, nv, cv, rfl⟩ := own_slice ho
    have HOP := hid (show Opn7 w2 w.heap.size from ⟨_, _, _, _, _, _, _, HBX1.out.step hb2⟩)
    have HO := hid ho
    have HB2 := hid (below_t HB1.out hb2)
    have HK := hid (show ∀ k ∈ blkV (.slice xv nv cv), w.heap.size < k from fun k q => by have := hk k q; simp at hz1; omega)
    obtain ⟨z0, z1, z2, z3, z4, z5, z6, y0, y1, y2, y3, y4, y5, y6, y7, y8, y9, ya, yb, yc, yd⟩ := HOP.out.out
    clear ho hb2 hk hz1 c0
    have HQ := HRS.out
    cases F
    · obtain rfl : Rs = false := by rw [← HQ]; rfl
      clear HQ
      go_wp2
      obtain ⟨k0, k1, k2, k3, k4, k5, k6, -⟩ := Opn7.put (w := w2) (b := w.heap.size) HOP.out (.int .i64 9) (.int .i64 0) (.int .i64 0) (.bool false) (.int .u8 0) (.slice none 0 0) (.slice xv nv cv)
      have HF := hid (show MeanD (⟨9, 0, 0, false, 0, [], (q : Int) :: r⟩, false) w (.returned (.tuple #[acV ⟨9, 0, 0, false, 0, [], (q : Int) :: r⟩ (.slice none 0 0) (.slice xv nv cv), .bool false])) (put7 w2 w.heap.size (.int .i64 9) (.int .i64 0) (.int .i64 0) (.bool false) (.int .u8 0) (.slice none 0 0) (.slice xv nv cv)) from ⟨_, _, rfl, OwnB.nil _, put7_own HO.out HK.out _ _ _ _ _ _ _, put7_below HB2.out (Nat.le_refl _) _ _ _ _ _ _ _, fun _ q => (by cases q), fun k q => Nat.le_of_lt (HK.out k q)⟩)
      revert HF k0 k1 k2 k3 k4 k5 k6
      generalize hW : put7 w2 w.heap.size (.int .i64 9) (.int .i64 0) (.int .i64 0) (.bool false) (.int .u8 0) (.slice none 0 0) (.slice xv nv cv) = Wf
      intro k0 k1 k2 k3 k4 k5 k6 HF
      unfold put7 at hW
      rw [hW]
      exact bodyPost_ret (v := .tuple #[.agg #[.int .i64 9, .int .i64 0, .int .i64 0, .bool false, .int .u8 0, .slice none 0 0, .slice xv nv cv], .bool false]) (by simp [results, Tryd.results55, go_sem, k0, k1, k2, k3, k4, k5, k6]) rfl HF.out
    · by_cases h4 : C ≤ 4
      · obtain rfl : Rs = true := by rw [← HQ]; simpa using h4
        clear HQ
        go_wp2
        obtain ⟨k0, k1, k2, k3, k4, k5, k6, -⟩ := Opn7.put (w := w2) (b := w.heap.size) HOP.out (.int .i64 9) (.int .i64 0) (.int .i64 0) (.bool false) (.int .u8 0) (.slice none 0 0) (.slice xv nv cv)
        have HF := hid (show MeanD (⟨9, 0, 0, false, 0, [], (q : Int) :: r⟩, true) w (.returned (.tuple #[acV ⟨9, 0, 0, false, 0, [], (q : Int) :: r⟩ (.slice none 0 0) (.slice xv nv cv), .bool true])) (put7 w2 w.heap.size (.int .i64 9) (.int .i64 0) (.int .i64 0) (.bool false) (.int .u8 0) (.slice none 0 0) (.slice xv nv cv)) from ⟨_, _, rfl, OwnB.nil _, put7_own HO.out HK.out _ _ _ _ _ _ _, put7_below HB2.out (Nat.le_refl _) _ _ _ _ _ _ _, fun _ q => (by cases q), fun k q => Nat.le_of_lt (HK.out k q)⟩)
        revert HF k0 k1 k2 k3 k4 k5 k6
        generalize hW : put7 w2 w.heap.size (.int .i64 9) (.int .i64 0) (.int .i64 0) (.bool false) (.int .u8 0) (.slice none 0 0) (.slice xv nv cv) = Wf
        intro k0 k1 k2 k3 k4 k5 k6 HF
        unfold put7 at hW
        rw [hW]
        exact bodyPost_ret (v := .tuple #[.agg #[.int .i64 9, .int .i64 0, .int .i64 0, .bool false, .int .u8 0, .slice none 0 0, .slice xv nv cv], .bool true]) (by simp [results, Tryd.results55, go_sem, k0, k1, k2, k3, k4, k5, k6]) rfl HF.out
      · obtain rfl : Rs = false := by rw [← HQ]; simpa using h4
        have h5 : decide (C ≤ 4) = false := by simpa using h4
        clear HQ
        go_wp2
        obtain ⟨k0, k1, k2, k3, k4, k5, k6, -⟩ := Opn7.put (w := w2) (b := w.heap.size) HOP.out (.int .i64 9) (.int .i64 0) (.int .i64 0) (.bool false) (.int .u8 0) (.slice none 0 0) (.slice xv nv cv)
        have HF := hid (show MeanD (⟨9, 0, 0, false, 0, [], (q : Int) :: r⟩, false) w (.returned (.tuple #[acV ⟨9, 0, 0, false, 0, [], (q : Int) :: r⟩ (.slice none 0 0) (.slice xv nv cv), .bool false])) (put7 w2 w.heap.size (.int .i64 9) (.int .i64 0) (.int .i64 0) (.bool false) (.int .u8 0) (.slice none 0 0) (.slice xv nv cv)) from ⟨_, _, rfl, OwnB.nil _, put7_own HO.out HK.out _ _ _ _ _ _ _, put7_below HB2.out (Nat.le_refl _) _ _ _ _ _ _ _, fun _ q => (by cases q), fun k q => Nat.le_of_lt (HK.out k q)⟩)
        revert HF k0 k1 k2 k3 k4 k5 k6
        generalize hW : put7 w2 w.heap.size (.int .i64 9) (.int .i64 0) (.int .i64 0) (.bool false) (.int .u8 0) (.slice none 0 0) (.slice xv nv cv) = Wf
        intro k0 k1 k2 k3 k4 k5 k6 HF
        unfold put7 at hW
        rw [hW]
        exact bodyPost_ret (v := .tuple #[.agg #[.int .i64 9, .int .i64 0, .int .i64 0, .bool false, .int .u8 0, .slice none 0 0, .slice xv nv cv], .bool false]) (by simp [results, Tryd.results55, go_sem, k0, k1, k2, k3, k4, k5, k6]) rfl HF.out
end Go.Proofs.YtdpgmepblmlaaaaDoor
