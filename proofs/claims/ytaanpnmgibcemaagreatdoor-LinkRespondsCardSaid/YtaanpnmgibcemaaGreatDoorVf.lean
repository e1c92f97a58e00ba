/-
  What is told of a record: basicEvent, extendedEvent, kindOf.
-/
import Derived.Test.YtaanpnmgibcemaaGreatDoorVe
namespace Go.Proofs.YtaanpnmgibcemaaGreatDoor
open Go.RowKit Go.Lib

/-- An event, as a value. -/
def evV (x : Evt) (dv : Value) : Value := .agg #[.int .i64 x.kind, dv, .int .u8 x.hdr.t, .int .u8 x.hdr.r, .int .u8 x.hdr.s, .int .u16 x.hdr.q, .bool x.headed]
/-- A box of an event. -/
structure Box7 (w : World) (b : Nat) (v0 v1 v2 v3 v4 v5 v6 : Value) : Prop where
  c0 : w.cell? ⟨b, 0, none⟩ = some v0
  c1 : w.cell? ⟨b, 1, none⟩ = some v1
  c2 : w.cell? ⟨b, 2, none⟩ = some v2
  c3 : w.cell? ⟨b, 3, none⟩ = some v3
  c4 : w.cell? ⟨b, 4, none⟩ = some v4
  c5 : w.cell? ⟨b, 5, none⟩ = some v5
  c6 : w.cell? ⟨b, 6, none⟩ = some v6
  fr : ∀ i, i < 7 → w.frozen? ⟨b, i, none⟩ = false
def put7 (w : World) (b : Nat) (v0 v1 v2 v3 v4 v5 v6 : Value) : World := ((((((w.setCell ⟨b, 0, none⟩ v0).setCell ⟨b, 1, none⟩ v1).setCell ⟨b, 2, none⟩ v2).setCell ⟨b, 3, none⟩ v3).setCell ⟨b, 4, none⟩ v4).setCell ⟨b, 5, none⟩ v5).setCell ⟨b, 6, none⟩ v6
section
variable {w w' : World} {b : Nat} {v0 v1 v2 v3 v4 v5 v6 : Value}
theorem Box7.new (w : World) (t : TypeId) : Box7 (w.alloc (.cells #[v0, v1, v2, v3, v4, v5, v6] t)) w.heap.size v0 v1 v2 v3 v4 v5 v6 :=
  ⟨by simp [go_sem], by simp [go_sem], by simp [go_sem], by simp [go_sem], by simp [go_sem], by simp [go_sem], by simp [go_sem], fun i _ => by simp [go_sem]⟩
theorem Box7.lt (h : Box7 w b v0 v1 v2 v3 v4 v5 v6) : b < w.heap.size := World.block_lt_of_cell? w _ h.c0
theorem Box7.moved {S S' : List Nat} (h : Box7 w b v0 v1 v2 v3 v4 v5 v6) (m : Moved w w' S S') (hb : b ∉ S) : Box7 w' b v0 v1 v2 v3 v4 v5 v6 :=
  ⟨cell_moved m h.c0 hb, cell_moved m h.c1 hb, cell_moved m h.c2 hb, cell_moved m h.c3 hb, cell_moved m h.c4 hb, cell_moved m h.c5 hb, cell_moved m h.c6 hb, fun i hi => (World.frozen?_of_block (m.block _ h.lt hb)).trans (h.fr i hi)⟩
theorem Box7.step (h : Box7 w b v0 v1 v2 v3 v4 v5 v6) (hb : Below w.heap.size w w') : Box7 w' b v0 v1 v2 v3 v4 v5 v6 := h.moved (Moved.below hb []) (fun q => by cases q)
theorem set_o {g i j : Nat} (hij : j ≠ i) {u x : Value} (c : w.cell? ⟨g, j, none⟩ = some u) : (w.setCell ⟨g, i, none⟩ x).cell? ⟨g, j, none⟩ = some u := by
  rw [World.cell?_setCell_other _ _ _ _ (fun q => by injection q; omega)]
  exact c
theorem set_s {g i : Nat} {u x : Value} (c : w.cell? ⟨g, i, none⟩ = some u) : (w.setCell ⟨g, i, none⟩ x).cell? ⟨g, i, none⟩ = some x := World.cell?_setCell_same _ _ _ c
theorem Box7.put (h : Box7 w b v0 v1 v2 v3 v4 v5 v6) (u0 u1 u2 u3 u4 u5 u6 : Value) : Box7 (put7 w b u0 u1 u2 u3 u4 u5 u6) b u0 u1 u2 u3 u4 u5 u6 := by
  refine ⟨?_, ?_, ?_, ?_, ?_, ?_, ?_, fun i hi => by unfold put7; simp [h.fr i hi]⟩
  · exact set_o (by omega) (set_o (by omega) (set_o (by omega) (set_o (by omega) (set_o (by omega) (set_o (by omega) (set_s h.c0))))))
  · exact set_o (by omega) (set_o (by omega) (set_o (by omega) (set_o (by omega) (set_o (by omega) (set_s (set_o (by omega) h.c1))))))
  · exact set_o (by omega) (set_o (by omega) (set_o (by omega) (set_o (by omega) (set_s (set_o (by omega) (set_o (by omega) h.c2))))))
  · exact set_o (by omega) (set_o (by omega) (set_o (by omega) (set_s (set_o (by omega) (set_o (by omega) (set_o (by omega) h.c3))))))
  · exact set_o (by omega) (set_o (by omega) (set_s (set_o (by omega) (set_o (by omega) (set_o (by omega) (set_o (by omega) h.c4))))))
  · exact set_o (by omega) (set_s (set_o (by omega) (set_o (by omega) (set_o (by omega) (set_o (by omega) (set_o (by omega) h.c5))))))
  · exact set_s (set_o (by omega) (set_o (by omega) (set_o (by omega) (set_o (by omega) (set_o (by omega) (set_o (by omega) h.c6))))))
theorem Moved.late7 {w w1 : World} {S S' : List Nat} (m : Moved w w1 S S') {b : Nat} (hb : w.heap.size ≤ b) (v0 v1 v2 v3 v4 v5 v6 : Value) : Moved w (put7 w1 b v0 v1 v2 v3 v4 v5 v6) S S' :=
  ((((((m.late hb 0 v0).late hb 1 v1).late hb 2 v2).late hb 3 v3).late hb 4 v4).late hb 5 v5).late hb 6 v6
theorem put7_moved (w : World) (b : Nat) (v0 v1 v2 v3 v4 v5 v6 : Value) : Moved w (put7 w b v0 v1 v2 v3 v4 v5 v6) [b] [b] :=
  have h : ∀ (w : World) (i : Nat) (v : Value), Moved w (w.setCell ⟨b, i, none⟩ v) [b] [b] := fun w i v => Moved.set (by simp) i v
  ((((((h _ 0 v0).trans (h _ 1 v1)).trans (h _ 2 v2)).trans (h _ 3 v3)).trans (h _ 4 v4)).trans (h _ 5 v5)).trans (h _ 6 v6)
end
set_option maxRecDepth 100000 in
theorem kindOf_any (t r s q : Int) (w : World) : Calls Tryz.prog 110 #[.agg #[.int .u8 t, .int .u8 r, .int .u8 s, .int .u16 q]] w fun e w' => e = .returned (.int .i64 (kindH t)) ∧ Below w.heap.size w w' := by
  have HB := hid (bal (Below.refl w.heap.size w) (.cells #[.int .u8 t, .int .u8 r, .int .u8 s, .int .u16 q] 54))
  by_cases h0 : t = 0
  · rw [show kindH t = 1 from if_pos h0]
    subst h0
    go_enter Tryz.func110, Tryz.ntmps110
    go_wp2
    go_ret
    exact ⟨rfl, HB.out⟩
  · have e0 : (t == 0) = false := by simpa using h0
    by_cases h5 : t = 5
    · rw [show kindH t = 2 by unfold kindH; rw [if_neg h0, if_pos h5]]
      subst h5
      go_enter Tryz.func110, Tryz.ntmps110
      go_wp2
      go_ret
      exact ⟨rfl, HB.out⟩
    · have e5 : (t == 5) = false := by simpa using h5
      by_cases h2 : t = 2
      · rw [show kindH t = 3 by unfold kindH; rw [if_neg h0, if_neg h5, if_pos h2]]
        subst h2
        go_enter Tryz.func110, Tryz.ntmps110
        go_wp2
        go_ret
        exact ⟨rfl, HB.out⟩
      · have e2 : (t == 2) = false := by simpa using h2
        rw [show kindH t = 4 by unfold kindH; rw [if_neg h0, if_neg h5, if_neg h2]]
        clear h0 h5 h2
        go_enter Tryz.func110, Tryz.ntmps110
        go_wp2
        go_ret
        exact ⟨rfl, HB.out⟩
/-- An event is told of a record. -/
def EvD (x : Evt) (dv : Value) (w : World) (e : Ending) (w' : World) : Prop := e = .returned (evV x dv) ∧ Below w.heap.size w w'
set_option maxRecDepth 100000 in
set_option maxHeartbeats 1000000 in
theorem basicEvent_any (x : Option Addr) (n cc : Nat) (lg : Bool) (rc : List Int) (w : World) : Calls Tryz.prog 94 #[.agg #[.slice x n cc, .bool lg]] w (EvD (evtOf 1 rc lg) (if lg = true then .slice none 0 0 else .slice x n cc) w) := by
  cases lg
  · go_enter Tryz.func94, Tryz.ntmps94
    go_wp2
    exact bodyPost_ret (v := evV (evtOf 1 rc false) (.slice x n cc)) (by simp [results, Tryz.results94, go_sem, evV, evtOf, noH]) rfl ⟨rfl, bal (bal (Below.refl _ _) _) _⟩
  · go_enter Tryz.func94, Tryz.ntmps94
    go_wp2
    exact bodyPost_ret (v := evV (evtOf 1 rc true) (.slice none 0 0)) (by simp [results, Tryz.results94, go_sem, evV, evtOf, noH]) rfl ⟨rfl, bal (bal (Below.refl _ _) _) _⟩
theorem reads_row {w : World} {v : Value} {xs : List Int} (h : Reads w v xs) (hx : xs ≠ []) : ∃ g off cap, v = .slice (some ⟨g, off, none⟩) xs.length cap ∧ xs.length ≤ cap ∧ cap ≤ maxLen ∧ ∀ i, i < xs.length → w.cell? ⟨g, off + i, none⟩ = some (.int .u8 (xs.getD i 0)) := by
  rcases h.2 with ⟨_, e⟩ | ⟨a, cap, rfl, h1, h2, h3⟩
  · exact absurd e hx
  · have hp : 0 < xs.length := by
      rcases xs with _ | ⟨x, xs⟩
      · exact absurd rfl hx
      · simp
    have c0 := h3 0 hp
    obtain ⟨g, off, spot⟩ := a
    obtain rfl : spot = none := by simpa [Addr.add] using World.cell?_spot c0
    exact ⟨g, off, cap, rfl, h1, h2, fun i hi => by have := h3 i hi; rwa [addr_add] at this⟩
theorem reads_len {w : World} {x : Option Addr} {n c : Nat} {xs : List Int} (h : Reads w (.slice x n c) xs) : n = xs.length := by
  rcases h.2 with ⟨e, h1⟩ | ⟨a', cap', e, _⟩
  · simp only [Value.slice.injEq] at e
    rw [h1, e.2.1]
    rfl
  · simp only [Value.slice.injEq] at e
    exact e.2.1
theorem hfit_of {t r s a b : Int} (ht : 0 ≤ t ∧ t < 256) (hr : 0 ≤ r ∧ r < 256) (hs : 0 ≤ s ∧ s < 256) (ha : 0 ≤ a ∧ a < 256) (hb : 0 ≤ b ∧ b < 256) : Hd.HFit t r s (256 * a + b) := ⟨ht.1, ht.2, hr.1, hr.2, hs.1, hs.2, by omega, by omega⟩
theorem parse_no (v : Value) (rc : List Int) (w : World) (h : Reads w v rc) (hl : rc.length ≤ 100000) (hp : parseL rc = none) : ∃ er : Int, er ≠ 0 ∧ Calls Tryz.prog 109 #[v] w (Hd.ParseE 0 0 0 0 [] er w) := by
  rcases rc with _ | ⟨t, _ | ⟨r, _ | ⟨s, _ | ⟨a, _ | ⟨b, rest⟩⟩⟩⟩⟩
  iterate 5
    · obtain ⟨x, n, c, rfl⟩ := Tn.reads_any_slice h
      exact ⟨2, by decide, Hd.parse_short x n c w (by rw [reads_len h]; simp)⟩
  · obtain ⟨g, off, cap, rfl, h1, h2, h3⟩ := reads_row h (by simp)
    have hb := h.1
    simp at hb
    obtain ⟨ht, hr, hs, ha, hb', _⟩ := hb
    have hk : Hd.okH t s = false := by
      cases e : Hd.okH t s
      · rfl
      · simp [parseL, e] at hp
    refine ⟨1, by decide, ?_⟩
    have c0 := h3 0 (by simp)
    have c1 := h3 1 (by simp)
    have c2 := h3 2 (by simp)
    have c3 := h3 3 (by simp)
    have c4 := h3 4 (by simp)
    exact Hd.parse_no g off _ cap t r s a b rest w ⟨c0, c1, c2, c3, c4, Below.refl _ _⟩ (by simp) h1 h2 (hfit_of ht hr hs ha hb') ha hb' h (by simp at hl ⊢; omega) hk
theorem parse_yes (v : Value) (rc : List Int) (x : Hdr) (rest : List Int) (w : World) (h : Reads w v rc) (hl : rc.length ≤ 100000) (hp : parseL rc = some (x, rest)) : Hd.HFit x.t x.r x.s x.q ∧ Calls Tryz.prog 109 #[v] w (Hd.ParseE x.t x.r x.s x.q rest 0 w) := by
  rcases rc with _ | ⟨t, _ | ⟨r, _ | ⟨s, _ | ⟨a, _ | ⟨b, rest'⟩⟩⟩⟩⟩
  iterate 5
    · cases hp
  · obtain ⟨g, off, cap, rfl, h1, h2, h3⟩ := reads_row h (by simp)
    have hb := h.1
    simp at hb
    obtain ⟨ht, hr, hs, ha, hb', _⟩ := hb
    cases hk : Hd.okH t s
    · simp [parseL, hk] at hp
    · simp only [parseL, hk, if_true, Option.some.injEq, Prod.mk.injEq] at hp
      obtain ⟨rfl, rfl⟩ := hp
      have c0 := h3 0 (by simp)
      have c1 := h3 1 (by simp)
      have c2 := h3 2 (by simp)
      have c3 := h3 3 (by simp)
      have c4 := h3 4 (by simp)
      exact ⟨hfit_of ht hr hs ha hb', Hd.parse_ok g off _ cap t r s a b rest' w ⟨c0, c1, c2, c3, c4, Below.refl _ _⟩ (by simp) h1 h2 (hfit_of ht hr hs ha hb') ha hb' h (by simp at hl ⊢; omega) hk⟩
/-- A box of an event that may be written. -/
def Open7 (w : World) (b : Nat) : Prop := ∀ j, j < 7 → (w.cell? ⟨b, j, none⟩).isSome = true ∧ w.frozen? ⟨b, j, none⟩ = false
theorem Open7.step {w w' : World} {b : Nat} (h : Open7 w b) (hb : Below w.heap.size w w') : Open7 w' b := fun j hj => by
  obtain ⟨v, hv⟩ := Option.isSome_iff_exists.1 (h j hj).1
  exact ⟨by rw [keepc hb hv]; rfl, (World.frozen?_of_block (hb.block b (World.block_lt_of_cell? w _ hv))).trans (h j hj).2⟩
theorem Box7.opened {w : World} {b : Nat} {v0 v1 v2 v3 v4 v5 v6 : Value} (h : Box7 w b v0 v1 v2 v3 v4 v5 v6) : Open7 w b := fun j hj => by
  refine ⟨?_, h.fr j hj⟩
  have hj' : j = 0 ∨ j = 1 ∨ j = 2 ∨ j = 3 ∨ j = 4 ∨ j = 5 ∨ j = 6 := by omega
  rcases hj' with rfl | rfl | rfl | rfl | rfl | rfl | rfl
  · rw [h.c0]; rfl
  · rw [h.c1]; rfl
  · rw [h.c2]; rfl
  · rw [h.c3]; rfl
  · rw [h.c4]; rfl
  · rw [h.c5]; rfl
  · rw [h.c6]; rfl
theorem Open7.ex {w : World} {b : Nat} (h : Open7 w b) : ∃ v0 v1 v2 v3 v4 v5 v6, Box7 w b v0 v1 v2 v3 v4 v5 v6 := by
  obtain ⟨u0, h0⟩ := Option.isSome_iff_exists.1 (h 0 (by omega)).1
  obtain ⟨u1, h1⟩ := Option.isSome_iff_exists.1 (h 1 (by omega)).1
  obtain ⟨u2, h2⟩ := Option.isSome_iff_exists.1 (h 2 (by omega)).1
  obtain ⟨u3, h3⟩ := Option.isSome_iff_exists.1 (h 3 (by omega)).1
  obtain ⟨u4, h4⟩ := Option.isSome_iff_exists.1 (h 4 (by omega)).1
  obtain ⟨u5, h5⟩ := Option.isSome_iff_exists.1 (h 5 (by omega)).1
  obtain ⟨u6, h6⟩ := Option.isSome_iff_exists.1 (h 6 (by omega)).1
  exact ⟨u0, u1, u2, u3, u4, u5, u6, h0, h1, h2, h3, h4, h5, h6, fun i hi => (h i hi).2⟩
theorem hdo_kept {w0 w w' : World} {g b : Nat} {t r s q : Int} (h : w.cell? ⟨g, 0, none⟩ = some (.int .u8 t) ∧ w.cell? ⟨g, 1, none⟩ = some (.int .u8 r) ∧ w.cell? ⟨g, 2, none⟩ = some (.int .u8 s) ∧ w.cell? ⟨g, 3, none⟩ = some (.int .u16 q) ∧ Below w0.heap.size w0 w ∧ Open7 w b) (hb : Below w.heap.size w w') : w'.cell? ⟨g, 0, none⟩ = some (.int .u8 t) ∧ w'.cell? ⟨g, 1, none⟩ = some (.int .u8 r) ∧ w'.cell? ⟨g, 2, none⟩ = some (.int .u8 s) ∧ w'.cell? ⟨g, 3, none⟩ = some (.int .u16 q) ∧ Below w0.heap.size w0 w' ∧ Open7 w' b := by
  obtain ⟨h1, h2, h3, h4, h6, h7⟩ := h
  exact ⟨keepc hb h1, keepc hb h2, keepc hb h3, keepc hb h4, below_t h6 hb, h7.step hb⟩
theorem hdo_put {w0 w : World} {g b : Nat} {t r s q : Int} (h : w.cell? ⟨g, 0, none⟩ = some (.int .u8 t) ∧ w.cell? ⟨g, 1, none⟩ = some (.int .u8 r) ∧ w.cell? ⟨g, 2, none⟩ = some (.int .u8 s) ∧ w.cell? ⟨g, 3, none⟩ = some (.int .u16 q) ∧ Below w0.heap.size w0 w ∧ Open7 w b) (hgb : g ≠ b) (hb : w0.heap.size ≤ b) (v0 v1 v2 v3 v4 v5 v6 : Value) : (put7 w b v0 v1 v2 v3 v4 v5 v6).cell? ⟨g, 0, none⟩ = some (.int .u8 t) ∧ (put7 w b v0 v1 v2 v3 v4 v5 v6).cell? ⟨g, 1, none⟩ = some (.int .u8 r) ∧ (put7 w b v0 v1 v2 v3 v4 v5 v6).cell? ⟨g, 2, none⟩ = some (.int .u8 s) ∧ (put7 w b v0 v1 v2 v3 v4 v5 v6).cell? ⟨g, 3, none⟩ = some (.int .u16 q) ∧ Below w0.heap.size w0 (put7 w b v0 v1 v2 v3 v4 v5 v6) ∧ Open7 (put7 w b v0 v1 v2 v3 v4 v5 v6) b := by
  obtain ⟨h1, h2, h3, h4, h6, h7⟩ := h
  obtain ⟨u0, u1, u2, u3, u4, u5, u6, hx⟩ := h7.ex
  have m := put7_moved w b v0 v1 v2 v3 v4 v5 v6
  have hn : g ∉ [b] := fun e => hgb (List.mem_singleton.1 e)
  exact ⟨cell_moved m h1 hn, cell_moved m h2 hn, cell_moved m h3 hn, cell_moved m h4 hn, ((Moved.below h6 []).late7 hb v0 v1 v2 v3 v4 v5 v6).toBelow (Nat.le_refl _) (fun _ q => by cases q), (hx.put v0 v1 v2 v3 v4 v5 v6).opened⟩
end Go.Proofs.YtaanpnmgibcemaaGreatDoor
