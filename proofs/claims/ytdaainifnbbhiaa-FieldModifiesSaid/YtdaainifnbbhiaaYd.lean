/-
  A cell is set; a character is put; the cursor is placed: the program's.
-/
import Derived.Test.YtdaainifnbbhiaaYc
import Derived.Laws.IdiomCopy
import Derived.Laws.World
namespace Go.Proofs.Ytdaainifnbbhiaa
open Go.RowKit Go.Lib

/-- A cell is stored at a place of a row. -/
def st6 (w : World) (g q : Nat) (c : Cel) : World := w.setCells g (q * 6) c.cs
theorem st6_eq (w : World) (g q : Nat) (x0 : Int) (x1 : Bool) (x2 x3 x4 x5 : Int) : ((((((w.setCell ⟨g, q * 6, none⟩ (.int .u8 x0)).setCell ⟨g, q * 6 + 1, none⟩ (.bool x1)).setCell ⟨g, q * 6 + 2, none⟩ (.int .u8 x2)).setCell ⟨g, q * 6 + 3, none⟩ (.int .u8 x3)).setCell ⟨g, q * 6 + 4, none⟩ (.int .u8 x4)).setCell ⟨g, q * 6 + 5, none⟩ (.int .u8 x5)) = st6 w g q ⟨x0, x1, x2, x3, x4, x5⟩ := rfl
theorem moved_setCells (g : Nat) : ∀ (vs : List Value) (o : Nat) (w : World), Moved w (w.setCells g o vs) [g] [g]
  | [], _, w => Moved.refl w [g]
  | v :: vs, o, w => (Moved.set (a := w) (S := [g]) (by simp) o v).trans (moved_setCells g vs (o + 1) (w.setCell ⟨g, o, none⟩ v))
theorem st6_moved (w : World) (g q : Nat) (c : Cel) : Moved w (st6 w g q c) [g] [g] := moved_setCells g _ _ _
theorem CellsM.stored {w : World} {g : Nat} {L : List Cel} (h : CellsM w g L) (q : Nat) (hq : q < L.length) (c : Cel) : CellsM (st6 w g q c) g (L.set q c) := by
  have hs : ∀ j, j < 6 → (w.cell? ⟨g, q * 6 + j, none⟩).isSome = true := fun j hj => by
    rw [h.at_ q hq j hj]
    have : (L.getD q cel0).cs.length = 6 := rfl
    rw [List.getElem?_eq_getElem (by omega)]
    rfl
  refine ⟨fun i hi j hj => ?_, fun o => by unfold st6; rw [World.frozen?_setCells]; exact h.fr o, ?_⟩
  · rw [List.length_set] at hi
    by_cases e : i = q
    · subst e
      have := World.cell?_setCells_in g c.cs (i * 6) w (fun j hj => hs j hj) j hj
      unfold st6
      rw [this, List.getD, List.getElem?_set_self hq]
      exact (List.getElem?_eq_getElem (show j < c.cs.length from hj)).symm
    · unfold st6
      rw [World.cell?_setCells_out g c.cs (q * 6) w _ (fun _ _ => by show i * 6 + j < q * 6 ∨ q * 6 + 6 ≤ i * 6 + j; omega), h.at_ i hi j hj, List.getD, List.getD, List.getElem?_set_ne (by omega)]
  · exact Nat.lt_of_lt_of_le h.lt (st6_moved w g q c).size
theorem SpM.stored {w : World} {b g : Nat} {s : Spc} (h : SpM w b g s) (q : Nat) (hq : q < s.L.length) {c : Cel} (hc : c.OK) : SpM (st6 w g q c) b g (s.put1 q c) := by
  have hb := (st6_moved w g q c).block b h.lt.1 (by simp [h.ne])
  have k := h.ok.put1 q hc
  refine ⟨(cell_block (a := ⟨b, 0, none⟩) hb).trans h.h0, (cell_block (a := ⟨b, 1, none⟩) hb).trans h.h1, ?_, (cell_block (a := ⟨b, 3, none⟩) hb).trans h.h3, fun o => (World.frozen?_of_block (a := ⟨b, o, none⟩) hb).trans (h.fr o), h.row.stored q hq c, h.ne, k⟩
  rw [Spc.put1_len]
  exact (cell_block (a := ⟨b, 2, none⟩) hb).trans h.h2
theorem RfM.stored {w : World} {b g : Nat} {s : Spc} (h : RfM w b g s) (q : Nat) (hq : q < s.L.length) {c : Cel} (hc : c.OK) : RfM (st6 w g q c) b g (s.put1 q c) := by
  have hb := (st6_moved w g q c).block b h.lt.1 (by simp [h.ne])
  have k := h.ok.put1 q hc
  refine ⟨(cell_block (a := ⟨b, 0, none⟩) hb).trans h.h0, (cell_block (a := ⟨b, 1, none⟩) hb).trans h.h1, (cell_block (a := ⟨b, 2, none⟩) hb).trans h.h2, (cell_block (a := ⟨b, 3, none⟩) hb).trans h.h3, ?_, (cell_block (a := ⟨b, 5, none⟩) hb).trans h.h5, fun o => (World.frozen?_of_block (a := ⟨b, o, none⟩) hb).trans (h.fr o), h.row.stored q hq c, h.ne, k⟩
  rw [Spc.put1_len]
  exact (cell_block (a := ⟨b, 4, none⟩) hb).trans h.h4
/-- The space was changed so, within its two blocks. -/
def SpD (b g : Nat) (s' : Spc) (w : World) (e : Ending) (w' : World) : Prop := (∃ v, e = .returned v) ∧ SpM w' b g s' ∧ Moved w w' [b, g] [b, g]
theorem moved_g {A B : World} {b g : Nat} (m : Moved A B [g] [g]) : Moved A B [b, g] [b, g] := m.sub (fun k hk => by simp at hk ⊢; exact .inr hk) (fun k hk => .inr hk)
theorem st6_kept {A B : World} {b g n : Nat} {v u0 u1 u2 u3 u4 u5 : Value} (m : Moved A B [g] [g]) (hg : g < n) (h : A.cell? ⟨b, 2, none⟩ = some v ∧ A.cell? ⟨n, 0, none⟩ = some u0 ∧ A.cell? ⟨n, 1, none⟩ = some u1 ∧ A.cell? ⟨n, 2, none⟩ = some u2 ∧ A.cell? ⟨n, 3, none⟩ = some u3 ∧ A.cell? ⟨n, 4, none⟩ = some u4 ∧ A.cell? ⟨n, 5, none⟩ = some u5) (_hb : b < n) (hbg : b ≠ g) :
    B.cell? ⟨b, 2, none⟩ = some v ∧ B.cell? ⟨n, 0, none⟩ = some u0 ∧ B.cell? ⟨n, 1, none⟩ = some u1 ∧ B.cell? ⟨n, 2, none⟩ = some u2 ∧ B.cell? ⟨n, 3, none⟩ = some u3 ∧ B.cell? ⟨n, 4, none⟩ = some u4 ∧ B.cell? ⟨n, 5, none⟩ = some u5 := by
  obtain ⟨h0, h1, h2, h3, h4, h5, h6⟩ := h
  have hn : ∀ o, (⟨n, o, none⟩ : Addr).block ∉ [g] := fun _ q => by have e : n = g := List.mem_singleton.1 q; omega
  exact ⟨cell_moved m h0 (by simpa using hbg), cell_moved m h1 (hn _), cell_moved m h2 (hn _), cell_moved m h3 (hn _), cell_moved m h4 (hn _), cell_moved m h5 (hn _), cell_moved m h6 (hn _)⟩
section
variable {b g : Nat} {s : Spc}
set_option maxRecDepth 100000 in
set_option maxHeartbeats 1000000 in
theorem set_any (n : Int) (hn : I64 n) (c : Cel) (hc : c.OK) (w : World) (h : SpM w b g s) : Calls Try.prog 19 #[.pointer (some ⟨b, 0, none⟩), .int .i64 n, c.v] w (SpD b g (s.setC n c) w) := by
  have h2 := h.h2
  have hlt := h.lt.1
  have hgt := h.lt.2
  have hw := h.ok.wr_lt n
  have HP := hid (fun w h => pos_any (b := b) (g := g) (s := s) n hn w h)
  have hf := fit_ok hc
  unfold Spc.setC
  unfold fit at hf ⊢
  have HH := hid h
  generalize s.wr n = q at *
  obtain ⟨y0, y1, y2, y3, y4, y5⟩ := c
  dsimp only at hf ⊢
  clear h hc
  cases y1
  · simp only [if_false, Bool.false_eq_true] at hf ⊢
    have HF := hid hf
    clear hf
    go_enter Try.func19, Try.ntmps19
    go_wp2_with fail
    generalize hW : w.alloc (.cells #[.int .u8 y0, .bool false, .int .u8 0, .int .u8 y3, .int .u8 y4, .int .u8 y5] 31) = W
    have hb0 : Below w.heap.size w W := by rw [← hW]; exact bal (Below.refl _ _) _
    have hz : W.heap.size = w.heap.size + 1 := by rw [← hW]; simp
    have HZ := hid (fun (V : World) (hV : Below W.heap.size W V) => box6 (w := w) (w1 := V) (by rw [hW]; exact hV))
    have HB := hid hb0
    have HS := hid (fun (V : World) (k : Below W.heap.size W V) => show V.cell? ⟨b, 2, none⟩ = some (.slice (some ⟨g, 0, none⟩) s.L.length (s.L.length + s.ex)) ∧ (V.cell? ⟨w.heap.size, 0, none⟩ = some (.int .u8 y0) ∧ V.cell? ⟨w.heap.size, 1, none⟩ = some (.bool false) ∧ V.cell? ⟨w.heap.size, 2, none⟩ = some (.int .u8 0) ∧ V.cell? ⟨w.heap.size, 3, none⟩ = some (.int .u8 y3) ∧ V.cell? ⟨w.heap.size, 4, none⟩ = some (.int .u8 y4) ∧ V.cell? ⟨w.heap.size, 5, none⟩ = some (.int .u8 y5)) from ⟨keepc (below_t hb0 k) h2, (HZ.out V k).1⟩)
    have HD := hid (show SpM W b g s from HH.out.below hb0)
    clear h2 hb0
    refine wp_region_held_drew (S := fun V => V.cell? ⟨b, 2, none⟩ = some (.slice (some ⟨g, 0, none⟩) s.L.length (s.L.length + s.ex)) ∧ (V.cell? ⟨w.heap.size, 0, none⟩ = some (.int .u8 y0) ∧ V.cell? ⟨w.heap.size, 1, none⟩ = some (.bool false) ∧ V.cell? ⟨w.heap.size, 2, none⟩ = some (.int .u8 0) ∧ V.cell? ⟨w.heap.size, 3, none⟩ = some (.int .u8 y3) ∧ V.cell? ⟨w.heap.size, 4, none⟩ = some (.int .u8 y4) ∧ V.cell? ⟨w.heap.size, 5, none⟩ = some (.int .u8 y5))) (by kernel_rfl) ?_ (fun hHeld => ?_)
    · exact HS.out _ (Below.refl W.heap.size W).drew
    refine takeD (i := 0) (v := ?_) 16 rfl rfl (by kernel_rfl) (by kernel_rfl) (by kernel_rfl) (fun _ _ _ h => h) (by assumption) (Or.inl ⟨by rfl, ?_⟩) ?_
    rotate_left
    · intro w hSw
      (try dsimp only at hSw)
      go_simp
      try with_reducible rfl
    simp only [List.setIfInBounds_toArray, List.set_cons_zero, List.set_cons_succ]
    refine takeD (i := 1) (v := ?_) 17 rfl rfl (by kernel_rfl) (by kernel_rfl) (by kernel_rfl) (fun _ _ _ h => h) (by assumption) (Or.inl ⟨by rfl, ?_⟩) ?_
    rotate_left
    · intro w hSw
      (try dsimp only at hSw)
      go_simp
      try with_reducible rfl
    simp only [List.setIfInBounds_toArray, List.set_cons_zero, List.set_cons_succ]
    refine takeD (i := 2) (v := ?_) 18 rfl rfl (by kernel_rfl) (by kernel_rfl) (by kernel_rfl) (fun _ _ _ h => h) (by assumption) (Or.inl ⟨by rfl, ?_⟩) ?_
    rotate_left
    · intro w hSw
      (try dsimp only at hSw)
      go_simp
      try with_reducible rfl
    simp only [List.setIfInBounds_toArray, List.set_cons_zero, List.set_cons_succ]
    refine takeD (i := 3) (v := ?_) 19 rfl rfl (by kernel_rfl) (by kernel_rfl) (by kernel_rfl) (fun _ _ _ h => h) (by assumption) (Or.inl ⟨by rfl, ?_⟩) ?_
    rotate_left
    · intro w hSw
      (try dsimp only at hSw)
      go_simp
      try with_reducible rfl
    simp only [List.setIfInBounds_toArray, List.set_cons_zero, List.set_cons_succ]
    refine takeD (i := 4) (v := ?_) 20 rfl rfl (by kernel_rfl) (by kernel_rfl) (by kernel_rfl) (fun _ _ _ h => h) (by assumption) (Or.inl ⟨by rfl, ?_⟩) ?_
    rotate_left
    · intro w hSw
      (try dsimp only at hSw)
      go_simp
      try with_reducible rfl
    simp only [List.setIfInBounds_toArray, List.set_cons_zero, List.set_cons_succ]
    refine takeD (i := 5) (v := ?_) 21 rfl rfl (by kernel_rfl) (by kernel_rfl) (by kernel_rfl) (fun _ _ _ h => h) (by assumption) (Or.inl ⟨by rfl, ?_⟩) ?_
    rotate_left
    · intro w hSw
      (try dsimp only at hSw)
      go_simp
      try with_reducible rfl
    simp only [List.setIfInBounds_toArray, List.set_cons_zero, List.set_cons_succ]
    refine takeD (i := 7) (v := ?_) 23 rfl rfl (by kernel_rfl) (by kernel_rfl) (by kernel_rfl) (fun _ _ _ h => h) (by assumption) (Or.inl ⟨by rfl, ?_⟩) ?_
    rotate_left
    · intro w hSw
      (try dsimp only at hSw)
      go_simp
      try with_reducible rfl
    simp only [List.setIfInBounds_toArray, List.set_cons_zero, List.set_cons_succ]
    refine wpAnyH_ready (rs := [6]) (by kernel_rfl) (by simp) ?_
    refine AllReadyH.cons (by simp only [List.getElem?_toArray, List.getElem?_cons_succ, List.getElem?_cons_zero]; rfl) (fun K hK => ?_) AllReadyH.nil
    go_simp
    go_at_call 72; (with_reducible refine (HP.out _ (HD.out.below (Below.refl _ _).drew)).mono ?_); rintro e w2 ⟨rfl, hb2⟩; have hb3 := below_t (Below.refl W.heap.size W).drew hb2; have hD2 := HD.out.below hb3; obtain ⟨a0, a1, a2, a3, a4, a5⟩ := hD2.row.six q hw _ rfl; have hFr := hD2.row.fr; have f0 := hFr (q * 6); have f1 := hFr (q * 6 + 1); have f2 := hFr (q * 6 + 2); have f3 := hFr (q * 6 + 3); have f4 := hFr (q * 6 + 4); have f5 := hFr (q * 6 + 5); have HD2 := hid hD2; have H3 := hid hb3; clear hD2 hFr hb2 hb3
    refine hK.out _ _ ?_ (fun hHeldN => ?_)
    · exact HS.out _ H3.out
    clear hK K hHeld
    have hHeld := hHeldN
    clear hHeldN
    (try simp only [Act.put, List.setIfInBounds_toArray, List.set_cons_zero, List.set_cons_succ])
    refine takeD (i := 8) (v := ?_) 24 rfl rfl (by kernel_rfl) (by kernel_rfl) (by kernel_rfl) (fun _ _ _ h => h) (by assumption) (Or.inl ⟨by rfl, ?_⟩) ?_
    rotate_left
    · intro w hSw
      (try dsimp only at hSw)
      go_simp
      try with_reducible rfl
    simp only [List.setIfInBounds_toArray, List.set_cons_zero, List.set_cons_succ]
    refine wpAnyH_ready (rs := [9]) (by kernel_rfl) (by simp) ?_
    refine AllReadyH.cons (by simp only [List.getElem?_toArray, List.getElem?_cons_succ, List.getElem?_cons_zero]; rfl) (fun K hK => ?_) AllReadyH.nil
    go_simp
    rw [st6_eq]; have HT := hid (st6_moved w2 g q ⟨y0, false, 0, y3, y4, y5⟩)
    refine hK.out _ _ ?_ (fun hHeldN => ?_)
    · exact st6_kept HT.out hgt (HS.out _ H3.out) hlt HD2.out.ne
    clear hK K hHeld
    have hHeld := hHeldN
    clear hHeldN
    (try simp only [Act.put, List.setIfInBounds_toArray, List.set_cons_zero, List.set_cons_succ])
    refine wpAnyH_done (by kernel_rfl) ?_ _
    clear hHeld
    exact bodyPost_ret (results_none rfl _ _ _) rfl ⟨⟨_, rfl⟩, HD2.out.stored q hw HF.out, (Moved.below HB.out [b, g]).trans ((Moved.below H3.out [b, g]).trans (moved_g HT.out))⟩
  · simp only [if_true] at hf ⊢
    have HF := hid hf
    clear hf
    unfold sixB at HF ⊢
    go_enter Try.func19, Try.ntmps19
    go_wp2_with fail
    generalize bits .and .u8 y2 61 = z2 at HF ⊢
    generalize hW : w.alloc (.cells #[.int .u8 0, .bool true, .int .u8 z2, .int .u8 y3, .int .u8 y4, .int .u8 y5] 31) = W
    have hb0 : Below w.heap.size w W := by rw [← hW]; exact bal (Below.refl _ _) _
    have hz : W.heap.size = w.heap.size + 1 := by rw [← hW]; simp
    have HZ := hid (fun (V : World) (hV : Below W.heap.size W V) => box6 (w := w) (w1 := V) (by rw [hW]; exact hV))
    have HB := hid hb0
    have HS := hid (fun (V : World) (k : Below W.heap.size W V) => show V.cell? ⟨b, 2, none⟩ = some (.slice (some ⟨g, 0, none⟩) s.L.length (s.L.length + s.ex)) ∧ (V.cell? ⟨w.heap.size, 0, none⟩ = some (.int .u8 0) ∧ V.cell? ⟨w.heap.size, 1, none⟩ = some (.bool true) ∧ V.cell? ⟨w.heap.size, 2, none⟩ = some (.int .u8 z2) ∧ V.cell? ⟨w.heap.size, 3, none⟩ = some (.int .u8 y3) ∧ V.cell? ⟨w.heap.size, 4, none⟩ = some (.int .u8 y4) ∧ V.cell? ⟨w.heap.size, 5, none⟩ = some (.int .u8 y5)) from ⟨keepc (below_t hb0 k) h2, (HZ.out V k).1⟩)
    have HD := hid (show SpM W b g s from HH.out.below hb0)
    clear h2 hb0
    refine wp_region_held_drew (S := fun V => V.cell? ⟨b, 2, none⟩ = some (.slice (some ⟨g, 0, none⟩) s.L.length (s.L.length + s.ex)) ∧ (V.cell? ⟨w.heap.size, 0, none⟩ = some (.int .u8 0) ∧ V.cell? ⟨w.heap.size, 1, none⟩ = some (.bool true) ∧ V.cell? ⟨w.heap.size, 2, none⟩ = some (.int .u8 z2) ∧ V.cell? ⟨w.heap.size, 3, none⟩ = some (.int .u8 y3) ∧ V.cell? ⟨w.heap.size, 4, none⟩ = some (.int .u8 y4) ∧ V.cell? ⟨w.heap.size, 5, none⟩ = some (.int .u8 y5))) (by kernel_rfl) ?_ (fun hHeld => ?_)
    · exact HS.out _ (Below.refl W.heap.size W).drew
    refine takeD (i := 0) (v := ?_) 16 rfl rfl (by kernel_rfl) (by kernel_rfl) (by kernel_rfl) (fun _ _ _ h => h) (by assumption) (Or.inl ⟨by rfl, ?_⟩) ?_
    rotate_left
    · intro w hSw
      (try dsimp only at hSw)
      go_simp
      try with_reducible rfl
    simp only [List.setIfInBounds_toArray, List.set_cons_zero, List.set_cons_succ]
    refine takeD (i := 1) (v := ?_) 17 rfl rfl (by kernel_rfl) (by kernel_rfl) (by kernel_rfl) (fun _ _ _ h => h) (by assumption) (Or.inl ⟨by rfl, ?_⟩) ?_
    rotate_left
    · intro w hSw
      (try dsimp only at hSw)
      go_simp
      try with_reducible rfl
    simp only [List.setIfInBounds_toArray, List.set_cons_zero, List.set_cons_succ]
    refine takeD (i := 2) (v := ?_) 18 rfl rfl (by kernel_rfl) (by kernel_rfl) (by kernel_rfl) (fun _ _ _ h => h) (by assumption) (Or.inl ⟨by rfl, ?_⟩) ?_
    rotate_left
    · intro w hSw
      (try dsimp only at hSw)
      go_simp
      try with_reducible rfl
    simp only [List.setIfInBounds_toArray, List.set_cons_zero, List.set_cons_succ]
    refine takeD (i := 3) (v := ?_) 19 rfl rfl (by kernel_rfl) (by kernel_rfl) (by kernel_rfl) (fun _ _ _ h => h) (by assumption) (Or.inl ⟨by rfl, ?_⟩) ?_
    rotate_left
    · intro w hSw
      (try dsimp only at hSw)
      go_simp
      try with_reducible rfl
    simp only [List.setIfInBounds_toArray, List.set_cons_zero, List.set_cons_succ]
    refine takeD (i := 4) (v := ?_) 20 rfl rfl (by kernel_rfl) (by kernel_rfl) (by kernel_rfl) (fun _ _ _ h => h) (by assumption) (Or.inl ⟨by rfl, ?_⟩) ?_
    rotate_left
    · intro w hSw
      (try dsimp only at hSw)
      go_simp
      try with_reducible rfl
    simp only [List.setIfInBounds_toArray, List.set_cons_zero, List.set_cons_succ]
    refine takeD (i := 5) (v := ?_) 21 rfl rfl (by kernel_rfl) (by kernel_rfl) (by kernel_rfl) (fun _ _ _ h => h) (by assumption) (Or.inl ⟨by rfl, ?_⟩) ?_
    rotate_left
    · intro w hSw
      (try dsimp only at hSw)
      go_simp
      try with_reducible rfl
    simp only [List.setIfInBounds_toArray, List.set_cons_zero, List.set_cons_succ]
    refine takeD (i := 7) (v := ?_) 23 rfl rfl (by kernel_rfl) (by kernel_rfl) (by kernel_rfl) (fun _ _ _ h => h) (by assumption) (Or.inl ⟨by rfl, ?_⟩) ?_
    rotate_left
    · intro w hSw
      (try dsimp only at hSw)
      go_simp
      try with_reducible rfl
    simp only [List.setIfInBounds_toArray, List.set_cons_zero, List.set_cons_succ]
    refine wpAnyH_ready (rs := [6]) (by kernel_rfl) (by simp) ?_
    refine AllReadyH.cons (by simp only [List.getElem?_toArray, List.getElem?_cons_succ, List.getElem?_cons_zero]; rfl) (fun K hK => ?_) AllReadyH.nil
    go_simp
    go_at_call 72; (with_reducible refine (HP.out _ (HD.out.below (Below.refl _ _).drew)).mono ?_); rintro e w2 ⟨rfl, hb2⟩; have hb3 := below_t (Below.refl W.heap.size W).drew hb2; have hD2 := HD.out.below hb3; obtain ⟨a0, a1, a2, a3, a4, a5⟩ := hD2.row.six q hw _ rfl; have hFr := hD2.row.fr; have f0 := hFr (q * 6); have f1 := hFr (q * 6 + 1); have f2 := hFr (q * 6 + 2); have f3 := hFr (q * 6 + 3); have f4 := hFr (q * 6 + 4); have f5 := hFr (q * 6 + 5); have HD2 := hid hD2; have H3 := hid hb3; clear hD2 hFr hb2 hb3
    refine hK.out _ _ ?_ (fun hHeldN => ?_)
    · exact HS.out _ H3.out
    clear hK K hHeld
    have hHeld := hHeldN
    clear hHeldN
    (try simp only [Act.put, List.setIfInBounds_toArray, List.set_cons_zero, List.set_cons_succ])
    refine takeD (i := 8) (v := ?_) 24 rfl rfl (by kernel_rfl) (by kernel_rfl) (by kernel_rfl) (fun _ _ _ h => h) (by assumption) (Or.inl ⟨by rfl, ?_⟩) ?_
    rotate_left
    · intro w hSw
      (try dsimp only at hSw)
      go_simp
      try with_reducible rfl
    simp only [List.setIfInBounds_toArray, List.set_cons_zero, List.set_cons_succ]
    refine wpAnyH_ready (rs := [9]) (by kernel_rfl) (by simp) ?_
    refine AllReadyH.cons (by simp only [List.getElem?_toArray, List.getElem?_cons_succ, List.getElem?_cons_zero]; rfl) (fun K hK => ?_) AllReadyH.nil
    go_simp
    rw [st6_eq]; have HT := hid (st6_moved w2 g q ⟨0, true, z2, y3, y4, y5⟩)
    refine hK.out _ _ ?_ (fun hHeldN => ?_)
    · exact st6_kept HT.out hgt (HS.out _ H3.out) hlt HD2.out.ne
    clear hK K hHeld
    have hHeld := hHeldN
    clear hHeldN
    (try simp only [Act.put, List.setIfInBounds_toArray, List.set_cons_zero, List.set_cons_succ])
    refine wpAnyH_done (by kernel_rfl) ?_ _
    clear hHeld
    exact bodyPost_ret (results_none rfl _ _ _) rfl ⟨⟨_, rfl⟩, HD2.out.stored q hw HF.out, (Moved.below HB.out [b, g]).trans ((Moved.below H3.out [b, g]).trans (moved_g HT.out))⟩
end
end Go.Proofs.Ytdaainifnbbhiaa
