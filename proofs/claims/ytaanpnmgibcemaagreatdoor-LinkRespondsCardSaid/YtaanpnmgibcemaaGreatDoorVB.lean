/-
  A loop over a link's events: bookkeeping blocks, what is left alone.
-/
import Derived.Test.YtaanpnmgibcemaaGreatDoorVA
import Derived.Test.YtaanpnmgibcemaaGreatDoorVy
namespace Go.Proofs.YtaanpnmgibcemaaGreatDoor
open Go.RowKit Go.Lib Go.Deep

theorem moved_put (W : World) (l : Nat) (o' : Obj) : Moved W (W.putObj l o') [l] [] :=
  ⟨rfl, rfl, rfl, by simp, fun k _ hs => World.putObj_heap_other (by simp at hs; omega), fun _ q => by cases q⟩
section
variable {W : World} {l : Nat} {o o' : Obj}
theorem noncell (ho : W.heap[l]? = some o) (hc : o.isCells = false) {b : Nat} (hb : ∃ cs t fz, W.heap[b]? = some (.cells cs t fz)) : b ≠ l := fun e => by
  subst e
  obtain ⟨cs, t, fz, q⟩ := hb
  rw [ho] at q
  cases q
  cases hc
theorem cell_put (ho : W.heap[l]? = some o) (hc : o.isCells = false) {a : Addr} {v : Value} (h : W.cell? a = some v) : (W.putObj l o').cell? a = some v := by
  have hn := noncell ho hc (cells_of h)
  exact (World.cell?_of_block (World.putObj_heap_other (by omega))).trans h
theorem reads_put (ho : W.heap[l]? = some o) (hc : o.isCells = false) {v : Value} {xs : List Int} (h : Reads W v xs) : Reads (W.putObj l o') v xs := by
  refine ⟨h.1, ?_⟩
  rcases h.2 with q | ⟨b, cap, rfl, h1, h2, h3⟩
  · exact .inl q
  · exact .inr ⟨b, cap, rfl, h1, h2, fun i hi => cell_put ho hc (h3 i hi)⟩
theorem held_put (ho : W.heap[l]? = some o) (hc : o.isCells = false) {keep : List (Nat × Obj)} {S : List Nat} (h : Held keep W S) : Held keep (W.putObj l o') S := fun p hp => by
  obtain ⟨h1, h2, h3⟩ := h p hp
  have hn : p.1 ≠ l := fun e => by
    rw [e, ho] at h1
    cases h1
    rw [hc] at h3
    cases h3
  exact ⟨(World.putObj_heap_other (by omega)).trans h1, h2, h3⟩
theorem held_below {W' : World} {keep : List (Nat × Obj)} {S : List Nat} (h : Held keep W S) (hb : Below W.heap.size W W') : Held keep W' S := fun p hp =>
  ⟨(hb.block p.1 (Array.getElem?_eq_some_iff.1 (h p hp).1).1).trans (h p hp).1, (h p hp).2⟩
end
section
variable {σ : Type} {O : Own σ} {L : Nat} {c : Cf} {s : σ} {k : Lk} {y : Ly} {w W : World}
theorem Both.put (h : Both O L c s k y W) {l : Nat} {o o' : Obj} (ho : W.heap[l]? = some o) (hc : o.isCells = false) (h1 : l ∉ O.wr s) (h2 : l ∉ O.rd s) : Both O L c s k y (W.putObj l o') :=
  have m := moved_put W l o'
  ⟨h.lk.moved m (fun b q r => noncell ho hc (h.lk.cel h.ok b q) (by simpa using r)), h.ok, O.moved h.u m (fun b q r => h1 (by simp at r; exact r ▸ q)) (fun b q r => h2 (by simp at r; exact r ▸ q)), h.aw, h.ar⟩
/-- No bookkeeping block is the loop's own. -/
def Ofree (O : Own σ) (B : Nat) : Prop := ∀ s W l o, O.U s W → B ≤ l → W.heap[l]? = some o → o.isCells = false → l ∉ O.wr s ∧ l ∉ O.rd s
variable {B m : Nat} {Bd : σ → Lk → Evt → Value → σ → Lk → Prop} {mx : Nat}
theorem jy_booked (hO : Ofree O B) (hB : B ≤ m) (x : Yl σ) : Booked m (JY O L c Bd mx x) := fun W l o o' hl ho hc ⟨s', k', y', h1, h2, h3, h4, h5, h6, h7⟩ =>
  have hf := hO s' W l o h4.u (by omega) ho hc
  ⟨s', k', y', h1, h2, h3, h4.put ho hc hf.1 hf.2, by simpa using h5, held_put ho hc h6, held_put ho hc h7⟩
theorem dn_booked (hO : Ofree O B) (hB : B ≤ m) (s0 : σ) (k0 : Lk) (ps : List Int) : Booked m (DnY O L c Bd s0 k0 ps) := fun W l o o' hl ho hc ⟨s, k, y, es, h1, h2, h3, h4, h5⟩ =>
  have hf := hO s W l o h4.u (by omega) ho hc
  ⟨s, k, y, es, h1, h2, h3, h4.put ho hc hf.1 hf.2, h5⟩
theorem pre_booked (hO : Ofree O B) (hB : B ≤ m) (x : Yl σ) : Booked m (PreY O L c x) := fun W l o o' hl ho hc ⟨h1, h2, h3, h4, h5, h6, h7, h8⟩ =>
  have hf := hO x.s W l o h1.u (by omega) ho hc
  ⟨h1.put ho hc hf.1 hf.2, reads_put ho hc h2, h3, h4, by simpa using h5, held_put ho hc h6, held_put ho hc h7, h8⟩
/-- The body that changes nothing. -/
theorem jy_same {x : Yl σ} (hbd : Bd x.s x.k.z x.x x.dv x.s x.k.z) (h : PreY O L c x W) {W' : World} (hb : Below W.heap.size W W') : JY O L c Bd mx x W' :=
  ⟨x.s, x.k, x.y, hbd, rfl, Nat.le_add_right _ _, h.1.below hb, Nat.le_trans h.2.2.2.2.1 hb.size, held_below h.2.2.2.2.2.1 hb, held_below h.2.2.2.2.2.2.1 hb⟩
end
/-- All that was there, but for S. -/
def keptL (B : World) (S : List Nat) : List Nat := (List.range B.heap.size).filter fun b => !S.contains b
theorem mem_kept {B : World} {S : List Nat} {b : Nat} : b ∈ keptL B S ↔ b < B.heap.size ∧ b ∉ S := by
  simp [keptL]
theorem kept_moved {B w w' : World} {S T T' : List Nat} (h : Moved B w S []) (m : Moved w w' T T') (hr : ∀ b ∈ keptL B S, b ∉ T) : Moved B w' S [] :=
  ⟨m.os.trans h.os, m.tape.trans h.tape, m.output.trans h.output, Nat.le_trans h.size m.size, fun k hk hs => (m.block k (Nat.lt_of_lt_of_le hk h.size) (hr k (mem_kept.2 ⟨hk, hs⟩))).trans (h.block k hk hs), fun _ q => by cases q⟩
theorem kept_foot {B w : World} {S F : List Nat} (h : Moved B w S []) (hr : ∀ b ∈ keptL B S, b ∉ F) : Moved B w S F :=
  ⟨h.os, h.tape, h.output, h.size, h.block, fun k hk => by
    by_cases hs : k ∈ S
    · exact .inl hs
    · right
      by_cases hl : k < B.heap.size
      · exact absurd hk (hr k (mem_kept.2 ⟨hl, hs⟩))
      · omega⟩
/-- A loop that writes nothing of its own. -/
def plainO (B : World) (S : List Nat) : Own Unit where
  sz _ := 0
  lim := 20000
  U _ w := Moved B w S []
  wr _ := []
  rd _ := keptL B S
  moved h m _ hr := kept_moved h m hr
  lt _ _ q := by cases q
  rlt h b q := Nat.lt_of_lt_of_le (mem_kept.1 q).1 h.size
theorem plain_free (B : World) (S : List Nat) : Ofree (plainO B S) B.heap.size := fun _ _ l _ _ hl _ _ => ⟨fun q => (by cases q), fun q => by have := (mem_kept.1 q).1; omega⟩
theorem plain_both {L : Nat} {c : Cf} {k : Lk} {y : Ly} {W : World} (h : LkM W L c y k) (hk : LkOK c k) : Both (plainO W (y.foot L)) L c () k y W :=
  ⟨h, hk, ⟨rfl, rfl, rfl, Nat.le_refl _, fun _ _ _ => rfl, fun _ q => (by cases q)⟩, fun _ q => (by cases q), fun b q => (mem_kept.1 q).2⟩
end Go.Proofs.YtaanpnmgibcemaaGreatDoor
