/-
  Two lists of events side by side, whose data may be shared.
-/
import Derived.Test.YtdbjjieoohfckaaCuw
import Derived.Deep.RegionHeld3
import Derived.Deep.DeepCutAuto
import Derived.Deep.AppendLies
namespace Go.Proofs.Ytdbjjieoohfckaa
open Go.RowKit Go.Lib

structure TwoL (w : World) (B : Nat) (mv wv : Value) (ms ws : List (Ev × Value)) : Prop where
  rowM : w.ownsRow 0 37 6 mv ms.length (cellsE ms)
  rowW : w.ownsRow 0 36 6 wv ws.length (cellsE ws)
  data : ∀ x, x ∈ ms ∨ x ∈ ws → Reads w x.2 x.1.data ∧ ∀ k ∈ blkV x.2, k < w.heap.size ∧ k ∉ blkV mv ∧ k ∉ blkV wv
  new : ∀ k, k ∈ blkV mv ∨ k ∈ blkV wv → B ≤ k
  apart : ∀ k ∈ blkV mv, k ∉ blkV wv
theorem TwoL.below {w w' : World} {B : Nat} {mv wv : Value} {ms ws : List (Ev × Value)} (h : TwoL w B mv wv ms ws) (hb : Below w.heap.size w w') : TwoL w' B mv wv ms ws :=
  ⟨own_moved h.rowM (Moved.below hb []) (fun _ _ q => by cases q), own_moved h.rowW (Moved.below hb []) (fun _ _ q => by cases q), fun x hx => ⟨reads_below (h.data x hx).1 hb, fun k hk => ⟨Nat.lt_of_lt_of_le ((h.data x hx).2 k hk).1 hb.size, ((h.data x hx).2 k hk).2⟩⟩, h.new, h.apart⟩
/-- A slice of data that may go into both. -/
def DIn (w : World) (mv wv d : Value) (ds : List Int) : Prop := Reads w d ds ∧ ∀ k ∈ blkV d, k < w.heap.size ∧ k ∉ blkV mv ∧ k ∉ blkV wv
theorem DIn.below {w w' : World} {mv wv d : Value} {ds : List Int} (h : DIn w mv wv d ds) (hb : Below w.heap.size w w') : DIn w' mv wv d ds := ⟨reads_below h.1 hb, fun k hk => ⟨Nat.lt_of_lt_of_le (h.2 k hk).1 hb.size, (h.2 k hk).2⟩⟩
theorem TwoL.addM {w w' : World} {B : Nat} {mv mv' wv d : Value} {ms ws : List (Ev × Value)} {e : Ev} (h : TwoL w B mv wv ms ws) (hd : DIn w mv wv d e.data) (hB : B ≤ w.heap.size)
    (hrow : w'.ownsRow 0 37 6 mv' (ms.length + 1) (cellsE ms ++ evC e d)) (hg : w.grownBy w' mv.ownBlock) (hk : ∀ k ∈ blkV mv', k ∈ blkV mv ∨ w.heap.size ≤ k) :
    TwoL w' B mv' wv (ms ++ [(e, d)]) ws ∧ DIn w' mv' wv d e.data ∧ Below B w w' := by
  have m : Moved w w' (blkV mv) (blkV mv') := Moved.grown hg (fun k q => mem_blkV.2 q) hk
  have hs := m.size
  have step : ∀ (x : Value) (ds : List Int), DIn w mv wv x ds → DIn w' mv' wv x ds := fun x ds q => ⟨reads_moved q.1 m (fun k hk => (q.2 k hk).2.1), fun k hk' => ⟨by have := (q.2 k hk').1; omega, fun r => by
    rcases hk k r with p | p
    · exact (q.2 k hk').2.1 p
    · have := (q.2 k hk').1; omega, (q.2 k hk').2.2⟩⟩
  refine ⟨⟨?_, own_moved h.rowW m (fun k q r => h.apart k r q), ?_, ?_, ?_⟩, step d _ hd, ?_⟩
  · rw [List.length_append, cellsE_append]
    show w'.ownsRow 0 37 6 mv' (ms.length + 1) (cellsE ms ++ (evC e d ++ []))
    rw [List.append_nil]; exact hrow
  · intro x hx
    rcases hx with hx | hx
    · rcases List.mem_append.1 hx with hx | hx
      · exact step _ _ (h.data x (.inl hx))
      · rw [List.mem_singleton.1 hx]; exact step d _ hd
    · exact step _ _ (h.data x (.inr hx))
  · intro k q
    rcases q with q | q
    · rcases hk k q with r | r
      · exact h.new k (.inl r)
      · omega
    · exact h.new k (.inr q)
  · intro k q r
    rcases hk k q with p | p
    · exact h.apart k p r
    · have := own_lt h.rowW k r; omega
  · exact m.toBelow hB (fun k q => h.new k (.inl q))
theorem TwoL.addW {w w' : World} {B : Nat} {mv wv wv' d : Value} {ms ws : List (Ev × Value)} {e : Ev} (h : TwoL w B mv wv ms ws) (hd : DIn w mv wv d e.data) (hB : B ≤ w.heap.size)
    (hrow : w'.ownsRow 0 36 6 wv' (ws.length + 1) (cellsE ws ++ evC e d)) (hg : w.grownBy w' wv.ownBlock) (hk : ∀ k ∈ blkV wv', k ∈ blkV wv ∨ w.heap.size ≤ k) :
    TwoL w' B mv wv' ms (ws ++ [(e, d)]) ∧ Below B w w' := by
  have m : Moved w w' (blkV wv) (blkV wv') := Moved.grown hg (fun k q => mem_blkV.2 q) hk
  have hs := m.size
  have step : ∀ (x : Value) (ds : List Int), DIn w mv wv x ds → DIn w' mv wv' x ds := fun x ds q => ⟨reads_moved q.1 m (fun k hk => (q.2 k hk).2.2), fun k hk' => ⟨by have := (q.2 k hk').1; omega, (q.2 k hk').2.1, fun r => by
    rcases hk k r with p | p
    · exact (q.2 k hk').2.2 p
    · have := (q.2 k hk').1; omega⟩⟩
  refine ⟨⟨own_moved h.rowM m (fun k q r => h.apart k q r), ?_, ?_, ?_, ?_⟩, ?_⟩
  · rw [List.length_append, cellsE_append]
    show w'.ownsRow 0 36 6 wv' (ws.length + 1) (cellsE ws ++ (evC e d ++ []))
    rw [List.append_nil]; exact hrow
  · intro x hx
    rcases hx with hx | hx
    · exact step _ _ (h.data x (.inl hx))
    · rcases List.mem_append.1 hx with hx | hx
      · exact step _ _ (h.data x (.inr hx))
      · rw [List.mem_singleton.1 hx]; exact step d _ hd
  · intro k q
    rcases q with q | q
    · exact h.new k (.inl q)
    · rcases hk k q with r | r
      · exact h.new k (.inr r)
      · omega
  · intro k q r
    rcases hk k r with p | p
    · exact h.apart k q p
    · have := own_lt h.rowM k q; omega
  · exact m.toBelow hB (fun k q => h.new k (.inr q))
/-- The last one's data are others. -/
theorem TwoL.setW {w w1 : World} {B g n cap : Nat} {mv d' : Value} {ms ys : List (Ev × Value)} {x : Ev × Value} {p : List Int} (h : TwoL w B mv (.slice (some ⟨g, 0, none⟩) n cap) ms (ys ++ [x])) (hn : n = ys.length + 1) (hb : Below w.heap.size w w1) (hB : B ≤ w.heap.size)
    (hd : Reads w1 d' (x.1.data ++ p)) (hf : ∀ k ∈ blkV d', w.heap.size ≤ k ∧ k < w1.heap.size) :
    TwoL (w1.setCell ⟨g, ys.length * 6 + 3, none⟩ d') B mv (.slice (some ⟨g, 0, none⟩) n cap) ms (ys ++ [({ x.1 with data := x.1.data ++ p }, d')]) ∧ Below B w (w1.setCell ⟨g, ys.length * 6 + 3, none⟩ d') := by
  have hgm : g ∈ blkV (.slice (some ⟨g, 0, none⟩) n cap) := by simp [blkV, Value.ownBlock]
  have hgl : g < w.heap.size := own_lt h.rowW g hgm
  have h1 := h.below hb
  have hs : Moved w1 (w1.setCell ⟨g, ys.length * 6 + 3, none⟩ d') [g] [g] := Moved.set (by simp) _ _
  have hsz : (w1.setCell ⟨g, ys.length * 6 + 3, none⟩ d').heap.size = w1.heap.size := by simp [World.setCell]
  subst hn
  have hrow := h1.rowW
  rw [show (ys ++ [x]).length = ys.length + 1 by simp] at hrow
  refine ⟨⟨own_moved h1.rowM hs (fun k q r => ?_), ?_, ?_, h.new, h.apart⟩, ?_⟩
  · rw [List.mem_singleton.1 r] at q
    exact h.apart g q hgm
  · have q := (World.ownsRow.stored hrow (ys.length * 6 + 3) d').1
    rw [cellsE_set ys x p d'] at q
    rw [List.length_append]
    exact q
  · intro y hy
    have old : ∀ z, z ∈ ms ∨ z ∈ ys ++ [x] → Reads (w1.setCell ⟨g, ys.length * 6 + 3, none⟩ d') z.2 z.1.data ∧ ∀ k ∈ blkV z.2, k < (w1.setCell ⟨g, ys.length * 6 + 3, none⟩ d').heap.size ∧ k ∉ blkV mv ∧ k ∉ blkV (.slice (some ⟨g, 0, none⟩) (ys.length + 1) cap) := fun z hz =>
      ⟨reads_moved (h1.data z hz).1 hs (fun k hk r => by rw [List.mem_singleton.1 r] at hk; exact ((h.data z hz).2 g hk).2.2 hgm), fun k hk => by rw [hsz]; exact (h1.data z hz).2 k hk⟩
    rcases hy with hy | hy
    · exact old y (.inl hy)
    · rcases List.mem_append.1 hy with hy | hy
      · exact old y (.inr (List.mem_append.2 (.inl hy)))
      · rw [List.mem_singleton.1 hy]
        refine ⟨reads_moved hd hs (fun k hk r => ?_), fun k hk => ?_⟩
        · rw [List.mem_singleton.1 r] at hk
          have := (hf g hk).1; omega
        · have q := hf k hk
          refine ⟨by rw [hsz]; exact q.2, fun r => ?_, fun r => ?_⟩
          · have := own_lt h.rowM k r; omega
          · have := own_lt h.rowW k r; omega
  · exact (hb.mono hB).setCell (h.new g (.inr hgm)) _
end Go.Proofs.Ytdbjjieoohfckaa
