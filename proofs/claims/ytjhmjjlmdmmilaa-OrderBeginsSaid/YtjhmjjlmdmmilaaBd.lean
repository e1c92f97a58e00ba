/-
  Bytes of one's own: what is known of them, and what leaves them whole.
-/
import Derived.Test.YtjhmjjlmdmmilaaBb
namespace Go.Proofs.Ytjhmjjlmdmmilaa
open Go.RowKit Go.Lib


/-- Bytes that came in, as a source. -/
theorem reads_src {w : World} {a : Addr} {n cap : Nat} {xs : List Int} (h : Reads w (.slice (some a) n cap) xs) : n = xs.length ∧ ∀ j u, (xs.map (Value.int .u8))[j]? = some u → w.cell? (a.add j) = some u := by
  rcases h.2 with ⟨e, _⟩ | ⟨a', cap', e, h1, h2, h3⟩
  · cases e
  · cases e
    refine ⟨rfl, fun j u hu => ?_⟩
    rw [List.getElem?_map] at hu
    by_cases hj : j < xs.length
    · have hc := h3 j hj
      rw [List.getElem?_eq_getElem hj] at hu
      simp only [Option.map_some, Option.some.injEq] at hu
      rw [List.getD, List.getElem?_eq_getElem hj] at hc
      rw [← hu]
      exact hc
    · rw [List.getElem?_eq_none (by omega)] at hu
      simp at hu
theorem below_t {a b c : World} (h : Below a.heap.size a b) (k : Below b.heap.size b c) : Below a.heap.size a c := h.trans (k.mono h.size)
theorem keepc {w1 w2 : World} {a : Addr} {v : Value} (hb : Below w1.heap.size w1 w2) (h : w1.cell? a = some v) : w2.cell? a = some v := (hb.cell (World.block_lt_of_cell? w1 _ h)).trans h
theorem bal {a b : World} (h : Below a.heap.size a b) (o : Obj) : Below a.heap.size a (b.alloc o) := h.alloc h.size _
/-- What a call left whole stays. -/
theorem OwnB.step {w w' : World} {v : Value} {xs : List Int} (h : OwnB w v xs) (hb : Below w.heap.size w w') : OwnB w' v xs := h.moved (Moved.below hb []) (fun _ _ q => by cases q)
/-- A row that was just laid. -/
theorem own_lit (w : World) (cs : Array Value) (n : Nat) (xs : List Int) (hb : ∀ x ∈ xs, 0 ≤ x ∧ x < 256) (hc : cs.toList = xs.map (Value.int .u8)) (hn : n = xs.length) (hl : n ≤ 1000) (b : Nat) (hbk : b = w.heap.size) : OwnB (w.alloc (.cells cs 5)) (.slice (some ⟨b, 0, none⟩) n n) xs := by
  subst hbk
  refine ⟨hb, ?_⟩
  have hs : cs.size = n * 1 := by rw [← Array.length_toList, hc, List.length_map]; omega
  have := World.ownsRow_lit (e := 5) (size := 1) (base := 0) w cs n (Nat.zero_le _) (by unfold maxLen; omega) hs
  rw [hc] at this
  rw [← hn]
  exact this
theorem blk_lit (w : World) (b : Nat) (n c : Nat) (h : w.heap.size ≤ b) : ∀ k ∈ blkV (.slice (some ⟨b, 0, none⟩) n c), w.heap.size ≤ k := fun k hk => by
  have : b = k := by simpa [mem_blkV, Value.ownBlock] using hk
  omega
theorem one_src (w : World) (z : Int) (b : Nat) (hb : b = w.heap.size) : ∀ j u, ([.int .u8 z] : List Value)[j]? = some u → (w.alloc (.cells #[.int .u8 z] 5)).cell? ((⟨b, 0, none⟩ : Addr).add j) = some u := fun j u hu => by
  subst hb
  rcases j with _ | j
  · simp at hu
    subst hu
    rw [addr_add]
    simp [go_sem]
  · simp at hu
theorem OwnB.at {w : World} {g cap : Nat} {xs : List Int} (h : OwnB w (.slice (some ⟨g, 0, none⟩) xs.length cap) xs) (i : Nat) (hi : i < xs.length) : w.cell? ⟨g, i, none⟩ = some (.int .u8 (xs.getD i 0)) := by
  rw [World.ownsRow.cellAt h.2 i (by omega), List.getElem?_map, List.getD, List.getElem?_eq_getElem hi]
  rfl
theorem OwnB.slice {w : World} {v : Value} {xs : List Int} (h : OwnB w v xs) (hx : xs ≠ []) : ∃ g cap, v = .slice (some ⟨g, 0, none⟩) xs.length cap ∧ xs.length ≤ cap ∧ cap ≤ maxLen ∧ g < w.heap.size := by
  rcases h.2.2 with ⟨_, e⟩ | ⟨g, cap, cur, rfl, hg, hh, h1, h2, h3, h4⟩
  · exact absurd (List.length_eq_zero_iff.1 e) hx
  · exact ⟨g, cap, rfl, h1, h2, (Array.getElem?_eq_some_iff.1 hh).1⟩
theorem OwnB.stored {w : World} {g cap : Nat} {xs : List Int} (h : OwnB w (.slice (some ⟨g, 0, none⟩) xs.length cap) xs) (i : Nat) (z : Int) (hz : 0 ≤ z ∧ z < 256) : OwnB (w.setCell ⟨g, i, none⟩ (.int .u8 z)) (.slice (some ⟨g, 0, none⟩) xs.length cap) (xs.set i z) := by
  refine ⟨fun x hx => ?_, ?_⟩
  · rcases List.mem_or_eq_of_mem_set hx with h1 | rfl
    · exact h.1 x h1
    · exact hz
  · have q := (World.ownsRow.stored h.2 i (.int .u8 z)).1
    rw [List.map_set, List.length_set]
    exact q

theorem own_slice {w : World} {v : Value} {xs : List Int} (h : OwnB w v xs) : ∃ x n c, v = .slice x n c := by
  rcases h.2.2 with ⟨rfl, _⟩ | ⟨g, cap, cur, rfl, _⟩
  · exact ⟨_, _, _, rfl⟩
  · exact ⟨_, _, _, rfl⟩

theorem own_empty {w : World} {v : Value} (h : OwnB w v []) : ∃ x c, v = .slice x 0 c := by
  rcases h.2.2 with ⟨rfl, _⟩ | ⟨g, cap, cur, rfl, _⟩
  · exact ⟨_, _, rfl⟩
  · exact ⟨_, _, rfl⟩

theorem own_len {w : World} {v : Value} {xs : List Int} (h : OwnB w v xs) (n : Nat) (hn : xs.length = n) : ∃ x c, v = .slice x n c := by
  rcases h.2.2 with ⟨rfl, e⟩ | ⟨g, cap, cur, rfl, _⟩
  · exact ⟨none, 0, by rw [← hn, e]⟩
  · exact ⟨_, _, by rw [← hn]⟩
theorem cell_moved {w w' : World} {S S' : List Nat} (m : Moved w w' S S') {a : Addr} {v : Value} (h : w.cell? a = some v) (hs : a.block ∉ S) : w'.cell? a = some v := (World.cell?_of_block (m.block _ (World.block_lt_of_cell? w _ h) hs)).trans h
theorem OwnB.lt {w : World} {v : Value} {xs : List Int} (h : OwnB w v xs) : ∀ k ∈ blkV v, k < w.heap.size := own_lt h.2
/-- Bytes of one's own are the result. -/
def OwnDone (xs : List Int) (w : World) (e : Ending) (w' : World) : Prop := ∃ v, e = .returned v ∧ OwnB w' v xs ∧ Below w.heap.size w w' ∧ ∀ k ∈ blkV v, w.heap.size ≤ k
theorem rcopy_own (v : Value) (xs : List Int) (w : World) (h : Reads w v xs) (hlen : xs.length ≤ 140737488355328) : Calls Try.prog 14 #[v] w (OwnDone xs w) :=
  (copy_any v xs w h hlen).mono fun _ _ ⟨v', he, hr, hb, ho, _⟩ => ⟨v', he, ⟨hr.1, ho.mono (Nat.zero_le _)⟩, hb, fun k hk => (ho.lt k (mem_blkV.1 hk)).1⟩
theorem rcut_own (v : Value) (m : Nat) (hm : m ≤ 1000000) (xs : List Int) (w : World) (h : Reads w v xs) : Calls Try.prog 10 #[v, .int .i64 m] w (OwnDone (xs.take m) w) :=
  (cut_any v m hm xs w h).mono fun _ _ ⟨v', he, hr, hb, ho, _⟩ => ⟨v', he, ⟨hr.1, ho.mono (Nat.zero_le _)⟩, hb, fun k hk => (ho.lt k (mem_blkV.1 hk)).1⟩
end Go.Proofs.Ytjhmjjlmdmmilaa
