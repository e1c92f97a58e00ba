/-
  TallySums: New of whatever few tells; two tallies side by side.
-/
import Derived.Test.YtadoiplfglaonabTs
import Derived.Test.YtadoiplfglaonabPlw
namespace Go.Proofs.Ytadoiplfglaonab
open Go.RowKit Go.Shelf Go.Deep Go.Lib

set_option maxRecDepth 100000 in
set_option maxHeartbeats 1000000 in
theorem new_nil (w : World) : Calls Try.prog 8 #[.slice none 0 0] w (NewPost [] w) := by
  obtain ⟨i0, hi, hz0, hz1, hz2⟩ := info_parts info62
  have fin : ∀ w3 g2, w3.ownsRow w.heap.size 62 1 (.slice (some ⟨g2, 0, none⟩) 0 0) 0 (madeCells (Value.agg #[.int .u64 0]).cells (0 * 1)).toList → w.grownBy w3 none → NewPost [] w (.returned (.tuple #[.pointer (some ⟨w3.heap.size, 0, none⟩), .int .i64 0])) (w3.alloc (.cells #[.slice none 0 0, .slice (some ⟨g2, 0, none⟩) 0 0] 52)) := fun w3 g2 ho hg => by
    have hB3 : Below w.heap.size w w3 := (Below.refl _ _).grown hg (Nat.le_refl _) (fun _ e => by cases e)
    exact ⟨hB3.alloc hB3.size _, .inr ⟨by decide, w3.heap.size, rfl, by rw [show sorted [] = [] from List.eq_nil_of_length_eq_zero (by rw [sorted_length]; rfl)]; exact tally_mk (ts := []) (World.ownsRow_nil _ _ _ _) ho hB3.size (by simp) (pw_rising List.Pairwise.nil)⟩⟩
  have FIN := hid fin
  clear fin
  go_enter Try.func8, Try.ntmps8
  go_wp2
  go_loop [13] (fun i => i = .int .i64 0) (fun _ => 0)
  case atStart => rfl
  case round =>
    subst hrel
    go_wp2_with (first
      | (go_at_call 22; refine (Try.slices_Clone_string_nil 0 0 _).mono ?_; rintro e w1 ⟨rfl, hw1⟩; have hw2 := hw1.symm; clear hw1; subst hw2)
      | (go_at_call 23; refine (Try.slices_Sort_string_none none 0 _).mono ?_; rintro e w1 ⟨rfl, hw1⟩; have hw2 := hw1.symm; clear hw1; subst hw2)
      | fail)
    go_loop [7] (fun i => i = .int .i64 1) (fun _ => 0)
    case atStart => rfl
    case round =>
      subst hrel
      go_wp2_with (at_make; refine wpList_make_full _ rfl _ _ 50 rfl w.heap.size 62 i0 (.agg #[.int .u64 0]) 1 Try.underlying50 hi hz0 hz1 .i64 .i64 _ _ 0 rfl rfl rfl rfl (by simp) (by simp) (Nat.le_refl _) ?_; intro w3 hown3 hgrow3)
      go_ret2
      exact FIN.out _ _ hown3 hgrow3
/-- New of a row of names, nil or not. -/
theorem new_row {w : World} {B : Nat} {v : Value} {zs : List ByteArray} (h : w.ownsRow B 9 1 v zs.length (zs.map Value.string)) (hn : zs.length ≤ 70) (hs : ∀ s ∈ zs, s.size ≤ maxLen) : Calls Try.prog 8 #[v] w (NewPost zs w) := by
  have h0 := h
  rcases h.2 with ⟨rfl, hz⟩ | ⟨g, cap, cur, rfl, _⟩
  · have : zs = [] := List.eq_nil_of_length_eq_zero hz
    subst this
    exact new_nil w
  · exact new_all g 0 _ cap zs w hn rfl hs (fun j hj => by rw [Nat.zero_add, h0.cellAt j (by omega)]; simp [List.getD, List.getElem?_eq_getElem hj])
theorem sread_row {w : World} {B : Nat} {v : Value} {zs : List ByteArray} (h : w.ownsRow B 9 1 v zs.length (zs.map Value.string)) (hn : zs.length ≤ 70) (hs : ∀ s ∈ zs, s.size ≤ maxLen) : SRead w v zs := by
  have h0 := h
  rcases h.2 with ⟨rfl, hz⟩ | ⟨g, cap, cur, rfl, _⟩
  · exact ⟨none, 0, by rw [hz], by omega, fun i hi => by omega⟩
  · refine ⟨_, cap, rfl, by unfold maxLen; omega, fun i hi => ⟨g, 0, rfl, ?_, hs _ (by simp [List.getD, List.getElem?_eq_getElem hi])⟩⟩
    rw [Nat.zero_add, h0.cellAt i (by omega)]
    simp [List.getD, List.getElem?_eq_getElem hi]
theorem new_later {zs : List ByteArray} {w w1 w2 : World} {e : Ending} (h : NewPost zs w e w1) (hb : Below w1.heap.size w1 w2) : NewPost zs w e w2 := by
  obtain ⟨h1, h2⟩ := h
  refine ⟨h1.trans (hb.mono h1.size), h2.imp id fun ⟨h3, t, h4, vn, g, hT⟩ => ⟨h3, t, h4, vn, g, hT.grown (grown_of_below hb)⟩⟩
theorem own_blocks {w w' : World} {B : Nat} {e : TypeId} {size n : Nat} {v : Value} {xs : List Value} (h : w.ownsRow B e size v n xs) (hk : ∀ k, v.ownBlock = some k → w'.heap[k]? = w.heap[k]?) : w'.ownsRow B e size v n xs :=
  ⟨h.1, h.2.imp id fun ⟨g, cap, cur, h1, h2, h3, h4⟩ => ⟨g, cap, cur, h1, h2, (hk g (by rw [h1]; rfl)).trans h3, h4⟩⟩
section
variable {w w' : World} {B t : Nat} {vn : Value} {g : Nat} {v : Value} {ts : List (List UInt8)} {cs : List Int}
theorem TallyIn.atK (h : TallyIn w B t vn g ts cs) (hk : ∀ k, k = t ∨ k = g ∨ vn.ownBlock = some k → w'.heap[k]? = w.heap[k]?) : TallyIn w' B t vn g ts cs :=
  ⟨(hk t (.inl rfl)).trans h.block, h.base, own_blocks h.names (fun k e => hk k (.inr (.inr e))), own_blocks h.counts (fun k e => hk k (.inr (.inl (Option.some.inj e).symm))), h.size, h.few, h.rising⟩
theorem RefIn.atK (h : RefIn w B v ts cs) (hk : ∀ k, v.ownBlock = some k → w'.heap[k]? = w.heap[k]?) : RefIn w' B v ts cs := ⟨own_blocks h.row hk, h.size⟩
/-- The blocks lie below. -/
structure Under (C t : Nat) (vn : Value) (g : Nat) (v : Value) : Prop where
  t : t < C
  g : g < C
  n : ∀ k, vn.ownBlock = some k → k < C
  v : ∀ k, v.ownBlock = some k → k < C
theorem PairIn.under (h : PairIn w B t vn g v ts cs) : Under w.heap.size t vn g v :=
  ⟨(Array.getElem?_eq_some_iff.1 h.tally.block).1, (h.tally.counts.lt g (by simp [Value.ownBlock])).2, fun k e => (h.tally.names.lt k e).2, fun k e => (h.ref.row.lt k e).2⟩
theorem Under.mono {C C' : Nat} (h : Under C t vn g v) (hC : C ≤ C') : Under C' t vn g v := ⟨Nat.lt_of_lt_of_le h.t hC, Nat.lt_of_lt_of_le h.g hC, fun k e => Nat.lt_of_lt_of_le (h.n k e) hC, fun k e => Nat.lt_of_lt_of_le (h.v k e) hC⟩
theorem TallyIn.under_of {C : Nat} (h : TallyIn w B t vn g ts cs) (u : Under C t vn g v) (hk : ∀ i, i < C → w'.heap[i]? = w.heap[i]?) : TallyIn w' B t vn g ts cs := h.atK (fun k e => hk k (by
  rcases e with rfl | rfl | e
  · exact u.t
  · exact u.g
  · exact u.n k e))
theorem PairIn.under_of {C : Nat} (h : PairIn w B t vn g v ts cs) (u : Under C t vn g v) (hk : ∀ i, i < C → w'.heap[i]? = w.heap[i]?) : PairIn w' B t vn g v ts cs := ⟨h.tally.under_of u hk, h.ref.atK (fun k e => hk k (u.v k e))⟩
theorem PairIn.over_of (h : PairIn w B t vn g v ts cs) (hk : ∀ i, B ≤ i → i < w.heap.size → w'.heap[i]? = w.heap[i]?) : PairIn w' B t vn g v ts cs :=
  ⟨h.tally.atK (fun k e => by
    rcases e with rfl | rfl | e
    · exact hk _ h.tally.base h.under.t
    · exact hk _ (h.tally.counts.lt k rfl).1 h.under.g
    · exact hk _ (h.tally.names.lt k e).1 (h.under.n k e)), h.ref.atK (fun k e => hk _ (h.ref.row.lt k e).1 (h.under.v k e))⟩
end
/-- Two tallies and their references, side by side. -/
structure Two (W : World) (B1 C1 B2 t1 : Nat) (vn1 : Value) (g1 : Nat) (l1 : Value) (ts1 : List (List UInt8)) (t2 : Nat) (vn2 : Value) (g2 : Nat) (l2 : Value) (ts2 : List (List UInt8)) (cs1 cs2 : List Int) : Prop where
  one : PairIn W B1 t1 vn1 g1 l1 ts1 cs1
  two : PairIn W B2 t2 vn2 g2 l2 ts2 cs2
  un : Under C1 t1 vn1 g1 l1
  le : C1 ≤ B2
  lo : B1 ≤ C1
section
variable {W : World} {B1 C1 B2 t1 : Nat} {vn1 : Value} {g1 : Nat} {l1 : Value} {ts1 : List (List UInt8)} {t2 : Nat} {vn2 : Value} {g2 : Nat} {l2 : Value} {ts2 : List (List UInt8)} {cs1 cs2 : List Int}
theorem Two.grown {W' : World} (h : Two W B1 C1 B2 t1 vn1 g1 l1 ts1 t2 vn2 g2 l2 ts2 cs1 cs2) (hg : W.grownBy W' none) : Two W' B1 C1 B2 t1 vn1 g1 l1 ts1 t2 vn2 g2 l2 ts2 cs1 cs2 := ⟨h.one.grown hg, h.two.grown hg, h.un, h.le, h.lo⟩
def DoTwo (B1 C1 B2 t1 : Nat) (vn1 : Value) (g1 : Nat) (l1 : Value) (ts1 : List (List UInt8)) (t2 : Nat) (vn2 : Value) (g2 : Nat) (l2 : Value) (ts2 : List (List UInt8)) (W : World) (e : Ending) (W' : World) : Prop := e = .returned (.bool true) ∧ (∃ cs1 cs2, Two W' B1 C1 B2 t1 vn1 g1 l1 ts1 t2 vn2 g2 l2 ts2 cs1 cs2) ∧ Below B1 W W'
theorem do_one (d : Nat) (hd : d < 256) (s : ByteArray) (hs : s.size ≤ maxLen) (n : Int) (hn0 : 0 ≤ n) (hn1 : n < 18446744073709551616) (h : Two W B1 C1 B2 t1 vn1 g1 l1 ts1 t2 vn2 g2 l2 ts2 cs1 cs2) :
    Calls Try.prog 10 #[.pointer (some ⟨t1, 0, none⟩), l1, .agg #[.int .u8 d, .string s, .int .u64 n]] W (DoTwo B1 C1 B2 t1 vn1 g1 l1 ts1 t2 vn2 g2 l2 ts2 W) :=
  (do_some (C := C1) d hd s hs n hn0 hn1 W h.one h.un.g h.un.v).mono fun _ _ ⟨h1, ⟨cs', h3⟩, h4⟩ => ⟨h1, ⟨cs', cs2, h3, h.two.over_of (fun i hi1 hi2 => h4.up i (Nat.le_trans h.le hi1) hi2), h.un, h.le, h.lo⟩, h4.below⟩
theorem do_two (d : Nat) (hd : d < 256) (s : ByteArray) (hs : s.size ≤ maxLen) (n : Int) (hn0 : 0 ≤ n) (hn1 : n < 18446744073709551616) (h : Two W B1 C1 B2 t1 vn1 g1 l1 ts1 t2 vn2 g2 l2 ts2 cs1 cs2) :
    Calls Try.prog 10 #[.pointer (some ⟨t2, 0, none⟩), l2, .agg #[.int .u8 d, .string s, .int .u64 n]] W (DoTwo B1 C1 B2 t1 vn1 g1 l1 ts1 t2 vn2 g2 l2 ts2 W) :=
  (do_some (C := W.heap.size) d hd s hs n hn0 hn1 W h.two h.two.under.g h.two.under.v).mono fun _ _ ⟨h1, ⟨cs', h3⟩, h4⟩ => ⟨h1, ⟨cs1, cs', h.one.under_of h.un (fun i hi => h4.below.block i (Nat.lt_of_lt_of_le hi h.le)), h3, h.un, h.le, h.lo⟩, h4.below.mono (Nat.le_trans h.lo h.le)⟩
end
end Go.Proofs.Ytadoiplfglaonab
