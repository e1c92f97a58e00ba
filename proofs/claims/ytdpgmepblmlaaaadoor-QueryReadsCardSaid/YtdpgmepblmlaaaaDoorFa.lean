/-
  Sizes: what is valid, how many cells there are, remainders: the program's and the reference's, by contracts.
  Field attributes: their bits, their byte, and back; the program's and the reference's.
  Bytes and rows in memory; footprints.
  Iterators that tell a known number of things: what an iterator promises, what a loop's body promises it, and the law of the loop. Loops may stand in iterators.
-/
import Derived.Test.YtdpgmepblmlaaaaDoorProg
import Derived.WalkKit
import Derived.Lib.Hide
import Derived.Deep.RegionHeld3
import Derived.IntWalk
import Derived.LoopTactic
import Derived.Below
import Derived.OwnWalk
import Derived.Laws.BytesArg
import Derived.Laws.AppendOwnNone
import Derived.Laws.OwnMore
import Derived.Deep.Onto
import Derived.RangeFuncFrom
import Derived.RangeFuncLeaves
import Derived.RangeFuncCalls
namespace Go.Proofs.YtdpgmepblmlaaaaDoor
open Go.RowKit Go.Lib

/-- Is it a size? -/
def vB (r c : Int) : Bool := decide (1 ≤ r ∧ r ≤ 43 ∧ 1 ≤ c ∧ c ≤ 132 ∧ r * c ≤ 3564)
/-- It is one. -/
structure Ok (r c : Int) : Prop where
  r1 : 1 ≤ r
  r2 : r ≤ 43
  c1 : 1 ≤ c
  c2 : c ≤ 132
  m : r * c ≤ 3564
theorem vB_ok {r c : Int} (h : Ok r c) : vB r c = true := decide_eq_true ⟨h.1, h.2, h.3, h.4, h.5⟩
theorem ok_or (r c : Int) : Ok r c ∨ vB r c = false := by
  by_cases h : 1 ≤ r ∧ r ≤ 43 ∧ 1 ≤ c ∧ c ≤ 132 ∧ r * c ≤ 3564
  · exact .inl ⟨h.1, h.2.1, h.2.2.1, h.2.2.2.1, h.2.2.2.2⟩
  · exact .inr (decide_eq_false h)

set_option maxRecDepth 100000 in
theorem valid_ok (r c : Int) (h : Ok r c) (w : World) : Calls Tryd.prog 96 #[.agg #[.int .i64 r, .int .i64 c]] w fun e w' => e = .returned (.bool true) ∧ Below w.heap.size w w' := by
  obtain ⟨r1, r2, c1, c2, hm⟩ := h
  have hp : 0 ≤ r * c := Int.mul_nonneg (by omega) (by omega)
  go_enter Tryd.func96, Tryd.ntmps96
  go_wp2
  go_ret
  exact ⟨rfl, (Below.refl _ _).alloc (Nat.le_refl _) _⟩
set_option maxRecDepth 100000 in
theorem valid_no (r c : Int) (h : vB r c = false) (w : World) : Calls Tryd.prog 96 #[.agg #[.int .i64 r, .int .i64 c]] w fun e w' => e = .returned (.bool false) ∧ Below w.heap.size w w' := by
  have h' : ¬ (1 ≤ r ∧ r ≤ 43 ∧ 1 ≤ c ∧ c ≤ 132 ∧ r * c ≤ 3564) := of_decide_eq_false h
  clear h
  by_cases h1 : 1 ≤ r
  · by_cases h2 : r ≤ 43
    · by_cases h3 : 1 ≤ c
      · by_cases h4 : c ≤ 132
        · have h5 : ¬ r * c ≤ 3564 := fun h5 => h' ⟨h1, h2, h3, h4, h5⟩
          have h6 : r * c ≤ 43 * 132 := Int.mul_le_mul h2 h4 (by omega) (by omega)
          clear h'
          go_enter Tryd.func96, Tryd.ntmps96
          go_wp2
          go_ret
          exact ⟨rfl, (Below.refl _ _).alloc (Nat.le_refl _) _⟩
        · clear h'
          go_enter Tryd.func96, Tryd.ntmps96
          go_wp2
          go_ret
          exact ⟨rfl, (Below.refl _ _).alloc (Nat.le_refl _) _⟩
      · clear h'
        go_enter Tryd.func96, Tryd.ntmps96
        go_wp2
        go_ret
        exact ⟨rfl, (Below.refl _ _).alloc (Nat.le_refl _) _⟩
    · clear h'
      by_cases h3 : 1 ≤ c
      · by_cases h4 : c ≤ 132 <;> (
          go_enter Tryd.func96, Tryd.ntmps96
          go_wp2
          go_ret
          exact ⟨rfl, (Below.refl _ _).alloc (Nat.le_refl _) _⟩)
      · go_enter Tryd.func96, Tryd.ntmps96
        go_wp2
        go_ret
        exact ⟨rfl, (Below.refl _ _).alloc (Nat.le_refl _) _⟩
  · clear h'
    by_cases h3 : 1 ≤ c
    · by_cases h4 : c ≤ 132 <;> (
        go_enter Tryd.func96, Tryd.ntmps96
        go_wp2
        go_ret
        exact ⟨rfl, (Below.refl _ _).alloc (Nat.le_refl _) _⟩)
    · go_enter Tryd.func96, Tryd.ntmps96
      go_wp2
      go_ret
      exact ⟨rfl, (Below.refl _ _).alloc (Nat.le_refl _) _⟩

/-- All old cells and marks read as before. -/
theorem bcell {W w1 : World} (hb : Below W.heap.size W w1) : (∀ b o, b < W.heap.size → w1.cell? ⟨b, o, none⟩ = W.cell? ⟨b, o, none⟩) ∧ (∀ b o, b < W.heap.size → w1.frozen? ⟨b, o, none⟩ = W.frozen? ⟨b, o, none⟩) :=
  ⟨fun b o h => hb.cell (p := ⟨b, o, none⟩) h, fun b o h => hb.frozen (p := ⟨b, o, none⟩) h⟩

set_option maxRecDepth 100000 in
theorem cells_ok (r c : Int) (h : Ok r c) (w : World) : Calls Tryd.prog 94 #[.agg #[.int .i64 r, .int .i64 c]] w fun e w' => e = .returned (.int .i64 (r * c)) ∧ Below w.heap.size w w' := by
  have HV := hid (valid_ok r c h)
  obtain ⟨r1, r2, c1, c2, hm⟩ := h
  have hp : 0 ≤ r * c := Int.mul_nonneg (by omega) (by omega)
  go_enter Tryd.func94, Tryd.ntmps94
  go_wp2_with fail
  with_reducible refine (HV.out _).mono ?_
  rintro e w1 ⟨rfl, hb⟩
  obtain ⟨hc, hf⟩ := bcell hb
  have HB := hid hb
  clear hb
  go_wp2
  go_ret
  exact ⟨rfl, ((Below.refl _ _).alloc (Nat.le_refl _) _).trans (HB.out.mono (by simp))⟩
set_option maxRecDepth 100000 in
theorem cells_no (r c : Int) (h : vB r c = false) (w : World) : Calls Tryd.prog 94 #[.agg #[.int .i64 r, .int .i64 c]] w fun e w' => e = .returned (.int .i64 0) ∧ Below w.heap.size w w' := by
  have HV := hid (valid_no r c h)
  clear h
  go_enter Tryd.func94, Tryd.ntmps94
  go_wp2_with fail
  with_reducible refine (HV.out _).mono ?_
  rintro e w1 ⟨rfl, hb⟩
  have HB := hid hb
  clear hb
  go_wp2
  go_ret
  exact ⟨rfl, ((Below.refl _ _).alloc (Nat.le_refl _) _).trans (HB.out.mono (by simp))⟩
/-- An int. -/
def I64 (n : Int) : Prop := -9223372036854775808 ≤ n ∧ n ≤ 9223372036854775807
theorem ret_int {k : IntKind} {a b : Int} (h : a = b) : Ending.returned (.int k a) = .returned (.int k b) := by rw [h]
theorem tmod_lo {n m : Int} (hm : 0 < m) (h : n.tmod m < 0) : n.tmod m + m = n % m := by
  have h1 := Int.emod_nonneg n (by omega : m ≠ 0)
  have h2 := Int.emod_lt_of_pos n hm
  rw [Int.tmod_eq_emod] at h ⊢
  split at h
  · omega
  · split <;> omega
theorem tmod_hi {n m : Int} (hm : 0 < m) (h : 0 ≤ n.tmod m) : n.tmod m = n % m := by
  have h1 := Int.emod_nonneg n (by omega : m ≠ 0)
  have h2 := Int.emod_lt_of_pos n hm
  rw [Int.tmod_eq_emod] at h ⊢
  split at h
  · split <;> omega
  · split <;> omega
theorem tmod_neg {n m : Int} (hm : 1 ≤ m) (h : ¬ 0 ≤ n) : -m < n.tmod m ∧ n.tmod m ≤ 0 := by
  have := Int.emod_nonneg n (by omega : m ≠ 0)
  have := Int.emod_lt_of_pos n (by omega : 0 < m)
  rw [Int.tmod_eq_emod]
  constructor <;> split <;> omega
theorem tmod_add {n m : Int} (hm : 1 ≤ m) (h : ¬ 0 ≤ n) : (n.tmod m + m) % m = n % m := by
  have hh := tmod_neg hm h
  by_cases h0 : n.tmod m < 0
  · rw [tmod_lo (by omega) h0, Int.emod_emod]
  · have e : n.tmod m = 0 := by omega
    have := tmod_hi (n := n) (m := m) (by omega) (by omega)
    rw [← this, e, Int.zero_add, Int.emod_self]
theorem ok_pos {r c : Int} (h : Ok r c) : 1 ≤ r * c ∧ r * c ≤ 3564 := ⟨by have := Int.mul_le_mul h.r1 h.c1 (by omega) (by have := h.r1; omega); omega, h.m⟩
theorem i64_small {n : Int} (h1 : -1000000 ≤ n) (h2 : n ≤ 1000000) : I64 n := ⟨by omega, by omega⟩
theorem i64_mod (n : Int) {m : Int} (h1 : 1 ≤ m) (h2 : m ≤ 10000) : I64 (n % m) := by
  have := Int.emod_nonneg n (by omega : m ≠ 0)
  have := Int.emod_lt_of_pos n (by omega : 0 < m)
  exact ⟨by omega, by omega⟩

end Go.Proofs.YtdpgmepblmlaaaaDoor
namespace Go.Proofs.YtdpgmepblmlaaaaDoor
open Go.RowKit Go.Lib

/-- A bool's number. -/
def b2i (b : Bool) : Int := if b then 1 else 0
/-- A field's bits. -/
def bitsZ (p n : Bool) (d : Int) (m : Bool) : Int := 32 * b2i p + 16 * b2i n + 4 * d + b2i m
/-- A field as a value. -/
abbrev fieldV (p n : Bool) (d : Int) (m : Bool) : Value := .agg #[.bool p, .bool n, .int .i64 d, .bool m]
theorem bitsZ_bd (p n m : Bool) (d : Int) (h0 : 0 ≤ d) (h3 : d ≤ 3) : 0 ≤ bitsZ p n d m ∧ bitsZ p n d m < 64 := by
  cases p <;> cases n <;> cases m <;> simp [bitsZ, b2i] <;> omega
/-- What a byte's six bits say. -/
def ofP (b : Nat) : Bool := decide (32 ≤ b % 64)
def ofN (b : Nat) : Bool := b % 64 / 16 % 2 == 1
def ofD (b : Nat) : Int := ((b % 64 / 4 % 4 : Nat) : Int)
def ofM (b : Nat) : Bool := b % 64 % 2 == 1
theorem of_bits : ∀ b : Nat, b < 256 → (bits .and .u8 (b : Int) 32 != 0) = ofP b ∧ (bits .and .u8 (b : Int) 16 != 0) = ofN b ∧ bits .and .u8 (b : Int) 12 / 4 = ofD b ∧ (bits .and .u8 (b : Int) 1 != 0) = ofM b ∧ 0 ≤ bits .and .u8 (b : Int) 12 ∧ bits .and .u8 (b : Int) 12 < 256 := by decide +kernel
theorem of_ints : ∀ b : Nat, b < 256 → decide (32 ≤ (b : Int) % 64) = ofP b ∧ ((b : Int) % 64 / 16 % 2 == 1) = ofN b ∧ (b : Int) % 64 / 4 % 4 = ofD b ∧ ((b : Int) % 2 == 1) = ofM b := by decide +kernel
theorem ret_field {p n m p' n' m' : Bool} {d d' : Int} (h1 : p = p') (h2 : n = n') (h3 : d = d') (h4 : m = m') : Ending.returned (fieldV p n d m) = .returned (fieldV p' n' d' m') := by rw [h1, h2, h3, h4]
theorem below_t {a b c : World} (h : Below a.heap.size a b) (k : Below b.heap.size b c) : Below a.heap.size a c := h.trans (k.mono h.size)
theorem keepc {w1 w2 : World} {a : Addr} {v : Value} (hb : Below w1.heap.size w1 w2) (h : w1.cell? a = some v) : w2.cell? a = some v := (hb.cell (World.block_lt_of_cell? w1 _ h)).trans h
end Go.Proofs.YtdpgmepblmlaaaaDoor
namespace Go.Proofs.YtdpgmepblmlaaaaDoor
open Go.RowKit Go.Lib

/-- A slice of bytes that reads as a list: none, or a row. -/
def Reads (w : World) (v : Value) (xs : List Int) : Prop :=
  (∀ x ∈ xs, 0 ≤ x ∧ x < 256) ∧ ((v = .slice none 0 0 ∧ xs = []) ∨ ∃ a cap, v = .slice (some a) xs.length cap ∧ xs.length ≤ cap ∧ cap ≤ maxLen ∧ ∀ i, i < xs.length → w.cell? (a.add i) = some (.int .u8 (xs.getD i 0)))
theorem reads_nil (w : World) : Reads w (.slice none 0 0) [] := ⟨fun _ h => (by cases h), .inl ⟨rfl, rfl⟩⟩
theorem addr_add (g off j : Nat) : (⟨g, off, none⟩ : Addr).add j = ⟨g, off + j, none⟩ := by unfold Addr.add; split <;> simp_all
theorem reads_conv {w : World} {v : Value} {xs : List Int} (h : Reads w v xs) : (convert 22 9 v).run Tryd.prog w = .ok (.string (strOfNums xs)) w := by
  rcases h.2 with ⟨rfl, rfl⟩ | ⟨a, cap, rfl, h1, h2, h3⟩
  · exact run_convert_bytes_nil w 22 5 Tryd.underlying22 Tryd.underlying5 0 0 9 Tryd.underlying9
  · have hl : (loadCells a xs.length).run Tryd.prog w = .ok (xs.map (Value.int .u8)).toArray w := by
      have := run_loadCells_list (P := Tryd.prog) w a (xs.map (Value.int .u8)) (fun j v hj => by
        rw [List.getElem?_map] at hj
        by_cases hjl : j < xs.length
        · rw [List.getElem?_eq_getElem hjl] at hj
          simp only [Option.map_some, Option.some.injEq] at hj
          rw [h3 j hjl, List.getD, List.getElem?_eq_getElem hjl, ← hj]
          rfl
        · rw [List.getElem?_eq_none (by omega)] at hj
          simp at hj)
      simpa using this
    rw [run_convert_bytes_string w 22 9 5 _ _ cap Tryd.underlying22 Tryd.underlying5 Tryd.underlying9, run_bytesToString w _ _ cap xs hl, foldl_push_bytes]
    simp [strOfNums, ByteArray.empty, ByteArray.emptyWithCapacity]
    rfl
theorem reads_below {w w' : World} {v : Value} {xs : List Int} (h : Reads w v xs) (hb : Below w.heap.size w w') : Reads w' v xs := by
  refine ⟨h.1, ?_⟩
  rcases h.2 with h1 | ⟨a, cap, rfl, h1, h2, h3⟩
  · exact .inl h1
  · refine .inr ⟨a, cap, rfl, h1, h2, fun i hi => ?_⟩
    have hc := h3 i hi
    exact (hb.cell (World.block_lt_of_cell? w _ hc)).trans hc
set_option maxRecDepth 100000 in
theorem same_true (v u : Value) (xs : List Int) (w : World) (hv : Reads w v xs) (hu : Reads w u xs) : Calls Tryd.prog 26 #[v, u] w fun e w' => e = .returned (.bool true) ∧ w = w' := by
  have e1 := reads_conv hv
  have e2 := reads_conv hu
  generalize strOfNums xs = S at e1 e2
  clear hv hu
  go_enter Tryd.func26, Tryd.ntmps26
  go_wp2
  go_ret
  exact ⟨rfl, rfl⟩

theorem info5 : (Tryd.prog.info? 5).map (fun i => (i.zero, i.size, i.bytes)) = some (some (.int .u8 0), 1, 1) := by kernel_rfl
theorem reads_take {w : World} {a : Addr} {len cap : Nat} {xs : List Int} (h : Reads w (.slice (some a) len cap) xs) (hl : xs.length = len) (k : Nat) (hk : k ≤ len) : Reads w (.slice (some a) k cap) (xs.take k) := by
  refine ⟨fun x hx => h.1 x (List.mem_of_mem_take hx), ?_⟩
  rcases h.2 with ⟨e, _⟩ | ⟨a', cap', e, h1, h2, h3⟩
  · cases e
  · cases e
    have hlen : (xs.take k).length = k := by rw [List.length_take]; omega
    refine .inr ⟨a, cap, by rw [hlen], by omega, h2, fun i hi => ?_⟩
    rw [hlen] at hi
    rw [h3 i (by omega), List.getD, List.getD, List.getElem?_take, if_pos hi]
theorem reads_of_row (w : World) (y : Addr) (len cap : Nat) (zs : List Int) (hl : len ≤ cap) (hm : cap ≤ maxLen) (hz : zs.length = cap) (hcell : ∀ i, i < zs.length → w.cell? (y.add i) = some (.int .u8 (zs.getD i 0))) (hb : ∀ n ∈ zs, 0 ≤ n ∧ n < 256) : Reads w (.slice (some y) len cap) (zs.take len) := by
  have hlen : (zs.take len).length = len := by rw [List.length_take]; omega
  refine ⟨fun x hx => hb x (List.mem_of_mem_take hx), .inr ⟨y, cap, by rw [hlen], by omega, hm, fun i hi => ?_⟩⟩
  rw [hlen] at hi
  rw [hcell i (by omega), List.getD, List.getD, List.getElem?_take, if_pos hi]
/-- A slice's block. -/
def blkV (v : Value) : List Nat := v.ownBlock.toList
theorem blkV_nil : blkV (.slice none 0 0) = [] := rfl
theorem mem_blkV {v : Value} {k : Nat} : k ∈ blkV v ↔ v.ownBlock = some k := by simp [blkV]
/-- Only blocks of S have changed, or are new; what is then owned was, or is new. -/
structure Moved (w w' : World) (S S' : List Nat) : Prop where
  os : w'.os = w.os
  tape : w'.tape = w.tape
  output : w'.output = w.output
  size : w.heap.size ≤ w'.heap.size
  block : ∀ k, k < w.heap.size → k ∉ S → w'.heap[k]? = w.heap[k]?
  from' : ∀ k, k ∈ S' → k ∈ S ∨ w.heap.size ≤ k
theorem Moved.refl (w : World) (S : List Nat) : Moved w w S S := ⟨rfl, rfl, rfl, Nat.le_refl _, fun _ _ _ => rfl, fun _ h => .inl h⟩
theorem Moved.trans {a b c : World} {S T U : List Nat} (h : Moved a b S T) (k : Moved b c T U) : Moved a c S U :=
  ⟨k.os.trans h.os, k.tape.trans h.tape, k.output.trans h.output, Nat.le_trans h.size k.size,
    fun i hi hs => (k.block i (Nat.lt_of_lt_of_le hi h.size) (fun ht => by rcases h.from' i ht with q | q; exact hs q; omega)).trans (h.block i hi hs),
    fun i hi => by
      rcases k.from' i hi with q | q
      · exact h.from' i q
      · exact .inr (Nat.le_trans h.size q)⟩
theorem Moved.below {a b : World} (h : Below a.heap.size a b) (S : List Nat) : Moved a b S S := ⟨h.os, h.tape, h.output, h.size, fun k hk _ => h.block k hk, fun _ h => .inl h⟩
theorem Moved.alloc (a : World) (o : Obj) (S : List Nat) : Moved a (a.alloc o) S S := Moved.below ((Below.refl _ _).alloc (Nat.le_refl _) o) S
theorem Moved.set {a : World} {S : List Nat} {g : Nat} (hg : g ∈ S) (i : Nat) (u : Value) : Moved a (a.setCell ⟨g, i, none⟩ u) S S :=
  ⟨rfl, rfl, rfl, by simp [World.setCell], fun k _ hk => Go.heap_setCell_other a _ k u (fun e => hk (by rw [show k = g from e]; exact hg)), fun _ h => .inl h⟩
theorem Moved.grown {a b : World} {row : Option Nat} (h : a.grownBy b row) {S S' : List Nat} (hr : ∀ k, row = some k → k ∈ S) (hS : ∀ k, k ∈ S' → k ∈ S ∨ a.heap.size ≤ k) : Moved a b S S' :=
  ⟨h.os, h.tape, h.output, h.size, fun k hk hs => h.block k hk (fun e => hs (hr k e.symm)), hS⟩
theorem Moved.sub {a b : World} {S S' T T' : List Nat} (h : Moved a b S S') (h1 : ∀ k ∈ S, k ∈ T) (h2 : ∀ k ∈ T', k ∈ S' ∨ k ∈ T) : Moved a b T T' :=
  ⟨h.os, h.tape, h.output, h.size, fun k hk hs => h.block k hk (fun q => hs (h1 k q)), fun k hk => by
    rcases h2 k hk with q | q
    · rcases h.from' k q with r | r
      · exact .inl (h1 k r)
      · exact .inr r
    · exact .inl q⟩
theorem Moved.toBelow {a b : World} {S S' : List Nat} (h : Moved a b S S') {B : Nat} (hB : B ≤ a.heap.size) (hS : ∀ k ∈ S, B ≤ k) : Below B a b :=
  ⟨h.os, h.tape, h.output, h.size, fun k hk => h.block k (Nat.lt_of_lt_of_le hk hB) (fun q => by have := hS k q; omega)⟩
/-- A row that is no part of it stays. -/
theorem own_moved {w w' : World} {B : Nat} {t : TypeId} {sz n : Nat} {v : Value} {cs : List Value} {S S' : List Nat} (h : w.ownsRow B t sz v n cs) (m : Moved w w' S S') (hk : ∀ k ∈ blkV v, k ∉ S) : w'.ownsRow B t sz v n cs := by
  refine ⟨h.1, ?_⟩
  rcases h.2 with hn | ⟨g, cap, cur, rfl, hb, hgg, rest⟩
  · exact .inl hn
  · refine .inr ⟨g, cap, cur, rfl, hb, ?_, rest⟩
    rw [m.block g (Array.getElem?_eq_some_iff.1 hgg).1 (hk g (by simp [blkV, Value.ownBlock]))]
    exact hgg
theorem own_lt {w : World} {B : Nat} {t : TypeId} {sz n : Nat} {v : Value} {cs : List Value} (h : w.ownsRow B t sz v n cs) : ∀ k ∈ blkV v, k < w.heap.size := fun k hk => (h.lt k (mem_blkV.1 hk)).2
theorem reads_moved {w w' : World} {v : Value} {xs : List Int} {S S' : List Nat} (h : Reads w v xs) (m : Moved w w' S S') (hk : ∀ k ∈ blkV v, k ∉ S) : Reads w' v xs := by
  refine ⟨h.1, ?_⟩
  rcases h.2 with h1 | ⟨a, cap, rfl, h1, h2, h3⟩
  · exact .inl h1
  · refine .inr ⟨a, cap, rfl, h1, h2, fun i hi => ?_⟩
    have hc := h3 i hi
    have hb := World.block_lt_of_cell? w _ hc
    have e : (a.add i).block = a.block := by unfold Addr.add; split <;> rfl
    exact (World.cell?_of_block (m.block _ hb (by rw [e]; exact hk _ (by simp [blkV, Value.ownBlock])))).trans hc
/-- Bytes of one's own. -/
def OwnB (w : World) (v : Value) (xs : List Int) : Prop := (∀ x ∈ xs, 0 ≤ x ∧ x < 256) ∧ w.ownsRow 0 5 1 v xs.length (xs.map (Value.int .u8))
theorem OwnB.nil (w : World) : OwnB w (.slice none 0 0) [] := ⟨fun _ h => (by cases h), World.ownsRow_nil _ _ _ _⟩
theorem OwnB.reads {w : World} {v : Value} {xs : List Int} (h : OwnB w v xs) : Reads w v xs := by
  refine ⟨h.1, ?_⟩
  rcases h.2.2 with ⟨rfl, e⟩ | ⟨g, cap, cur, rfl, hg, hh, h1, h2, h3, h4⟩
  · exact .inl ⟨rfl, List.length_eq_zero_iff.1 e⟩
  · refine .inr ⟨⟨g, 0, none⟩, cap, rfl, h1, h2, fun i hi => ?_⟩
    rw [addr_add, Nat.zero_add, World.ownsRow.cellAt h.2 i (by omega), List.getElem?_map, List.getD, List.getElem?_eq_getElem hi]
    rfl
theorem OwnB.moved {w w' : World} {v : Value} {xs : List Int} {S S' : List Nat} (h : OwnB w v xs) (m : Moved w w' S S') (hk : ∀ k ∈ blkV v, k ∉ S) : OwnB w' v xs := ⟨h.1, own_moved h.2 m hk⟩
section
variable {P : Program} (w : World)
/-- An append onto what is owned, and the block that it ends in. -/
theorem run_append_blk (t ty e : TypeId) (i : TypeInfo) (z : Value) (size bytes : Nat) (ht : P.underlying t = some (.slice e)) (hi : P.info? e = some i) (hz : i.zero = some z)
    (hsize : i.size = size) (hby : i.bytes = bytes) (hzs : z.cells.size = size) (hsz : 0 < size)
    (v : Value) (n : Nat) (xs : List Value) (hown : w.ownsRow 0 e size v n xs)
    (a : Addr) (m c : Nat) (news : List Value) (hl : news.length = m * size) (hnews : ∀ j u, news[j]? = some u → w.cell? (a.add j) = some u) (h1 : ∀ u ∈ news, u.oneCell' = true)
    (h63 : n + m ≤ maxLen) (hbytes : (n + m) * bytes ≤ 140737488355328) :
    ∃ v' w', (Builtin.append_ #[t, t] ty #[v, .slice (some a) m c]).run P w = .ok v' w' ∧ w'.ownsRow 0 e size v' (n + m) (xs ++ news) ∧ w.grownBy w' v.ownBlock ∧
      (v' = .slice none 0 0 ↔ v = .slice none 0 0 ∧ m = 0) ∧ ∀ k ∈ blkV v', k ∈ blkV v ∨ w.heap.size ≤ k := by
  obtain ⟨v', w', hr, h2, h3, h4⟩ := run_append_own (P := P) w 0 t ty e i z size bytes ht hi hz hsize hby hzs hsz v n xs hown a m c news hl hnews h1 h63 hbytes (Nat.zero_le _)
  refine ⟨v', w', hr, h2, h3, h4, ?_⟩
  rcases hown.2 with ⟨rfl, rfl⟩ | ⟨g, cap, cur, rfl, hbg, hg, hnc, hcm, hcs, htake⟩
  · have hx : xs = [] := List.eq_nil_of_length_eq_zero (by simpa using hown.1)
    subst hx
    obtain ⟨v'', w'', hr', h2', -, -⟩ := run_append_own (P := P) w w.heap.size t ty e i z size bytes ht hi hz hsize hby hzs hsz (.slice none 0 0) 0 [] (World.ownsRow_nil _ _ _ _) a m c news hl hnews h1 h63 hbytes (Nat.le_refl _)
    rw [hr] at hr'
    injection hr' with e1 e2
    subst e1 e2
    exact fun k hk => .inr (h2'.lt k (mem_blkV.1 hk)).1
  · subst hsize
    subst hby
    by_cases hroom : n + m ≤ cap
    · have hfit : n * i.size + news.length ≤ cur.size := by rw [hl, hcs, ← Nat.add_mul]; exact Nat.mul_le_mul_right _ hroom
      have hr' := run_append_room (P := P) w t ty e i ht hi g n cap cur hg a m c news hl hnews h1 hroom hfit
      rw [hr] at hr'
      injection hr' with e1 e2
      subst e1
      intro k hk
      exact .inl hk
    · have hsmall : n + m ≤ 9223372036854775807 := by simp only [maxLen] at h63; omega
      have holds : ∀ j u, xs[j]? = some u → w.cell? ((⟨g, 0, none⟩ : Addr).add j) = some u := hown.cells (g := g) rfl
      have hr' := run_append_grow (P := P) w t ty e i z ht hi hz ⟨g, 0, none⟩ n cap xs hown.1 holds a m c news hl hnews (by omega) (by omega) (growslice_fits (by omega) hbytes)
      rw [hr] at hr'
      injection hr' with e1 e2
      subst e1
      intro k hk
      rw [mem_blkV] at hk
      right
      have : w.heap.size = k := by simpa [Value.ownBlock] using hk
      omega
theorem wpList_append_blk {ops : Array Oper} {rest : List Oper} {o : Oper} {a : Act} {Q : Exit → Act → World → Prop} (hgd : o.guard = none) (s x : Operand) (t : TypeId)
    (ho : o.op = .call { callee := .builtin .append, args := #[s, x], argTypes := #[t, t] })
    (e : TypeId) (i : TypeInfo) (z : Value) (size bytes : Nat) (ht : P.underlying t = some (.slice e)) (hi : P.info? e = some i) (hz : i.zero = some z)
    (hsize : i.size = size) (hby : i.bytes = bytes) (hzs : z.cells.size = size) (hsz : 0 < size)
    (v : Value) (n : Nat) (xs : List Value) (hs : a.eval s = v) (hown : w.ownsRow 0 e size v n xs)
    (ad : Addr) (m c : Nat) (news : List Value) (hx : a.eval x = .slice (some ad) m c) (hl : news.length = m * size) (hnews : ∀ j u, news[j]? = some u → w.cell? (ad.add j) = some u) (h1 : ∀ u ∈ news, u.oneCell' = true)
    (h63 : n + m ≤ maxLen) (hbytes : (n + m) * bytes ≤ 140737488355328)
    (h : ∀ v' w', w'.ownsRow 0 e size v' (n + m) (xs ++ news) → w.grownBy w' v.ownBlock → (v' = .slice none 0 0 ↔ v = .slice none 0 0 ∧ m = 0) → (∀ k ∈ blkV v', k ∈ blkV v ∨ w.heap.size ≤ k) → wpList P ops Q rest (a.put o.dst v') w') : wpList P ops Q (o :: rest) a w := by
  refine wpList_plain hgd fun K hK => ?_
  obtain ⟨v', w', hr, h2, h3, h4, h5⟩ := run_append_blk (P := P) w t o.type e i z size bytes ht hi hz hsize hby hzs hsz v n xs hown ad m c news hl hnews h1 h63 hbytes
  unfold Oper.wp execOp
  simp only [ho, resolve, invoke, builtin, Sem.run_bind, Sem.run_pure, Result.andThen_ok, List.map_toArray, List.map_cons, List.map_nil, hs, hx, hr]
  exact hK _ _ (h v' w' h2 h3 h4 h5)
end
open Go.RowKit Go.Lib


/-- Bytes that came in, as a source. -/
theorem reads_src {w : World} {a : Addr} {n cap : Nat} {xs : List Int} (h : Reads w (.slice (some a) n cap) xs) : n = xs.length ∧ ∀ j u, (xs.map (Value.int .u8))[j]? = some u → w.cell? (a.add j) = some u := by
  rcases h.2 with ⟨e, _⟩ | ⟨a', cap', e, h1, h2, h3⟩
  · cases e
  · cases e
    refine ⟨rfl, fun j u hu => ?_⟩
    rw [List.getElem?_map] at hu
    by_cases hj : j < xs.length
    · have hc := h3 j hj
      rw [List.getElem?_eq_getElem hj] at hu
      simp only [Option.map_some, Option.some.injEq] at hu
      rw [List.getD, List.getElem?_eq_getElem hj] at hc
      rw [← hu]
      exact hc
    · rw [List.getElem?_eq_none (by omega)] at hu
      simp at hu
theorem bal {a b : World} (h : Below a.heap.size a b) (o : Obj) : Below a.heap.size a (b.alloc o) := h.alloc h.size _
/-- What a call left whole stays. -/
theorem OwnB.step {w w' : World} {v : Value} {xs : List Int} (h : OwnB w v xs) (hb : Below w.heap.size w w') : OwnB w' v xs := h.moved (Moved.below hb []) (fun _ _ q => by cases q)
/-- A row that was just laid. -/
theorem own_lit (w : World) (cs : Array Value) (n : Nat) (xs : List Int) (hb : ∀ x ∈ xs, 0 ≤ x ∧ x < 256) (hc : cs.toList = xs.map (Value.int .u8)) (hn : n = xs.length) (hl : n ≤ 1000) (b : Nat) (hbk : b = w.heap.size) : OwnB (w.alloc (.cells cs 5)) (.slice (some ⟨b, 0, none⟩) n n) xs := by
  subst hbk
  refine ⟨hb, ?_⟩
  have hs : cs.size = n * 1 := by rw [← Array.length_toList, hc, List.length_map]; omega
  have := World.ownsRow_lit (e := 5) (size := 1) (base := 0) w cs n (Nat.zero_le _) (by unfold maxLen; omega) hs
  rw [hc] at this
  rw [← hn]
  exact this
theorem blk_lit (w : World) (b : Nat) (n c : Nat) (h : w.heap.size ≤ b) : ∀ k ∈ blkV (.slice (some ⟨b, 0, none⟩) n c), w.heap.size ≤ k := fun k hk => by
  have : b = k := by simpa [mem_blkV, Value.ownBlock] using hk
  omega
theorem one_src (w : World) (z : Int) (b : Nat) (hb : b = w.heap.size) : ∀ j u, ([.int .u8 z] : List Value)[j]? = some u → (w.alloc (.cells #[.int .u8 z] 5)).cell? ((⟨b, 0, none⟩ : Addr).add j) = some u := fun j u hu => by
  subst hb
  rcases j with _ | j
  · simp at hu
    subst hu
    rw [addr_add]
    simp [go_sem]
  · simp at hu
theorem OwnB.at {w : World} {g cap : Nat} {xs : List Int} (h : OwnB w (.slice (some ⟨g, 0, none⟩) xs.length cap) xs) (i : Nat) (hi : i < xs.length) : w.cell? ⟨g, i, none⟩ = some (.int .u8 (xs.getD i 0)) := by
  rw [World.ownsRow.cellAt h.2 i (by omega), List.getElem?_map, List.getD, List.getElem?_eq_getElem hi]
  rfl
theorem OwnB.slice {w : World} {v : Value} {xs : List Int} (h : OwnB w v xs) (hx : xs ≠ []) : ∃ g cap, v = .slice (some ⟨g, 0, none⟩) xs.length cap ∧ xs.length ≤ cap ∧ cap ≤ maxLen ∧ g < w.heap.size := by
  rcases h.2.2 with ⟨_, e⟩ | ⟨g, cap, cur, rfl, hg, hh, h1, h2, h3, h4⟩
  · exact absurd (List.length_eq_zero_iff.1 e) hx
  · exact ⟨g, cap, rfl, h1, h2, (Array.getElem?_eq_some_iff.1 hh).1⟩
theorem OwnB.stored {w : World} {g cap : Nat} {xs : List Int} (h : OwnB w (.slice (some ⟨g, 0, none⟩) xs.length cap) xs) (i : Nat) (z : Int) (hz : 0 ≤ z ∧ z < 256) : OwnB (w.setCell ⟨g, i, none⟩ (.int .u8 z)) (.slice (some ⟨g, 0, none⟩) xs.length cap) (xs.set i z) := by
  refine ⟨fun x hx => ?_, ?_⟩
  · rcases List.mem_or_eq_of_mem_set hx with h1 | rfl
    · exact h.1 x h1
    · exact hz
  · have q := (World.ownsRow.stored h.2 i (.int .u8 z)).1
    rw [List.map_set, List.length_set]
    exact q

theorem own_slice {w : World} {v : Value} {xs : List Int} (h : OwnB w v xs) : ∃ x n c, v = .slice x n c := by
  rcases h.2.2 with ⟨rfl, _⟩ | ⟨g, cap, cur, rfl, _⟩
  · exact ⟨_, _, _, rfl⟩
  · exact ⟨_, _, _, rfl⟩

theorem own_empty {w : World} {v : Value} (h : OwnB w v []) : ∃ x c, v = .slice x 0 c := by
  rcases h.2.2 with ⟨rfl, _⟩ | ⟨g, cap, cur, rfl, _⟩
  · exact ⟨_, _, rfl⟩
  · exact ⟨_, _, rfl⟩

theorem own_len {w : World} {v : Value} {xs : List Int} (h : OwnB w v xs) (n : Nat) (hn : xs.length = n) : ∃ x c, v = .slice x n c := by
  rcases h.2.2 with ⟨rfl, e⟩ | ⟨g, cap, cur, rfl, _⟩
  · exact ⟨none, 0, by rw [← hn, e]⟩
  · exact ⟨_, _, by rw [← hn]⟩
theorem cell_moved {w w' : World} {S S' : List Nat} (m : Moved w w' S S') {a : Addr} {v : Value} (h : w.cell? a = some v) (hs : a.block ∉ S) : w'.cell? a = some v := (World.cell?_of_block (m.block _ (World.block_lt_of_cell? w _ h) hs)).trans h
theorem OwnB.lt {w : World} {v : Value} {xs : List Int} (h : OwnB w v xs) : ∀ k ∈ blkV v, k < w.heap.size := own_lt h.2
end Go.Proofs.YtdpgmepblmlaaaaDoor
namespace Go.Proofs.YtdpgmepblmlaaaaDoor
open Go.RowKit

/-- What an iterator does between two rounds: new blocks, and its own book-keeping from block m on. -/
structure Grow (m : Nat) (A C : World) : Prop where
  os : C.os = A.os
  tape : C.tape = A.tape
  output : C.output = A.output
  size : A.heap.size ≤ C.heap.size
  block : ∀ (k : Nat) (o : Obj), A.heap[k]? = some o → (k < m ∨ o.isCells = true) → C.heap[k]? = some o
theorem Grow.refl (m : Nat) (A : World) : Grow m A A := ⟨rfl, rfl, rfl, Nat.le_refl _, fun _ _ h _ => h⟩
theorem Grow.trans {m : Nat} {A B C : World} (h : Grow m A B) (k : Grow m B C) : Grow m A C := ⟨k.os.trans h.os, k.tape.trans h.tape, k.output.trans h.output, Nat.le_trans h.size k.size, fun i o ho hc => k.block i o (h.block i o ho hc) hc⟩
theorem Grow.below {A B : World} (h : Below A.heap.size A B) (m : Nat) : Grow m A B := ⟨h.os, h.tape, h.output, h.size, fun k _ ho _ => (h.block k (Array.getElem?_eq_some_iff.1 ho).1).trans ho⟩
theorem Grow.alloc (A : World) (o : Obj) (m : Nat) : Grow m A (A.alloc o) := Grow.below ((Below.refl _ _).alloc (Nat.le_refl _) o) m
theorem Grow.mono {m m' : Nat} {A C : World} (h : Grow m A C) (hm : m' ≤ m) : Grow m' A C := ⟨h.os, h.tape, h.output, h.size, fun k _ ho hc => h.block k _ ho (hc.elim (fun q => .inl (Nat.lt_of_lt_of_le q hm)) .inr)⟩
theorem Grow.put {m : Nat} {A : World} {l : Nat} {o : Obj} (o' : Obj) (hl : m ≤ l) (ho : A.heap[l]? = some o) (hc : o.isCells = false) : Grow m A (A.putObj l o') :=
  ⟨rfl, rfl, rfl, by simp, fun k q hq h => by
    by_cases e : k = l
    · subst e
      rw [ho] at hq
      cases hq
      rcases h with h | h
      · omega
      · rw [hc] at h; cases h
    · exact (World.putObj_heap_other e).trans hq⟩
/-- A fact that abides that. -/
def Abides (m : Nat) (I : World → Prop) : Prop := ∀ A C, Grow m A C → I A → I C
/-- What a round does to the blocks from m on: only those of S have changed; what it owns then was in S, or is new. -/
structure Touch (m : Nat) (A C : World) (S S' : List Nat) : Prop where
  size : A.heap.size ≤ C.heap.size
  block : ∀ k, m ≤ k → k < A.heap.size → k ∉ S → C.heap[k]? = A.heap[k]?
  from' : ∀ k, k ∈ S' → k ∈ S ∨ A.heap.size ≤ k
theorem Touch.refl (m : Nat) (A : World) (S : List Nat) : Touch m A A S S := ⟨Nat.le_refl _, fun _ _ _ _ => rfl, fun _ h => .inl h⟩
theorem Touch.trans {m : Nat} {A B C : World} {S T U : List Nat} (h : Touch m A B S T) (k : Touch m B C T U) : Touch m A C S U :=
  ⟨Nat.le_trans h.size k.size, fun i hm hi hs => (k.block i hm (Nat.lt_of_lt_of_le hi h.size) (fun ht => by rcases h.from' i ht with q | q; exact hs q; omega)).trans (h.block i hm hi hs),
    fun i hi => by
      rcases k.from' i hi with q | q
      · exact h.from' i q
      · exact .inr (Nat.le_trans h.size q)⟩
theorem Touch.mono {m m' : Nat} {A C : World} {S S' : List Nat} (h : Touch m A C S S') (hm : m ≤ m') : Touch m' A C S S' := ⟨h.size, fun k hk => h.block k (Nat.le_trans hm hk), h.from'⟩
theorem Touch.below {A C : World} (h : Below A.heap.size A C) (m : Nat) (S : List Nat) : Touch m A C S S := ⟨h.size, fun k _ hk _ => h.block k hk, fun _ q => .inl q⟩
theorem Touch.alloc (A : World) (o : Obj) (m : Nat) (S : List Nat) : Touch m A (A.alloc o) S S := Touch.below ((Below.refl _ _).alloc (Nat.le_refl _) o) m S
theorem Touch.moved {A C : World} {S S' : List Nat} (h : Moved A C S S') (m : Nat) : Touch m A C S S' := ⟨h.size, fun k _ hk hs => h.block k hk hs, h.from'⟩
theorem Touch.set (A : World) {m : Nat} (a : Addr) (u : Value) {S : List Nat} (h : a.block < m ∨ a.block ∈ S) : Touch m A (A.setCell a u) S S :=
  ⟨by simp [World.setCell], fun k hk _ hs => Go.heap_setCell_other A a k u (fun e => by rcases h with h | h; omega; exact hs (e ▸ h)), fun _ q => .inl q⟩
theorem Touch.put (A : World) {m l : Nat} (o : Obj) (h : l < m) (S : List Nat) : Touch m A (A.putObj l o) S S :=
  ⟨by simp, fun k hk _ _ => World.putObj_heap_other (by omega), fun _ q => .inl q⟩
/-- How a round's body is left: footprints S to S'. -/
def roundF (m : Nat) (S : List Nat) (J : List Nat → World → Prop) (Jx : Code → List Nat → World → Prop) (W : World) : Exit → Act → World → Prop
  | .normal, _, W' => ∃ S', Touch m W W' S S' ∧ J S' W'
  | .ret, _, W' => ∃ S', Touch m W W' S S' ∧ Jx .ret S' W'
  | .exit id, _, W' => ∃ S', Touch m W W' S S' ∧ Jx (.exit id) S' W'
  | .goto t, _, W' => ∃ S', Touch m W W' S S' ∧ Jx (.goto t) S' W'
  | .panic _, _, _ => False
  | .outgrown, _, _ => False
/-- An iterator tells N things, the k-th of them as el says; R: what it must find at each time. -/
def SeqF {α : Type} (F : Fence) (n : Nat) (P : Program) (gf : Nat) (lb : Array Value) (encs : α → Array Value) (el : Nat → α → World → Prop) (N : Nat) (R : World → Prop) (W : World) : Prop :=
  ∀ (l : Nat) (I Ix : Nat → List Nat → World → Prop), (∀ k S, Abides W.heap.size (I k S)) → (∀ k S, Abides W.heap.size (Ix k S)) → (∀ k S V, I k S V → R V) → I 0 [] W →
    (∀ k x S V, k < N → el k x V → I k S V → W.heap.size ≤ V.heap.size → YieldAt F (n - 1) P l (encs x) V fun e V' => ∃ S', Touch W.heap.size V V' S S' ∧ ((e = .returned (.bool true) ∧ I (k + 1) S' V') ∨ (e = .returned (.bool false) ∧ Ix (k + 1) S' V'))) →
    CallsIn F n P gf (#[.func (.yield l) #[] #[]] ++ lb) W fun e V => (∃ v, e = .returned v) ∧ ((∃ S, I N S V) ∨ ∃ k S, k < N ∧ Ix (k + 1) S V)

section
variable {F : Fence} {n : Nat} {P : Program}
theorem rangeFunc_seq {α : Type} {g : Operand} {ps : Array Tmp} {assign body : Code} {Q : Exit → Act → World → Prop} {a : Act} {w : World}
    (hro : F.round = none) (h1 : 1 ≤ n) {gf : Nat} {lb : Array Value} (hg : a.eval g = .func (.func gf) #[] lb) (hFg : F.fn gf) (eg : ∀ args w, (callFunc gf args).run P w = .ok (.enter gf args) w)
    {encs : α → Array Value} (hps : ∀ x, (encs x).size = ps.size) {el : Nat → α → World → Prop} {N : Nat} {R : World → Prop}
    (I : Nat → List Nat → World → Prop) (Ix : Code → Nat → List Nat → World → Prop) (hI : ∀ k S, Abides w.heap.size (I k S)) (hIx : ∀ c k S, Abides w.heap.size (Ix c k S)) (hR : ∀ k S V, I k S V → R V) (h0 : I 0 [] w)
    (Ax : Nat → List Nat → α → Act → World → Prop) (hAx : ∀ k S x a', Abides w.heap.size (Ax k S x a'))
    (hassign : ∀ (l k : Nat) (x : α) (S : List Nat) (W : World) (K : Act → World → Prop), k < N → el k x W → I k S W → w.heap.size + 2 ≤ W.heap.size → (∀ a' W', Touch w.heap.size W W' S S → Ax k S x a' W' → K a' W') →
      assign.wpIn (F.inRound l) (n - 1 - 1) P (Exit.then K (fun _ _ _ => False)) { tmps := (ps.zip (encs x)).foldl (fun t (p, v) => t.setIfInBounds p v) a.tmps, defers := [] } W)
    (hbody : ∀ (l k : Nat) (x : α) (S : List Nat) (a' : Act) (W : World), k < N → Ax k S x a' W → w.heap.size + 2 ≤ W.heap.size → body.wpIn (F.inRound l) (n - 1 - 1) P (roundF w.heap.size S (I (k + 1)) (fun c => Ix c (k + 1)) W) a' W)
    (hiter : ∀ o1 o2 : Obj, o1.isCells = false → o2.isCells = false → SeqF F (n - 1) P gf lb encs el N R ((w.alloc o1).alloc o2))
    (hdone : ∀ (D : Nat) (S : List Nat) (W : World), w.heap.size ≤ D → I N S W → W.heap[D]? = some (.deferred (some [])) → Q .normal { a with defers := { target := .collected D, args := #[] } :: a.defers } W)
    (hstop : ∀ (D k : Nat) (c : Code) (S : List Nat) (W : World), w.heap.size ≤ D → k < N → Ix c (k + 1) S W → W.heap[D]? = some (.deferred (some [])) → c.wpIn F n P Q { a with defers := { target := .collected D, args := #[] } :: a.defers } W) :
    (Code.rangeFunc g ps assign body).wpIn F n P Q a w := by
  refine wpIn_rangeFunc ?_
  intro fn hfn
  rw [hro]
  obtain ⟨rec, hrec⟩ : ∃ rec : LoopState → Option Code → Loop, rec = fun st pe => { state := st, pending := pe, fn, tmps := a.tmps, params := ps, assign, body, defers := w.heap.size } := ⟨_, rfl⟩
  let BK : LoopState → Option Code → World → Prop := fun st pe W => W.heap[w.heap.size + 1]? = some (.loop (rec st pe)) ∧ W.heap[w.heap.size]? = some (.deferred (some []))
  obtain ⟨W1, hW1⟩ : ∃ W1, (w.alloc (.deferred (some []))).alloc (.loop (rec .ready none)) = W1 := ⟨_, rfl⟩
  have hz1 : W1.heap.size = w.heap.size + 2 := by rw [← hW1]; simp
  have hBK : ∀ st pe, Abides W1.heap.size (BK st pe) := fun st pe A C hk h => ⟨hk.block _ _ h.1 (.inl (by omega)), hk.block _ _ h.2 (.inl (by omega))⟩
  have hB1 : BK .ready none W1 := by
    rw [← hW1]
    refine ⟨?_, (Below.heap_alloc _ _ _ (by simp)).trans (World.alloc_heap_new w _)⟩
    have := World.alloc_heap_new (w.alloc (.deferred (some []))) (.loop (rec .ready none))
    rwa [World.size_alloc] at this
  have hit := hiter (.deferred (some [])) (.loop (rec .ready none)) rfl rfl
  rw [hW1] at hit
  have hI1 : I 0 [] W1 := by rw [← hW1]; exact hI 0 [] _ _ ((Grow.alloc w _ _).trans (Grow.alloc _ _ _)) h0
  let FS : List Nat → Prop := fun S => ∀ k ∈ S, w.heap.size + 2 ≤ k
  refine ⟨w.heap.size + 1, [{ target := .collected w.heap.size, args := #[] }], W1, { target := .fn (.func gf) lb, args := #[.func (.yield (w.heap.size + 1)) #[] #[]] }, W1, gf,
    #[.func (.yield (w.heap.size + 1)) #[] #[]] ++ lb, W1, ?_, ?_, ?_, ?_, fun _ => h1, ?_⟩
  · rw [← hW1, hrec]; exact run_enterLoop_outer _ _ _ _ _
  · simp only [resolve, hg]
    simp [go_sem]
  · intro f' hf'; simp [Target.leads] at hf'; subst hf'; exact hFg
  · simp [invoke, go_sem, eg]
  · have hle : w.heap.size ≤ W1.heap.size := by omega
    refine (hit (w.heap.size + 1) (fun k S V => FS S ∧ I k S V ∧ BK .ready none V) (fun k S V => ∃ c, Ix c k S V ∧ BK .done (some c) V)
      (fun k S A C hk h => ⟨h.1, hI k S _ _ (hk.mono hle) h.2.1, hBK _ _ _ _ hk h.2.2⟩) (fun k S A C hk ⟨c, h1, h2⟩ => ⟨c, hIx c k S _ _ (hk.mono hle) h1, hBK _ _ _ _ hk h2⟩) (fun k S V h => hR k S V h.2.1) ⟨fun _ h => (by cases h), hI1, hB1⟩ ?_).mono ?_
    · rintro k x S W hkN hel ⟨hfs, hi, hl, hk⟩ hsz
      have hlt : w.heap.size + 1 < W.heap.size := (Array.getElem?_eq_some_iff.1 hl).1
      have hy := run_yield (P := P) (args := encs x) hl (by rw [hrec]; exact hps x)
      rw [hrec] at hy
      refine ⟨fn, _, assign, body, hy, roundIn_of_wpIn hfn (hassign _ k x S W _ hkN hel hi (by omega) fun a' Wa hta hax => ⟨_, run_beginRound ((hta.block _ (by omega) hlt (fun q => by have := hfs _ q; omega)).trans hl) (by rw [hrec]), ?_⟩)⟩
      have hla := (hta.block _ (by omega) hlt (fun q => by have := hfs _ q; omega)).trans hl
      have hka := (hta.block w.heap.size (by omega) (by omega) (fun q => by have := hfs _ q; omega)).trans hk
      have hza := hta.size
      obtain ⟨Wb, hWb⟩ : ∃ Wb, Wa.putObj (w.heap.size + 1) (.loop { rec .ready none with state := .busy }) = Wb := ⟨_, rfl⟩
      have hl2 : Wb.heap[w.heap.size + 1]? = some (.loop { rec .ready none with state := .busy }) := by rw [← hWb]; exact World.putObj_heap_same (by omega)
      have hk2 : Wb.heap[w.heap.size]? = some (.deferred (some [])) := by rw [← hWb]; exact (World.putObj_heap_other (by omega)).trans hka
      have hp2 : Ax k S x a' Wb := by rw [← hWb]; exact hAx k S x a' _ _ (Grow.put _ (by omega) hla rfl) hax
      have hzb : Wb.heap.size = Wa.heap.size := by rw [← hWb]; simp
      have htb : Touch W1.heap.size W Wb S S := (hta.mono hle).trans (by rw [← hWb]; exact Touch.put _ _ (by omega) _)
      rw [hWb]
      refine wpIn_mono (hbody _ k x S a' _ hkN hp2 (by omega)) ?_
      have fin : ∀ (jump : Option Code) (S' : List Nat) (W3 : World), Touch w.heap.size Wb W3 S S' →
          (Instr.endRound (w.heap.size + 1) jump).run P W3 = .ok (.bool jump.isNone) (W3.putObj (w.heap.size + 1) (.loop (rec (if jump.isNone then .ready else .done) jump))) ∧
          BK (if jump.isNone then .ready else .done) jump (W3.putObj (w.heap.size + 1) (.loop (rec (if jump.isNone then .ready else .done) jump))) ∧
          Grow w.heap.size W3 (W3.putObj (w.heap.size + 1) (.loop (rec (if jump.isNone then .ready else .done) jump))) ∧ Touch W1.heap.size W (W3.putObj (w.heap.size + 1) (.loop (rec (if jump.isNone then .ready else .done) jump))) S S' ∧ FS S' := fun jump S' W3 ht3 => by
        have hl3 := (ht3.block _ (by omega) (by omega) (fun q => by have := hfs _ q; omega)).trans hl2
        have hk3 := (ht3.block w.heap.size (by omega) (by omega) (fun q => by have := hfs _ q; omega)).trans hk2
        have hr := run_endRound (P := P) jump hl3
        refine ⟨?_, ⟨World.putObj_heap_same (Array.getElem?_eq_some_iff.1 hl3).1, (World.putObj_heap_other (by omega)).trans hk3⟩, Grow.put _ (by omega) hl3 rfl, (htb.trans (ht3.mono hle)).trans (Touch.put _ _ (by omega) _), fun q hq => ?_⟩
        · rw [hrec] at hr ⊢
          exact hr
        · rcases ht3.from' q hq with h | h
          · exact hfs q h
          · omega
      rintro e a3 W3 hq
      cases e with
      | normal =>
        obtain ⟨S', ht3, hi3⟩ := hq
        obtain ⟨hr, hb, hG, hT, hF⟩ := fin none S' W3 ht3
        exact ⟨_, _, hr, S', hT, .inl ⟨rfl, hF, hI _ _ _ _ hG hi3, hb⟩⟩
      | ret =>
        obtain ⟨S', ht3, hi3⟩ := hq
        obtain ⟨hr, hb, hG, hT, hF⟩ := fin (some .ret) S' W3 ht3
        exact ⟨_, _, hr, S', hT, .inr ⟨rfl, _, hIx _ _ _ _ _ hG hi3, hb⟩⟩
      | exit id =>
        obtain ⟨S', ht3, hi3⟩ := hq
        obtain ⟨hr, hb, hG, hT, hF⟩ := fin (some (.exit id)) S' W3 ht3
        exact ⟨_, _, hr, S', hT, .inr ⟨rfl, _, hIx _ _ _ _ _ hG hi3, hb⟩⟩
      | goto t =>
        obtain ⟨S', ht3, hi3⟩ := hq
        obtain ⟨hr, hb, hG, hT, hF⟩ := fin (some (.goto t)) S' W3 ht3
        exact ⟨_, _, hr, S', hT, .inr ⟨rfl, _, hIx _ _ _ _ _ hG hi3, hb⟩⟩
      | panic ch => exact hq.elim
      | outgrown => exact hq.elim
    · rintro e W2 ⟨⟨v, rfl⟩, (⟨S, _, hd, hl, hk⟩ | ⟨k, S, hkN, c, hs, hl, hk⟩)⟩
      · exact ⟨none, _, by have := run_endLoop (P := P) hl (by rw [hrec]; simp); rw [hrec] at this; exact this, hdone _ S _ (Nat.le_refl _) (hI _ _ _ _ (Grow.put _ (by omega) hl rfl) hd) ((World.putObj_heap_other (by omega)).trans hk)⟩
      · exact ⟨some c, _, by have := run_endLoop (P := P) hl (by rw [hrec]; simp); rw [hrec] at this; exact this, hstop _ k c S _ (Nat.le_refl _) hkN (hIx _ _ _ _ _ (Grow.put _ (by omega) hl rfl) hs) ((World.putObj_heap_other (by omega)).trans hk)⟩
end
end Go.Proofs.YtdpgmepblmlaaaaDoor
