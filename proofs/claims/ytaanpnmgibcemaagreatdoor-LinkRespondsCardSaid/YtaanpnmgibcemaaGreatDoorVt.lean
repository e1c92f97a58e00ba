/-
  A link is made.
-/
import Derived.Test.YtaanpnmgibcemaaGreatDoorVs
namespace Go.Proofs.YtaanpnmgibcemaaGreatDoor
open Go.RowKit Go.Lib

/-- A new link's state. -/
def Lk.new : Lk := ⟨.between, fun _ => 0, 0, ⟨#[]⟩, [], [], false, [], 0⟩
/-- What a link agrees to. -/
def oursL (x : Bool) : List Int := if x = true then [0, 24, 25, 40] else [0, 24, 25]
def cfOf (T D : ByteArray) (fs : List Int) (x : Bool) : Cf := ⟨Op.agN (oursL x) [0, 25], T, D, fs⟩
/-- A link was made, of new blocks. -/
def NewL (T D : ByteArray) (fs : List Int) (x : Bool) (w : World) (e : Ending) (w' : World) : Prop := ∃ L y, e = .returned (.tuple #[.pointer (some ⟨L, 0, none⟩), .int .i64 0]) ∧ LkM w' L (cfOf T D fs x) y Lk.new ∧ Below w.heap.size w w' ∧ ∀ b ∈ y.foot L, w.heap.size ≤ b
/-- Is there such a terminal? -/
def cfErr (T D : ByteArray) (fs : List Int) : Int := if Ng.nameOk T D = false then 4 else if Ng.risesL fs = false then 1 else 0
section
variable {T D : ByteArray} {x : Option Addr} {n c : Nat} {fs : List Int} {w : World}
theorem ngnew_ok (hr : Ng.RdG w (.slice x n c) fs) (hn : n = fs.length) (hl : n ≤ 1000) (hT : T.size ≤ 1000) (hD : D.size ≤ 1000) (h : cfErr T D fs = 0) : Calls Tryz.prog 56 #[.agg #[.string T, .string D, .slice x n c]] w (Ng.NewD T D fs w) := by
  unfold cfErr at h
  cases h1 : Ng.nameOk T D
  · rw [if_pos h1] at h; omega
  · cases h2 : Ng.risesL fs
    · rw [if_neg (by rw [h1]; simp), if_pos h2] at h; omega
    · by_cases hd : D.size = 0
      · exact Ng.new_ok_none T D x n c fs w hr hn hl hT hD hd h1 h2
      · exact Ng.new_ok_some T D x n c fs w hr hn hl hT hD hd h1 h2
theorem ngnew_no (hr : Ng.RdG w (.slice x n c) fs) (hn : n = fs.length) (hl : n ≤ 1000) (hT : T.size ≤ 1000) (hD : D.size ≤ 1000) (h : cfErr T D fs ≠ 0) : Calls Tryz.prog 56 #[.agg #[.string T, .string D, .slice x n c]] w (Ng.NoD (cfErr T D fs) w) := by
  unfold cfErr at h ⊢
  cases h1 : Ng.nameOk T D
  · rw [if_pos rfl]
    exact Ng.new_bad T D x n c fs w hr hn hl hT hD h1
  · cases h2 : Ng.risesL fs
    · rw [if_neg (by simp), if_pos rfl]
      by_cases hd : D.size = 0
      · exact Ng.new_arg_none T D x n c fs w hr hn hl hT hD hd h1 h2
      · exact Ng.new_arg_some T D x n c fs w hr hn hl hT hD hd h1 h2
    · rw [h1, h2] at h
      simp at h
/-- The parts, one behind the other, and the link. -/
theorem newL_of {x : Bool} {w1 w2 w3 w4 w5 w6 : World} {E : Nat} {sv : Value} (he : Ng.EndM w1 E sv (.slice none 0 0) T D fs 0 ⟨#[]⟩ []) (h1 : Below w.heap.size w w1) (hE : w.heap.size ≤ E) (hE1 : E < w1.heap.size) (hs : ∀ k ∈ blkV sv, w.heap.size ≤ k) (hs1 : ∀ k ∈ blkV sv, k < w1.heap.size)
    (h2 : Below w1.heap.size w1 w2) (h3 : Below w2.heap.size w2 w3) (hr : Tn.RIn w3 w2.heap.size (.slice none 0 0) .between) (h33 : Below w3.heap.size w3 w6) (hm : Op.Mach w4 w6.heap.size (Op.agN (oursL x) [0, 25]) (fun _ => 0)) (h4 : Below w6.heap.size w6 w4)
    (hk : MkM w5 w4.heap.size (.slice none 0 0) [] false) (h5 : Below w4.heap.size w4 w5) {R M : Nat} (hR : R = w2.heap.size) (hM : M = w6.heap.size) :
    NewL T D fs x w (.returned (.tuple #[.pointer (some ⟨w5.heap.size, 0, none⟩), .int .i64 0])) (w5.alloc (.cells #[.pointer (some ⟨R, 0, none⟩), .pointer (some ⟨M, 0, none⟩), .pointer (some ⟨E, 0, none⟩), .pointer (some ⟨w4.heap.size, 0, none⟩), .slice none 0 0, .int .u16 0] 84)) := by
  subst hR hM
  have l2 : w2.heap.size < w3.heap.size := by
    obtain ⟨_, q, _⟩ := hr
    exact (Array.getElem?_eq_some_iff.1 q).1
  have l4 := hm.lt
  have l5 : w4.heap.size < w5.heap.size := (Array.getElem?_eq_some_iff.1 hk.b).1
  have e0 : Below w5.heap.size w5 (w5.alloc (.cells #[.pointer (some ⟨w2.heap.size, 0, none⟩), .pointer (some ⟨w6.heap.size, 0, none⟩), .pointer (some ⟨E, 0, none⟩), .pointer (some ⟨w4.heap.size, 0, none⟩), .slice none 0 0, .int .u16 0] 84)) := bal (Below.refl _ _) _
  have e5 := below_t h5 e0
  have e4 := below_t h4 e5
  have e3 := below_t h33 e4
  have e2 := below_t h3 e3
  have e1 := below_t h2 e2
  have s1 := h1.size
  have s2 := h2.size
  have s3 := h33.size
  have s4 := h5.size
  refine ⟨_, ⟨w2.heap.size, w6.heap.size, E, w4.heap.size, .slice none 0 0, sv, .slice none 0 0, .slice none 0 0, .slice none 0 0⟩, rfl, ⟨World.alloc_heap_new w5 _, ?_, ?_, ?_, ?_, ?_, OwnB.nil _, ?_, ?_⟩, below_t h1 e1, ?_⟩
  · exact hr.moved (Moved.below e3 []) (fun _ _ q => by cases q)
  · intro q; cases q
  · exact hm.moved (Moved.below e5 []) (fun q => by cases q)
  · exact he.moved (Moved.below e1 []) (fun q => by cases q) (fun _ _ q => by cases q) (fun _ _ q => by cases q)
  · exact hk.moved (Moved.below e0 []) (fun q => by cases q) (fun _ _ q => by cases q)
  · intro q; cases q
  · refine ⟨fun b => if b < w1.heap.size then 3 else if b < w3.heap.size then 1 else if b < w4.heap.size then 2 else if b < w5.heap.size then 4 else 0, ?_, ?_, ?_, ?_, ?_, ?_, ?_, ?_, ?_, ?_⟩
    · try dsimp only
      rw [if_neg (by omega), if_neg (by omega), if_neg (by omega), if_neg (by omega)]
    · try dsimp only
      rw [if_neg (by omega), if_pos (by omega)]
    · intro b q; cases q
    · try dsimp only
      rw [if_neg (by omega), if_neg (by omega), if_pos (by omega)]
    · try dsimp only
      rw [if_pos (by omega)]
    · intro b q
      have := hs1 b q
      try dsimp only
      rw [if_pos (by omega)]
    · intro b q; cases q
    · try dsimp only
      rw [if_neg (by omega), if_neg (by omega), if_neg (by omega), if_pos (by omega)]
    · intro b q; cases q
    · intro b q; cases q
  · intro b q
    rcases mem_foot.1 q with rfl | q | rfl | q | rfl | rfl | q | q | rfl | q
    all_goals first | (cases q; done) | (have := hs _ q; omega) | ((try dsimp only); omega)
end
end Go.Proofs.YtaanpnmgibcemaaGreatDoor
