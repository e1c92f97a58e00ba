/-
  The screen, purely: cells, a space, what is done to it; and how it lies in memory.
-/
import Derived.Test.YtdaainifnbbhiaaYj
namespace Go.Proofs.Ytdaainifnbbhiaa
open Go.RowKit Go.Lib

/-- A cell. -/
structure Cel where
  ch : Int
  at_ : Bool
  fa : Int
  hi : Int
  co : Int
  se : Int
deriving DecidableEq
/-- Its values. -/
def Cel.cs (c : Cel) : List Value := [.int .u8 c.ch, .bool c.at_, .int .u8 c.fa, .int .u8 c.hi, .int .u8 c.co, .int .u8 c.se]
abbrev Cel.v (c : Cel) : Value := .agg #[.int .u8 c.ch, .bool c.at_, .int .u8 c.fa, .int .u8 c.hi, .int .u8 c.co, .int .u8 c.se]
/-- The empty one. -/
def cel0 : Cel := ⟨0, false, 0, 0, 0, 0⟩
abbrev U8 (n : Int) : Prop := 0 ≤ n ∧ n < 256
theorem u8_zero : U8 0 := ⟨by decide, by decide⟩
/-- It is one. -/
structure Cel.OK (c : Cel) : Prop where
  ch : U8 c.ch
  fa : U8 c.fa
  hi : U8 c.hi
  co : U8 c.co
  se : U8 c.se
theorem cel0_ok : cel0.OK := ⟨u8_zero, u8_zero, u8_zero, u8_zero, u8_zero⟩
/-- Six bits, without the unused one. -/
def sixB (n : Int) : Int := bits .and .u8 n 61
theorem u8_nat {n : Int} (h : U8 n) : ∃ m : Nat, m < 256 ∧ n = m := ⟨n.toNat, by have := h.1; have := h.2; omega, by have := h.1; omega⟩
theorem sixB_tab : ∀ m : Nat, m < 256 → (0 ≤ sixB m ∧ sixB m < 64) ∧ bitsZ (ofP m) (ofN m) (ofD m) (ofM m) = sixB m := by decide +kernel
theorem sixB_u8 {n : Int} (h : U8 n) : U8 (sixB n) := by
  obtain ⟨m, hm, rfl⟩ := u8_nat h
  have := (sixB_tab m hm).1
  exact ⟨this.1, by omega⟩
/-- A cell as it may stand. -/
def fit (c : Cel) : Cel := if c.at_ then { c with ch := 0, fa := sixB c.fa } else { c with fa := 0 }
theorem fit_ok {c : Cel} (h : c.OK) : (fit c).OK := by
  unfold fit
  split
  · exact ⟨u8_zero, sixB_u8 h.fa, h.hi, h.co, h.se⟩
  · exact ⟨h.ch, u8_zero, h.hi, h.co, h.se⟩
/-- The sizes. -/
def rowsZ (m : Int) (alt : Bool) : Int := if alt then (if m = 2 then 24 else if m = 3 then 32 else if m = 4 then 43 else 27) else 24
def colsZ (m : Int) (alt : Bool) : Int := if alt then (if m = 5 then 132 else 80) else 80
theorem size_ok {m : Int} (h1 : 2 ≤ m) (h2 : m ≤ 5) (alt : Bool) : Ok (rowsZ m alt) (colsZ m alt) := by
  have h : m = 2 ∨ m = 3 ∨ m = 4 ∨ m = 5 := by omega
  rcases h with rfl | rfl | rfl | rfl <;> cases alt <;> exact ⟨by decide, by decide, by decide, by decide, by decide⟩
/-- A space. -/
structure Spc where
  mo : Int
  alt : Bool
  L : List Cel
  cu : Int
  ex : Nat
def Spc.r (s : Spc) : Int := rowsZ s.mo s.alt
def Spc.c (s : Spc) : Int := colsZ s.mo s.alt
structure Spc.OK (s : Spc) : Prop where
  m1 : 2 ≤ s.mo
  m2 : s.mo ≤ 5
  len : (s.L.length : Int) = s.r * s.c
  cells : ∀ c ∈ s.L, c.OK
  cu1 : 0 ≤ s.cu
  cu2 : s.cu < s.L.length
theorem Spc.OK.sz {s : Spc} (h : s.OK) : Ok s.r s.c := size_ok h.m1 h.m2 _
theorem Spc.OK.pos {s : Spc} (h : s.OK) : 0 < s.L.length ∧ s.L.length ≤ 3564 := by
  have := ok_pos h.sz
  have := h.len
  omega
/-- A number's place. -/
def Spc.wr (s : Spc) (n : Int) : Nat := (n % (s.L.length : Int)).toNat
theorem Spc.OK.wr_lt {s : Spc} (h : s.OK) (n : Int) : s.wr n < s.L.length := by
  have := h.pos
  have := Int.emod_lt_of_pos n (show (0 : Int) < s.L.length by omega)
  have := Int.emod_nonneg n (show (s.L.length : Int) ≠ 0 by omega)
  unfold Spc.wr
  omega
theorem Spc.OK.wr_eq {s : Spc} (h : s.OK) (n : Int) : (s.wr n : Int) = n % (s.L.length : Int) := by
  have := h.pos
  have := Int.emod_nonneg n (show (s.L.length : Int) ≠ 0 by omega)
  unfold Spc.wr
  omega
def Spc.cel (s : Spc) (i : Nat) : Cel := s.L.getD i cel0
theorem Spc.OK.cel {s : Spc} (h : s.OK) (i : Nat) : (s.cel i).OK := by
  unfold Spc.cel
  by_cases hi : i < s.L.length
  · rw [List.getD, List.getElem?_eq_getElem hi]
    exact h.cells _ (List.getElem_mem hi)
  · rw [List.getD, List.getElem?_eq_none (by omega)]
    exact cel0_ok
def Spc.atC (s : Spc) (n : Int) : Cel := s.cel (s.wr n)
def Spc.put1 (s : Spc) (i : Nat) (c : Cel) : Spc := { s with L := s.L.set i c }
def Spc.setC (s : Spc) (n : Int) (c : Cel) : Spc := s.put1 (s.wr n) (fit c)
def Spc.putC (s : Spc) (n : Int) (code : Int) : Spc := if (s.atC n).at_ then s else s.setC n { s.atC n with ch := code }
def Spc.place (s : Spc) (n : Int) : Spc := { s with cu := s.wr n }
def clearS (mo : Int) (alt : Bool) : Spc := ⟨mo, alt, List.replicate (rowsZ mo alt * colsZ mo alt).toNat cel0, 0, 0⟩
theorem clearS_ok {m : Int} (h1 : 2 ≤ m) (h2 : m ≤ 5) (alt : Bool) : (clearS m alt).OK := by
  have hp := ok_pos (size_ok h1 h2 alt)
  refine ⟨h1, h2, ?_, fun c hc => ?_, Int.le_refl _, ?_⟩
  · simp only [clearS, List.length_replicate, Spc.r, Spc.c]
    omega
  · rw [List.eq_of_mem_replicate hc]
    exact cel0_ok
  · simp only [clearS, List.length_replicate]
    omega
theorem Spc.OK.put1 {s : Spc} (h : s.OK) (i : Nat) {c : Cel} (hc : c.OK) : (s.put1 i c).OK := by
  refine ⟨h.m1, h.m2, ?_, fun x hx => ?_, h.cu1, ?_⟩
  · have := h.len
    simp only [Spc.put1, List.length_set]
    exact this
  · rcases List.mem_or_eq_of_mem_set hx with q | rfl
    · exact h.cells _ q
    · exact hc
  · have := h.cu2
    simp only [Spc.put1, List.length_set]
    exact this
theorem Spc.OK.setC {s : Spc} (h : s.OK) (n : Int) {c : Cel} (hc : c.OK) : (s.setC n c).OK := h.put1 _ (fit_ok hc)
theorem Spc.OK.putC {s : Spc} (h : s.OK) (n : Int) {code : Int} (hc : U8 code) : (s.putC n code).OK := by
  unfold Spc.putC
  split
  · exact h
  · have := h.cel (s.wr n)
    exact h.setC n ⟨hc, this.fa, this.hi, this.co, this.se⟩
theorem Spc.OK.place {s : Spc} (h : s.OK) (n : Int) : (s.place n).OK := ⟨h.m1, h.m2, h.len, h.cells, by simp [Spc.place], by have := h.wr_lt n; simp only [Spc.place]; omega⟩
theorem Spc.put1_len (s : Spc) (i : Nat) (c : Cel) : (s.put1 i c).L.length = s.L.length := by simp [Spc.put1]
theorem Spc.put1_cel (s : Spc) (i k : Nat) (c : Cel) : (s.put1 i c).cel k = if k = i ∧ i < s.L.length then c else s.cel k := by
  unfold Spc.cel Spc.put1
  simp only [List.getD]
  by_cases h : k = i
  · subst h
    by_cases hk : k < s.L.length
    · rw [List.getElem?_set_self hk]; simp [hk]
    · rw [if_neg (by omega), List.getElem?_eq_none (by simp; omega), List.getElem?_eq_none (by omega)]
  · rw [List.getElem?_set_ne (by omega), if_neg (by omega)]

/-- Cells in memory. -/
structure CellsM (w : World) (g : Nat) (L : List Cel) : Prop where
  at_ : ∀ i, i < L.length → ∀ j, j < 6 → w.cell? ⟨g, i * 6 + j, none⟩ = (L.getD i cel0).cs[j]?
  fr : ∀ o, w.frozen? ⟨g, o, none⟩ = false
  lt : g < w.heap.size
theorem CellsM.six {w : World} {g : Nat} {L : List Cel} (h : CellsM w g L) (i : Nat) (hi : i < L.length) (c : Cel) (hc : L.getD i cel0 = c) :
    w.cell? ⟨g, i * 6, none⟩ = some (.int .u8 c.ch) ∧ w.cell? ⟨g, i * 6 + 1, none⟩ = some (.bool c.at_) ∧ w.cell? ⟨g, i * 6 + 2, none⟩ = some (.int .u8 c.fa) ∧ w.cell? ⟨g, i * 6 + 3, none⟩ = some (.int .u8 c.hi) ∧ w.cell? ⟨g, i * 6 + 4, none⟩ = some (.int .u8 c.co) ∧ w.cell? ⟨g, i * 6 + 5, none⟩ = some (.int .u8 c.se) := by
  subst hc
  exact ⟨h.at_ i hi 0 (by decide), h.at_ i hi 1 (by decide), h.at_ i hi 2 (by decide), h.at_ i hi 3 (by decide), h.at_ i hi 4 (by decide), h.at_ i hi 5 (by decide)⟩
theorem cell_block {A B : World} {a : Addr} (h : B.heap[a.block]? = A.heap[a.block]?) : B.cell? a = A.cell? a := World.cell?_of_block h
theorem CellsM.block {A B : World} {g : Nat} {L : List Cel} (h : CellsM A g L) (hb : B.heap[g]? = A.heap[g]?) : CellsM B g L :=
  ⟨fun i hi j hj => (World.cell?_of_block (a := ⟨g, i * 6 + j, none⟩) hb).trans (h.at_ i hi j hj), fun o => (World.frozen?_of_block (a := ⟨g, o, none⟩) hb).trans (h.fr o), by
    have hl := h.lt
    rw [Array.getElem?_eq_getElem hl] at hb
    exact (Array.getElem?_eq_some_iff.1 hb).1⟩
/-- A space in memory, the program's: its block is b, its cells lie in g. -/
structure SpM (w : World) (b g : Nat) (s : Spc) : Prop where
  h0 : w.cell? ⟨b, 0, none⟩ = some (.int .i64 s.mo)
  h1 : w.cell? ⟨b, 1, none⟩ = some (.bool s.alt)
  h2 : w.cell? ⟨b, 2, none⟩ = some (.slice (some ⟨g, 0, none⟩) s.L.length (s.L.length + s.ex))
  h3 : w.cell? ⟨b, 3, none⟩ = some (.int .i64 s.cu)
  fr : ∀ o, w.frozen? ⟨b, o, none⟩ = false
  row : CellsM w g s.L
  ne : b ≠ g
  ok : s.OK
/-- The reference's. -/
structure RfM (w : World) (b g : Nat) (s : Spc) : Prop where
  h0 : w.cell? ⟨b, 0, none⟩ = some (.int .i64 s.mo)
  h1 : w.cell? ⟨b, 1, none⟩ = some (.bool s.alt)
  h2 : w.cell? ⟨b, 2, none⟩ = some (.int .i64 s.r)
  h3 : w.cell? ⟨b, 3, none⟩ = some (.int .i64 s.c)
  h4 : w.cell? ⟨b, 4, none⟩ = some (.slice (some ⟨g, 0, none⟩) s.L.length s.L.length)
  h5 : w.cell? ⟨b, 5, none⟩ = some (.int .i64 s.cu)
  fr : ∀ o, w.frozen? ⟨b, o, none⟩ = false
  row : CellsM w g s.L
  ne : b ≠ g
  ok : s.OK
theorem SpM.lt {w : World} {b g : Nat} {s : Spc} (h : SpM w b g s) : b < w.heap.size ∧ g < w.heap.size := ⟨World.block_lt_of_cell? w _ h.h0, h.row.lt⟩
theorem RfM.lt {w : World} {b g : Nat} {s : Spc} (h : RfM w b g s) : b < w.heap.size ∧ g < w.heap.size := ⟨World.block_lt_of_cell? w _ h.h0, h.row.lt⟩
theorem SpM.blocks {A B : World} {b g : Nat} {s : Spc} (h : SpM A b g s) (hb : B.heap[b]? = A.heap[b]?) (hg : B.heap[g]? = A.heap[g]?) : SpM B b g s :=
  ⟨(cell_block (a := ⟨b, 0, none⟩) hb).trans h.h0, (cell_block (a := ⟨b, 1, none⟩) hb).trans h.h1, (cell_block (a := ⟨b, 2, none⟩) hb).trans h.h2, (cell_block (a := ⟨b, 3, none⟩) hb).trans h.h3, fun o => (World.frozen?_of_block (a := ⟨b, o, none⟩) hb).trans (h.fr o), h.row.block hg, h.ne, h.ok⟩
theorem RfM.blocks {A B : World} {b g : Nat} {s : Spc} (h : RfM A b g s) (hb : B.heap[b]? = A.heap[b]?) (hg : B.heap[g]? = A.heap[g]?) : RfM B b g s :=
  ⟨(cell_block (a := ⟨b, 0, none⟩) hb).trans h.h0, (cell_block (a := ⟨b, 1, none⟩) hb).trans h.h1, (cell_block (a := ⟨b, 2, none⟩) hb).trans h.h2, (cell_block (a := ⟨b, 3, none⟩) hb).trans h.h3, (cell_block (a := ⟨b, 4, none⟩) hb).trans h.h4, (cell_block (a := ⟨b, 5, none⟩) hb).trans h.h5, fun o => (World.frozen?_of_block (a := ⟨b, o, none⟩) hb).trans (h.fr o), h.row.block hg, h.ne, h.ok⟩
theorem SpM.below {A B : World} {b g : Nat} {s : Spc} (h : SpM A b g s) (hb : Below A.heap.size A B) : SpM B b g s := h.blocks (hb.block _ h.lt.1) (hb.block _ h.lt.2)
theorem RfM.below {A B : World} {b g : Nat} {s : Spc} (h : RfM A b g s) (hb : Below A.heap.size A B) : RfM B b g s := h.blocks (hb.block _ h.lt.1) (hb.block _ h.lt.2)
theorem SpM.moved {A B : World} {b g : Nat} {s : Spc} {S S' : List Nat} (h : SpM A b g s) (m : Moved A B S S') (hb : b ∉ S) (hg : g ∉ S) : SpM B b g s := h.blocks (m.block _ h.lt.1 hb) (m.block _ h.lt.2 hg)
theorem RfM.moved {A B : World} {b g : Nat} {s : Spc} {S S' : List Nat} (h : RfM A b g s) (m : Moved A B S S') (hb : b ∉ S) (hg : g ∉ S) : RfM B b g s := h.blocks (m.block _ h.lt.1 hb) (m.block _ h.lt.2 hg)
theorem cells_of_cell {A : World} {b o : Nat} {v : Value} (h : A.cell? ⟨b, o, none⟩ = some v) : ∃ q : Obj, A.heap[b]? = some q ∧ q.isCells = true := by
  cases hq : A.heap[b]? with
  | none => simp [World.cell?, hq] at h
  | some q =>
    refine ⟨q, rfl, ?_⟩
    cases q <;> simp [World.cell?, hq] at h <;> rfl
theorem CellsM.isC {w : World} {g : Nat} {L : List Cel} (h : CellsM w g L) (hl : 0 < L.length) : ∃ q : Obj, w.heap[g]? = some q ∧ q.isCells = true := cells_of_cell (h.at_ 0 hl 0 (by decide))
theorem SpM.grow {m : Nat} {A B : World} {b g : Nat} {s : Spc} (h : SpM A b g s) (k : Grow m A B) : SpM B b g s := by
  obtain ⟨q, hq, hc⟩ := cells_of_cell h.h0
  obtain ⟨q', hq', hc'⟩ := h.row.isC h.ok.pos.1
  exact h.blocks ((k.block _ _ hq (.inr hc)).trans hq.symm) ((k.block _ _ hq' (.inr hc')).trans hq'.symm)
theorem RfM.grow {m : Nat} {A B : World} {b g : Nat} {s : Spc} (h : RfM A b g s) (k : Grow m A B) : RfM B b g s := by
  obtain ⟨q, hq, hc⟩ := cells_of_cell h.h0
  obtain ⟨q', hq', hc'⟩ := h.row.isC h.ok.pos.1
  exact h.blocks ((k.block _ _ hq (.inr hc)).trans hq.symm) ((k.block _ _ hq' (.inr hc')).trans hq'.symm)
end Go.Proofs.Ytdaainifnbbhiaa
