/-
  Fields that are marked: the program's and the reference's Modify; two that are alike.
  Modify, the reference's Modify, Unmodify, Modified; two that are alike.
  The reference's Modified; two that are alike, the law's way.
  Unmodify: each attribute is unmarked, while they are told.
-/
import Derived.Test.YtlhaefgchmakfaaFi
namespace Go.Proofs.Ytlhaefgchmakfaa
open Go.RowKit Go.Lib Go.Deep

def markB (n : Int) (m : Bool) : Int := if m then bits .or .u8 n 1 else bits .and .u8 n 254
theorem mark_tab : ∀ k : Nat, k < 256 → (sixB (bitsZ (ofP k) (ofN k) (ofD k) true) = sixB (markB k true) ∧ sixB (bitsZ (ofP k) (ofN k) (ofD k) false) = sixB (markB k false)) ∧ (0 ≤ markB k true ∧ markB k true < 256) ∧ (0 ≤ markB k false ∧ markB k false < 256) := by decide +kernel
def Cel.mk1 (c : Cel) (m : Bool) : Cel := { c with fa := markB c.fa m }
theorem mk1_ok {c : Cel} (h : c.OK) (m : Bool) : (c.mk1 m).OK := by
  obtain ⟨k, hk, e⟩ := u8_nat h.fa
  have q := mark_tab k hk
  refine ⟨h.ch, ?_, h.hi, h.co, h.se⟩
  show U8 (markB c.fa m)
  rw [e]
  cases m
  · exact q.2.2
  · exact q.2.1
/-- A field is marked. -/
def mkS (s : Spc) (a : Nat) (m : Bool) : Spc := s.put1 a (fit ((s.cel a).mk1 m))
theorem mkS_set {s : Spc} {a : Nat} (ha : a < s.L.length) (m : Bool) : s.setC (a : Int) ((s.cel a).mk1 m) = mkS s a m := by
  unfold Spc.setC mkS
  rw [wr_nat ha]
theorem fit_mk {c : Cel} (h : c.OK) (ha : c.at_ = true) (m : Bool) : fit { c with fa := bitsZ (ofP c.fa.toNat) (ofN c.fa.toNat) (ofD c.fa.toNat) m } = fit (c.mk1 m) := by
  obtain ⟨k, hk, e⟩ := u8_nat h.fa
  have q := mark_tab k hk
  unfold fit Cel.mk1
  dsimp only
  rw [if_pos ha, if_pos ha, e, Int.toNat_natCast]
  congr 1
  cases m
  · exact q.1.2
  · exact q.1.1
theorem ofD_bd (k : Nat) : 0 ≤ ofD k ∧ ofD k ≤ 3 := by unfold ofD; omega
section
variable {b g : Nat} {s : Spc}
end
end Go.Proofs.Ytlhaefgchmakfaa
namespace Go.Proofs.Ytlhaefgchmakfaa
open Go.RowKit Go.Lib Go.Deep

theorem rattf3 (p n m : Bool) (d : Int) (w : World) : (Instr.field 43 (.agg #[.bool p, .bool n, .int .i64 d, .bool m]) 3).run Try.prog w = .ok (.bool m) w := by kernel_rfl
/-- A place's field, marked, if there is one. -/
def modS (s : Spc) (n : Int) : Spc := if stF s.P s.L.length (s.wr n) < 0 then s else mkS s (stF s.P s.L.length (s.wr n)).toNat true
def modB (s : Spc) (n : Int) : Bool := decide (0 ≤ stF s.P s.L.length (s.wr n))
/-- The attributes, unmarked one after the other. -/
def unS (s : Spc) : Nat → Spc
  | 0 => s
  | k + 1 => mkS (unS s k) (s.A.getD k 0) false
theorem mkS_len (s : Spc) (a : Nat) (m : Bool) : (mkS s a m).L.length = s.L.length := Spc.put1_len _ _ _
theorem mkS_ok {s : Spc} (h : s.OK) (a : Nat) (m : Bool) : (mkS s a m).OK := h.put1 _ (fit_ok (mk1_ok (h.cel a) m))
theorem fit_at (c : Cel) : (fit c).at_ = c.at_ := by unfold fit; split <;> rfl
theorem mkS_at (s : Spc) (a i : Nat) (m : Bool) : ((mkS s a m).cel i).at_ = (s.cel i).at_ := by
  unfold mkS
  rw [Spc.put1_cel]
  split
  · rename_i q
    rw [fit_at, q.1]
    rfl
  · rfl
theorem mkS_P (s : Spc) (a : Nat) (m : Bool) : (mkS s a m).P = s.P := funext fun i => mkS_at s a i m
theorem unS_len (s : Spc) (k : Nat) : (unS s k).L.length = s.L.length := by
  induction k with
  | zero => rfl
  | succ k ih => unfold unS; rw [mkS_len, ih]
theorem unS_P (s : Spc) (k : Nat) : (unS s k).P = s.P := by
  induction k with
  | zero => rfl
  | succ k ih => unfold unS; rw [mkS_P, ih]
theorem unS_ok {s : Spc} (h : s.OK) (k : Nat) : (unS s k).OK := by
  induction k with
  | zero => exact h
  | succ k ih => unfold unS; exact mkS_ok ih _ _
section
variable {b g : Nat} {s : Spc}
end
end Go.Proofs.Ytlhaefgchmakfaa
namespace Go.Proofs.Ytlhaefgchmakfaa
open Go.RowKit Go.Lib Go.Deep

/-- Is it modified? -/
def Cel.modi (c : Cel) : Bool := ofM c.fa.toNat
/-- The modified ones, of some attributes. -/
def mdS (s : Spc) (l : List Nat) : List Nat := l.filter (fun a => (s.cel a).modi)
theorem mdS_add (s : Spc) (l : List Nat) (a : Nat) : mdS s (l ++ [a]) = mdS s l ++ (if (s.cel a).modi then [a] else []) := by
  unfold mdS
  rw [List.filter_append]
  congr 1
  cases h : (s.cel a).modi <;> simp [h]
theorem mdS_len (s : Spc) (l : List Nat) : (mdS s l).length ≤ l.length := List.length_filter_le _ _
section
variable {b g : Nat} {s : Spc}
end
end Go.Proofs.Ytlhaefgchmakfaa
namespace Go.Proofs.Ytlhaefgchmakfaa
open Go.RowKit Go.Lib Go.Deep

theorem moved_grow {m : Nat} {w A C : World} {S S' : List Nat} (h : Moved w A S S') (k : Grow m A C) (hm : w.heap.size ≤ m) : Moved w C S S' :=
  ⟨k.os.trans h.os, k.tape.trans h.tape, k.output.trans h.output, Nat.le_trans h.size k.size, fun i hi hs => by
    have e := h.block i hi hs
    rw [← e]
    rw [Array.getElem?_eq_getElem hi] at e
    exact (k.block i _ e (.inl (Nat.lt_of_lt_of_le hi hm))).trans e.symm, h.from'⟩
section
attribute [local go_sem] Oper.semAt_some
variable {b g : Nat} {s : Spc}
end
end Go.Proofs.Ytlhaefgchmakfaa
