/-
  A byte that is said twice: plain lists.
-/
import Derived.Lib.Bytealg
import Derived.Lib.Bytes
import Derived.Test.YtdbjjieoohfckaaDoorMa
namespace Go.Proofs.YtdbjjieoohfckaaDoor
open Go.Lib

/-- Each 255 twice. -/
def escI : List Int → List Int
  | [] => []
  | b :: l => if b = 255 then 255 :: 255 :: escI l else b :: escI l
theorem escI_append (a b : List Int) : escI (a ++ b) = escI a ++ escI b := by
  induction a with
  | nil => rfl
  | cons x a ih => simp only [List.cons_append, escI, ih]; split <;> rfl
theorem escI_no {a : List Int} (h : (255 : Int) ∉ a) : escI a = a := by
  induction a with
  | nil => rfl
  | cons x a ih =>
    simp only [List.mem_cons, not_or] at h
    simp only [escI, if_neg (Ne.symm h.1), ih h.2]
theorem escI_length (l : List Int) : (escI l).length = l.length + l.count 255 := by
  induction l with
  | nil => rfl
  | cons x l ih =>
    simp only [escI, List.count_cons]
    split <;> rename_i h
    · simp only [h, List.length_cons, ih]; simp; omega
    · simp only [List.length_cons, ih]; simp [h]; omega
theorem escI_bytes {l : List Int} (h : ∀ x ∈ l, 0 ≤ x ∧ x < 256) : ∀ x ∈ escI l, 0 ≤ x ∧ x < 256 := by
  induction l with
  | nil => intro x hx; cases hx
  | cons y l ih =>
    have h1 := ih (fun x hx => h x (List.mem_cons_of_mem _ hx))
    have h0 := h y (List.mem_cons_self ..)
    intro x hx
    simp only [escI] at hx
    split at hx
    · simp only [List.mem_cons] at hx
      rcases hx with rfl | rfl | hx
      · omega
      · omega
      · exact h1 x hx
    · simp only [List.mem_cons] at hx
      rcases hx with rfl | hx
      · exact h0
      · exact h1 x hx
theorem first_255 {l : List Int} (h : 0 < l.count 255) : ∃ a r, l = a ++ 255 :: r ∧ (255 : Int) ∉ a := by
  induction l with
  | nil => simp at h
  | cons x l ih =>
    by_cases hx : x = 255
    · exact ⟨[], l, by rw [hx]; rfl, by simp⟩
    · rw [List.count_cons] at h
      have h' : 0 < l.count 255 := by simpa [hx] using h
      obtain ⟨a, r, h1, h2⟩ := ih h'
      exact ⟨x :: a, r, by rw [h1]; rfl, by simp only [List.mem_cons, not_or]; exact ⟨Ne.symm hx, h2⟩⟩
theorem byte_eq {x : Int} (h : 0 ≤ x ∧ x < 256) : (UInt8.ofNat x.toNat == (255 : Int).toNat.toUInt8) = decide (x = 255) := by
  obtain ⟨k, hk, rfl⟩ : ∃ k : Nat, k < 256 ∧ x = (k : Int) := ⟨x.toNat, by omega, by omega⟩
  rw [Int.toNat_natCast]
  rw [Bool.eq_iff_iff, beq_iff_eq, decide_eq_true_eq]
  constructor
  · intro e
    have e2 := congrArg UInt8.toNat e
    rw [UInt8.toNat_ofNat'] at e2
    have e3 : ((255 : Int).toNat.toUInt8).toNat = 255 := by decide
    rw [e3] at e2
    omega
  · intro e
    have : k = 255 := by omega
    subst this
    decide
theorem count_255 {l : List Int} (h : ∀ x ∈ l, 0 ≤ x ∧ x < 256) : countByte (bytesOf l) (255 : Int).toNat.toUInt8 = l.count 255 := by
  unfold countByte bytesOf
  induction l with
  | nil => rfl
  | cons x l ih =>
    rw [List.map_cons, List.count_cons, List.count_cons, ih (fun y hy => h y (List.mem_cons_of_mem _ hy)), byte_eq (h x (List.mem_cons_self ..))]
    congr 1
theorem index_255 {a r : List Int} (h : ∀ x ∈ a ++ 255 :: r, 0 ≤ x ∧ x < 256) (ha : (255 : Int) ∉ a) : indexByte (bytesOf (a ++ 255 :: r)) (255 : Int).toNat.toUInt8 = a.length := by
  unfold bytesOf
  induction a with
  | nil =>
    simp only [List.nil_append, List.map_cons, indexByte, List.length_nil]
    rw [byte_eq (h 255 (by simp))]
    simp
  | cons x a ih =>
    simp only [List.mem_cons, not_or] at ha
    have h1 := ih (fun y hy => h y (List.mem_cons_of_mem _ hy)) ha.2
    simp only [List.cons_append, List.map_cons, indexByte, List.length_cons] at h1 ⊢
    rw [byte_eq (h x (List.mem_cons_self ..)), decide_eq_false (Ne.symm ha.1)]
    simp only [Bool.false_eq_true, if_false]
    rw [h1]
    have : ((a.length : Int) == -1) = false := by simp
    rw [this]
    simp
theorem take_255 {l : List Int} {p : Nat} (hp : p ≤ l.length) {a r : List Int} (h : l.drop p = a ++ 255 :: r) : p + a.length + 1 ≤ l.length ∧ l.take (p + a.length + 1) = l.take p ++ (a ++ [255]) ∧ l.drop (p + a.length + 1) = r := by
  have hl := congrArg List.length h
  simp only [List.length_drop, List.length_append, List.length_cons] at hl
  refine ⟨by omega, ?_, ?_⟩
  · have e : l.take (p + (a.length + 1)) = l.take p ++ (l.drop p).take (a.length + 1) := by rw [List.take_add]
    rw [Nat.add_assoc, e, h]
    congr 1
    rw [List.take_append, Nat.add_sub_cancel_left, List.take_of_length_le (Nat.le_succ _)]
    rfl
  · rw [Nat.add_assoc, ← List.drop_drop, h, List.drop_append]
    simp
theorem esc_step {l : List Int} {p : Nat} (hp : p ≤ l.length) {a r : List Int} (h : l.drop p = a ++ 255 :: r) (ha : (255 : Int) ∉ a) : escI (l.take (p + a.length + 1)) = escI (l.take p) ++ a ++ [255, 255] ∧ (l.take (p + a.length + 1)).count 255 = (l.take p).count 255 + 1 := by
  obtain ⟨_, h2, _⟩ := take_255 hp h
  rw [h2]
  refine ⟨by rw [escI_append, escI_append, escI_no ha, List.append_assoc]; rfl, ?_⟩
  rw [List.count_append, List.count_append, List.count_eq_zero_of_not_mem ha]
  simp
theorem drop_none {l : List Int} {p : Nat} (h : (l.take p).count 255 = l.count 255) : escI l = escI (l.take p) ++ l.drop p := by
  have e : l.count 255 = (l.take p).count 255 + (l.drop p).count 255 := by rw [← List.count_append, List.take_append_drop]
  have h0 : (255 : Int) ∉ l.drop p := List.count_eq_zero.1 (by omega)
  conv => lhs; rw [← List.take_append_drop p l, escI_append, escI_no h0]
theorem drop_some {l : List Int} {p : Nat} (h : (l.take p).count 255 < l.count 255) : 0 < (l.drop p).count 255 := by
  have e : l.count 255 = (l.take p).count 255 + (l.drop p).count 255 := by rw [← List.count_append, List.take_append_drop]
  omega
end Go.Proofs.YtdbjjieoohfckaaDoor
