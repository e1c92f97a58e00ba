/-
  The signs of the six pages as lists of numbers, and facts on them that the kernel reckons.
-/
import Derived.KernelRfl
namespace Go.Proofs.YtadoiplfglaonaaDoor
set_option maxRecDepth 100000

/-- Page 37, by code. -/
def baseU : List UInt8 := [0, 1, 2, 3, 156, 9, 134, 127, 151, 141, 142, 11, 12, 13, 14, 15, 16, 17, 18, 19, 157, 133, 8, 135, 24, 25, 146, 143, 28, 29, 30, 31, 128, 129, 130, 131, 132, 10, 23, 27, 136, 137, 138, 139, 140, 5, 6, 7, 144, 145, 22, 147, 148, 149, 150, 4, 152, 153, 154, 155, 20, 21, 158, 26, 32, 160, 226, 228, 224, 225, 227, 229, 231, 241, 162, 46, 60, 40, 43, 124, 38, 233, 234, 235, 232, 237, 238, 239, 236, 223, 33, 36, 42, 41, 59, 172, 45, 47, 194, 196, 192, 193, 195, 197, 199, 209, 166, 44, 37, 95, 62, 63, 248, 201, 202, 203, 200, 205, 206, 207, 204, 96, 58, 35, 64, 39, 61, 34, 216, 97, 98, 99, 100, 101, 102, 103, 104, 105, 171, 187, 240, 253, 254, 177, 176, 106, 107, 108, 109, 110, 111, 112, 113, 114, 170, 186, 230, 184, 198, 164, 181, 126, 115, 116, 117, 118, 119, 120, 121, 122, 161, 191, 208, 221, 222, 174, 94, 163, 165, 183, 169, 167, 182, 188, 189, 190, 91, 93, 175, 168, 180, 215, 123, 65, 66, 67, 68, 69, 70, 71, 72, 73, 173, 244, 246, 242, 243, 245, 125, 74, 75, 76, 77, 78, 79, 80, 81, 82, 185, 251, 252, 249, 250, 255, 92, 247, 83, 84, 85, 86, 87, 88, 89, 90, 178, 212, 214, 210, 211, 213, 48, 49, 50, 51, 52, 53, 54, 55, 56, 57, 179, 219, 220, 217, 218, 159]
def baseL : List Int := baseU.map fun x => (x.toNat : Int)
/-- What a page changes of it: codes and signs. -/
def changesL (n : Int) : List (Int × Int) :=
  if n = 273 then [(67, 123), (74, 196), (79, 33), (89, 126), (90, 220), (95, 94), (99, 91), (106, 246), (124, 167), (161, 223), (176, 162), (181, 64), (186, 172), (187, 124), (192, 228), (204, 166), (208, 252), (220, 125), (224, 214), (236, 92), (252, 93)]
  else if n = 297 then [(68, 64), (72, 92), (74, 176), (79, 33), (81, 123), (84, 125), (90, 167), (95, 94), (106, 249), (121, 181), (123, 163), (124, 224), (144, 91), (160, 96), (161, 168), (176, 162), (177, 35), (181, 93), (186, 172), (187, 124), (189, 126), (192, 233), (208, 232), (221, 166), (224, 231)]
  else if n = 500 then [(74, 91), (79, 33), (90, 93), (95, 94), (176, 162), (186, 172), (187, 124)]
  else if n = 1047 then [(95, 94), (173, 91), (176, 172), (186, 221), (187, 168), (189, 93)]
  else if n = 1140 then [(159, 8364)]
  else []
/-- The signs behind the first k changes. -/
def signsAt (n : Int) (k : Nat) : List Int := ((changesL n).take k).foldl (fun S p => S.set p.1.toNat p.2) baseL
def signsL (n : Int) : List Int := signsAt n (changesL n).length
/-- The pages' numbers. -/
def pagesL : List Int := [37, 273, 297, 500, 1047, 1140]
theorem baseL_length : baseL.length = 256 := by decide +kernel
theorem signsAt_length (n : Int) (k : Nat) : (signsAt n k).length = 256 := by
  unfold signsAt
  rw [← baseL_length]
  generalize (changesL n).take k = l
  generalize baseL = S
  induction l generalizing S with
  | nil => rfl
  | cons p l ih => rw [List.foldl_cons, ih, List.length_set]
theorem signsAt_zero (n : Int) : signsAt n 0 = baseL := rfl
theorem signsAt_succ (n : Int) (k : Nat) (c s : Int) (h : (changesL n)[k]? = some (c, s)) : signsAt n (k + 1) = (signsAt n k).set c.toNat s := by
  unfold signsAt
  obtain ⟨hk, e⟩ := List.getElem?_eq_some_iff.1 h
  rw [List.take_succ_eq_append_getElem hk, List.foldl_append, e]
  rfl
/-- Each change's code is a byte, its sign a rune. -/
theorem changes_ok (n : Int) (k : Nat) (c s : Int) (h : (changesL n)[k]? = some (c, s)) : 0 ≤ c ∧ c ≤ 255 ∧ 0 ≤ s ∧ s ≤ 65535 := by
  have hall : ∀ l : List (Int × Int), (l.all fun p => decide (0 ≤ p.1 ∧ p.1 ≤ 255 ∧ 0 ≤ p.2 ∧ p.2 ≤ 65535)) = true → (c, s) ∈ l → 0 ≤ c ∧ c ≤ 255 ∧ 0 ≤ s ∧ s ≤ 65535 := by
    intro l hl hm
    simpa using List.all_eq_true.1 hl _ hm
  refine hall (changesL n) ?_ (List.mem_of_getElem? h)
  unfold changesL
  split
  · decide +kernel
  split
  · decide +kernel
  split
  · decide +kernel
  split
  · decide +kernel
  split
  · decide +kernel
  · rfl
theorem signs_ok : ∀ n ∈ pagesL, ((signsL n).all fun s => decide (0 ≤ s ∧ s ≤ 65535)) = true := by decide +kernel
theorem signs_nodup : ∀ n ∈ pagesL, (signsL n).Nodup := by decide +kernel
theorem changes_few (n : Int) : (changesL n).length ≤ 25 := by
  unfold changesL
  repeat (split; · decide +kernel)
  decide
end Go.Proofs.YtadoiplfglaonaaDoor
