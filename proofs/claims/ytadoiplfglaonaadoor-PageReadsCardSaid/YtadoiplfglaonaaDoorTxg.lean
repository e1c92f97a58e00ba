/-
  What any text reads as: plain lists; pieces of a text.
-/
import Derived.Test.YtadoiplfglaonaaDoorTxd
namespace Go.Proofs.YtadoiplfglaonaaDoor
open Go.RowKit Go.Lib Go.Shelf

/-- A text read from a place on: how it ends (0, 4: its form, 12: a sign), and the codes before that. -/
def readF (num : Int) (s : ByteArray) : Nat → Nat → Int × List Int
  | 0, _ => (0, [])
  | f + 1, p => if p < s.size then
      (if (Utf8.decode s p).1 = 65533 ∧ (Utf8.decode s p).2 = 1 then (4, [])
       else if (codeOf num ((Utf8.decode s p).1 : Nat)).2 = true then
         ((readF num s f (p + (Utf8.decode s p).2)).1, ((codeOf num ((Utf8.decode s p).1 : Nat)).1 : Int) :: (readF num s f (p + (Utf8.decode s p).2)).2)
       else (12, []))
    else (0, [])
theorem dec_pos (s : ByteArray) (p : Nat) : 1 ≤ (Utf8.decode s p).2 := by
  rw [← decodeL_drop]
  exact decodeL_width _
theorem readF_fuel (num : Int) (s : ByteArray) : ∀ (f g p : Nat), s.size - p ≤ f → s.size - p ≤ g → readF num s f p = readF num s g p
  | 0, 0, _, _, _ => rfl
  | 0, g + 1, p, h, _ => by
    simp only [readF]
    rw [if_neg (by omega)]
  | f + 1, 0, p, _, h => by
    simp only [readF]
    rw [if_neg (by omega)]
  | f + 1, g + 1, p, h1, h2 => by
    simp only [readF]
    have hd := dec_pos s p
    by_cases hp : p < s.size
    · rw [readF_fuel num s f g (p + (Utf8.decode s p).2) (by omega) (by omega)]
    · rw [if_neg hp, if_neg hp]
def readT (num : Int) (s : ByteArray) (p : Nat) : Int × List Int := readF num s (s.size - p) p
theorem readT_end {num : Int} {s : ByteArray} {p : Nat} (h : ¬ p < s.size) : readT num s p = (0, []) := by
  unfold readT
  rw [show s.size - p = 0 by omega]
  rfl
theorem readT_bad {num : Int} {s : ByteArray} {p : Nat} (h : p < s.size) (hb : (Utf8.decode s p).1 = 65533 ∧ (Utf8.decode s p).2 = 1) : readT num s p = (4, []) := by
  unfold readT
  obtain ⟨f, hf⟩ : ∃ f, s.size - p = f + 1 := ⟨s.size - p - 1, by omega⟩
  rw [hf]
  simp only [readF]
  rw [if_pos h, if_pos hb]
theorem readT_none {num : Int} {s : ByteArray} {p : Nat} (h : p < s.size) (hb : ¬ ((Utf8.decode s p).1 = 65533 ∧ (Utf8.decode s p).2 = 1)) (hc : (codeOf num ((Utf8.decode s p).1 : Nat)).2 = false) : readT num s p = (12, []) := by
  unfold readT
  obtain ⟨f, hf⟩ : ∃ f, s.size - p = f + 1 := ⟨s.size - p - 1, by omega⟩
  rw [hf]
  simp only [readF]
  rw [if_pos h, if_neg hb, if_neg (by rw [hc]; decide)]
theorem readT_sign {num : Int} {s : ByteArray} {p : Nat} (h : p < s.size) (hb : ¬ ((Utf8.decode s p).1 = 65533 ∧ (Utf8.decode s p).2 = 1)) (hc : (codeOf num ((Utf8.decode s p).1 : Nat)).2 = true) :
    readT num s p = ((readT num s (p + (Utf8.decode s p).2)).1, ((codeOf num ((Utf8.decode s p).1 : Nat)).1 : Int) :: (readT num s (p + (Utf8.decode s p).2)).2) := by
  have hd := dec_pos s p
  have e : readT num s (p + (Utf8.decode s p).2) = readF num s (s.size - p - 1) (p + (Utf8.decode s p).2) := readF_fuel num s _ _ _ (Nat.le_refl _) (by omega)
  rw [e]
  unfold readT
  obtain ⟨f, hf⟩ : ∃ f, s.size - p = f + 1 := ⟨s.size - p - 1, by omega⟩
  rw [hf, Nat.add_sub_cancel]
  simp only [readF]
  rw [if_pos h, if_neg hb, if_pos hc]
/-- What is read, behind what was read, is the whole. -/
def AtT (num : Int) (s : ByteArray) (p : Nat) (cs : List Int) : Prop := readT num s 0 = ((readT num s p).1, cs ++ (readT num s p).2)
theorem AtT.start (num : Int) (s : ByteArray) : AtT num s 0 [] := rfl
theorem AtT.next {num : Int} {s : ByteArray} {p : Nat} {cs : List Int} (h : AtT num s p cs) (hp : p < s.size) (hb : ¬ ((Utf8.decode s p).1 = 65533 ∧ (Utf8.decode s p).2 = 1)) (hc : (codeOf num ((Utf8.decode s p).1 : Nat)).2 = true) :
    AtT num s (p + (Utf8.decode s p).2) (cs ++ [((codeOf num ((Utf8.decode s p).1 : Nat)).1 : Int)]) := by
  have e : readT num s 0 = ((readT num s p).1, cs ++ (readT num s p).2) := h
  rw [readT_sign hp hb hc] at e
  show readT num s 0 = _
  rw [e, List.append_assoc]
  rfl
theorem AtT.done {num : Int} {s : ByteArray} {p : Nat} {cs : List Int} {e : Int} (h : AtT num s p cs) (he : readT num s p = (e, [])) : readT num s 0 = (e, cs) := by
  have q : readT num s 0 = ((readT num s p).1, cs ++ (readT num s p).2) := h
  rw [he, List.append_nil] at q
  exact q
theorem codeOf_lt (num s : Int) : (codeOf num s).1 < 256 := by
  have hl : (signsL num).length = 256 := signsAt_length _ _
  unfold codeOf
  cases h : (signsL num).findIdx? (· == s) with
  | none => decide
  | some i =>
    have := (List.findIdx?_eq_some_iff_getElem.1 h).1
    show i < 256
    omega
theorem dec_le (s : ByteArray) (p : Nat) (h : p < s.size) : p + (Utf8.decode s p).2 ≤ s.size := by
  have hn : s.data.toList.drop p ≠ [] := fun e => by
    have := congrArg List.length e
    rw [List.length_drop] at this
    have e2 : s.data.toList.length = s.size := (Lib.size_eq s).symm
    simp at this
    omega
  have := decodeL_le _ hn
  rw [decodeL_drop, List.length_drop, ← Lib.size_eq] at this
  omega
/-- A text from a place on. -/
theorem slice_rest (s : ByteArray) (p : Nat) (h : p ≤ s.size) (w : World) : (Instr.sliceAt 9 (.string s) (some (.int .i64 p)) none none).run Tryd.prog w = .ok (.string (s.extract p s.size)) w := by
  simp [Instr.sliceAt, Instr.slice, run_underlying Tryd.underlying9, Instr.sliceBounds, Instr.sliceBound, asIntOf, h]
theorem decodeGo_rest (s : ByteArray) (p : Nat) (h : p < s.size) : Lib.decodeGo (s.extract p s.size) = Utf8.decode s p := by
  have e : (s.extract p s.size).size ≠ 0 := by
    rw [ByteArray.size_extract]
    omega
  unfold Lib.decodeGo
  rw [if_neg e, ← decodeL_drop, ← decodeL_drop s p]
  congr 1
  rw [List.drop_zero, ByteArray.data_extract, Array.toList_extract]
  simp
  exact List.take_of_length_le (by rw [List.length_drop, ← Lib.size_eq]; exact Nat.le_refl _)
end Go.Proofs.YtadoiplfglaonaaDoor
