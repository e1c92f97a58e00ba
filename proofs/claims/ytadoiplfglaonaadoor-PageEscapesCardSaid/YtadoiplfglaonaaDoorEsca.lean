/-
  The graphic escapes, there and back, by the program's table and by the reference's string.
-/
import Derived.Test.YtadoiplfglaonaaDoorRefs
import Derived.Test.YtadoiplfglaonaaDoorSignsw
namespace Go.Proofs.YtadoiplfglaonaaDoor
open Go.RowKit Go.Lib Go.Shelf

/-- The variable 'escapes' as the program lays it. -/
def Escapes (w : World) : Prop := 0 < w.heap.size ∧ w.rangeAt 0 0 (flat escL)
theorem Escapes.below {w w' : World} {B : Nat} (h : Escapes w) (hB : 0 < B) (hb : Below B w w') : Escapes w' := ⟨Nat.lt_of_lt_of_le h.1 hb.size, fun j v hv => (hb.cell (p := ⟨0, 0 + j, none⟩) hB).trans (h.2 j v hv)⟩
def escOf (c : Int) : Int × Bool := match escL.find? (fun p => p.1 == c) with | some p => (p.2, true) | none => (0, false)
def escBack (s : Int) : Int × Bool := match escL.find? (fun p => p.2 == s) with | some p => (p.1, true) | none => (0, false)
theorem esc_ok : ∀ p ∈ escL, 0 ≤ p.1 ∧ p.1 ≤ 255 ∧ 1 ≤ p.2 ∧ p.2 ≤ 65535 ∧ (escOf p.1).1 = p.2 ∧ escBack p.2 = (p.1, true) := by decide +kernel
theorem escL_length : escL.length = 19 := rfl
theorem flat_escL_length : (flat escL).length = 38 := by rw [flat_length]; rfl

theorem info104 : (Tryd.prog.info? 104).map (·.size) = some 2 := by kernel_rfl
theorem extract_flat (l : List (Int × Int)) (k : Nat) (c s : Int) (h : l[k]? = some (c, s)) : ((flat l).drop (k * 2)).take 2 = [.int .u8 c, .int .i32 s] := by
  obtain ⟨h1, h2⟩ := flat_at l k c s h
  apply List.ext_getElem?
  intro i
  match i with
  | 0 => simpa [List.getElem?_take, List.getElem?_drop] using h1
  | 1 => simpa [List.getElem?_take, List.getElem?_drop] using h2
  | i + 2 => simp [List.getElem?_take]; omega
theorem index_105 (k : Nat) (c s : Int) (h : escL[k]? = some (c, s)) (w : World) : (Instr.index 105 (.agg (flat escL).toArray) (.int .i64 k)).run Tryd.prog w = .ok (.agg #[.int .u8 c, .int .i32 s]) w := by
  obtain ⟨i, hi, hs⟩ := Option.map_eq_some_iff.1 info104
  have hk : k < 19 := (List.getElem?_eq_some_iff.1 h).1
  have e := extract_flat escL k c s h
  simp [Instr.index, asIntOf, run_underlying Tryd.underlying105, sizeOf, typeInfo, hi, hs, part, hk, e]

set_option maxRecDepth 100000 in
set_option maxHeartbeats 1000000 in
theorem escape_any (c : Nat) (w : World) (hE : Escapes w) : Calls Tryd.prog 31 #[.int .u8 c] w fun e w' => e = .returned (.tuple #[.int .i32 (escOf c).1, .bool (escOf c).2]) ∧ Below w.heap.size w w' := by
  have HE := hid hE
  have HI : Hid ((Tryd.prog.info? 105).map (·.size) = some (flat escL).length) := by rw [Hid, flat_escL_length]; kernel_rfl
  clear hE
  go_enter Tryd.func31, Tryd.ntmps31
  go_wp2_with (refine wpList_load_mid rfl 105 _ rfl 0 0 rfl (flat escL) _ HE.out.2 Tryd.underlying105 rfl HI.out ?_)
  go_loopw [7] (fun i wr => ∃ k : Nat, k ≤ 19 ∧ i = .int .i64 k ∧ Hid (∀ i, i < k → (escL.getD i (0, 0)).1 ≠ c) ∧ Hid (Below w.heap.size w wr)) (fun i _ => 19 - (intOf i).toNat)
  case atStart => exact ⟨0, by omega, rfl, fun i h => absurd h (Nat.not_lt_zero _), Below.refl _ _⟩
  case round =>
    obtain ⟨k, hk, rfl, HNO, HB⟩ := hrel
    by_cases hlt : k < 19
    · obtain ⟨⟨qc, qs⟩, hq⟩ : ∃ q, escL[k]? = some q := ⟨_, List.getElem?_eq_getElem (show k < escL.length from hlt)⟩
      have hix := index_105 k qc qs hq wr
      have hqd : escL.getD k (0, 0) = (qc, qs) := by rw [List.getD, hq]; rfl
      have HQ := hid hqd
      clear hqd hq
      by_cases hqc : qc = c
      · have hqb : (qc == (c : Int)) = true := by simpa using hqc
        have HQC := hid hqc
        clear hqc
        go_wp2
        go_ret2
        have e : escOf c = (qs, true) := by
          unfold escOf
          rw [find_first escL c k hlt (by rw [HQ.out]; exact HQC.out) HNO.out, HQ.out]
        exact ⟨by rw [e]; rfl, HB.out.alloc HB.out.size _⟩
      · have hqb : (qc == (c : Int)) = false := by simpa using hqc
        have HQC := hid hqc
        clear hqc
        go_wp2
        go_roundw
        case rel => exact ⟨k + 1, by omega, by go_num, fun i hi => by
          by_cases hij : i = k
          · rw [hij, HQ.out]; exact HQC.out
          · exact HNO.out i (by omega), HB.out.alloc HB.out.size _⟩
        case measure => simp [intOf]; omega
    · obtain rfl : k = 19 := by omega
      go_wp2
      go_ret2
      have e : escOf c = (0, false) := by
        unfold escOf
        rw [find_none escL c HNO.out]
      exact ⟨by rw [e]; rfl, HB.out⟩
end Go.Proofs.YtadoiplfglaonaaDoor
