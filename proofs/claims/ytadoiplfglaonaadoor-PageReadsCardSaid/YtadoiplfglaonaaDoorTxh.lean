/-
  Codes of any text; CutText; a broken form.
-/
import Derived.Test.YtadoiplfglaonaaDoorTxg
namespace Go.Proofs.YtadoiplfglaonaaDoor
open Go.RowKit Go.Lib Go.Shelf

abbrev Tabs (w : World) : Prop := Lib.Utf8Tabs 3 4 w
theorem Tabs.below {w w' : World} (h : Tabs w) (hb : Below w.heap.size w w') : Tabs w' := Utf8Tabs_below h hb
set_option maxRecDepth 100000 in
theorem decode_rest (s : ByteArray) (p : Nat) (hp : p < s.size) (w : World) (hT : Tabs w) : Calls Tryd.prog 28 #[.string (s.extract p s.size)] w fun e w' => e = .returned (.tuple #[.int .i32 ((Utf8.decode s p).1 : Nat), .int .i64 ((Utf8.decode s p).2 : Nat)]) ∧ Below w.heap.size w w' := by
  have h := Tryd.utf8_DecodeRuneInString (s.extract p s.size) w hT
  rw [decodeGo_rest s p hp] at h
  exact h
theorem dec_two (s : ByteArray) (p : Nat) : (Utf8.decode s p).1 ≤ 2097151 ∧ (Utf8.decode s p).2 ≤ 4 := by
  rw [← decodeL_drop, decodeL_N]
  have h0 := UInt8.toNat_lt ((s.data.toList.drop p).getD 0 0)
  generalize ((s.data.toList.drop p).getD 0 0).toNat = b0 at h0 ⊢
  generalize ((s.data.toList.drop p).getD 1 0).toNat = b1
  generalize ((s.data.toList.drop p).getD 2 0).toNat = b2
  generalize ((s.data.toList.drop p).getD 3 0).toNat = b3
  generalize (s.data.toList.drop p).length = n
  unfold decodeN
  repeat' split
  all_goals
    refine ⟨?_, ?_⟩ <;> dsimp only <;> omega
set_option maxRecDepth 100000 in
theorem broken_rest (s : ByteArray) (p : Nat) (hp : p < s.size) (w : World) (hT : Tabs w) : Calls Tryd.prog 61 #[.string (s.extract p s.size)] w fun e w' => e = .returned (.bool (decide ((Utf8.decode s p).1 = 65533 ∧ (Utf8.decode s p).2 = 1))) ∧ Below w.heap.size w w' := by
  have HD := hid (decode_rest s p hp w hT)
  generalize (Utf8.decode s p).1 = r at HD ⊢
  generalize (Utf8.decode s p).2 = k at HD ⊢
  go_enter Tryd.func61, Tryd.ntmps61
  go_wp2_with fail
  refine HD.out.mono ?_
  rintro e w1 ⟨rfl, hb⟩
  have HB := hid hb
  clear hb
  by_cases h1 : r = 65533
  · subst h1
    by_cases h2 : k = 1
    · subst h2
      go_wp2
      go_ret
      exact ⟨rfl, HB.out⟩
    · have h2i : ¬ (k : Int) = 1 := by omega
      go_wp2
      go_ret
      exact ⟨by simp; omega, HB.out⟩
  · have h1i : ¬ (r : Int) = 65533 := by omega
    go_wp2
    go_ret
    exact ⟨by simp; omega, HB.out⟩
set_option maxRecDepth 100000 in
theorem cutText_any (s : ByteArray) (w : World) : Calls Tryd.prog 27 #[.string s, .int .i64 300] w fun e w' => ∃ t : ByteArray, t.size ≤ 300 ∧ e = .returned (.string t) ∧ w = w' := by
  by_cases h : 300 < s.size
  · have hi : (300 : Int) < s.size := by omega
    have he : ∀ w', (Instr.sliceAt 9 (.string s) none (some (.int .i64 300)) none).run Tryd.prog w' = .ok (.string (s.extract 0 300)) w' := fun w' => by
      simp [Instr.sliceAt, Instr.slice, run_underlying Tryd.underlying9, Instr.sliceBounds, Instr.sliceBound, asIntOf]
      omega
    go_enter Tryd.func27, Tryd.ntmps27
    go_wp2
    go_ret
    exact ⟨s.extract 0 300, by rw [ByteArray.size_extract]; omega, rfl, rfl⟩
  · have hi : ¬ (300 : Int) < s.size := by omega
    go_enter Tryd.func27, Tryd.ntmps27
    go_wp2
    go_ret
    exact ⟨s, by omega, rfl, rfl⟩
theorem Tabs.moved {w w' : World} {S S' : List Nat} (h : Tabs w) (m : Moved w w' S S') (h3 : 3 ∉ S) (h4 : 4 ∉ S) : Tabs w' :=
  ⟨fun c hc => cell_moved m (h.1 c hc) h3, fun i hi => ⟨cell_moved m (h.2 i hi).1 h4, cell_moved m (h.2 i hi).2 h4⟩⟩
theorem Tabs.lt {w : World} (h : Tabs w) : 4 < w.heap.size := World.block_lt_of_cell? w _ (h.2 0 (by omega)).1
end Go.Proofs.YtadoiplfglaonaaDoor
