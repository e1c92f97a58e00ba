/-
  bytes.Count, bytes.Index at the byte 255.
-/
import Derived.Test.YtdbjjieoohfckaaDoorKa
import Derived.Test.YtdbjjieoohfckaaDoorGf
import Derived.Shelf.Bytes.SlIndexAt
import Derived.Shelf.Bytes.SlCountOne
namespace Go.Proofs.YtdbjjieoohfckaaDoor
open Go.RowKit Go.Lib

theorem count_any (a : Addr) (n c b2 d : Nat) (xs : List Int) (w : World) (hn : xs.length = n) (hb : ∀ x ∈ xs, 0 ≤ x ∧ x < 256) (hc : ∀ i, i < n → w.cell? (a.add i) = some (.int .u8 (xs.getD i 0))) (hc2 : w.cell? ⟨b2, 0, none⟩ = some (.int .u8 255)) :
    Calls Tryd.prog 31 #[.slice (some a) n c, .slice (some ⟨b2, 0, none⟩) 1 d] w fun e w' => e = .returned (.int .i64 (xs.count 255)) ∧ w = w' := by
  have HC := hid hc
  have HB := hid hb
  have HN := hid hn
  clear hc hb hn
  go_enter Tryd.func31, Tryd.ntmps31
  go_wp2_with fail
  rw [run_callFunc_extern Tryd.func36 (by kernel_rfl) (by kernel_rfl) (by kernel_rfl) (e := Extern.BytealgCount.count) (by kernel_rfl), Lib.run_countAt w a n c xs HN.out HC.out 255, count_255 HB.out]
  simp only [Result.andThen]
  rw [Oper.upon_value]
  go_wp2
  go_ret
  exact ⟨rfl, rfl⟩
theorem indexByte_any (a : Addr) (n c : Nat) (pre r : List Int) (w : World) (hn : (pre ++ 255 :: r).length = n) (hb : ∀ x ∈ pre ++ 255 :: r, 0 ≤ x ∧ x < 256) (hp : (255 : Int) ∉ pre) (hc : ∀ i, i < n → w.cell? (a.add i) = some (.int .u8 ((pre ++ 255 :: r).getD i 0))) :
    Calls Tryd.prog 37 #[.slice (some a) n c, .int .u8 255] w fun e w' => e = .returned (.int .i64 pre.length) ∧ w = w' := by
  have HC := hid hc
  have HB := hid hb
  have HN := hid hn
  have HP := hid hp
  clear hc hb hn hp
  go_enter Tryd.func37, Tryd.ntmps37
  go_wp2_with fail
  rw [run_callFunc_extern Tryd.func44 (by kernel_rfl) (by kernel_rfl) (by kernel_rfl) (e := Extern.BytealgIndexByte.indexByte) (by kernel_rfl), Lib.run_indexByteAt w a n c _ HN.out HC.out 255, index_255 HB.out HP.out]
  simp only [Result.andThen]
  rw [Oper.upon_value]
  go_wp2
  go_ret
  exact ⟨rfl, rfl⟩
set_option maxRecDepth 100000 in
theorem index_any (a : Addr) (n c b2 d : Nat) (pre r : List Int) (w : World) (hn : (pre ++ 255 :: r).length = n) (hb : ∀ x ∈ pre ++ 255 :: r, 0 ≤ x ∧ x < 256) (hp : (255 : Int) ∉ pre) (hc : ∀ i, i < n → w.cell? (a.add i) = some (.int .u8 ((pre ++ 255 :: r).getD i 0))) (hc2 : w.cell? ⟨b2, 0, none⟩ = some (.int .u8 255)) :
    Calls Tryd.prog 32 #[.slice (some a) n c, .slice (some ⟨b2, 0, none⟩) 1 d] w fun e w' => e = .returned (.int .i64 pre.length) ∧ w = w' := by
  have HI := hid (indexByte_any a n c pre r w hn hb hp hc)
  clear hc hb hn hp
  go_enter Tryd.func32, Tryd.ntmps32
  go_wp2_with fail
  refine HI.out.mono ?_
  rintro e w' ⟨rfl, rfl⟩
  go_wp2
  go_ret
  exact ⟨rfl, rfl⟩
end Go.Proofs.YtdbjjieoohfckaaDoor
