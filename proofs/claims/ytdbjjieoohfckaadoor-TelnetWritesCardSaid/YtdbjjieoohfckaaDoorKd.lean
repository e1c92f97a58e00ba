/-
  telnet.Escape, Say, SubBytes.
-/
import Derived.Test.YtdbjjieoohfckaaDoorKc
namespace Go.Proofs.YtdbjjieoohfckaaDoor
open Go.RowKit Go.Lib Go.Deep Go.Shelf

theorem reads_elem {w : World} {a : Addr} {n c : Nat} {xs : List Int} (h : Reads w (.slice (some a) n c) xs) {i : Nat} (hi : i < n) : w.cell? (a.add i) = some (.int .u8 (xs.getD i 0)) := by
  obtain ⟨hn, hc⟩ := reads_src h
  exact hc i _ (by simp [List.getElem?_eq_getElem (show i < xs.length by omega)])
set_option maxRecDepth 100000 in
/-- Each 255 is said twice. -/
theorem escape_any (a : Addr) (n c : Nat) (xs : List Int) (w : World) (hr : Reads w (.slice (some a) n c) xs) (hn : n ≤ 1000000) : Calls Tryd.prog 7 #[.slice (some a) n c] w (EscDone xs w) := by
  have hb : Below w.heap.size w ((w.alloc (.cells #[.int .u8 255] 5)).alloc (.cells #[.int .u8 255, .int .u8 255] 5)) := ((Below.refl _ w).alloc (Nat.le_refl _) _).alloc (by simp) _
  have hr2 := reads_below hr hb
  have c2 : ((w.alloc (.cells #[.int .u8 255] 5)).alloc (.cells #[.int .u8 255, .int .u8 255] 5)).cell? ⟨w.heap.size, 0, none⟩ = some (.int .u8 255) := by simp [go_sem]
  have c3 : ((w.alloc (.cells #[.int .u8 255] 5)).alloc (.cells #[.int .u8 255, .int .u8 255] 5)).cell? ⟨w.heap.size + 1, 0, none⟩ = some (.int .u8 255) := by simp [go_sem]
  have c4 : ((w.alloc (.cells #[.int .u8 255] 5)).alloc (.cells #[.int .u8 255, .int .u8 255] 5)).cell? ⟨w.heap.size + 1, 1, none⟩ = some (.int .u8 255) := by simp [go_sem]
  have HRP : Hid (Calls Tryd.prog 27 #[.slice (some a) n c, .slice (some ⟨w.heap.size, 0, none⟩) 1 1, .slice (some ⟨w.heap.size + 1, 0, none⟩) 2 2, .int .i64 (-1)] ((w.alloc (.cells #[.int .u8 255] 5)).alloc (.cells #[.int .u8 255, .int .u8 255] 5)) (EscDone xs ((w.alloc (.cells #[.int .u8 255] 5)).alloc (.cells #[.int .u8 255, .int .u8 255] 5)))) := by
    by_cases h0 : xs.count 255 = 0
    · exact replace_none a n c _ _ xs _ hr2 hn c2 h0
    · have hnn : 0 < n := by
        have h1 := (reads_src hr).1
        have h2 : xs.count 255 ≤ xs.length := List.count_le_length
        omega
      have cz := reads_elem hr hnn
      obtain ⟨g0, off0, spot⟩ := a
      obtain rfl : spot = none := by simpa [Addr.add] using World.cell?_spot cz
      exact replace_some g0 off0 n c _ _ xs _ hr2 hn c2 c3 c4 _ rfl (by omega)
  have HB := hid hb
  clear hr hr2 c2 c3 c4 hb
  go_enter Tryd.func7, Tryd.ntmps7
  go_wp2_with (first
    | (go_at_call 19; go_in)
    | (go_at_call 27; refine HRP.out.mono ?_; rintro e w3 ⟨v, rfl, hv, hb3⟩; have HV := hid hv; have HB3 := hid (HB.out.trans (hb3.mono HB.out.size)); obtain ⟨x3, n3, c3, rfl⟩ := reads_any_slice hv; clear hv hb3)
    | fail)
  go_ret
  exact ⟨_, rfl, HV.out, HB3.out⟩
end Go.Proofs.YtdbjjieoohfckaaDoor
