/-
  bytes.Cut at a byte.
-/
import Derived.Test.YtdpfjbpfafekfaaNe
import Derived.Deep.RegionHeld3
namespace Go.Proofs.Ytdpfjbpfafekfaa
open Go.RowKit Go.Lib

/-- Cut in two. -/
def CutD (x : Option Addr) (n c k : Nat) (w : World) (e : Ending) (w' : World) : Prop := e = .returned (.tuple #[.slice x k c, .slice (fromA x c (k + 1)) (n - (k + 1)) (c - (k + 1)), .bool true]) ∧ Below w.heap.size w w'
theorem RdG.none' {w : World} {n c : Nat} {xs : List Int} (h : RdG w (.slice none n c) xs) : n = 0 ∧ c = 0 ∧ xs = [] := by
  rcases h.2 with ⟨e, rfl⟩ | ⟨g, off, cap, e, h1, h2, h3⟩
  · cases e
    exact ⟨rfl, rfl, rfl⟩
  · cases e
theorem RdG.cap {w : World} {x : Option Addr} {n c : Nat} {xs : List Int} (h : RdG w (.slice x n c) xs) : n ≤ c ∧ c ≤ maxLen := by
  rcases h.2 with ⟨e, rfl⟩ | ⟨g, off, cap, e, h1, h2, h3⟩
  · cases e
    exact ⟨Nat.le_refl _, Nat.zero_le _⟩
  · cases e
    exact ⟨h1, h2⟩
set_option maxHeartbeats 1000000 in
set_option maxRecDepth 100000 in
theorem cut_found (x : Option Addr) (n c k : Nat) (xs : List Int) (b : Nat) (w : World) (h : RdG w (.slice x n c) xs) (hn : n = xs.length) (hk : k = at1 xs) (hf : k < n) (hl : n ≤ 1000000) (hc : w.cell? ⟨b, 0, none⟩ = some (.int .u8 1)) : Calls Try.prog 90 #[.slice x n c, .slice (some ⟨b, 0, none⟩) 1 1] w (CutD x n c k w) := by
  have H := hid (index_one _ xs b w h hc)
  have e : ix1 xs = (k : Int) := by unfold ix1; rw [← hk, if_pos (by omega)]
  rw [e] at H
  have hx0 : x ≠ none := fun q => by subst q; have := h.none'; omega
  have hcap := h.cap
  have h1 := run_toA x n c k (by omega) hcap.1
  have h2 : ∀ w, (Instr.sliceAt 22 (.slice x n c) (some (.int .i64 ((k : Int) + 1))) none none).run Try.prog w = .ok (.slice (fromA x c (k + 1)) (n - (k + 1)) (c - (k + 1))) w := fun w => by
    rw [show ((k : Int) + 1) = ((k + 1 : Nat) : Int) by omega]
    exact run_fromA x n c (k + 1) (by omega) (fun q => absurd q hx0) w
  have hw : IntKind.i64.wrap ((k : Int) + 1) = (k : Int) + 1 := IntWalk.i64_in _ (by omega)
  have hkp : (0 : Int) ≤ k := by omega
  unfold CutD
  generalize fromA x c (k + 1) = y at *
  clear h e hn hk hcap hc
  go_enter Try.func90, Try.ntmps90
  go_wp2_with fail
  with_reducible refine H.out.mono ?_
  rintro e w' ⟨rfl, rfl⟩
  go_wp2
  go_region_held3 (fun w' => True) (first | exact trivial | fail) (first | fail)
  go_wp2
  go_ret3
  exact ⟨rfl, (Below.refl _ _).drew⟩
set_option maxHeartbeats 1000000 in
set_option maxRecDepth 100000 in
theorem cut_none (x : Option Addr) (n c : Nat) (xs : List Int) (b : Nat) (w : World) (h : RdG w (.slice x n c) xs) (hn : n = xs.length) (hf : ¬ at1 xs < n) (hc : w.cell? ⟨b, 0, none⟩ = some (.int .u8 1)) : Calls Try.prog 90 #[.slice x n c, .slice (some ⟨b, 0, none⟩) 1 1] w fun e w' => e = .returned (.tuple #[.slice x n c, .slice none 0 0, .bool false]) ∧ w = w' := by
  have H := hid (index_one _ xs b w h hc)
  have e : ix1 xs = -1 := by unfold ix1; rw [if_neg (by omega)]
  rw [e] at H
  clear h e hn hf hc
  go_enter Try.func90, Try.ntmps90
  go_wp2_with fail
  with_reducible refine H.out.mono ?_
  rintro e w' ⟨rfl, rfl⟩
  go_wp2
  go_ret3
  exact ⟨rfl, rfl⟩
end Go.Proofs.Ytdpfjbpfafekfaa
