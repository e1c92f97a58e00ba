/-
  bytes.Cut at a byte; a message's names.
-/
import Derived.Test.YtdpfjbpfafekfaaNc
import Derived.Test.YtdpfjbpfafekfaaNd
namespace Go.Proofs.Ytdpfjbpfafekfaa
open Go.RowKit Go.Lib

/-- Where the first 1 stands, or -1. -/
def ix1 (xs : List Int) : Int := if at1 xs < xs.length then (at1 xs : Int) else -1
set_option maxHeartbeats 1000000 in
set_option maxRecDepth 100000 in
theorem indexByte_any (v : Value) (xs : List Int) (w : World) (h : RdG w v xs) : Calls Try.prog 95 #[v, .int .u8 1] w fun e w' => e = .returned (.int .i64 (ix1 xs)) ∧ w = w' := by
  rcases h.2 with ⟨rfl, rfl⟩ | ⟨g, off, cap, rfl, h1, h2, h3⟩
  · clear h
    go_enter Try.func95, Try.ntmps95
    go_wp2
    rw [run_callFunc_extern Try.func111 (by kernel_rfl) (by kernel_rfl) (by kernel_rfl) (e := Extern.BytealgIndexByte.indexByte) (by kernel_rfl), Lib.run_indexByteNil w 0 0 1]
    simp only [Result.andThen]
    rw [Oper.upon_value]
    go_wp2
    go_ret
    exact ⟨rfl, rfl⟩
  · have H := hid (index1 h.1)
    have HC := hid h3
    clear h h3
    go_enter Try.func95, Try.ntmps95
    go_wp2
    rw [run_callFunc_extern Try.func111 (by kernel_rfl) (by kernel_rfl) (by kernel_rfl) (e := Extern.BytealgIndexByte.indexByte) (by kernel_rfl), Lib.run_indexByteSlice w g off xs.length cap xs rfl HC.out 1]
    simp only [Result.andThen]
    rw [Oper.upon_value]
    rw [H.out]
    rw [show (if at1 xs < xs.length then (at1 xs : Int) else -1) = ix1 xs from rfl]
    go_wp2
    go_ret
    exact ⟨rfl, rfl⟩
set_option maxHeartbeats 1000000 in
set_option maxRecDepth 100000 in
theorem index_one (v : Value) (xs : List Int) (b : Nat) (w : World) (h : RdG w v xs) (hc : w.cell? ⟨b, 0, none⟩ = some (.int .u8 1)) : Calls Try.prog 92 #[v, .slice (some ⟨b, 0, none⟩) 1 1] w fun e w' => e = .returned (.int .i64 (ix1 xs)) ∧ w = w' := by
  have H := hid (indexByte_any v xs w h)
  obtain ⟨x, c, rfl⟩ := h.slice
  clear h
  go_enter Try.func92, Try.ntmps92
  go_wp2_with fail
  with_reducible refine H.out.mono ?_
  rintro e w' ⟨rfl, rfl⟩
  go_wp2
  go_ret
  exact ⟨rfl, rfl⟩
theorem RdG.take {w : World} {x : Option Addr} {n c : Nat} {xs : List Int} (h : RdG w (.slice x n c) xs) (hn : n = xs.length) (k : Nat) (hk : k ≤ n) : RdG w (.slice x k c) (xs.take k) := by
  refine ⟨fun y hy => h.1 y (List.mem_of_mem_take hy), ?_⟩
  rcases h.2 with ⟨e, rfl⟩ | ⟨g, off, cap, e, h1, h2, h3⟩
  · cases e
    obtain rfl : k = 0 := by simpa using hk
    exact .inl ⟨rfl, rfl⟩
  · cases e
    have hlen : (xs.take k).length = k := by rw [List.length_take]; omega
    refine .inr ⟨g, off, c, by rw [hlen], by omega, h2, fun i hi => ?_⟩
    rw [hlen] at hi
    rw [h3 i (by omega), List.getD, List.getD, List.getElem?_take, if_pos hi]
/-- What stands from a place on, as the model slices it. -/
def fromA (x : Option Addr) (c k : Nat) : Option Addr := if c = k then x else x.map fun a => a.add k
theorem RdG.from' {w : World} {x : Option Addr} {n c : Nat} {xs : List Int} (h : RdG w (.slice x n c) xs) (hn : n = xs.length) (k : Nat) (hk : k ≤ n) : RdG w (.slice (fromA x c k) (n - k) (c - k)) (xs.drop k) := by
  refine ⟨fun y hy => h.1 y (List.mem_of_mem_drop hy), ?_⟩
  rcases h.2 with ⟨e, rfl⟩ | ⟨g, off, cap, e, h1, h2, h3⟩
  · cases e
    obtain rfl : k = 0 := by simpa using hk
    exact .inl ⟨rfl, rfl⟩
  · cases e
    have hlen : (xs.drop k).length = xs.length - k := List.length_drop
    unfold fromA
    by_cases hc : c = k
    · rw [if_pos hc]
      refine .inr ⟨g, off, c - k, by rw [hlen], by omega, by omega, fun i hi => ?_⟩
      rw [hlen] at hi
      omega
    · rw [if_neg hc]
      refine .inr ⟨g, off + k, c - k, by rw [hlen, Option.map_some, addr_add], by omega, by omega, fun i hi => ?_⟩
      rw [hlen] at hi
      rw [Nat.add_assoc, h3 (k + i) (by omega), List.getD, List.getD, List.getElem?_drop]
theorem blk_from {x : Option Addr} {n c k m d : Nat} : ∀ b ∈ blkV (.slice (fromA x c k) m d), b ∈ blkV (.slice x n c) := fun b hb => by
  unfold fromA at hb
  split at hb
  · cases x with
    | none => cases hb
    | some a => simpa [blkV, Value.ownBlock] using hb
  · cases x with
    | none => cases hb
    | some a =>
      have e : (a.add k).block = a.block := by unfold Addr.add; split <;> rfl
      simpa [blkV, Value.ownBlock, e] using hb
theorem run_fromA (x : Option Addr) (n c k : Nat) (hk : k ≤ n) (hx : x = none → k = 0 ∧ c = 0) (w : World) : (Instr.sliceAt 22 (.slice x n c) (some (.int .i64 k)) none none).run Try.prog w = .ok (.slice (fromA x c k) (n - k) (c - k)) w := by
  have hk' : ¬ n < k := by omega
  unfold fromA
  cases x with
  | none =>
    obtain ⟨rfl, rfl⟩ := hx rfl
    simp [Instr.sliceAt, Instr.slice, run_underlying Try.underlying22, Instr.sliceBounds, Instr.sliceBound, asIntOf]
  | some a =>
    simp [Instr.sliceAt, Instr.slice, run_underlying Try.underlying22, Instr.sliceBounds, Instr.sliceBound, asIntOf, hk]
    (try split <;> rfl)
theorem add_zero' (a : Addr) : a.add 0 = a := by
  obtain ⟨g, off, spot⟩ := a
  unfold Addr.add
  split <;> simp_all
theorem run_toA (x : Option Addr) (n c k : Nat) (hk : k ≤ n) (hc : n ≤ c) (w : World) : (Instr.sliceAt 22 (.slice x n c) none (some (.int .i64 k)) none).run Try.prog w = .ok (.slice x k c) w := by
  have hk' : k ≤ c := by omega
  cases x <;> simp [Instr.sliceAt, Instr.slice, run_underlying Try.underlying22, Instr.sliceBounds, Instr.sliceBound, asIntOf, hk', add_zero']
end Go.Proofs.Ytdpfjbpfafekfaa
