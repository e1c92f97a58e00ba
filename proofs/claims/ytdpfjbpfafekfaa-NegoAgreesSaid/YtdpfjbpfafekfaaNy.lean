/-
  Functions that a host has, each once; those that both have; a constant's bytes with a text behind.
-/
import Derived.Test.YtdpfjbpfafekfaaNv
import Derived.Lib.SlBytesConst
namespace Go.Proofs.Ytdpfjbpfafekfaa
open Go.RowKit Go.Lib

/-- A string's bytes behind a row that is full. -/
theorem wpList_append_full {w : World} {b n : Nat} {xs : List Int} {ops : Array Oper} {rest : List Oper} {o : Oper} {a : Act} {Q : Exit → Act → World → Prop} (hgd : o.guard = none) (sl x : Operand)
    (ho : o.op = .call { callee := .builtin .append, args := #[sl, x], argTypes := #[22, 9] }) (hs : a.eval sl = .slice (some ⟨b, 0, none⟩) n n) (hR : Reads w (.slice (some ⟨b, 0, none⟩) n n) xs) (s : ByteArray) (hx : a.eval x = .string s) (h1 : 1 ≤ s.size)
    (hl : xs.length + s.size ≤ 1000000) (h : ∀ c' w', Fresh w w' (.slice (some ⟨w.heap.size, 0, none⟩) (n + s.size) c') (xs ++ strL s) → wpList Try.prog ops Q rest (a.put o.dst (.slice (some ⟨w.heap.size, 0, none⟩) (n + s.size) c')) w') : wpList Try.prog ops Q (o :: rest) a w := by
  obtain ⟨i0, hi, hz0, hz1, hz2⟩ := info_parts info5
  obtain ⟨hn, holds⟩ := reads_src hR
  have hr := run_append_grow_string (P := Try.prog) w 22 9 o.type 5 i0 (.int .u8 0) Try.underlying22 Try.underlying9 hi hz0 ⟨b, 0, none⟩ n n (xs.map (Value.int .u8)) (by rw [hz1, List.length_map]; omega) holds s (by omega) (by omega) (by rw [hz2]; exact growslice_fits (by omega) (by omega))
  have hge := grownCap_ge w (n + s.size) n 5
  have hcm := grownCap_le_maxLen w (n + s.size) n 5 (by unfold maxLen; omega)
  refine wpList_plain hgd fun K hK => ?_
  unfold Oper.wp execOp
  simp only [ho, resolve, invoke, builtin, Sem.run_bind, Sem.run_pure, Result.andThen_ok, List.map_toArray, List.map_cons, List.map_nil, hs, hx, hr]
  refine hK _ _ (h _ _ ⟨⟨fun y hy => ?_, ?_, .inr ⟨w.heap.size, _, _, ?_, Nat.zero_le _, heap_alloc_new w.drew _, ?_, hcm, ?_, ?_⟩⟩, ((Below.refl w.heap.size w).drew).alloc (Nat.le_refl _) _, fun k hk => ?_⟩)
  · rcases List.mem_append.1 hy with q | q
    · exact hR.1 y q
    · exact strL_byte s y q
  · rw [List.length_map]
    omega
  · rw [List.length_append, strL_length, hn]
  · rw [List.length_append, strL_length, ← hn]
    exact hge
  · have hz1 : (Value.int IntKind.u8 0).cells.size = 1 := rfl
    simp only [Array.size_append, List.size_toArray, size_zeroCells, hz1, List.length_map, strCells_length]
    omega
  · rw [strL_cells]
    simp only [Array.toList_append, List.append_assoc]
    rw [← List.append_assoc, ← List.map_append]
    rw [show (xs ++ strL s).length * 1 = ((xs ++ strL s).map (Value.int .u8)).length by rw [List.length_map]; omega]
    exact List.take_left
  · have : w.heap.size = k := by simpa [mem_blkV, Value.ownBlock] using hk
    omega
/-- Functions of a list, each once, rising. -/
def onceH (l : List Int) : List Int := [0, 1, 2, 3, 4].filter fun f => l.any fun x => x % 5 == f
def onceK (l : List Int) (k : Nat) : List Int := ((List.range k).map fun (i : Nat) => (i : Int)).filter fun f => l.any fun x => x % 5 == f
theorem onceK_5 (l : List Int) : onceK l 5 = onceH l := rfl
theorem onceK_succ (l : List Int) (k : Nat) : onceK l (k + 1) = onceK l k ++ (if (l.any fun x => x % 5 == (k : Int)) = true then [(k : Int)] else []) := by
  unfold onceK
  rw [List.range_succ, List.map_append, List.filter_append]
  congr 1
  by_cases h : (l.any fun x => x % 5 == (k : Int)) = true
  · rw [if_pos h, List.map_cons, List.map_nil, List.filter_cons, if_pos h, List.filter_nil]
  · rw [if_neg h, List.map_cons, List.map_nil, List.filter_cons, if_neg h, List.filter_nil]
theorem onceK_le (l : List Int) (k : Nat) : (onceK l k).length ≤ k := by
  unfold onceK
  refine Nat.le_trans (List.length_filter_le _ _) ?_
  simp
theorem any5_some {l : List Int} {k : Int} (i : Nat) (hi : i < l.length) (h : l.getD i 0 % 5 = k) : (l.any fun x => x % 5 == k) = true := by
  rw [List.any_eq_true]
  rw [List.getD, List.getElem?_eq_getElem hi] at h
  exact ⟨l[i], List.getElem_mem hi, by simpa using h⟩
theorem any5_none {l : List Int} {k : Int} (h : ∀ i, i < l.length → l.getD i 0 % 5 ≠ k) : (l.any fun x => x % 5 == k) = false := by
  rw [List.any_eq_false]
  intro x hx
  obtain ⟨i, hi, rfl⟩ := List.getElem_of_mem hx
  have := h i hi
  rw [List.getD, List.getElem?_eq_getElem hi] at this
  simpa using this
set_option maxRecDepth 100000 in
set_option maxHeartbeats 2000000 in
theorem once_none (x : Option Addr) (c : Nat) (w : World) : Calls Try.prog 45 #[.slice x 0 c] w (OwnDone (onceH []) w) := by
  go_enter Try.func45, Try.ntmps45
  go_wp2
  go_loopw [3, 4] (fun o fv W => ∃ (k : Nat) (x2 : Option Addr) (m c2 : Nat), k ≤ 5 ∧ fv = .int .u8 k ∧ o = .slice x2 m c2 ∧ Hid (m = (onceK [] k).length) ∧ Hid (Fresh w W (.slice x2 m c2) (onceK [] k))) (fun _ fv _ => 5 - (RowKit.intOf fv).toNat)
  case atStart => exact ⟨0, none, 0, 0, Nat.zero_le _, rfl, rfl, hid rfl, fresh_nil w⟩
  case round =>
    obtain ⟨k, x2, m, c2, hk, rfl, rfl, HMM, HF⟩ := hrel
    have hmk : m ≤ 5 := by rw [HMM.out]; exact Nat.le_trans (onceK_le _ _) hk
    by_cases h5 : k < 5
    · have hle : (k : Int) ≤ 4 := by omega
      have hk8 : IntKind.u8.wrap ((k : Int) + 1) = (k : Int) + 1 := by
        have : k = 0 ∨ k = 1 ∨ k = 2 ∨ k = 3 ∨ k = 4 := by omega
        rcases this with rfl | rfl | rfl | rfl | rfl <;> decide
      have HKS := hid (onceK_succ [] k)
      go_wp2
      go_loopw [3, 13] (fun o i W => o = .slice x2 m c2 ∧ i = .int .i64 0 ∧ W = wr) (fun _ _ _ => 0)
      case atStart => exact ⟨rfl, rfl, rfl⟩
      case round =>
        obtain ⟨rfl, rfl, hw⟩ := hrel
        subst hw
        go_wp2
        go_roundw
        case rel => exact ⟨k + 1, x2, m, c2, by omega, by go_num, rfl, hid (by rw [HKS.out]; simpa using HMM.out), hid (by rw [HKS.out]; simpa using HF.out)⟩
        case measure => simp [RowKit.intOf]; omega
    · obtain rfl : k = 5 := by omega
      have HD := hid (show OwnDone (onceH []) w (.returned (.slice x2 m c2)) wr from HF.out.done)
      go_wp2
      go_ret
      exact HD.out
set_option maxRecDepth 100000 in
set_option maxHeartbeats 2000000 in
theorem once_row (g off n c : Nat) (l : List Int) (hn : n = l.length) (hb : ∀ x ∈ l, 0 ≤ x ∧ x < 256) (nb : n ≤ maxLen) (w : World) (hc : ∀ i, i < l.length → w.cell? ⟨g, off + i, none⟩ = some (.int .u8 (l.getD i 0))) : Calls Try.prog 45 #[.slice (some ⟨g, off, none⟩) n c] w (OwnDone (onceH l) w) := by
  have HC := hid hc
  have HBY := hid (getD_byte hb)
  have HN := hid hn
  unfold maxLen at nb
  clear hc hb hn
  go_enter Try.func45, Try.ntmps45
  go_wp2
  go_loopw [3, 4] (fun o fv W => ∃ (k : Nat) (x2 : Option Addr) (m c2 : Nat), k ≤ 5 ∧ fv = .int .u8 k ∧ o = .slice x2 m c2 ∧ Hid (m = (onceK l k).length) ∧ Hid (Fresh w W (.slice x2 m c2) (onceK l k))) (fun _ fv _ => 5 - (RowKit.intOf fv).toNat)
  case atStart => exact ⟨0, none, 0, 0, Nat.zero_le _, rfl, rfl, hid rfl, fresh_nil w⟩
  case round =>
    obtain ⟨k, x2, m, c2, hk, rfl, rfl, HMM, HF⟩ := hrel
    have hmk : m ≤ 5 := by rw [HMM.out]; exact Nat.le_trans (onceK_le _ _) hk
    by_cases h5 : k < 5
    · have hle : (k : Int) ≤ 4 := by omega
      have hk8 : IntKind.u8.wrap ((k : Int) + 1) = (k : Int) + 1 := by
        have : k = 0 ∨ k = 1 ∨ k = 2 ∨ k = 3 ∨ k = 4 := by omega
        rcases this with rfl | rfl | rfl | rfl | rfl <;> decide
      have HKS := hid (onceK_succ l k)
      go_wp2
      go_loopw [3, 13] (fun o i W => ∃ j : Nat, j ≤ n ∧ o = .slice x2 m c2 ∧ i = .int .i64 j ∧ Hid (∀ i, i < j → l.getD i 0 % 5 ≠ (k : Int)) ∧ W = wr) (fun _ i _ => n - (RowKit.intOf i).toNat)
      case atStart => exact ⟨0, Nat.zero_le _, rfl, rfl, hid (fun i h => absurd h (by omega)), rfl⟩
      case round =>
        obtain ⟨j, hj, rfl, rfl, HJ, hw⟩ := hrel
        subst hw
        by_cases hjn : j < n
        · have hjx : j < l.length := by rw [← HN.out]; exact hjn
          have c0 := keepc HF.out.2.1 (HC.out j hjx)
          obtain ⟨b0, b1⟩ := HBY.out j hjx
          have hji : (j : Int) < n := by omega
          by_cases he : l.getD j 0 % 5 = (k : Int)
          · have HAN := hid (any5_some (k := (k : Int)) j hjx he)
            rw [HAN.out, if_pos rfl] at HKS
            have e1 : (l.getD j 0 % 5 == (k : Int)) = true := by simpa using he
            have e2 : ((l.getD j 0).tmod 5 == (k : Int)) = true := by rw [Int.tmod_eq_emod_of_nonneg b0]; exact e1
            have HF1 := hid (HF.out.step (bal (Below.refl wr.heap.size wr) (.cells #[.int .u8 k] 5)))
            have HRD := hid (own_lit wr #[.int .u8 k] 1 [(k : Int)] (fun q hq => by simp at hq; omega) rfl rfl (by omega) wr.heap.size rfl).reads
            clear he
            generalize l.getD j 0 = z at *
            go_wp2_with (first
              | (at_builtin; refine wpList_append_rd rfl _ _ rfl rfl HF1.out _ [(k : Int)] rfl HRD.out (by rw [← HMM.out]; simp; omega) ?_; intro x' c' w' hF'; have HF' := hid hF'; clear hF'))
            go_roundw
            case rel => exact ⟨k + 1, x', _, c', by omega, by go_num, rfl, hid (by rw [HKS.out]; simp), hid (by rw [HKS.out]; exact HF'.out)⟩
            case measure => simp [RowKit.intOf]; omega
          · have e1 : (l.getD j 0 % 5 == (k : Int)) = false := by simpa using he
            have e2 : ((l.getD j 0).tmod 5 == (k : Int)) = false := by rw [Int.tmod_eq_emod_of_nonneg b0]; exact e1
            have HJ2 := hid (show ∀ i, i < j + 1 → l.getD i 0 % 5 ≠ (k : Int) from fun i hi => by
              by_cases hij : i < j
              · exact HJ.out i hij
              · obtain rfl : i = j := by omega
                exact he)
            clear he
            generalize l.getD j 0 = z at c0 b0 b1 e1 e2
            go_wp2
            go_roundw
            case rel => exact ⟨j + 1, by omega, rfl, by go_num, HJ2.out, (by first | exact trivial | rfl)⟩
            case measure => simp [RowKit.intOf]; omega
        · obtain rfl : j = n := by omega
          have HAN := hid (any5_none (k := (k : Int)) (by rw [← HN.out]; exact HJ.out))
          rw [HAN.out, if_neg (by decide), List.append_nil] at HKS
          go_wp2
          go_roundw
          case rel => exact ⟨k + 1, x2, m, c2, by omega, by go_num, rfl, hid (by rw [HKS.out]; exact HMM.out), hid (by rw [HKS.out]; exact HF.out)⟩
          case measure => simp [RowKit.intOf]; omega
    · obtain rfl : k = 5 := by omega
      have HD := hid (show OwnDone (onceH l) w (.returned (.slice x2 m c2)) wr from HF.out.done)
      go_wp2
      go_ret
      exact HD.out
theorem once_any (v : Value) (l : List Int) (w : World) (h : Reads w v l) : Calls Try.prog 45 #[v] w (OwnDone (onceH l) w) := by
  rcases reads_cases h with ⟨x, c, rfl, rfl⟩ | ⟨g, o, n, c, rfl, hn, _, hc⟩
  · exact once_none x c w
  · refine once_row g o n c l hn h.1 ?_ w hc
    rcases h.2 with ⟨e, _⟩ | ⟨a, cap, e, h1, h2, _⟩
    · cases e
    · cases e
      omega
end Go.Proofs.Ytdpfjbpfafekfaa
