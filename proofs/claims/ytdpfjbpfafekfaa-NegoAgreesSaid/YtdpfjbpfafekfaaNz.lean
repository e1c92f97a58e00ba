/-
  Functions that both have.
-/
import Derived.Test.YtdpfjbpfafekfaaNy
namespace Go.Proofs.Ytdpfjbpfafekfaa
open Go.RowKit Go.Lib

/-- So far: of a function's place in a list. -/
def soFar (fs : List Int) (j : Nat) (z : Int) : List Int := if inF (fs.take j) z = true then [z] else []
theorem inF_succ {fs : List Int} {j : Nat} (hj : j < fs.length) (z : Int) : inF (fs.take (j + 1)) z = (inF (fs.take j) z || (fs.getD j 0 == z)) := by
  unfold inF
  rw [take_succD hj, List.any_append]
  simp
theorem soFar_hit {fs : List Int} {j : Nat} (hj : j < fs.length) (hn : fs.Nodup) {z : Int} (h : fs.getD j 0 = z) : soFar fs j z = [] ∧ soFar fs (j + 1) z = [z] := by
  have hnot : inF (fs.take j) z = false := by
    unfold inF
    rw [any_not]
    intro q
    have q2 : (fs.take (j + 1)).Nodup := List.Sublist.nodup (List.take_sublist _ _) hn
    rw [take_succD hj, List.nodup_append] at q2
    exact q2.2.2 _ q _ (List.mem_singleton.2 rfl) h.symm
  unfold soFar
  rw [inF_succ hj, hnot, h]
  simp
theorem soFar_miss {fs : List Int} {j : Nat} (hj : j < fs.length) {z : Int} (h : fs.getD j 0 ≠ z) : soFar fs (j + 1) z = soFar fs j z := by
  unfold soFar
  rw [inF_succ hj, show (fs.getD j 0 == z) = false by simpa using h, Bool.or_false]
theorem soFar_all (fs : List Int) (z : Int) : soFar fs fs.length z = if inF fs z = true then [z] else [] := by
  unfold soFar
  rw [List.take_length]
theorem soFar_le (fs : List Int) (j : Nat) (z : Int) : (soFar fs j z).length ≤ 1 := by
  unfold soFar
  split <;> simp
theorem onceH_len (l : List Int) : (onceH l).length ≤ 5 := by
  have := onceK_le l 5
  rw [onceK_5] at this
  exact this
set_option maxRecDepth 100000 in
set_option maxHeartbeats 2000000 in
theorem both_any (y : Option Addr) (n c : Nat) (fs : List Int) (u : Value) (l : List Int) (w : World) (hr : RdG w (.slice y n c) fs) (hn : n = fs.length) (hl : n ≤ 1000) (hnd : fs.Nodup) (hu : Reads w u l) : Calls Try.prog 43 #[.slice y n c, u] w (OwnDone (keepL fs (onceH l)) w) := by
  have HO := hid (once_any u l w hu)
  obtain ⟨ux, un, uc, rfl⟩ := reads_any_slice hu
  have hol := onceH_len l
  have HRD := hid hr
  have HND := hid hnd
  have HN := hid hn
  clear hr hu hnd hn
  go_enter Try.func43, Try.ntmps43
  go_wp2_with fail
  with_reducible refine HO.out.mono ?_
  rintro e w1 ⟨v1, rfl, ho1, hb1, hk1⟩
  have HRD1 := hid (HRD.out.step hb1)
  have HB1 := hid hb1
  have HR1 := hid ho1.rdg
  obtain ⟨x1, c1, rfl⟩ := own_len ho1 _ rfl
  clear ho1 hb1 hk1 HO HRD
  generalize onceH l = r at *
  obtain ⟨m, hm⟩ : ∃ m, m = r.length := ⟨_, rfl⟩
  rw [← hm] at HR1 hol ⊢
  have HM := hid hm
  clear hm
  go_wp2
  go_loopw [5, 13] (fun o i W => ∃ (k : Nat) (x2 : Option Addr) (q c2 : Nat), k ≤ m ∧ i = .int .i64 k ∧ o = .slice x2 q c2 ∧ Hid (q = (keepL fs (r.take k)).length) ∧ Hid (Fresh w1 W (.slice x2 q c2) (keepL fs (r.take k)))) (fun _ i _ => m - (RowKit.intOf i).toNat)
  case atStart => exact ⟨0, none, 0, 0, Nat.zero_le _, rfl, rfl, hid rfl, fresh_nil w1⟩
  case round =>
    obtain ⟨k, x2, q, c2, hk, rfl, rfl, HQ, HF⟩ := hrel
    have hqk : q ≤ k := by
      rw [HQ.out]
      refine Nat.le_trans (keep_le _ _) ?_
      rw [List.length_take]
      omega
    by_cases hkm : k < m
    · have hkx : k < r.length := by rw [← HM.out]; exact hkm
      have hki : (k : Int) < m := by omega
      obtain ⟨g1, o1, cap1, e1, _, _, h1⟩ := HR1.out.row (fun q => by rw [q] at hkx; cases hkx)
      cases e1
      have c0 := keepc HF.out.2.1 (h1 k hkx)
      have HKT := hid (keep_take (fs := fs) hkx)
      have hzb := getD_byte HR1.out.1 k hkx
      obtain ⟨z, hz⟩ : ∃ z : Nat, r.getD k 0 = z := ⟨(r.getD k 0).toNat, by omega⟩
      rw [hz] at c0 HKT
      have hz256 : z < 256 := by omega
      clear hz h1 hzb
      rw [← soFar_all fs (z : Int)] at HKT
      generalize keepL fs (r.take k) = P at *
      go_wp2
      go_loopw [5, 19] (fun o i W => ∃ (j : Nat) (x3 : Option Addr) (q3 c3 : Nat), j ≤ n ∧ i = .int .i64 j ∧ o = .slice x3 q3 c3 ∧ Hid (q3 = (P ++ soFar fs j z).length) ∧ Hid (Fresh w1 W (.slice x3 q3 c3) (P ++ soFar fs j z))) (fun _ i _ => n - (RowKit.intOf i).toNat)
      case atStart => exact ⟨0, x2, q, c2, Nat.zero_le _, rfl, rfl, hid (by simpa [soFar, inF] using HQ.out), hid (by simpa [soFar, inF] using HF.out)⟩
      case round =>
        obtain ⟨j, x3, q3, c3, hj, rfl, rfl, HQ3, HF3⟩ := hrel
        have hq3 : q3 ≤ k + 1 := by
          rw [HQ3.out, List.length_append, ← HQ.out]
          have := soFar_le fs j z
          omega
        by_cases hjn : j < n
        · have hjx : j < fs.length := by rw [← HN.out]; exact hjn
          have hji : (j : Int) < n := by omega
          obtain ⟨g2, o2, cap2, e2, _, _, h2⟩ := HRD1.out.row (fun q => by rw [q] at hjx; cases hjx)
          cases e2
          have d0 := keepc HF3.out.2.1 (h2 j hjx)
          clear h2
          by_cases he : fs.getD j 0 = (z : Int)
          · have hb : (fs.getD j 0 == (z : Int)) = true := by simpa using he
            obtain ⟨s1, s2⟩ := soFar_hit hjx HND.out he
            rw [s1, List.append_nil] at HQ3 HF3
            have HS2 := hid s2
            have HF4 := hid (HF3.out.step (bal (Below.refl wr.heap.size wr) (.cells #[.int .u8 z] 5)))
            have HLT := hid (own_lit wr #[.int .u8 z] 1 [(z : Int)] (fun q hq => by simp at hq; omega) rfl rfl (by omega) wr.heap.size rfl).reads
            clear he s1 s2
            generalize fs.getD j 0 = y at *
            go_wp2_with (first
              | (at_builtin; refine wpList_append_rd rfl _ _ rfl rfl HF4.out _ [(z : Int)] rfl HLT.out (by rw [← HQ3.out]; simp; omega) ?_; intro x' c' w' hF'; have HF' := hid hF'; clear hF'))
            go_roundw
            case rel => exact ⟨j + 1, x', _, c', by omega, by go_num, rfl, hid (by rw [HS2.out]; simp), hid (by rw [HS2.out]; exact HF'.out)⟩
            case measure => simp [RowKit.intOf]; omega
          · have hb : (fs.getD j 0 == (z : Int)) = false := by simpa using he
            have HS2 := hid (soFar_miss hjx he)
            clear he
            generalize fs.getD j 0 = y at *
            go_wp2
            go_roundw
            case rel => exact ⟨j + 1, x3, q3, c3, by omega, by go_num, rfl, hid (by rw [HS2.out]; exact HQ3.out), hid (by rw [HS2.out]; exact HF3.out)⟩
            case measure => simp [RowKit.intOf]; omega
        · obtain rfl : j = n := by omega
          rw [show soFar fs j z = soFar fs fs.length z by rw [← HN.out], ← HKT.out] at HQ3 HF3
          go_wp2
          go_roundw
          case rel => exact ⟨k + 1, x3, q3, c3, by omega, by go_num, rfl, HQ3.out, HF3.out⟩
          case measure => simp [RowKit.intOf]; omega
    · obtain rfl : k = m := by omega
      have HD := hid (show OwnDone (keepL fs r) w (.returned (.slice x2 q c2)) wr by have := (HF.out.since HB1.out).done; rw [HM.out, List.take_length] at this; exact this)
      go_wp2
      go_ret
      exact HD.out
end Go.Proofs.Ytdpfjbpfafekfaa
