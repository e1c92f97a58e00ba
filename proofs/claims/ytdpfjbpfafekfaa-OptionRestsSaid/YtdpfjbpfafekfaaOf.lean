/-
  A new machine: nothing is agreed on; it agrees to what it is told.
-/
import Derived.Test.YtdpfjbpfafekfaaOe
import Derived.Laws.Tables
import Derived.Deep.WholeRow
namespace Go.Proofs.Ytdpfjbpfafekfaa
open Go.RowKit Go.Lib

/-- A machine's cells at first. -/
def zeroM : Array Value := (List.replicate 512 (Value.bool false) ++ List.replicate 512 (Value.int .u8 0)).toArray
theorem zero_machine : ∀ w, (zeroValue 109).run Try.prog w = .ok (.agg zeroM) w := (zero_of_info (n := 1024) (by kernel_rfl)).1
theorem zeroM_at (i : Nat) : (i < 512 → zeroM[i]? = some (.bool false)) ∧ (i < 512 → zeroM[512 + i]? = some (.int .u8 0)) := by
  unfold zeroM
  refine ⟨fun h => ?_, fun h => ?_⟩
  · rw [List.getElem?_toArray, List.getElem?_append_left (by rw [List.length_replicate]; exact h), List.getElem?_replicate, if_pos h]
  · rw [List.getElem?_toArray, List.getElem?_append_right (by rw [List.length_replicate]; omega), List.getElem?_replicate, List.length_replicate, if_pos (by omega)]
theorem Mach.new (w : World) : Mach (w.alloc (.cells zeroM 109)) w.heap.size (fun _ => false) (fun _ => 0) :=
  ⟨fun i hi => by rw [World.cell?_alloc_new]; exact (zeroM_at i).1 hi, fun i hi => by rw [World.cell?_alloc_new]; exact (zeroM_at i).2 hi, fun i hi => by simp [go_sem], fun _ => by simp⟩
theorem Mach.agree {w : World} {g : Nat} {ag : Nat → Bool} {st : Nat → Int} (h : Mach w g ag st) (i : Nat) (hi : i < 512) : Mach (w.setCell ⟨g, i, none⟩ (.bool true)) g (fun j => ag j || j == i) st := by
  refine ⟨fun j hj => ?_, fun j hj => ?_, fun j hj => by simp [h.fr j hj], h.ok⟩
  · by_cases e : j = i
    · subst e
      rw [show (ag j || j == j) = true by simp]
      exact World.cell?_setCell_same _ _ _ (h.ca j hj)
    · rw [show (ag j || j == i) = ag j by simp [e], World.cell?_setCell_other _ _ _ _ (fun q => by injection q; omega)]
      exact h.ca j hj
  · rw [World.cell?_setCell_other _ _ _ _ (fun q => by injection q; omega)]
    exact h.cs j hj
/-- What is agreed to on our side, of the first so many; and on his. -/
def agU (us : List Int) (k : Nat) : Nat → Bool := fun j => (us.take k).any fun x => x == (j : Int)
def agH (us hs : List Int) (k : Nat) : Nat → Bool := fun j => agU us us.length j || (hs.take k).any fun x => x + 256 == (j : Int)
/-- All that is agreed to. -/
def agN (us hs : List Int) : Nat → Bool := agH us hs hs.length
theorem agH_zero (us hs : List Int) : agH us hs 0 = agU us us.length := by funext j; simp [agH]
theorem any_take {xs : List Int} {k : Nat} {P : Int → Bool} (hk : k < xs.length) : (xs.take (k + 1)).any P = ((xs.take k).any P || P (xs.getD k 0)) := by
  rw [List.take_succ_eq_append_getElem hk, List.any_append, List.getD, List.getElem?_eq_getElem hk]
  simp
theorem agU_step (us : List Int) {k x : Nat} (h : k < us.length ∧ us.getD k 0 = (x : Int)) : agU us (k + 1) = fun j => agU us k j || j == x := by
  funext j
  unfold agU
  rw [any_take h.1, h.2]
  congr 1
  rw [Bool.eq_iff_iff]
  simp
  omega
theorem agH_step (us hs : List Int) {k x : Nat} (h : k < hs.length ∧ hs.getD k 0 = (x : Int)) : agH us hs (k + 1) = fun j => agH us hs k j || j == 256 + x := by
  funext j
  unfold agH
  rw [any_take h.1, h.2, ← Bool.or_assoc]
  congr 1
  rw [Bool.eq_iff_iff]
  simp
  omega
theorem byte_at {xs : List Int} (hb : ∀ x ∈ xs, 0 ≤ x ∧ x < 256) (i : Nat) (h : i < xs.length) : ∃ n : Nat, n < 256 ∧ xs.getD i 0 = (n : Int) ∧ i < xs.length ∧ xs.getD i 0 = (n : Int) := by
  have q : xs.getD i 0 ∈ xs := by rw [List.getD, List.getElem?_eq_getElem h]; exact List.getElem_mem h
  have := hb _ q
  exact ⟨(xs.getD i 0).toNat, by omega, by omega, h, by omega⟩
/-- A new machine is there. -/
def NewM (us hs : List Int) (w : World) (e : Ending) (w' : World) : Prop := e = .returned (.pointer (some ⟨w.heap.size, 0, none⟩)) ∧ Mach w' w.heap.size (agN us hs) (fun _ => 0) ∧ Below w.heap.size w w'
theorem newM_end {us hs : List Int} {w w1 w2 : World} (hb : Below w.heap.size w w1) (hv : Moved w1 w2 [w.heap.size] [w.heap.size]) (hm : Mach w2 w.heap.size (agH us hs hs.length) (fun _ => 0)) : NewM us hs w (.returned (.pointer (some ⟨w.heap.size, 0, none⟩))) w2 :=
  ⟨rfl, hm, hb.trans (hv.toBelow hb.size (fun k h => by rw [List.mem_singleton.1 h]; exact Nat.le_refl _))⟩
set_option maxRecDepth 100000 in
set_option maxHeartbeats 2000000 in
theorem new_ee (us hs : List Int) (w : World) (bu : ∀ x ∈ us, 0 ≤ x ∧ x < 256) (bh : ∀ x ∈ hs, 0 ≤ x ∧ x < 256) (xu : Option Addr) (cu : Nat) (hN : us = []) (xh : Option Addr) (ch : Nat) (hL : hs = []) : Calls Try.prog 13 #[.slice xu 0 cu, .slice xh 0 ch] w (NewM us hs w) := by
  have hz := zero_machine
  have HM0 := hid (show Mach _ w.heap.size (agU us 0) (fun _ => 0) from Mach.new w)
  have HB0 := hid (bal (Below.refl w.heap.size w) (.cells zeroM 109))
  have HNU := hid hN
  clear hN
  have HNH := hid hL
  clear hL
  have HFU := hid bu
  have HFH := hid bh
  clear bu bh
  go_enter Try.func13, Try.ntmps13
  go_wp2
  go_loopw [14] (fun i W => ∃ k : Nat, k ≤ 0 ∧ i = .int .i64 k ∧ Hid (Mach W w.heap.size (agU us k) (fun _ => 0)) ∧ Hid (Moved (w.alloc (.cells zeroM 109)) W [w.heap.size] [w.heap.size])) (fun i _ => 0 - (intOf i).toNat)
  case atStart => exact ⟨0, Nat.zero_le _, rfl, HM0.out, Moved.refl _ _⟩
  case round =>
    obtain ⟨k, hk, rfl, HM, HV⟩ := hrel
    by_cases hlt : k < 0
    · exact absurd hlt (by omega)
    · obtain rfl : k = 0 := by omega
      have HMU := hid (show Mach _ w.heap.size (agU us us.length) (fun _ => 0) by rw [HNU.out]; rw [HNU.out] at HM; exact HM.out)
      clear HM
      go_wp2
      go_loopw [27] (fun i W => ∃ k : Nat, k ≤ 0 ∧ i = .int .i64 k ∧ Hid (Mach W w.heap.size (agH us hs k) (fun _ => 0)) ∧ Hid (Moved (w.alloc (.cells zeroM 109)) W [w.heap.size] [w.heap.size])) (fun i _ => 0 - (intOf i).toNat)
      case atStart => exact ⟨0, Nat.zero_le _, rfl, by rw [agH_zero us hs]; exact HMU.out, HV.out⟩
      case round =>
        obtain ⟨k, hk, rfl, HM, HV⟩ := hrel
        by_cases hlt : k < 0
        · exact absurd hlt (by omega)
        · obtain rfl : k = 0 := by omega
          go_wp2
          go_ret
          exact newM_end HB0.out HV.out (show Mach _ w.heap.size (agH us hs hs.length) (fun _ => 0) by rw [HNH.out]; rw [HNH.out] at HM; exact HM.out)
set_option maxRecDepth 100000 in
set_option maxHeartbeats 2000000 in
theorem new_er (us hs : List Int) (w : World) (bu : ∀ x ∈ us, 0 ≤ x ∧ x < 256) (bh : ∀ x ∈ hs, 0 ≤ x ∧ x < 256) (xu : Option Addr) (cu : Nat) (hN : us = []) (gh oh L ch : Nat) (hL : L = hs.length) (lb : L ≤ 1000000) (lh : gh < w.heap.size) (hch : ∀ i, i < hs.length → w.cell? ⟨gh, oh + i, none⟩ = some (.int .u8 (hs.getD i 0))) : Calls Try.prog 13 #[.slice xu 0 cu, .slice (some ⟨gh, oh, none⟩) L ch] w (NewM us hs w) := by
  have hz := zero_machine
  have HM0 := hid (show Mach _ w.heap.size (agU us 0) (fun _ => 0) from Mach.new w)
  have HB0 := hid (bal (Below.refl w.heap.size w) (.cells zeroM 109))
  have HNU := hid hN
  clear hN
  have HCH := hid (fun i (h : i < L) => keepc HB0.out (hch i (by omega)))
  have HBH := hid (fun i (h : i < L) => byte_at bh i (by omega))
  have HNH := hid hL
  clear hch hL
  have HFU := hid bu
  have HFH := hid bh
  clear bu bh
  go_enter Try.func13, Try.ntmps13
  go_wp2
  go_loopw [14] (fun i W => ∃ k : Nat, k ≤ 0 ∧ i = .int .i64 k ∧ Hid (Mach W w.heap.size (agU us k) (fun _ => 0)) ∧ Hid (Moved (w.alloc (.cells zeroM 109)) W [w.heap.size] [w.heap.size])) (fun i _ => 0 - (intOf i).toNat)
  case atStart => exact ⟨0, Nat.zero_le _, rfl, HM0.out, Moved.refl _ _⟩
  case round =>
    obtain ⟨k, hk, rfl, HM, HV⟩ := hrel
    by_cases hlt : k < 0
    · exact absurd hlt (by omega)
    · obtain rfl : k = 0 := by omega
      have HMU := hid (show Mach _ w.heap.size (agU us us.length) (fun _ => 0) by rw [HNU.out]; rw [HNU.out] at HM; exact HM.out)
      clear HM
      go_wp2
      go_loopw [27] (fun i W => ∃ k : Nat, k ≤ L ∧ i = .int .i64 k ∧ Hid (Mach W w.heap.size (agH us hs k) (fun _ => 0)) ∧ Hid (Moved (w.alloc (.cells zeroM 109)) W [w.heap.size] [w.heap.size])) (fun i _ => L - (intOf i).toNat)
      case atStart => exact ⟨0, Nat.zero_le _, rfl, by rw [agH_zero us hs]; exact HMU.out, HV.out⟩
      case round =>
        obtain ⟨k, hk, rfl, HM, HV⟩ := hrel
        by_cases hlt : k < L
        · have c0 := cell_moved HV.out (HCH.out k hlt) (fun h => by have h' : gh = w.heap.size := List.mem_singleton.1 h; omega)
          obtain ⟨x, hx1, hx2, hx3⟩ := HBH.out k hlt
          rw [hx2] at c0
          have d0 := HM.out.ca (256 + x) (by omega)
          have f0 := HM.out.fr (256 + x) (by omega)
          have HMA := hid (HM.out.agree (256 + x) (by omega))
          have HE := hid (agH_step us hs hx3)
          have hki : (k : Int) < L := by omega
          have hxi : (x : Int) < 256 := by omega
          have hx0 : (0 : Int) ≤ x := by omega
          clear hx2 hx3
          go_wp2
          go_roundw
          case rel => exact ⟨k + 1, by omega, by go_num, by rw [HE.out]; exact HMA.out, HV.out.trans (Moved.set (by simp) _ _)⟩
          case measure => simp [intOf]; omega
        · obtain rfl : k = L := by omega
          go_wp2
          go_ret
          exact newM_end HB0.out HV.out (show Mach _ w.heap.size (agH us hs hs.length) (fun _ => 0) by rw [← HNH.out]; exact HM.out)
set_option maxRecDepth 100000 in
set_option maxHeartbeats 2000000 in
theorem new_re (us hs : List Int) (w : World) (bu : ∀ x ∈ us, 0 ≤ x ∧ x < 256) (bh : ∀ x ∈ hs, 0 ≤ x ∧ x < 256) (gu ou N cu : Nat) (hN : N = us.length) (nb : N ≤ 1000000) (lu : gu < w.heap.size) (hcu : ∀ i, i < us.length → w.cell? ⟨gu, ou + i, none⟩ = some (.int .u8 (us.getD i 0))) (xh : Option Addr) (ch : Nat) (hL : hs = []) : Calls Try.prog 13 #[.slice (some ⟨gu, ou, none⟩) N cu, .slice xh 0 ch] w (NewM us hs w) := by
  have hz := zero_machine
  have HM0 := hid (show Mach _ w.heap.size (agU us 0) (fun _ => 0) from Mach.new w)
  have HB0 := hid (bal (Below.refl w.heap.size w) (.cells zeroM 109))
  have HCU := hid (fun i (h : i < N) => keepc HB0.out (hcu i (by omega)))
  have HBU := hid (fun i (h : i < N) => byte_at bu i (by omega))
  have HNU := hid hN
  clear hcu hN
  have HNH := hid hL
  clear hL
  have HFU := hid bu
  have HFH := hid bh
  clear bu bh
  go_enter Try.func13, Try.ntmps13
  go_wp2
  go_loopw [14] (fun i W => ∃ k : Nat, k ≤ N ∧ i = .int .i64 k ∧ Hid (Mach W w.heap.size (agU us k) (fun _ => 0)) ∧ Hid (Moved (w.alloc (.cells zeroM 109)) W [w.heap.size] [w.heap.size])) (fun i _ => N - (intOf i).toNat)
  case atStart => exact ⟨0, Nat.zero_le _, rfl, HM0.out, Moved.refl _ _⟩
  case round =>
    obtain ⟨k, hk, rfl, HM, HV⟩ := hrel
    by_cases hlt : k < N
    · have c0 := cell_moved HV.out (HCU.out k hlt) (fun h => by have h' : gu = w.heap.size := List.mem_singleton.1 h; omega)
      obtain ⟨x, hx1, hx2, hx3⟩ := HBU.out k hlt
      rw [hx2] at c0
      have d0 := HM.out.ca (x) (by omega)
      have f0 := HM.out.fr (x) (by omega)
      have HMA := hid (HM.out.agree (x) (by omega))
      have HE := hid (agU_step us hx3)
      have hki : (k : Int) < N := by omega
      have hxi : (x : Int) < 256 := by omega
      have hx0 : (0 : Int) ≤ x := by omega
      clear hx2 hx3
      go_wp2
      go_roundw
      case rel => exact ⟨k + 1, by omega, by go_num, by rw [HE.out]; exact HMA.out, HV.out.trans (Moved.set (by simp) _ _)⟩
      case measure => simp [intOf]; omega
    · obtain rfl : k = N := by omega
      have HMU := hid (show Mach _ w.heap.size (agU us us.length) (fun _ => 0) by rw [← HNU.out]; exact HM.out)
      clear HM
      go_wp2
      go_loopw [27] (fun i W => ∃ k : Nat, k ≤ 0 ∧ i = .int .i64 k ∧ Hid (Mach W w.heap.size (agH us hs k) (fun _ => 0)) ∧ Hid (Moved (w.alloc (.cells zeroM 109)) W [w.heap.size] [w.heap.size])) (fun i _ => 0 - (intOf i).toNat)
      case atStart => exact ⟨0, Nat.zero_le _, rfl, by rw [agH_zero us hs]; exact HMU.out, HV.out⟩
      case round =>
        obtain ⟨k, hk, rfl, HM, HV⟩ := hrel
        by_cases hlt : k < 0
        · exact absurd hlt (by omega)
        · obtain rfl : k = 0 := by omega
          go_wp2
          go_ret
          exact newM_end HB0.out HV.out (show Mach _ w.heap.size (agH us hs hs.length) (fun _ => 0) by rw [HNH.out]; rw [HNH.out] at HM; exact HM.out)
set_option maxRecDepth 100000 in
set_option maxHeartbeats 2000000 in
theorem new_rr (us hs : List Int) (w : World) (bu : ∀ x ∈ us, 0 ≤ x ∧ x < 256) (bh : ∀ x ∈ hs, 0 ≤ x ∧ x < 256) (gu ou N cu : Nat) (hN : N = us.length) (nb : N ≤ 1000000) (lu : gu < w.heap.size) (hcu : ∀ i, i < us.length → w.cell? ⟨gu, ou + i, none⟩ = some (.int .u8 (us.getD i 0))) (gh oh L ch : Nat) (hL : L = hs.length) (lb : L ≤ 1000000) (lh : gh < w.heap.size) (hch : ∀ i, i < hs.length → w.cell? ⟨gh, oh + i, none⟩ = some (.int .u8 (hs.getD i 0))) : Calls Try.prog 13 #[.slice (some ⟨gu, ou, none⟩) N cu, .slice (some ⟨gh, oh, none⟩) L ch] w (NewM us hs w) := by
  have hz := zero_machine
  have HM0 := hid (show Mach _ w.heap.size (agU us 0) (fun _ => 0) from Mach.new w)
  have HB0 := hid (bal (Below.refl w.heap.size w) (.cells zeroM 109))
  have HCU := hid (fun i (h : i < N) => keepc HB0.out (hcu i (by omega)))
  have HBU := hid (fun i (h : i < N) => byte_at bu i (by omega))
  have HNU := hid hN
  clear hcu hN
  have HCH := hid (fun i (h : i < L) => keepc HB0.out (hch i (by omega)))
  have HBH := hid (fun i (h : i < L) => byte_at bh i (by omega))
  have HNH := hid hL
  clear hch hL
  have HFU := hid bu
  have HFH := hid bh
  clear bu bh
  go_enter Try.func13, Try.ntmps13
  go_wp2
  go_loopw [14] (fun i W => ∃ k : Nat, k ≤ N ∧ i = .int .i64 k ∧ Hid (Mach W w.heap.size (agU us k) (fun _ => 0)) ∧ Hid (Moved (w.alloc (.cells zeroM 109)) W [w.heap.size] [w.heap.size])) (fun i _ => N - (intOf i).toNat)
  case atStart => exact ⟨0, Nat.zero_le _, rfl, HM0.out, Moved.refl _ _⟩
  case round =>
    obtain ⟨k, hk, rfl, HM, HV⟩ := hrel
    by_cases hlt : k < N
    · have c0 := cell_moved HV.out (HCU.out k hlt) (fun h => by have h' : gu = w.heap.size := List.mem_singleton.1 h; omega)
      obtain ⟨x, hx1, hx2, hx3⟩ := HBU.out k hlt
      rw [hx2] at c0
      have d0 := HM.out.ca (x) (by omega)
      have f0 := HM.out.fr (x) (by omega)
      have HMA := hid (HM.out.agree (x) (by omega))
      have HE := hid (agU_step us hx3)
      have hki : (k : Int) < N := by omega
      have hxi : (x : Int) < 256 := by omega
      have hx0 : (0 : Int) ≤ x := by omega
      clear hx2 hx3
      go_wp2
      go_roundw
      case rel => exact ⟨k + 1, by omega, by go_num, by rw [HE.out]; exact HMA.out, HV.out.trans (Moved.set (by simp) _ _)⟩
      case measure => simp [intOf]; omega
    · obtain rfl : k = N := by omega
      have HMU := hid (show Mach _ w.heap.size (agU us us.length) (fun _ => 0) by rw [← HNU.out]; exact HM.out)
      clear HM
      go_wp2
      go_loopw [27] (fun i W => ∃ k : Nat, k ≤ L ∧ i = .int .i64 k ∧ Hid (Mach W w.heap.size (agH us hs k) (fun _ => 0)) ∧ Hid (Moved (w.alloc (.cells zeroM 109)) W [w.heap.size] [w.heap.size])) (fun i _ => L - (intOf i).toNat)
      case atStart => exact ⟨0, Nat.zero_le _, rfl, by rw [agH_zero us hs]; exact HMU.out, HV.out⟩
      case round =>
        obtain ⟨k, hk, rfl, HM, HV⟩ := hrel
        by_cases hlt : k < L
        · have c0 := cell_moved HV.out (HCH.out k hlt) (fun h => by have h' : gh = w.heap.size := List.mem_singleton.1 h; omega)
          obtain ⟨x, hx1, hx2, hx3⟩ := HBH.out k hlt
          rw [hx2] at c0
          have d0 := HM.out.ca (256 + x) (by omega)
          have f0 := HM.out.fr (256 + x) (by omega)
          have HMA := hid (HM.out.agree (256 + x) (by omega))
          have HE := hid (agH_step us hs hx3)
          have hki : (k : Int) < L := by omega
          have hxi : (x : Int) < 256 := by omega
          have hx0 : (0 : Int) ≤ x := by omega
          clear hx2 hx3
          go_wp2
          go_roundw
          case rel => exact ⟨k + 1, by omega, by go_num, by rw [HE.out]; exact HMA.out, HV.out.trans (Moved.set (by simp) _ _)⟩
          case measure => simp [intOf]; omega
        · obtain rfl : k = L := by omega
          go_wp2
          go_ret
          exact newM_end HB0.out HV.out (show Mach _ w.heap.size (agH us hs hs.length) (fun _ => 0) by rw [← HNH.out]; exact HM.out)
/-- Of bytes: none, or a row. -/
theorem reads_cases {w : World} {v : Value} {xs : List Int} (h : Reads w v xs) : (∃ x c, v = .slice x 0 c ∧ xs = []) ∨ ∃ g o n c, v = .slice (some ⟨g, o, none⟩) n c ∧ n = xs.length ∧ g < w.heap.size ∧ ∀ i, i < xs.length → w.cell? ⟨g, o + i, none⟩ = some (.int .u8 (xs.getD i 0)) := by
  obtain ⟨hb, ⟨rfl, rfl⟩ | ⟨a, cap, rfl, h1, h2, h3⟩⟩ := h
  · exact .inl ⟨_, _, rfl, rfl⟩
  · by_cases hx : xs = []
    · subst hx
      exact .inl ⟨_, _, rfl, rfl⟩
    · have hp : 0 < xs.length := List.length_pos_iff.2 hx
      have c0 := h3 0 hp
      obtain ⟨g, off, spot⟩ := a
      obtain rfl : spot = none := by simpa [Addr.add] using World.cell?_spot c0
      refine .inr ⟨g, off, _, cap, rfl, rfl, ?_, fun i hi => ?_⟩
      · have := World.block_lt_of_cell? w _ c0
        rw [addr_add] at this
        exact this
      · have := h3 i hi
        rw [addr_add] at this
        exact this
theorem new_any (u v : Value) (us hs : List Int) (w : World) (hu : Reads w u us) (hv : Reads w v hs) (lu : us.length ≤ 1000000) (lv : hs.length ≤ 1000000) : Calls Try.prog 13 #[u, v] w (NewM us hs w) := by
  rcases reads_cases hu with ⟨x, c, rfl, hx⟩ | ⟨g, o, n, c, rfl, hn, hg, hc⟩
  · rcases reads_cases hv with ⟨y, d, rfl, hy⟩ | ⟨g', o', n', c', rfl, hn', hg', hc'⟩
    · exact new_ee us hs w hu.1 hv.1 x c hx y d hy
    · exact new_er us hs w hu.1 hv.1 x c hx g' o' n' c' hn' (by omega) hg' hc'
  · rcases reads_cases hv with ⟨y, d, rfl, hy⟩ | ⟨g', o', n', c', rfl, hn', hg', hc'⟩
    · exact new_re us hs w hu.1 hv.1 g o n c hn (by omega) hg hc y d hy
    · exact new_rr us hs w hu.1 hv.1 g o n c hn (by omega) hg hc g' o' n' c' hn' (by omega) hg' hc'
end Go.Proofs.Ytdpfjbpfafekfaa
