/-
  option: the reference's new machine.
-/
import Derived.Test.YtaanpnmgibcemaaGreatDoorOb
namespace Go.Proofs.YtaanpnmgibcemaaGreatDoor.Op
/-! XOs -/
section
open Go.RowKit Go.Lib
/-- The document's machine: its states, and what it agrees to. -/
structure RMach (w : World) (g : Nat) (ag : Nat → Bool) (st : Nat → Int) : Prop where
  cs : ∀ i, i < 512 → w.cell? ⟨g, i, none⟩ = some (.int .i64 (st i))
  ca : ∀ i, i < 512 → w.cell? ⟨g, 512 + i, none⟩ = some (.bool (ag i))
  fr : ∀ i, i < 1024 → w.frozen? ⟨g, i, none⟩ = false
  ok : ∀ i, 0 ≤ st i ∧ st i ≤ 5
theorem RMach.lt {w : World} {g : Nat} {ag : Nat → Bool} {st : Nat → Int} (h : RMach w g ag st) : g < w.heap.size := World.block_lt_of_cell? w _ (h.cs 0 (by omega))
theorem RMach.moved {w w' : World} {g : Nat} {ag : Nat → Bool} {st : Nat → Int} {S S' : List Nat} (h : RMach w g ag st) (m : Moved w w' S S') (hs : g ∉ S) : RMach w' g ag st :=
  ⟨fun i hi => cell_moved m (h.cs i hi) hs, fun i hi => cell_moved m (h.ca i hi) hs, fun i hi => by
    rw [← h.fr i hi]
    unfold World.frozen?
    rw [m.block g h.lt hs], h.ok⟩
theorem RMach.step {w w' : World} {g : Nat} {ag : Nat → Bool} {st : Nat → Int} (h : RMach w g ag st) (hb : Below w.heap.size w w') : RMach w' g ag st := h.moved (Moved.below hb []) (fun q => by cases q)
theorem RMach.set {w : World} {g : Nat} {ag : Nat → Bool} {st : Nat → Int} (h : RMach w g ag st) (i : Nat) (hi : i < 512) (s : Int) (hs : 0 ≤ s ∧ s ≤ 5) : RMach (w.setCell ⟨g, i, none⟩ (.int .i64 s)) g ag (upd st i s) := by
  refine ⟨fun j hj => ?_, fun j hj => ?_, fun j hj => by simp [h.fr j hj], fun j => ?_⟩
  · by_cases e : j = i
    · subst e
      rw [upd_same]
      exact World.cell?_setCell_same _ _ _ (h.cs j hj)
    · rw [upd_other st s e, World.cell?_setCell_other _ _ _ _ (fun q => by injection q; omega)]
      exact h.cs j hj
  · rw [World.cell?_setCell_other _ _ _ _ (fun q => by injection q; omega)]
    exact h.ca j hj
  · unfold upd
    split
    · exact hs
    · exact h.ok j
def zeroR : Array Value := (List.replicate 512 (Value.int .i64 0) ++ List.replicate 512 (Value.bool false)).toArray
theorem zero_rmachine : ∀ w, (zeroValue 156).run Tryz.prog w = .ok (.agg zeroR) w := (zero_of_info (n := 1024) (by kernel_rfl)).1
theorem zeroR_at (i : Nat) : (i < 512 → zeroR[i]? = some (.int .i64 0)) ∧ (i < 512 → zeroR[512 + i]? = some (.bool false)) := by
  unfold zeroR
  refine ⟨fun h => ?_, fun h => ?_⟩
  · rw [List.getElem?_toArray, List.getElem?_append_left (by rw [List.length_replicate]; exact h), List.getElem?_replicate, if_pos h]
  · rw [List.getElem?_toArray, List.getElem?_append_right (by rw [List.length_replicate]; omega), List.getElem?_replicate, List.length_replicate, if_pos (by omega)]
theorem RMach.new (w : World) : RMach (w.alloc (.cells zeroR 156)) w.heap.size (fun _ => false) (fun _ => 0) :=
  ⟨fun i hi => by rw [World.cell?_alloc_new]; exact (zeroR_at i).1 hi, fun i hi => by rw [World.cell?_alloc_new]; exact (zeroR_at i).2 hi, fun i hi => by simp [go_sem], fun _ => by simp⟩
theorem RMach.agree {w : World} {g : Nat} {ag : Nat → Bool} {st : Nat → Int} (h : RMach w g ag st) (i : Nat) (hi : i < 512) : RMach (w.setCell ⟨g, 512 + i, none⟩ (.bool true)) g (fun j => ag j || j == i) st := by
  refine ⟨fun j hj => ?_, fun j hj => ?_, fun j hj => by simp [h.fr j hj], h.ok⟩
  · rw [World.cell?_setCell_other _ _ _ _ (fun q => by injection q; omega)]
    exact h.cs j hj
  · by_cases e : j = i
    · subst e
      rw [show (ag j || j == j) = true by simp]
      exact World.cell?_setCell_same _ _ _ (h.ca j hj)
    · rw [show (ag j || j == i) = ag j by simp [e], World.cell?_setCell_other _ _ _ _ (fun q => by injection q; omega)]
      exact h.ca j hj
/-- The document's new machine is there. -/
def RNewM (us hs : List Int) (w : World) (e : Ending) (w' : World) : Prop := e = .returned (.pointer (some ⟨w.heap.size, 0, none⟩)) ∧ RMach w' w.heap.size (agN us hs) (fun _ => 0) ∧ Below w.heap.size w w'
theorem rnewM_end {us hs : List Int} {w w1 w2 : World} (hb : Below w.heap.size w w1) (hv : Moved w1 w2 [w.heap.size] [w.heap.size]) (hm : RMach w2 w.heap.size (agH us hs hs.length) (fun _ => 0)) : RNewM us hs w (.returned (.pointer (some ⟨w.heap.size, 0, none⟩))) w2 :=
  ⟨rfl, hm, hb.trans (hv.toBelow hb.size (fun k h => by rw [List.mem_singleton.1 h]; exact Nat.le_refl _))⟩
set_option maxRecDepth 100000 in
set_option maxHeartbeats 2000000 in
theorem rnew_ee (us hs : List Int) (w : World) (bu : ∀ x ∈ us, 0 ≤ x ∧ x < 256) (bh : ∀ x ∈ hs, 0 ≤ x ∧ x < 256) (xu : Option Addr) (cu : Nat) (hN : us = []) (xh : Option Addr) (ch : Nat) (hL : hs = []) : Calls Tryz.prog 61 #[.slice xu 0 cu, .slice xh 0 ch] w (RNewM us hs w) := by
  have hz := zero_rmachine
  have HM0 := hid (show RMach _ w.heap.size (agU us 0) (fun _ => 0) from RMach.new w)
  have HB0 := hid (bal (Below.refl w.heap.size w) (.cells zeroR 156))
  have HNU := hid hN
  clear hN
  have HNH := hid hL
  clear hL
  have HFU := hid bu
  have HFH := hid bh
  clear bu bh
  go_enter Tryz.func61, Tryz.ntmps61
  go_wp2
  go_loopw [14] (fun i W => ∃ k : Nat, k ≤ 0 ∧ i = .int .i64 k ∧ Hid (RMach W w.heap.size (agU us k) (fun _ => 0)) ∧ Hid (Moved (w.alloc (.cells zeroR 156)) W [w.heap.size] [w.heap.size])) (fun i _ => 0 - (intOf i).toNat)
  case atStart => exact ⟨0, Nat.zero_le _, rfl, HM0.out, Moved.refl _ _⟩
  case round =>
    obtain ⟨k, hk, rfl, HM, HV⟩ := hrel
    by_cases hlt : k < 0
    · exact absurd hlt (by omega)
    · obtain rfl : k = 0 := by omega
      have HMU := hid (show RMach _ w.heap.size (agU us us.length) (fun _ => 0) by rw [HNU.out]; rw [HNU.out] at HM; exact HM.out)
      clear HM
      go_wp2
      go_loopw [27] (fun i W => ∃ k : Nat, k ≤ 0 ∧ i = .int .i64 k ∧ Hid (RMach W w.heap.size (agH us hs k) (fun _ => 0)) ∧ Hid (Moved (w.alloc (.cells zeroR 156)) W [w.heap.size] [w.heap.size])) (fun i _ => 0 - (intOf i).toNat)
      case atStart => exact ⟨0, Nat.zero_le _, rfl, by rw [agH_zero us hs]; exact HMU.out, HV.out⟩
      case round =>
        obtain ⟨k, hk, rfl, HM, HV⟩ := hrel
        by_cases hlt : k < 0
        · exact absurd hlt (by omega)
        · obtain rfl : k = 0 := by omega
          go_wp2
          go_ret
          exact rnewM_end HB0.out HV.out (show RMach _ w.heap.size (agH us hs hs.length) (fun _ => 0) by rw [HNH.out]; rw [HNH.out] at HM; exact HM.out)
set_option maxRecDepth 100000 in
set_option maxHeartbeats 2000000 in
theorem rnew_er (us hs : List Int) (w : World) (bu : ∀ x ∈ us, 0 ≤ x ∧ x < 256) (bh : ∀ x ∈ hs, 0 ≤ x ∧ x < 256) (xu : Option Addr) (cu : Nat) (hN : us = []) (gh oh L ch : Nat) (hL : L = hs.length) (lb : L ≤ 1000000) (lh : gh < w.heap.size) (hch : ∀ i, i < hs.length → w.cell? ⟨gh, oh + i, none⟩ = some (.int .u8 (hs.getD i 0))) : Calls Tryz.prog 61 #[.slice xu 0 cu, .slice (some ⟨gh, oh, none⟩) L ch] w (RNewM us hs w) := by
  have hz := zero_rmachine
  have HM0 := hid (show RMach _ w.heap.size (agU us 0) (fun _ => 0) from RMach.new w)
  have HB0 := hid (bal (Below.refl w.heap.size w) (.cells zeroR 156))
  have HNU := hid hN
  clear hN
  have HCH := hid (fun i (h : i < L) => keepc HB0.out (hch i (by omega)))
  have HBH := hid (fun i (h : i < L) => byte_at bh i (by omega))
  have HNH := hid hL
  clear hch hL
  have HFU := hid bu
  have HFH := hid bh
  clear bu bh
  go_enter Tryz.func61, Tryz.ntmps61
  go_wp2
  go_loopw [14] (fun i W => ∃ k : Nat, k ≤ 0 ∧ i = .int .i64 k ∧ Hid (RMach W w.heap.size (agU us k) (fun _ => 0)) ∧ Hid (Moved (w.alloc (.cells zeroR 156)) W [w.heap.size] [w.heap.size])) (fun i _ => 0 - (intOf i).toNat)
  case atStart => exact ⟨0, Nat.zero_le _, rfl, HM0.out, Moved.refl _ _⟩
  case round =>
    obtain ⟨k, hk, rfl, HM, HV⟩ := hrel
    by_cases hlt : k < 0
    · exact absurd hlt (by omega)
    · obtain rfl : k = 0 := by omega
      have HMU := hid (show RMach _ w.heap.size (agU us us.length) (fun _ => 0) by rw [HNU.out]; rw [HNU.out] at HM; exact HM.out)
      clear HM
      go_wp2
      go_loopw [27] (fun i W => ∃ k : Nat, k ≤ L ∧ i = .int .i64 k ∧ Hid (RMach W w.heap.size (agH us hs k) (fun _ => 0)) ∧ Hid (Moved (w.alloc (.cells zeroR 156)) W [w.heap.size] [w.heap.size])) (fun i _ => L - (intOf i).toNat)
      case atStart => exact ⟨0, Nat.zero_le _, rfl, by rw [agH_zero us hs]; exact HMU.out, HV.out⟩
      case round =>
        obtain ⟨k, hk, rfl, HM, HV⟩ := hrel
        by_cases hlt : k < L
        · have c0 := cell_moved HV.out (HCH.out k hlt) (fun h => by have h' : gh = w.heap.size := List.mem_singleton.1 h; omega)
          obtain ⟨x, hx1, hx2, hx3⟩ := HBH.out k hlt
          rw [hx2] at c0
          have d0 := HM.out.ca (256 + x) (by omega)
          have f0 := HM.out.fr (512 + (256 + x)) (by omega)
          have HMA := hid (HM.out.agree (256 + x) (by omega))
          rw [show 512 + (256 + x) = 768 + x by omega] at d0 f0 HMA
          have HE := hid (agH_step us hs hx3)
          have hki : (k : Int) < L := by omega
          have hxi : (x : Int) < 256 := by omega
          have hx0 : (0 : Int) ≤ x := by omega
          clear hx2 hx3
          go_wp2
          go_roundw
          case rel => exact ⟨k + 1, by omega, by go_num, by rw [HE.out]; exact HMA.out, HV.out.trans (Moved.set (by simp) _ _)⟩
          case measure => simp [intOf]; omega
        · obtain rfl : k = L := by omega
          go_wp2
          go_ret
          exact rnewM_end HB0.out HV.out (show RMach _ w.heap.size (agH us hs hs.length) (fun _ => 0) by rw [← HNH.out]; exact HM.out)
set_option maxRecDepth 100000 in
set_option maxHeartbeats 2000000 in
theorem rnew_re (us hs : List Int) (w : World) (bu : ∀ x ∈ us, 0 ≤ x ∧ x < 256) (bh : ∀ x ∈ hs, 0 ≤ x ∧ x < 256) (gu ou N cu : Nat) (hN : N = us.length) (nb : N ≤ 1000000) (lu : gu < w.heap.size) (hcu : ∀ i, i < us.length → w.cell? ⟨gu, ou + i, none⟩ = some (.int .u8 (us.getD i 0))) (xh : Option Addr) (ch : Nat) (hL : hs = []) : Calls Tryz.prog 61 #[.slice (some ⟨gu, ou, none⟩) N cu, .slice xh 0 ch] w (RNewM us hs w) := by
  have hz := zero_rmachine
  have HM0 := hid (show RMach _ w.heap.size (agU us 0) (fun _ => 0) from RMach.new w)
  have HB0 := hid (bal (Below.refl w.heap.size w) (.cells zeroR 156))
  have HCU := hid (fun i (h : i < N) => keepc HB0.out (hcu i (by omega)))
  have HBU := hid (fun i (h : i < N) => byte_at bu i (by omega))
  have HNU := hid hN
  clear hcu hN
  have HNH := hid hL
  clear hL
  have HFU := hid bu
  have HFH := hid bh
  clear bu bh
  go_enter Tryz.func61, Tryz.ntmps61
  go_wp2
  go_loopw [14] (fun i W => ∃ k : Nat, k ≤ N ∧ i = .int .i64 k ∧ Hid (RMach W w.heap.size (agU us k) (fun _ => 0)) ∧ Hid (Moved (w.alloc (.cells zeroR 156)) W [w.heap.size] [w.heap.size])) (fun i _ => N - (intOf i).toNat)
  case atStart => exact ⟨0, Nat.zero_le _, rfl, HM0.out, Moved.refl _ _⟩
  case round =>
    obtain ⟨k, hk, rfl, HM, HV⟩ := hrel
    by_cases hlt : k < N
    · have c0 := cell_moved HV.out (HCU.out k hlt) (fun h => by have h' : gu = w.heap.size := List.mem_singleton.1 h; omega)
      obtain ⟨x, hx1, hx2, hx3⟩ := HBU.out k hlt
      rw [hx2] at c0
      have d0 := HM.out.ca x (by omega)
      have f0 := HM.out.fr (512 + x) (by omega)
      have HMA := hid (HM.out.agree (x) (by omega))
      have HE := hid (agU_step us hx3)
      have hki : (k : Int) < N := by omega
      have hxi : (x : Int) < 256 := by omega
      have hx0 : (0 : Int) ≤ x := by omega
      clear hx2 hx3
      go_wp2
      go_roundw
      case rel => exact ⟨k + 1, by omega, by go_num, by rw [HE.out]; exact HMA.out, HV.out.trans (Moved.set (by simp) _ _)⟩
      case measure => simp [intOf]; omega
    · obtain rfl : k = N := by omega
      have HMU := hid (show RMach _ w.heap.size (agU us us.length) (fun _ => 0) by rw [← HNU.out]; exact HM.out)
      clear HM
      go_wp2
      go_loopw [27] (fun i W => ∃ k : Nat, k ≤ 0 ∧ i = .int .i64 k ∧ Hid (RMach W w.heap.size (agH us hs k) (fun _ => 0)) ∧ Hid (Moved (w.alloc (.cells zeroR 156)) W [w.heap.size] [w.heap.size])) (fun i _ => 0 - (intOf i).toNat)
      case atStart => exact ⟨0, Nat.zero_le _, rfl, by rw [agH_zero us hs]; exact HMU.out, HV.out⟩
      case round =>
        obtain ⟨k, hk, rfl, HM, HV⟩ := hrel
        by_cases hlt : k < 0
        · exact absurd hlt (by omega)
        · obtain rfl : k = 0 := by omega
          go_wp2
          go_ret
          exact rnewM_end HB0.out HV.out (show RMach _ w.heap.size (agH us hs hs.length) (fun _ => 0) by rw [HNH.out]; rw [HNH.out] at HM; exact HM.out)
set_option maxRecDepth 100000 in
set_option maxHeartbeats 2000000 in
theorem rnew_rr (us hs : List Int) (w : World) (bu : ∀ x ∈ us, 0 ≤ x ∧ x < 256) (bh : ∀ x ∈ hs, 0 ≤ x ∧ x < 256) (gu ou N cu : Nat) (hN : N = us.length) (nb : N ≤ 1000000) (lu : gu < w.heap.size) (hcu : ∀ i, i < us.length → w.cell? ⟨gu, ou + i, none⟩ = some (.int .u8 (us.getD i 0))) (gh oh L ch : Nat) (hL : L = hs.length) (lb : L ≤ 1000000) (lh : gh < w.heap.size) (hch : ∀ i, i < hs.length → w.cell? ⟨gh, oh + i, none⟩ = some (.int .u8 (hs.getD i 0))) : Calls Tryz.prog 61 #[.slice (some ⟨gu, ou, none⟩) N cu, .slice (some ⟨gh, oh, none⟩) L ch] w (RNewM us hs w) := by
  have hz := zero_rmachine
  have HM0 := hid (show RMach _ w.heap.size (agU us 0) (fun _ => 0) from RMach.new w)
  have HB0 := hid (bal (Below.refl w.heap.size w) (.cells zeroR 156))
  have HCU := hid (fun i (h : i < N) => keepc HB0.out (hcu i (by omega)))
  have HBU := hid (fun i (h : i < N) => byte_at bu i (by omega))
  have HNU := hid hN
  clear hcu hN
  have HCH := hid (fun i (h : i < L) => keepc HB0.out (hch i (by omega)))
  have HBH := hid (fun i (h : i < L) => byte_at bh i (by omega))
  have HNH := hid hL
  clear hch hL
  have HFU := hid bu
  have HFH := hid bh
  clear bu bh
  go_enter Tryz.func61, Tryz.ntmps61
  go_wp2
  go_loopw [14] (fun i W => ∃ k : Nat, k ≤ N ∧ i = .int .i64 k ∧ Hid (RMach W w.heap.size (agU us k) (fun _ => 0)) ∧ Hid (Moved (w.alloc (.cells zeroR 156)) W [w.heap.size] [w.heap.size])) (fun i _ => N - (intOf i).toNat)
  case atStart => exact ⟨0, Nat.zero_le _, rfl, HM0.out, Moved.refl _ _⟩
  case round =>
    obtain ⟨k, hk, rfl, HM, HV⟩ := hrel
    by_cases hlt : k < N
    · have c0 := cell_moved HV.out (HCU.out k hlt) (fun h => by have h' : gu = w.heap.size := List.mem_singleton.1 h; omega)
      obtain ⟨x, hx1, hx2, hx3⟩ := HBU.out k hlt
      rw [hx2] at c0
      have d0 := HM.out.ca x (by omega)
      have f0 := HM.out.fr (512 + x) (by omega)
      have HMA := hid (HM.out.agree (x) (by omega))
      have HE := hid (agU_step us hx3)
      have hki : (k : Int) < N := by omega
      have hxi : (x : Int) < 256 := by omega
      have hx0 : (0 : Int) ≤ x := by omega
      clear hx2 hx3
      go_wp2
      go_roundw
      case rel => exact ⟨k + 1, by omega, by go_num, by rw [HE.out]; exact HMA.out, HV.out.trans (Moved.set (by simp) _ _)⟩
      case measure => simp [intOf]; omega
    · obtain rfl : k = N := by omega
      have HMU := hid (show RMach _ w.heap.size (agU us us.length) (fun _ => 0) by rw [← HNU.out]; exact HM.out)
      clear HM
      go_wp2
      go_loopw [27] (fun i W => ∃ k : Nat, k ≤ L ∧ i = .int .i64 k ∧ Hid (RMach W w.heap.size (agH us hs k) (fun _ => 0)) ∧ Hid (Moved (w.alloc (.cells zeroR 156)) W [w.heap.size] [w.heap.size])) (fun i _ => L - (intOf i).toNat)
      case atStart => exact ⟨0, Nat.zero_le _, rfl, by rw [agH_zero us hs]; exact HMU.out, HV.out⟩
      case round =>
        obtain ⟨k, hk, rfl, HM, HV⟩ := hrel
        by_cases hlt : k < L
        · have c0 := cell_moved HV.out (HCH.out k hlt) (fun h => by have h' : gh = w.heap.size := List.mem_singleton.1 h; omega)
          obtain ⟨x, hx1, hx2, hx3⟩ := HBH.out k hlt
          rw [hx2] at c0
          have d0 := HM.out.ca (256 + x) (by omega)
          have f0 := HM.out.fr (512 + (256 + x)) (by omega)
          have HMA := hid (HM.out.agree (256 + x) (by omega))
          rw [show 512 + (256 + x) = 768 + x by omega] at d0 f0 HMA
          have HE := hid (agH_step us hs hx3)
          have hki : (k : Int) < L := by omega
          have hxi : (x : Int) < 256 := by omega
          have hx0 : (0 : Int) ≤ x := by omega
          clear hx2 hx3
          go_wp2
          go_roundw
          case rel => exact ⟨k + 1, by omega, by go_num, by rw [HE.out]; exact HMA.out, HV.out.trans (Moved.set (by simp) _ _)⟩
          case measure => simp [intOf]; omega
        · obtain rfl : k = L := by omega
          go_wp2
          go_ret
          exact rnewM_end HB0.out HV.out (show RMach _ w.heap.size (agH us hs hs.length) (fun _ => 0) by rw [← HNH.out]; exact HM.out)
theorem rnew_any (u v : Value) (us hs : List Int) (w : World) (hu : Reads w u us) (hv : Reads w v hs) (lu : us.length ≤ 1000000) (lv : hs.length ≤ 1000000) : Calls Tryz.prog 61 #[u, v] w (RNewM us hs w) := by
  rcases reads_cases hu with ⟨x, c, rfl, hx⟩ | ⟨g, o, n, c, rfl, hn, hg, hc⟩
  · rcases reads_cases hv with ⟨y, d, rfl, hy⟩ | ⟨g', o', n', c', rfl, hn', hg', hc'⟩
    · exact rnew_ee us hs w hu.1 hv.1 x c hx y d hy
    · exact rnew_er us hs w hu.1 hv.1 x c hx g' o' n' c' hn' (by omega) hg' hc'
  · rcases reads_cases hv with ⟨y, d, rfl, hy⟩ | ⟨g', o', n', c', rfl, hn', hg', hc'⟩
    · exact rnew_re us hs w hu.1 hv.1 g o n c hn (by omega) hg hc y d hy
    · exact rnew_rr us hs w hu.1 hv.1 g o n c hn (by omega) hg hc g' o' n' c' hn' (by omega) hg' hc'
end
end Go.Proofs.YtaanpnmgibcemaaGreatDoor.Op
