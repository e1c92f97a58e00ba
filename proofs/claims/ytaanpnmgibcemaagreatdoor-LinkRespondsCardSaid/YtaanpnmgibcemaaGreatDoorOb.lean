/-
  option: hearing, a new machine.
-/
import Derived.Test.YtaanpnmgibcemaaGreatDoorOa
import Derived.Laws.Tables
import Derived.Deep.WholeRow
namespace Go.Proofs.YtaanpnmgibcemaaGreatDoor.Op
/-! XOe -/
section
open Go.RowKit Go.Lib
set_option maxRecDepth 100000 in
set_option maxHeartbeats 2000000 in
theorem hear_251 (g : Nat) (ag : Nat → Bool) (st : Nat → Int) (o : Nat) (ho : o < 256) (w : World) (hM : Mach w g ag st) : Calls Tryz.prog 97 #[.pointer (some ⟨g, 0, none⟩), .int .u8 251, .int .u8 o] w (TookE g ag st 1 o (hOn (st (256 + o)) (ag (256 + o))).1 (hOn (st (256 + o)) (ag (256 + o))).2 0 w) := by
  have H := hid (hearOn_1 g ag st o ho w hM)
  clear hM
  go_enter Tryz.func97, Tryz.ntmps97
  go_wp2_with fail
  with_reducible refine H.out.mono ?_
  rintro e w1 ⟨v, rfl, h⟩
  have H1 := hid h
  clear h
  go_wp2
  go_ret2
  exact ⟨_, rfl, _, rfl, H1.out⟩
set_option maxRecDepth 100000 in
set_option maxHeartbeats 2000000 in
theorem hear_252 (g : Nat) (ag : Nat → Bool) (st : Nat → Int) (o : Nat) (ho : o < 256) (w : World) (hM : Mach w g ag st) : Calls Tryz.prog 97 #[.pointer (some ⟨g, 0, none⟩), .int .u8 252, .int .u8 o] w (TookE g ag st 1 o (hOff (st (256 + o))).1 (hOff (st (256 + o))).2 0 w) := by
  have H := hid (hearOff_1 g ag st o ho w hM)
  clear hM
  go_enter Tryz.func97, Tryz.ntmps97
  go_wp2_with fail
  with_reducible refine H.out.mono ?_
  rintro e w1 ⟨v, rfl, h⟩
  have H1 := hid h
  clear h
  go_wp2
  go_ret2
  exact ⟨_, rfl, _, rfl, H1.out⟩
set_option maxRecDepth 100000 in
set_option maxHeartbeats 2000000 in
theorem hear_253 (g : Nat) (ag : Nat → Bool) (st : Nat → Int) (o : Nat) (ho : o < 256) (w : World) (hM : Mach w g ag st) : Calls Tryz.prog 97 #[.pointer (some ⟨g, 0, none⟩), .int .u8 253, .int .u8 o] w (TookE g ag st 0 o (hOn (st o) (ag o)).1 (hOn (st o) (ag o)).2 0 w) := by
  have H := hid (hearOn_0 g ag st o ho w hM)
  clear hM
  go_enter Tryz.func97, Tryz.ntmps97
  go_wp2_with fail
  with_reducible refine H.out.mono ?_
  rintro e w1 ⟨v, rfl, h⟩
  have H1 := hid h
  clear h
  go_wp2
  go_ret2
  exact ⟨_, rfl, _, rfl, H1.out⟩
set_option maxRecDepth 100000 in
set_option maxHeartbeats 2000000 in
theorem hear_254 (g : Nat) (ag : Nat → Bool) (st : Nat → Int) (o : Nat) (ho : o < 256) (w : World) (hM : Mach w g ag st) : Calls Tryz.prog 97 #[.pointer (some ⟨g, 0, none⟩), .int .u8 254, .int .u8 o] w (TookE g ag st 0 o (hOff (st o)).1 (hOff (st o)).2 0 w) := by
  have H := hid (hearOff_0 g ag st o ho w hM)
  clear hM
  go_enter Tryz.func97, Tryz.ntmps97
  go_wp2_with fail
  with_reducible refine H.out.mono ?_
  rintro e w1 ⟨v, rfl, h⟩
  have H1 := hid h
  clear h
  go_wp2
  go_ret2
  exact ⟨_, rfl, _, rfl, H1.out⟩
/-- The place of a side's option. -/
def idx (side : Int) (o : Nat) : Nat := (side * 256 + o).toNat
theorem idx_0 (o : Nat) : idx 0 o = o := by unfold idx; omega
theorem idx_1 (o : Nat) : idx 1 o = 256 + o := by unfold idx; omega
theorem idx_lt {side : Int} (hs : side = 0 ∨ side = 1) {o : Nat} (ho : o < 256) : idx side o < 512 := by rcases hs with rfl | rfl <;> unfold idx <;> omega
/-- Of whose side a verb speaks, and what follows of it. -/
def sideOf (v : Nat) : Int := if v = 251 ∨ v = 252 then 1 else 0
def hearN (v : Nat) (s : Int) (ag : Bool) : Int × Int := if v = 251 ∨ v = 253 then hOn s ag else hOff s
theorem sideOf_or (v : Nat) : sideOf v = 0 ∨ sideOf v = 1 := by unfold sideOf; split <;> simp
def isVerb (v : Nat) : Prop := v = 251 ∨ v = 252 ∨ v = 253 ∨ v = 254
theorem hear_any (g : Nat) (ag : Nat → Bool) (st : Nat → Int) (v o : Nat) (hv : isVerb v) (ho : o < 256) (w : World) (hM : Mach w g ag st) : Calls Tryz.prog 97 #[.pointer (some ⟨g, 0, none⟩), .int .u8 v, .int .u8 o] w (TookE g ag st (sideOf v) o (hearN v (st (idx (sideOf v) o)) (ag (idx (sideOf v) o))).1 (hearN v (st (idx (sideOf v) o)) (ag (idx (sideOf v) o))).2 0 w) := by
  rcases hv with rfl | rfl | rfl | rfl
  · rw [show sideOf 251 = 1 from rfl, idx_1]
    exact hear_251 g ag st o ho w hM
  · rw [show sideOf 252 = 1 from rfl, idx_1]
    exact hear_252 g ag st o ho w hM
  · rw [show sideOf 253 = 0 from rfl, idx_0]
    exact hear_253 g ag st o ho w hM
  · rw [show sideOf 254 = 0 from rfl, idx_0]
    exact hear_254 g ag st o ho w hM
set_option maxRecDepth 100000 in
set_option maxHeartbeats 2000000 in
theorem hear_no (g : Nat) (v o : Nat) (hv : ¬ isVerb v) (w : World) : Calls Tryz.prog 97 #[.pointer (some ⟨g, 0, none⟩), .int .u8 v, .int .u8 o] w fun e w' => e = .returned (.tuple #[.slice none 0 0, .int .i64 1]) ∧ w = w' := by
  have h1 : ((v : Int) == 251) = false := by simpa using fun h => hv (.inl (by omega))
  have h2 : ((v : Int) == 252) = false := by simpa using fun h => hv (.inr (.inl (by omega)))
  have h3 : ((v : Int) == 253) = false := by simpa using fun h => hv (.inr (.inr (.inl (by omega))))
  have h4 : ((v : Int) == 254) = false := by simpa using fun h => hv (.inr (.inr (.inr (by omega))))
  clear hv
  go_enter Tryz.func97, Tryz.ntmps97
  go_wp2
  go_ret2
  exact ⟨rfl, rfl⟩
theorem state_any (g : Nat) (ag : Nat → Bool) (st : Nat → Int) (side : Int) (hs : side = 0 ∨ side = 1) (o : Nat) (ho : o < 256) (w : World) (hM : Mach w g ag st) : Calls Tryz.prog 62 #[.pointer (some ⟨g, 0, none⟩), .int .i64 side, .int .u8 o] w fun e w' => e = .returned (.int .i64 (st (idx side o))) ∧ w = w' := by
  rcases hs with rfl | rfl
  · rw [idx_0]; exact state_0 g ag st o ho w hM
  · rw [idx_1]; exact state_1 g ag st o ho w hM
set_option maxRecDepth 100000 in
set_option maxHeartbeats 2000000 in
theorem state_no (g : Nat) (side : Int) (hs : ¬ (side = 0 ∨ side = 1)) (o : Nat) (w : World) : Calls Tryz.prog 62 #[.pointer (some ⟨g, 0, none⟩), .int .i64 side, .int .u8 o] w fun e w' => e = .returned (.int .i64 0) ∧ w = w' := by
  have HIS := hid (fun W => isSide_no side hs W)
  clear hs
  go_enter Tryz.func62, Tryz.ntmps62
  go_wp2_with fail
  with_reducible refine (HIS.out _).mono ?_
  rintro e w0 ⟨rfl, rfl⟩
  go_wp2
  go_ret
  exact ⟨rfl, rfl⟩
set_option maxRecDepth 100000 in
theorem state_nil (side : Int) (o : Nat) (w : World) : Calls Tryz.prog 62 #[.pointer none, .int .i64 side, .int .u8 o] w fun e w' => e = .returned (.int .i64 0) ∧ w = w' := by
  go_enter Tryz.func62, Tryz.ntmps62
  go_wp2
  go_ret
  exact ⟨rfl, rfl⟩
set_option maxRecDepth 100000 in
theorem on_of (p : Value) (hp : ∃ x, p = .pointer x) (side x : Int) (o : Nat) (w : World) (h : Calls Tryz.prog 62 #[p, .int .i64 side, .int .u8 o] w fun e w' => e = .returned (.int .i64 x) ∧ w = w') : Calls Tryz.prog 36 #[p, .int .i64 side, .int .u8 o] w fun e w' => e = .returned (.bool (x == 1)) ∧ w = w' := by
  have H := hid h
  obtain ⟨q, rfl⟩ := hp
  clear h
  go_enter Tryz.func36, Tryz.ntmps36
  go_wp2_with fail
  with_reducible refine H.out.mono ?_
  rintro e w0 ⟨rfl, rfl⟩
  go_wp2
  go_ret
  exact ⟨rfl, rfl⟩
theorem on_any (g : Nat) (ag : Nat → Bool) (st : Nat → Int) (side : Int) (hs : side = 0 ∨ side = 1) (o : Nat) (ho : o < 256) (w : World) (hM : Mach w g ag st) : Calls Tryz.prog 36 #[.pointer (some ⟨g, 0, none⟩), .int .i64 side, .int .u8 o] w fun e w' => e = .returned (.bool (st (idx side o) == 1)) ∧ w = w' := on_of _ ⟨_, rfl⟩ side _ o w (state_any g ag st side hs o ho w hM)
theorem on_no (g : Nat) (side : Int) (hs : ¬ (side = 0 ∨ side = 1)) (o : Nat) (w : World) : Calls Tryz.prog 36 #[.pointer (some ⟨g, 0, none⟩), .int .i64 side, .int .u8 o] w fun e w' => e = .returned (.bool false) ∧ w = w' := on_of _ ⟨_, rfl⟩ side 0 o w (state_no g side hs o w)
theorem on_nil (side : Int) (o : Nat) (w : World) : Calls Tryz.prog 36 #[.pointer none, .int .i64 side, .int .u8 o] w fun e w' => e = .returned (.bool false) ∧ w = w' := on_of _ ⟨_, rfl⟩ side 0 o w (state_nil side o w)
set_option maxRecDepth 100000 in
theorem hear_nil (v o : Nat) (w : World) : Calls Tryz.prog 97 #[.pointer none, .int .u8 v, .int .u8 o] w fun e w' => e = .returned (.tuple #[.slice none 0 0, .int .i64 5]) ∧ w = w' := by
  go_enter Tryz.func97, Tryz.ntmps97
  go_wp2
  go_ret2
  exact ⟨rfl, rfl⟩
set_option maxRecDepth 100000 in
theorem ask_nil (side : Int) (o : Nat) (on : Bool) (w : World) : Calls Tryz.prog 102 #[.pointer none, .int .i64 side, .int .u8 o, .bool on] w fun e w' => e = .returned (.tuple #[.slice none 0 0, .int .i64 5]) ∧ w = w' := by
  go_enter Tryz.func102, Tryz.ntmps102
  go_wp2
  go_ret2
  exact ⟨rfl, rfl⟩
set_option maxRecDepth 100000 in
set_option maxHeartbeats 2000000 in
theorem ask_bad (g : Nat) (side : Int) (hs : ¬ (side = 0 ∨ side = 1)) (o : Nat) (on : Bool) (w : World) : Calls Tryz.prog 102 #[.pointer (some ⟨g, 0, none⟩), .int .i64 side, .int .u8 o, .bool on] w fun e w' => e = .returned (.tuple #[.slice none 0 0, .int .i64 1]) ∧ w = w' := by
  have HIS := hid (fun W => isSide_no side hs W)
  clear hs
  go_enter Tryz.func102, Tryz.ntmps102
  go_wp2_with fail
  with_reducible refine (HIS.out _).mono ?_
  rintro e w0 ⟨rfl, rfl⟩
  go_wp2
  go_ret2
  exact ⟨rfl, rfl⟩
theorem ask_any (g : Nat) (ag : Nat → Bool) (st : Nat → Int) (side : Int) (hs : side = 0 ∨ side = 1) (o : Nat) (ho : o < 256) (on : Bool) (w : World) (hM : Mach w g ag st) (ha : (askN (st (idx side o)) on).2.2 = true) : Calls Tryz.prog 102 #[.pointer (some ⟨g, 0, none⟩), .int .i64 side, .int .u8 o, .bool on] w (TookE g ag st side o (askN (st (idx side o)) on).1 (askN (st (idx side o)) on).2.1 0 w) := by
  rcases hs with rfl | rfl
  · rw [idx_0] at ha ⊢; exact ask_0 g ag st o ho on w hM ha
  · rw [idx_1] at ha ⊢; exact ask_1 g ag st o ho on w hM ha
theorem ask_no (g : Nat) (ag : Nat → Bool) (st : Nat → Int) (side : Int) (hs : side = 0 ∨ side = 1) (o : Nat) (ho : o < 256) (on : Bool) (w : World) (hM : Mach w g ag st) (ha : (askN (st (idx side o)) on).2.2 = false) : Calls Tryz.prog 102 #[.pointer (some ⟨g, 0, none⟩), .int .i64 side, .int .u8 o, .bool on] w fun e w' => e = .returned (.tuple #[.slice none 0 0, .int .i64 6]) ∧ Below w.heap.size w w' := by
  rcases hs with rfl | rfl
  · rw [idx_0] at ha; exact ask_no_0 g ag st o ho on w hM ha
  · rw [idx_1] at ha; exact ask_no_1 g ag st o ho on w hM ha
end
/-! XOf -/
section
open Go.RowKit Go.Lib
/-- A machine's cells at first. -/
def zeroM : Array Value := (List.replicate 512 (Value.bool false) ++ List.replicate 512 (Value.int .u8 0)).toArray
theorem zero_machine : ∀ w, (zeroValue 150).run Tryz.prog w = .ok (.agg zeroM) w := (zero_of_info (n := 1024) (by kernel_rfl)).1
theorem zeroM_at (i : Nat) : (i < 512 → zeroM[i]? = some (.bool false)) ∧ (i < 512 → zeroM[512 + i]? = some (.int .u8 0)) := by
  unfold zeroM
  refine ⟨fun h => ?_, fun h => ?_⟩
  · rw [List.getElem?_toArray, List.getElem?_append_left (by rw [List.length_replicate]; exact h), List.getElem?_replicate, if_pos h]
  · rw [List.getElem?_toArray, List.getElem?_append_right (by rw [List.length_replicate]; omega), List.getElem?_replicate, List.length_replicate, if_pos (by omega)]
theorem Mach.new (w : World) : Mach (w.alloc (.cells zeroM 150)) w.heap.size (fun _ => false) (fun _ => 0) :=
  ⟨fun i hi => by rw [World.cell?_alloc_new]; exact (zeroM_at i).1 hi, fun i hi => by rw [World.cell?_alloc_new]; exact (zeroM_at i).2 hi, fun i hi => by simp [go_sem], fun _ => by simp⟩
theorem Mach.agree {w : World} {g : Nat} {ag : Nat → Bool} {st : Nat → Int} (h : Mach w g ag st) (i : Nat) (hi : i < 512) : Mach (w.setCell ⟨g, i, none⟩ (.bool true)) g (fun j => ag j || j == i) st := by
  refine ⟨fun j hj => ?_, fun j hj => ?_, fun j hj => by simp [h.fr j hj], h.ok⟩
  · by_cases e : j = i
    · subst e
      rw [show (ag j || j == j) = true by simp]
      exact World.cell?_setCell_same _ _ _ (h.ca j hj)
    · rw [show (ag j || j == i) = ag j by simp [e], World.cell?_setCell_other _ _ _ _ (fun q => by injection q; omega)]
      exact h.ca j hj
  · rw [World.cell?_setCell_other _ _ _ _ (fun q => by injection q; omega)]
    exact h.cs j hj
/-- What is agreed to on our side, of the first so many; and on his. -/
def agU (us : List Int) (k : Nat) : Nat → Bool := fun j => (us.take k).any fun x => x == (j : Int)
def agH (us hs : List Int) (k : Nat) : Nat → Bool := fun j => agU us us.length j || (hs.take k).any fun x => x + 256 == (j : Int)
/-- All that is agreed to. -/
def agN (us hs : List Int) : Nat → Bool := agH us hs hs.length
theorem agH_zero (us hs : List Int) : agH us hs 0 = agU us us.length := by funext j; simp [agH]
theorem any_take {xs : List Int} {k : Nat} {P : Int → Bool} (hk : k < xs.length) : (xs.take (k + 1)).any P = ((xs.take k).any P || P (xs.getD k 0)) := by
  rw [List.take_succ_eq_append_getElem hk, List.any_append, List.getD, List.getElem?_eq_getElem hk]
  simp
theorem agU_step (us : List Int) {k x : Nat} (h : k < us.length ∧ us.getD k 0 = (x : Int)) : agU us (k + 1) = fun j => agU us k j || j == x := by
  funext j
  unfold agU
  rw [any_take h.1, h.2]
  congr 1
  rw [Bool.eq_iff_iff]
  simp
  omega
theorem agH_step (us hs : List Int) {k x : Nat} (h : k < hs.length ∧ hs.getD k 0 = (x : Int)) : agH us hs (k + 1) = fun j => agH us hs k j || j == 256 + x := by
  funext j
  unfold agH
  rw [any_take h.1, h.2, ← Bool.or_assoc]
  congr 1
  rw [Bool.eq_iff_iff]
  simp
  omega
theorem byte_at {xs : List Int} (hb : ∀ x ∈ xs, 0 ≤ x ∧ x < 256) (i : Nat) (h : i < xs.length) : ∃ n : Nat, n < 256 ∧ xs.getD i 0 = (n : Int) ∧ i < xs.length ∧ xs.getD i 0 = (n : Int) := by
  have q : xs.getD i 0 ∈ xs := by rw [List.getD, List.getElem?_eq_getElem h]; exact List.getElem_mem h
  have := hb _ q
  exact ⟨(xs.getD i 0).toNat, by omega, by omega, h, by omega⟩
/-- A new machine is there. -/
def NewM (us hs : List Int) (w : World) (e : Ending) (w' : World) : Prop := e = .returned (.pointer (some ⟨w.heap.size, 0, none⟩)) ∧ Mach w' w.heap.size (agN us hs) (fun _ => 0) ∧ Below w.heap.size w w'
theorem newM_end {us hs : List Int} {w w1 w2 : World} (hb : Below w.heap.size w w1) (hv : Moved w1 w2 [w.heap.size] [w.heap.size]) (hm : Mach w2 w.heap.size (agH us hs hs.length) (fun _ => 0)) : NewM us hs w (.returned (.pointer (some ⟨w.heap.size, 0, none⟩))) w2 :=
  ⟨rfl, hm, hb.trans (hv.toBelow hb.size (fun k h => by rw [List.mem_singleton.1 h]; exact Nat.le_refl _))⟩
set_option maxRecDepth 100000 in
set_option maxHeartbeats 2000000 in
theorem new_ee (us hs : List Int) (w : World) (bu : ∀ x ∈ us, 0 ≤ x ∧ x < 256) (bh : ∀ x ∈ hs, 0 ≤ x ∧ x < 256) (xu : Option Addr) (cu : Nat) (hN : us = []) (xh : Option Addr) (ch : Nat) (hL : hs = []) : Calls Tryz.prog 58 #[.slice xu 0 cu, .slice xh 0 ch] w (NewM us hs w) := by
  have hz := zero_machine
  have HM0 := hid (show Mach _ w.heap.size (agU us 0) (fun _ => 0) from Mach.new w)
  have HB0 := hid (bal (Below.refl w.heap.size w) (.cells zeroM 150))
  have HNU := hid hN
  clear hN
  have HNH := hid hL
  clear hL
  have HFU := hid bu
  have HFH := hid bh
  clear bu bh
  go_enter Tryz.func58, Tryz.ntmps58
  go_wp2
  go_loopw [14] (fun i W => ∃ k : Nat, k ≤ 0 ∧ i = .int .i64 k ∧ Hid (Mach W w.heap.size (agU us k) (fun _ => 0)) ∧ Hid (Moved (w.alloc (.cells zeroM 150)) W [w.heap.size] [w.heap.size])) (fun i _ => 0 - (intOf i).toNat)
  case atStart => exact ⟨0, Nat.zero_le _, rfl, HM0.out, Moved.refl _ _⟩
  case round =>
    obtain ⟨k, hk, rfl, HM, HV⟩ := hrel
    by_cases hlt : k < 0
    · exact absurd hlt (by omega)
    · obtain rfl : k = 0 := by omega
      have HMU := hid (show Mach _ w.heap.size (agU us us.length) (fun _ => 0) by rw [HNU.out]; rw [HNU.out] at HM; exact HM.out)
      clear HM
      go_wp2
      go_loopw [27] (fun i W => ∃ k : Nat, k ≤ 0 ∧ i = .int .i64 k ∧ Hid (Mach W w.heap.size (agH us hs k) (fun _ => 0)) ∧ Hid (Moved (w.alloc (.cells zeroM 150)) W [w.heap.size] [w.heap.size])) (fun i _ => 0 - (intOf i).toNat)
      case atStart => exact ⟨0, Nat.zero_le _, rfl, by rw [agH_zero us hs]; exact HMU.out, HV.out⟩
      case round =>
        obtain ⟨k, hk, rfl, HM, HV⟩ := hrel
        by_cases hlt : k < 0
        · exact absurd hlt (by omega)
        · obtain rfl : k = 0 := by omega
          go_wp2
          go_ret
          exact newM_end HB0.out HV.out (show Mach _ w.heap.size (agH us hs hs.length) (fun _ => 0) by rw [HNH.out]; rw [HNH.out] at HM; exact HM.out)
set_option maxRecDepth 100000 in
set_option maxHeartbeats 2000000 in
theorem new_er (us hs : List Int) (w : World) (bu : ∀ x ∈ us, 0 ≤ x ∧ x < 256) (bh : ∀ x ∈ hs, 0 ≤ x ∧ x < 256) (xu : Option Addr) (cu : Nat) (hN : us = []) (gh oh L ch : Nat) (hL : L = hs.length) (lb : L ≤ 1000000) (lh : gh < w.heap.size) (hch : ∀ i, i < hs.length → w.cell? ⟨gh, oh + i, none⟩ = some (.int .u8 (hs.getD i 0))) : Calls Tryz.prog 58 #[.slice xu 0 cu, .slice (some ⟨gh, oh, none⟩) L ch] w (NewM us hs w) := by
  have hz := zero_machine
  have HM0 := hid (show Mach _ w.heap.size (agU us 0) (fun _ => 0) from Mach.new w)
  have HB0 := hid (bal (Below.refl w.heap.size w) (.cells zeroM 150))
  have HNU := hid hN
  clear hN
  have HCH := hid (fun i (h : i < L) => keepc HB0.out (hch i (by omega)))
  have HBH := hid (fun i (h : i < L) => byte_at bh i (by omega))
  have HNH := hid hL
  clear hch hL
  have HFU := hid bu
  have HFH := hid bh
  clear bu bh
  go_enter Tryz.func58, Tryz.ntmps58
  go_wp2
  go_loopw [14] (fun i W => ∃ k : Nat, k ≤ 0 ∧ i = .int .i64 k ∧ Hid (Mach W w.heap.size (agU us k) (fun _ => 0)) ∧ Hid (Moved (w.alloc (.cells zeroM 150)) W [w.heap.size] [w.heap.size])) (fun i _ => 0 - (intOf i).toNat)
  case atStart => exact ⟨0, Nat.zero_le _, rfl, HM0.out, Moved.refl _ _⟩
  case round =>
    obtain ⟨k, hk, rfl, HM, HV⟩ := hrel
    by_cases hlt : k < 0
    · exact absurd hlt (by omega)
    · obtain rfl : k = 0 := by omega
      have HMU := hid (show Mach _ w.heap.size (agU us us.length) (fun _ => 0) by rw [HNU.out]; rw [HNU.out] at HM; exact HM.out)
      clear HM
      go_wp2
      go_loopw [27] (fun i W => ∃ k : Nat, k ≤ L ∧ i = .int .i64 k ∧ Hid (Mach W w.heap.size (agH us hs k) (fun _ => 0)) ∧ Hid (Moved (w.alloc (.cells zeroM 150)) W [w.heap.size] [w.heap.size])) (fun i _ => L - (intOf i).toNat)
      case atStart => exact ⟨0, Nat.zero_le _, rfl, by rw [agH_zero us hs]; exact HMU.out, HV.out⟩
      case round =>
        obtain ⟨k, hk, rfl, HM, HV⟩ := hrel
        by_cases hlt : k < L
        · have c0 := cell_moved HV.out (HCH.out k hlt) (fun h => by have h' : gh = w.heap.size := List.mem_singleton.1 h; omega)
          obtain ⟨x, hx1, hx2, hx3⟩ := HBH.out k hlt
          rw [hx2] at c0
          have d0 := HM.out.ca (256 + x) (by omega)
          have f0 := HM.out.fr (256 + x) (by omega)
          have HMA := hid (HM.out.agree (256 + x) (by omega))
          have HE := hid (agH_step us hs hx3)
          have hki : (k : Int) < L := by omega
          have hxi : (x : Int) < 256 := by omega
          have hx0 : (0 : Int) ≤ x := by omega
          clear hx2 hx3
          go_wp2
          go_roundw
          case rel => exact ⟨k + 1, by omega, by go_num, by rw [HE.out]; exact HMA.out, HV.out.trans (Moved.set (by simp) _ _)⟩
          case measure => simp [intOf]; omega
        · obtain rfl : k = L := by omega
          go_wp2
          go_ret
          exact newM_end HB0.out HV.out (show Mach _ w.heap.size (agH us hs hs.length) (fun _ => 0) by rw [← HNH.out]; exact HM.out)
set_option maxRecDepth 100000 in
set_option maxHeartbeats 2000000 in
theorem new_re (us hs : List Int) (w : World) (bu : ∀ x ∈ us, 0 ≤ x ∧ x < 256) (bh : ∀ x ∈ hs, 0 ≤ x ∧ x < 256) (gu ou N cu : Nat) (hN : N = us.length) (nb : N ≤ 1000000) (lu : gu < w.heap.size) (hcu : ∀ i, i < us.length → w.cell? ⟨gu, ou + i, none⟩ = some (.int .u8 (us.getD i 0))) (xh : Option Addr) (ch : Nat) (hL : hs = []) : Calls Tryz.prog 58 #[.slice (some ⟨gu, ou, none⟩) N cu, .slice xh 0 ch] w (NewM us hs w) := by
  have hz := zero_machine
  have HM0 := hid (show Mach _ w.heap.size (agU us 0) (fun _ => 0) from Mach.new w)
  have HB0 := hid (bal (Below.refl w.heap.size w) (.cells zeroM 150))
  have HCU := hid (fun i (h : i < N) => keepc HB0.out (hcu i (by omega)))
  have HBU := hid (fun i (h : i < N) => byte_at bu i (by omega))
  have HNU := hid hN
  clear hcu hN
  have HNH := hid hL
  clear hL
  have HFU := hid bu
  have HFH := hid bh
  clear bu bh
  go_enter Tryz.func58, Tryz.ntmps58
  go_wp2
  go_loopw [14] (fun i W => ∃ k : Nat, k ≤ N ∧ i = .int .i64 k ∧ Hid (Mach W w.heap.size (agU us k) (fun _ => 0)) ∧ Hid (Moved (w.alloc (.cells zeroM 150)) W [w.heap.size] [w.heap.size])) (fun i _ => N - (intOf i).toNat)
  case atStart => exact ⟨0, Nat.zero_le _, rfl, HM0.out, Moved.refl _ _⟩
  case round =>
    obtain ⟨k, hk, rfl, HM, HV⟩ := hrel
    by_cases hlt : k < N
    · have c0 := cell_moved HV.out (HCU.out k hlt) (fun h => by have h' : gu = w.heap.size := List.mem_singleton.1 h; omega)
      obtain ⟨x, hx1, hx2, hx3⟩ := HBU.out k hlt
      rw [hx2] at c0
      have d0 := HM.out.ca (x) (by omega)
      have f0 := HM.out.fr (x) (by omega)
      have HMA := hid (HM.out.agree (x) (by omega))
      have HE := hid (agU_step us hx3)
      have hki : (k : Int) < N := by omega
      have hxi : (x : Int) < 256 := by omega
      have hx0 : (0 : Int) ≤ x := by omega
      clear hx2 hx3
      go_wp2
      go_roundw
      case rel => exact ⟨k + 1, by omega, by go_num, by rw [HE.out]; exact HMA.out, HV.out.trans (Moved.set (by simp) _ _)⟩
      case measure => simp [intOf]; omega
    · obtain rfl : k = N := by omega
      have HMU := hid (show Mach _ w.heap.size (agU us us.length) (fun _ => 0) by rw [← HNU.out]; exact HM.out)
      clear HM
      go_wp2
      go_loopw [27] (fun i W => ∃ k : Nat, k ≤ 0 ∧ i = .int .i64 k ∧ Hid (Mach W w.heap.size (agH us hs k) (fun _ => 0)) ∧ Hid (Moved (w.alloc (.cells zeroM 150)) W [w.heap.size] [w.heap.size])) (fun i _ => 0 - (intOf i).toNat)
      case atStart => exact ⟨0, Nat.zero_le _, rfl, by rw [agH_zero us hs]; exact HMU.out, HV.out⟩
      case round =>
        obtain ⟨k, hk, rfl, HM, HV⟩ := hrel
        by_cases hlt : k < 0
        · exact absurd hlt (by omega)
        · obtain rfl : k = 0 := by omega
          go_wp2
          go_ret
          exact newM_end HB0.out HV.out (show Mach _ w.heap.size (agH us hs hs.length) (fun _ => 0) by rw [HNH.out]; rw [HNH.out] at HM; exact HM.out)
set_option maxRecDepth 100000 in
set_option maxHeartbeats 2000000 in
theorem new_rr (us hs : List Int) (w : World) (bu : ∀ x ∈ us, 0 ≤ x ∧ x < 256) (bh : ∀ x ∈ hs, 0 ≤ x ∧ x < 256) (gu ou N cu : Nat) (hN : N = us.length) (nb : N ≤ 1000000) (lu : gu < w.heap.size) (hcu : ∀ i, i < us.length → w.cell? ⟨gu, ou + i, none⟩ = some (.int .u8 (us.getD i 0))) (gh oh L ch : Nat) (hL : L = hs.length) (lb : L ≤ 1000000) (lh : gh < w.heap.size) (hch : ∀ i, i < hs.length → w.cell? ⟨gh, oh + i, none⟩ = some (.int .u8 (hs.getD i 0))) : Calls Tryz.prog 58 #[.slice (some ⟨gu, ou, none⟩) N cu, .slice (some ⟨gh, oh, none⟩) L ch] w (NewM us hs w) := by
  have hz := zero_machine
  have HM0 := hid (show Mach _ w.heap.size (agU us 0) (fun _ => 0) from Mach.new w)
  have HB0 := hid (bal (Below.refl w.heap.size w) (.cells zeroM 150))
  have HCU := hid (fun i (h : i < N) => keepc HB0.out (hcu i (by omega)))
  have HBU := hid (fun i (h : i < N) => byte_at bu i (by omega))
  have HNU := hid hN
  clear hcu hN
  have HCH := hid (fun i (h : i < L) => keepc HB0.out (hch i (by omega)))
  have HBH := hid (fun i (h : i < L) => byte_at bh i (by omega))
  have HNH := hid hL
  clear hch hL
  have HFU := hid bu
  have HFH := hid bh
  clear bu bh
  go_enter Tryz.func58, Tryz.ntmps58
  go_wp2
  go_loopw [14] (fun i W => ∃ k : Nat, k ≤ N ∧ i = .int .i64 k ∧ Hid (Mach W w.heap.size (agU us k) (fun _ => 0)) ∧ Hid (Moved (w.alloc (.cells zeroM 150)) W [w.heap.size] [w.heap.size])) (fun i _ => N - (intOf i).toNat)
  case atStart => exact ⟨0, Nat.zero_le _, rfl, HM0.out, Moved.refl _ _⟩
  case round =>
    obtain ⟨k, hk, rfl, HM, HV⟩ := hrel
    by_cases hlt : k < N
    · have c0 := cell_moved HV.out (HCU.out k hlt) (fun h => by have h' : gu = w.heap.size := List.mem_singleton.1 h; omega)
      obtain ⟨x, hx1, hx2, hx3⟩ := HBU.out k hlt
      rw [hx2] at c0
      have d0 := HM.out.ca (x) (by omega)
      have f0 := HM.out.fr (x) (by omega)
      have HMA := hid (HM.out.agree (x) (by omega))
      have HE := hid (agU_step us hx3)
      have hki : (k : Int) < N := by omega
      have hxi : (x : Int) < 256 := by omega
      have hx0 : (0 : Int) ≤ x := by omega
      clear hx2 hx3
      go_wp2
      go_roundw
      case rel => exact ⟨k + 1, by omega, by go_num, by rw [HE.out]; exact HMA.out, HV.out.trans (Moved.set (by simp) _ _)⟩
      case measure => simp [intOf]; omega
    · obtain rfl : k = N := by omega
      have HMU := hid (show Mach _ w.heap.size (agU us us.length) (fun _ => 0) by rw [← HNU.out]; exact HM.out)
      clear HM
      go_wp2
      go_loopw [27] (fun i W => ∃ k : Nat, k ≤ L ∧ i = .int .i64 k ∧ Hid (Mach W w.heap.size (agH us hs k) (fun _ => 0)) ∧ Hid (Moved (w.alloc (.cells zeroM 150)) W [w.heap.size] [w.heap.size])) (fun i _ => L - (intOf i).toNat)
      case atStart => exact ⟨0, Nat.zero_le _, rfl, by rw [agH_zero us hs]; exact HMU.out, HV.out⟩
      case round =>
        obtain ⟨k, hk, rfl, HM, HV⟩ := hrel
        by_cases hlt : k < L
        · have c0 := cell_moved HV.out (HCH.out k hlt) (fun h => by have h' : gh = w.heap.size := List.mem_singleton.1 h; omega)
          obtain ⟨x, hx1, hx2, hx3⟩ := HBH.out k hlt
          rw [hx2] at c0
          have d0 := HM.out.ca (256 + x) (by omega)
          have f0 := HM.out.fr (256 + x) (by omega)
          have HMA := hid (HM.out.agree (256 + x) (by omega))
          have HE := hid (agH_step us hs hx3)
          have hki : (k : Int) < L := by omega
          have hxi : (x : Int) < 256 := by omega
          have hx0 : (0 : Int) ≤ x := by omega
          clear hx2 hx3
          go_wp2
          go_roundw
          case rel => exact ⟨k + 1, by omega, by go_num, by rw [HE.out]; exact HMA.out, HV.out.trans (Moved.set (by simp) _ _)⟩
          case measure => simp [intOf]; omega
        · obtain rfl : k = L := by omega
          go_wp2
          go_ret
          exact newM_end HB0.out HV.out (show Mach _ w.heap.size (agH us hs hs.length) (fun _ => 0) by rw [← HNH.out]; exact HM.out)
theorem new_any (u v : Value) (us hs : List Int) (w : World) (hu : Reads w u us) (hv : Reads w v hs) (lu : us.length ≤ 1000000) (lv : hs.length ≤ 1000000) : Calls Tryz.prog 58 #[u, v] w (NewM us hs w) := by
  rcases reads_cases hu with ⟨x, c, rfl, hx⟩ | ⟨g, o, n, c, rfl, hn, hg, hc⟩
  · rcases reads_cases hv with ⟨y, d, rfl, hy⟩ | ⟨g', o', n', c', rfl, hn', hg', hc'⟩
    · exact new_ee us hs w hu.1 hv.1 x c hx y d hy
    · exact new_er us hs w hu.1 hv.1 x c hx g' o' n' c' hn' (by omega) hg' hc'
  · rcases reads_cases hv with ⟨y, d, rfl, hy⟩ | ⟨g', o', n', c', rfl, hn', hg', hc'⟩
    · exact new_re us hs w hu.1 hv.1 g o n c hn (by omega) hg hc y d hy
    · exact new_rr us hs w hu.1 hv.1 g o n c hn (by omega) hg hc g' o' n' c' hn' (by omega) hg' hc'
end
end Go.Proofs.YtaanpnmgibcemaaGreatDoor.Op
