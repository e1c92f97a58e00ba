/-
  Each function once; where a name ends; bytes cut in two.
-/
import Derived.Test.YtdpfjbpfafekfaaNb
import Derived.Lib.BytesEntry
import Derived.Deep.WholeRow
import Derived.Shelf.RegionOpen
namespace Go.Proofs.Ytdpfjbpfafekfaa
open Go.RowKit Go.Lib

/-- Each once. -/
def onceL (xs : List Int) : Bool := decide xs.Nodup
theorem take_succD {xs : List Int} {k : Nat} (h : k < xs.length) : xs.take (k + 1) = xs.take k ++ [xs.getD k 0] := by
  rw [List.take_succ_eq_append_getElem h, List.getD, List.getElem?_eq_getElem h]
  rfl
theorem any_mem {xs : List Int} {x : Int} : (xs.any fun y => y == x) = true ↔ x ∈ xs := by
  rw [List.any_eq_true]
  exact ⟨fun ⟨y, h, e⟩ => by rw [← show y = x from by simpa using e]; exact h, fun h => ⟨x, h, by simp⟩⟩
theorem any_not {xs : List Int} {x : Int} : (xs.any fun y => y == x) = false ↔ x ∉ xs := by
  rw [← Bool.not_eq_true, any_mem]
theorem nodup_snoc {l : List Int} {x : Int} (h : l.Nodup) (hx : x ∉ l) : (l ++ [x]).Nodup := by
  rw [List.nodup_append]
  exact ⟨h, by simp, fun a ha b hb e => hx (by have : b = x := by simpa using hb
                                               rw [← this, ← e]; exact ha)⟩
theorem nodup_fall {xs : List Int} {k : Nat} (h : k < xs.length) (hx : xs.getD k 0 ∈ xs.take k) : onceL xs = false := decide_eq_false fun q => by
  have q2 : (xs.take (k + 1)).Nodup := List.Sublist.nodup (List.take_sublist _ _) q
  rw [take_succD h, List.nodup_append] at q2
  exact q2.2.2 _ hx _ (List.mem_singleton.2 rfl) rfl
/-- An array of 256 bools in memory. -/
structure ArrB (w : World) (b : Nat) (f : Nat → Bool) : Prop where
  c : ∀ i, i < 256 → w.cell? ⟨b, i, none⟩ = some (.bool (f i))
  fr : ∀ i, i < 256 → w.frozen? ⟨b, i, none⟩ = false
def zeroB : Array Value := (List.replicate 256 (Value.bool false)).toArray
theorem zeroB_at (i : Nat) (h : i < 256) : zeroB[i]? = some (.bool false) := by
  unfold zeroB
  rw [List.getElem?_toArray, List.getElem?_replicate, if_pos h]
theorem zero_arrayB : ∀ w, (zeroValue 49).run Try.prog w = .ok (.agg zeroB) w := (zero_of_info (n := 256) (by kernel_rfl)).1
theorem ArrB.new (w : World) (t : TypeId) : ArrB (w.alloc (.cells zeroB t)) w.heap.size (fun _ => false) :=
  ⟨fun i hi => by rw [World.cell?_alloc_new]; exact zeroB_at i hi, fun i hi => by simp [go_sem]⟩
theorem ArrB.set {w : World} {b : Nat} {xs : List Int} {k z : Nat} (h : ArrB w b (fun j => (xs.take k).any fun y => y == (j : Int))) (hk : k < xs.length) (hz : z < 256) (e : xs.getD k 0 = z) : ArrB (w.setCell ⟨b, z, none⟩ (.bool true)) b (fun j => (xs.take (k + 1)).any fun y => y == (j : Int)) := by
  refine ⟨fun i hi => ?_, fun i hi => by rw [World.frozen?_setCell]; exact h.fr i hi⟩
  rw [take_succD hk, e, List.any_append]
  by_cases hiz : i = z
  · subst hiz
    rw [World.cell?_setCell_same _ _ _ (h.c i hi)]
    simp
  · rw [World.cell?_setCell_other _ _ _ _ (fun q => hiz (by injection q with q1 q2; exact q2.symm)), h.c i hi]
    have : (((z : Int) == (i : Int)) : Bool) = false := by simp; omega
    simp [this]
set_option maxRecDepth 100000 in
set_option maxHeartbeats 2000000 in
theorem eachOnce_any (v : Value) (xs : List Int) (w : World) (h : RdG w v xs) (hl : xs.length ≤ 1000) : Calls Try.prog 87 #[v] w fun e w' => e = .returned (.bool (onceL xs)) ∧ Below w.heap.size w w' := by
  have hz := zero_arrayB
  by_cases hx : xs = []
  · subst hx
    obtain ⟨x, c, rfl⟩ := h.slice
    clear h
    go_enter Try.func87, Try.ntmps87
    go_wp2
    clear hz
    go_loop [8] (fun i => i = .int .i64 0) (fun _ => 0)
    case atStart => rfl
    case round =>
      obtain rfl := hrel
      go_wp2
      go_ret
      exact ⟨rfl, bal (Below.refl _ _) _⟩
  obtain ⟨g, off, cap, rfl, h1, h2, h3⟩ := h.row hx
  have HC := hid h3
  have HBY := hid (getD_byte h.1)
  obtain ⟨n, hn⟩ : ∃ n, n = xs.length := ⟨_, rfl⟩
  have HN := hid hn
  rw [← hn] at hl ⊢
  clear h h3 hx h1 h2 hn
  go_enter Try.func87, Try.ntmps87
  go_wp2
  have HA0 := hid (ArrB.new w 49)
  have HB0 := hid (bal (Below.refl w.heap.size w) (.cells zeroB 49))
  obtain ⟨b, hb⟩ : ∃ b, b = w.heap.size := ⟨_, rfl⟩
  rw [← hb] at HA0 ⊢
  have hbw : w.heap.size ≤ b := by omega
  clear hb hz
  generalize w.alloc (.cells zeroB 49) = W0 at *
  go_loopw [8] (fun i W => ∃ k : Nat, k ≤ n ∧ i = .int .i64 k ∧ Hid (ArrB W b (fun j => (xs.take k).any fun y => y == (j : Int))) ∧ Hid ((xs.take k).Nodup) ∧ Hid (Below w.heap.size w W)) (fun i _ => n - (intOf i).toNat)
  case atStart => exact ⟨0, Nat.zero_le _, rfl, HA0.out, hid (by simp), HB0.out⟩
  case round =>
    obtain ⟨k, hk, rfl, HA, HD, HB⟩ := hrel
    clear HA0 HB0
    by_cases hlt : k < n
    · have hlx : k < xs.length := by rw [← HN.out]; exact hlt
      have c0 := keepc HB.out (HC.out k hlx)
      obtain ⟨b0, b1⟩ := HBY.out k hlx
      have hki : (k : Int) < n := by omega
      obtain ⟨z, hz⟩ : ∃ z : Nat, xs.getD k 0 = z := ⟨(xs.getD k 0).toNat, by omega⟩
      rw [hz] at c0 b0 b1
      have hz256 : z < 256 := by omega
      have cz := HA.out.c z hz256
      have fz := HA.out.fr z hz256
      have HZ := hid hz
      clear hz
      cases hin : ((xs.take k).any fun y => y == (z : Int))
      · rw [hin] at cz
        have HD2 := hid (show (xs.take (k + 1)).Nodup by
          rw [take_succD hlx, HZ.out]
          exact nodup_snoc HD.out (any_not.1 hin))
        have HA2 := hid (HA.out.set hlx hz256 HZ.out)
        have HB2 := hid (HB.out.setCell (p := ⟨b, z, none⟩) (by exact hbw) (.bool true))
        clear hin
        go_wp2
        go_roundw
        case rel => exact ⟨k + 1, by omega, by go_num, HA2.out, HD2.out, HB2.out⟩
        case measure => simp [intOf]; omega
      · rw [hin] at cz
        have H := hid (nodup_fall hlx (by rw [HZ.out]; exact any_mem.1 hin))
        clear hin
        go_wp2
        go_ret
        exact ⟨(by rw [H.out]; rfl), HB.out⟩
    · obtain rfl : k = n := by omega
      have H := hid (show onceL xs = true from decide_eq_true (by have := HD.out; rw [HN.out, List.take_length] at this; exact this))
      go_wp2
      go_ret
      exact ⟨(by rw [H.out]; rfl), HB.out⟩
/-- Where the first 1 stands. -/
def at1 (xs : List Int) : Nat := xs.findIdx fun x => x == 1
theorem at1_le (xs : List Int) : at1 xs ≤ xs.length := List.findIdx_le_length
theorem byte_one {x : Int} (h : 0 ≤ x ∧ x < 256) : (UInt8.ofNat x.toNat == 1) = (x == 1) := by
  obtain ⟨n, rfl⟩ : ∃ n : Nat, x = n := ⟨x.toNat, by omega⟩
  have hn : n < 256 := by omega
  rw [Bool.eq_iff_iff]
  simp only [beq_iff_eq, Int.toNat_natCast]
  constructor
  · intro e
    have := congrArg UInt8.toNat e
    rw [UInt8.toNat_ofNat_of_lt' (by simpa using hn)] at this
    have h1 : (1 : UInt8).toNat = 1 := rfl
    omega
  · intro e
    have : n = 1 := by omega
    subst this
    rfl
theorem index1 : ∀ {xs : List Int}, (∀ x ∈ xs, 0 ≤ x ∧ x < 256) → Lib.indexByte (Lib.bytesOf xs) (1 : Int).toNat.toUInt8 = if at1 xs < xs.length then (at1 xs : Int) else -1
  | [], _ => rfl
  | x :: xs, h => by
    have ih := index1 (xs := xs) (fun y hy => h y (List.mem_cons_of_mem _ hy))
    have hx := byte_one (h x (by simp))
    have e1 : (1 : Int).toNat.toUInt8 = 1 := rfl
    rw [e1] at ih ⊢
    unfold at1 at ih ⊢
    rw [show Lib.bytesOf (x :: xs) = UInt8.ofNat x.toNat :: Lib.bytesOf xs from rfl]
    unfold Lib.indexByte
    rw [List.findIdx_cons]
    cases hq : (x == 1)
    · rw [hq] at hx
      rw [if_neg (by rw [hx]; exact Bool.false_ne_true), ih, cond_false, List.length_cons]
      by_cases hl : List.findIdx (fun x => x == 1) xs < xs.length
      · rw [if_pos hl, if_pos (show List.findIdx (fun x => x == 1) xs + 1 < xs.length + 1 by omega), if_neg (by simp)]
        omega
      · rw [if_neg hl, if_neg (show ¬ List.findIdx (fun x => x == 1) xs + 1 < xs.length + 1 by omega), if_pos (by rfl)]
    · rw [hq] at hx
      rw [if_pos hx, cond_true, if_pos (by simp)]
      rfl
end Go.Proofs.Ytdpfjbpfafekfaa
