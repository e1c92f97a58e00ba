/-
  nego: names, messages, lists of functions.
-/
import Derived.Test.YtaanpnmgibcemaaGreatDoorBa
import Derived.Lib.BytesEntry
import Derived.Deep.WholeRow
import Derived.Shelf.RegionOpen
import Derived.Lib.AppendStr
import Derived.Deep.RegionHeld3
namespace Go.Proofs.YtaanpnmgibcemaaGreatDoor.Ng
/-! XNa -/
section
open Go.RowKit Go.Lib
/-- A byte of a name. -/
def okC (c : UInt8) : Bool := decide (33 ≤ c.toNat) && decide (c.toNat ≤ 126)
/-- A name. -/
def nameB (s : ByteArray) : Bool := decide (1 ≤ s.size) && decide (s.size ≤ 40) && s.data.toList.all okC
theorem okC_true {c : UInt8} (h1 : ¬ (c.toNat : Int) < 33) (h2 : ¬ (126 : Int) < c.toNat) : okC c = true := by unfold okC; simp; omega
theorem okC_lo {c : UInt8} (h1 : (c.toNat : Int) < 33) : okC c = false := by unfold okC; simp; omega
theorem okC_hi {c : UInt8} (h1 : (126 : Int) < c.toNat) : okC c = false := by unfold okC; simp; omega
theorem take_snocC (s : ByteArray) (k : Nat) (h : k < s.size) : s.data.toList.take (k + 1) = s.data.toList.take k ++ [s[k]] := by
  rw [List.take_succ_eq_append_getElem (by simpa using h)]; rfl
theorem all_snoc (s : ByteArray) (k : Nat) (h : k < s.size) (ha : (s.data.toList.take k).all okC = true) (hc : okC s[k] = true) : (s.data.toList.take (k + 1)).all okC = true := by
  rw [take_snocC s k h, List.all_append, ha]
  simp [hc]
theorem all_fall (s : ByteArray) (k : Nat) (h : k < s.size) (hc : okC s[k] = false) : nameB s = false := by
  unfold nameB
  have : s.data.toList.all okC = false := by
    rw [List.all_eq_false]
    exact ⟨s[k], by show s.data[k] ∈ _; simp, by rw [hc]; simp⟩
  rw [this]
  simp
theorem name_full (s : ByteArray) (h1 : 1 ≤ s.size) (h2 : s.size ≤ 40) (ha : (s.data.toList.take s.size).all okC = true) : nameB s = true := by
  rw [List.take_of_length_le (by simp)] at ha
  unfold nameB
  rw [ha]
  simp [h1, h2]
theorem name_short (s : ByteArray) (h1 : s.size < 1) : nameB s = false := by
  unfold nameB
  rw [show decide (1 ≤ s.size) = false from decide_eq_false (by omega)]
  rfl
theorem name_long (s : ByteArray) (h1 : 40 < s.size) : nameB s = false := by
  unfold nameB
  rw [show decide (s.size ≤ 40) = false from decide_eq_false (by omega)]
  simp
theorem name_fit {s : ByteArray} (h : nameB s = true) : 1 ≤ s.size ∧ s.size ≤ 40 := by
  unfold nameB at h
  simp at h
  omega
set_option maxRecDepth 100000 in
set_option maxHeartbeats 2000000 in
theorem name_any (s : ByteArray) (w : World) (hs : s.size ≤ maxLen) : Calls Tryz.prog 75 #[.string s] w fun e w' => e = .returned (.bool (nameB s)) ∧ w = w' := by
  unfold maxLen at hs
  by_cases h1 : s.size < 1
  · have H := hid (name_short s h1)
    go_enter Tryz.func75, Tryz.ntmps75
    go_wp2
    go_ret
    exact ⟨(by rw [H.out]; rfl), rfl⟩
  by_cases h2 : 40 < s.size
  · have H := hid (name_long s h2)
    have h2' : (40 : Int) < s.size := by omega
    go_enter Tryz.func75, Tryz.ntmps75
    go_wp2
    go_ret
    exact ⟨(by rw [H.out]; rfl), rfl⟩
  have h2' : ¬ (40 : Int) < s.size := by omega
  go_enter Tryz.func75, Tryz.ntmps75
  go_wp2
  go_loop [14] (fun i => ∃ k : Nat, k ≤ s.size ∧ i = .int .i64 k ∧ Hid ((s.data.toList.take k).all okC = true)) (fun i => s.size - (intOf i).toNat)
  case atStart => exact ⟨0, Nat.zero_le _, rfl, hid (by simp)⟩
  case round =>
    obtain ⟨k, hk, rfl, HA⟩ := hrel
    by_cases hlt : k < s.size
    · by_cases c1 : (s[k].toNat : Int) < 33
      · have H := hid (all_fall s k hlt (okC_lo c1))
        go_wp2
        go_ret
        exact ⟨(by rw [H.out]; rfl), rfl⟩
      · by_cases c2 : (126 : Int) < s[k].toNat
        · have H := hid (all_fall s k hlt (okC_hi c2))
          go_wp2
          go_ret
          exact ⟨(by rw [H.out]; rfl), rfl⟩
        · have H := hid (all_snoc s k hlt HA.out (okC_true c1 c2))
          go_wp2
          go_round
          case rel => exact ⟨k + 1, by omega, by go_num, H.out⟩
          case measure => simp [intOf]; omega
    · obtain rfl : k = s.size := by omega
      have H := hid (name_full s (by omega) (by omega) HA.out)
      go_wp2
      go_ret
      exact ⟨(by rw [H.out]; rfl), rfl⟩
set_option maxRecDepth 100000 in
set_option maxHeartbeats 2000000 in
theorem rname_any (s : ByteArray) (w : World) (hs : s.size ≤ maxLen) : Calls Tryz.prog 77 #[.string s] w fun e w' => e = .returned (.bool (nameB s)) ∧ w = w' := by
  unfold maxLen at hs
  go_enter Tryz.func77, Tryz.ntmps77
  go_wp2
  go_loop [3] (fun i => ∃ k : Nat, k ≤ s.size ∧ i = .int .i64 k ∧ Hid ((s.data.toList.take k).all okC = true)) (fun i => s.size - (intOf i).toNat)
  case atStart => exact ⟨0, Nat.zero_le _, rfl, hid (by simp)⟩
  case round =>
    obtain ⟨k, hk, rfl, HA⟩ := hrel
    by_cases hlt : k < s.size
    · by_cases c1 : (s[k].toNat : Int) < 33
      · have H := hid (all_fall s k hlt (okC_lo c1))
        go_wp2
        go_ret
        exact ⟨(by rw [H.out]; rfl), rfl⟩
      · by_cases c2 : (126 : Int) < s[k].toNat
        · have H := hid (all_fall s k hlt (okC_hi c2))
          go_wp2
          go_ret
          exact ⟨(by rw [H.out]; rfl), rfl⟩
        · have H := hid (all_snoc s k hlt HA.out (okC_true c1 c2))
          go_wp2
          go_round
          case rel => exact ⟨k + 1, by omega, by go_num, H.out⟩
          case measure => simp [intOf]; omega
    · obtain rfl : k = s.size := by omega
      by_cases h1 : s.size < 1
      · have H := hid (name_short s h1)
        have h1' : ¬ (1 : Int) ≤ s.size := by omega
        go_wp2
        go_ret
        exact ⟨(by rw [H.out]; rfl), rfl⟩
      by_cases h2 : 40 < s.size
      · have H := hid (name_long s h2)
        have h1' : (1 : Int) ≤ s.size := by omega
        have h2' : ¬ (s.size : Int) ≤ 40 := by omega
        go_wp2
        go_ret
        exact ⟨(by rw [H.out]; rfl), rfl⟩
      have H := hid (name_full s (by omega) (by omega) HA.out)
      have h1' : (1 : Int) ≤ s.size := by omega
      have h2' : (s.size : Int) ≤ 40 := by omega
      go_wp2
      go_ret
      exact ⟨(by rw [H.out]; rfl), rfl⟩
end
/-! XNb -/
section
open Go.RowKit Go.Lib
/-- Bytes that lie at a place of a block, or none. -/
def RdG (w : World) (v : Value) (xs : List Int) : Prop :=
  (∀ x ∈ xs, 0 ≤ x ∧ x < 256) ∧ ((v = .slice none 0 0 ∧ xs = []) ∨ ∃ g off cap, v = .slice (some ⟨g, off, none⟩) xs.length cap ∧ xs.length ≤ cap ∧ cap ≤ maxLen ∧ ∀ i, i < xs.length → w.cell? ⟨g, off + i, none⟩ = some (.int .u8 (xs.getD i 0)))
theorem RdG.reads {w : World} {v : Value} {xs : List Int} (h : RdG w v xs) : Reads w v xs := by
  refine ⟨h.1, ?_⟩
  rcases h.2 with h1 | ⟨g, off, cap, rfl, h1, h2, h3⟩
  · exact .inl h1
  · exact .inr ⟨⟨g, off, none⟩, cap, rfl, h1, h2, fun i hi => by rw [addr_add]; exact h3 i hi⟩
theorem _root_.Go.Proofs.YtaanpnmgibcemaaGreatDoor.OwnB.rdg {w : World} {v : Value} {xs : List Int} (h : OwnB w v xs) : RdG w v xs := by
  refine ⟨h.1, ?_⟩
  rcases h.2.2 with ⟨rfl, e⟩ | ⟨g, cap, cur, rfl, hg, hh, h1, h2, h3, h4⟩
  · exact .inl ⟨rfl, List.length_eq_zero_iff.1 e⟩
  · exact .inr ⟨g, 0, cap, rfl, h1, h2, fun i hi => by rw [Nat.zero_add]; exact OwnB.at h i hi⟩
theorem RdG.moved {w w' : World} {v : Value} {xs : List Int} {S S' : List Nat} (h : RdG w v xs) (m : Moved w w' S S') (hk : ∀ k ∈ blkV v, k ∉ S) : RdG w' v xs := by
  refine ⟨h.1, ?_⟩
  rcases h.2 with h1 | ⟨g, off, cap, rfl, h1, h2, h3⟩
  · exact .inl h1
  · exact .inr ⟨g, off, cap, rfl, h1, h2, fun i hi => cell_moved m (h3 i hi) (hk g (by simp [blkV, Value.ownBlock]))⟩
theorem RdG.step {w w' : World} {v : Value} {xs : List Int} (h : RdG w v xs) (hb : Below w.heap.size w w') : RdG w' v xs := h.moved (Moved.below hb []) (fun _ _ q => by cases q)
theorem RdG.slice {w : World} {v : Value} {xs : List Int} (h : RdG w v xs) : ∃ x c, v = .slice x xs.length c := by
  rcases h.2 with ⟨rfl, rfl⟩ | ⟨g, off, cap, rfl, h1, h2, h3⟩
  · exact ⟨_, _, rfl⟩
  · exact ⟨_, _, rfl⟩
/-- Bytes in a row that is not empty. -/
theorem RdG.row {w : World} {v : Value} {xs : List Int} (h : RdG w v xs) (hx : xs ≠ []) : ∃ g off cap, v = .slice (some ⟨g, off, none⟩) xs.length cap ∧ xs.length ≤ cap ∧ cap ≤ maxLen ∧ ∀ i, i < xs.length → w.cell? ⟨g, off + i, none⟩ = some (.int .u8 (xs.getD i 0)) := by
  rcases h.2 with ⟨_, e⟩ | h
  · exact absurd e hx
  · exact h
/-- Strictly rising, none above four. -/
def risesL (xs : List Int) : Bool := decide (∀ i, i < xs.length → xs.getD i 0 ≤ 4 ∧ (0 < i → xs.getD (i - 1) 0 < xs.getD i 0))
theorem rises_fall {xs : List Int} (i : Nat) (hi : i < xs.length) (h : ¬ (xs.getD i 0 ≤ 4 ∧ (0 < i → xs.getD (i - 1) 0 < xs.getD i 0))) : risesL xs = false := decide_eq_false fun q => h (q i hi)
theorem getD_byte {xs : List Int} (h : ∀ x ∈ xs, 0 ≤ x ∧ x < 256) (i : Nat) (hi : i < xs.length) : 0 ≤ xs.getD i 0 ∧ xs.getD i 0 < 256 := by
  rw [List.getD, List.getElem?_eq_getElem hi]
  exact h _ (List.getElem_mem hi)
set_option maxRecDepth 100000 in
set_option maxHeartbeats 2000000 in
theorem areFunctions_any (v : Value) (xs : List Int) (w : World) (h : RdG w v xs) (hl : xs.length ≤ 1000) : Calls Tryz.prog 76 #[v] w fun e w' => e = .returned (.bool (risesL xs)) ∧ w = w' := by
  by_cases hx : xs = []
  · subst hx
    obtain ⟨x, c, rfl⟩ := h.slice
    clear h
    go_enter Tryz.func76, Tryz.ntmps76
    go_wp2
    go_loop [7] (fun i => i = .int .i64 0) (fun _ => 0)
    case atStart => rfl
    case round =>
      obtain rfl := hrel
      go_wp2
      go_ret
      exact ⟨rfl, rfl⟩
  obtain ⟨g, off, cap, rfl, h1, h2, h3⟩ := h.row hx
  have HC := hid h3
  have HBY := hid (getD_byte h.1)
  obtain ⟨n, hn⟩ : ∃ n, n = xs.length := ⟨_, rfl⟩
  have HN := hid hn
  rw [← hn] at hl ⊢
  clear h h3 hx h1 h2 hn
  go_enter Tryz.func76, Tryz.ntmps76
  go_wp2
  go_loop [7] (fun i => ∃ k : Nat, k ≤ n ∧ i = .int .i64 k ∧ Hid (∀ i, i < k → xs.getD i 0 ≤ 4 ∧ (0 < i → xs.getD (i - 1) 0 < xs.getD i 0))) (fun i => n - (intOf i).toNat)
  case atStart => exact ⟨0, Nat.zero_le _, rfl, fun i h => absurd h (by omega)⟩
  case round =>
    obtain ⟨k, hk, rfl, HA⟩ := hrel
    by_cases hlt : k < n
    · have c0 := HC.out k (by rw [← HN.out]; exact hlt)
      obtain ⟨b0, b1⟩ := HBY.out k (by rw [← HN.out]; exact hlt)
      have hki : (k : Int) < n := by omega
      by_cases h4 : (4 : Int) < xs.getD k 0
      · have H := hid (rises_fall k (by rw [← HN.out]; exact hlt) (fun q => by omega))
        generalize xs.getD k 0 = z at *
        go_wp2
        go_ret
        exact ⟨(by rw [H.out]; rfl), rfl⟩
      · by_cases hk0 : k = 0
        · subst hk0
          have H := hid (show ∀ i, i < 0 + 1 → xs.getD i 0 ≤ 4 ∧ (0 < i → xs.getD (i - 1) 0 < xs.getD i 0) from fun i hi => by
            obtain rfl : i = 0 := by omega
            exact ⟨by omega, fun h => absurd h (by omega)⟩)
          have hkk : ¬ (0 : Int) < ((0 : Nat) : Int) := by omega
          rw [Nat.add_zero] at c0
          generalize xs.getD 0 0 = z at c0 b0 b1 h4
          go_wp2
          go_round
          case rel => exact ⟨0 + 1, by omega, by go_num, H.out⟩
          case measure => simp [intOf]; omega
        · have c1 := HC.out (k - 1) (by rw [← HN.out]; omega)
          have hk1 : (0 : Int) < k := by omega
          have hkw : IntKind.i64.wrap ((k : Int) - 1) = (k : Int) - 1 := IntWalk.i64_in _ (by omega)
          have hkn : ((k : Int) - 1).toNat = k - 1 := by omega
          have hkp : (0 : Int) ≤ (k : Int) - 1 := by omega
          have hkq : (k : Int) - 1 < n := by omega
          by_cases hle : xs.getD k 0 ≤ xs.getD (k - 1) 0
          · have H := hid (rises_fall k (by rw [← HN.out]; exact hlt) (fun q => by have := q.2 (by omega); omega))
            generalize xs.getD k 0 = z at *
            generalize xs.getD (k - 1) 0 = y at *
            go_wp2
            go_ret
            exact ⟨(by rw [H.out]; rfl), rfl⟩
          · have H := hid (show ∀ i, i < k + 1 → xs.getD i 0 ≤ 4 ∧ (0 < i → xs.getD (i - 1) 0 < xs.getD i 0) from fun i hi => by
              by_cases hik : i < k
              · exact HA.out i hik
              · obtain rfl : i = k := by omega
                exact ⟨by omega, fun _ => by omega⟩)
            generalize xs.getD k 0 = z at c0 b0 b1 h4 hle
            generalize xs.getD (k - 1) 0 = y at c1 hle
            go_wp2
            go_round
            case rel => exact ⟨k + 1, by omega, by go_num, H.out⟩
            case measure => simp [intOf]; omega
    · obtain rfl : k = n := by omega
      have H := hid (show risesL xs = true from decide_eq_true (by rw [← HN.out]; exact HA.out))
      go_wp2
      go_ret
      exact ⟨(by rw [H.out]; rfl), rfl⟩
/-- The reference's look through a list. -/
theorem any_take_none {xs : List Int} {o : Int} (h : ∀ i, i < xs.length → xs.getD i 0 ≠ o) : xs.any (fun x => x == o) = false := any_none h
end
/-! XNc -/
section
open Go.RowKit Go.Lib
/-- Each once. -/
def onceL (xs : List Int) : Bool := decide xs.Nodup
theorem take_succD {xs : List Int} {k : Nat} (h : k < xs.length) : xs.take (k + 1) = xs.take k ++ [xs.getD k 0] := by
  rw [List.take_succ_eq_append_getElem h, List.getD, List.getElem?_eq_getElem h]
  rfl
theorem any_mem {xs : List Int} {x : Int} : (xs.any fun y => y == x) = true ↔ x ∈ xs := by
  rw [List.any_eq_true]
  exact ⟨fun ⟨y, h, e⟩ => by rw [← show y = x from by simpa using e]; exact h, fun h => ⟨x, h, by simp⟩⟩
theorem any_not {xs : List Int} {x : Int} : (xs.any fun y => y == x) = false ↔ x ∉ xs := by
  rw [← Bool.not_eq_true, any_mem]
theorem nodup_snoc {l : List Int} {x : Int} (h : l.Nodup) (hx : x ∉ l) : (l ++ [x]).Nodup := by
  rw [List.nodup_append]
  exact ⟨h, by simp, fun a ha b hb e => hx (by have : b = x := by simpa using hb
                                               rw [← this, ← e]; exact ha)⟩
theorem nodup_fall {xs : List Int} {k : Nat} (h : k < xs.length) (hx : xs.getD k 0 ∈ xs.take k) : onceL xs = false := decide_eq_false fun q => by
  have q2 : (xs.take (k + 1)).Nodup := List.Sublist.nodup (List.take_sublist _ _) q
  rw [take_succD h, List.nodup_append] at q2
  exact q2.2.2 _ hx _ (List.mem_singleton.2 rfl) rfl
/-- An array of 256 bools in memory. -/
structure ArrB (w : World) (b : Nat) (f : Nat → Bool) : Prop where
  c : ∀ i, i < 256 → w.cell? ⟨b, i, none⟩ = some (.bool (f i))
  fr : ∀ i, i < 256 → w.frozen? ⟨b, i, none⟩ = false
def zeroB : Array Value := (List.replicate 256 (Value.bool false)).toArray
theorem zeroB_at (i : Nat) (h : i < 256) : zeroB[i]? = some (.bool false) := by
  unfold zeroB
  rw [List.getElem?_toArray, List.getElem?_replicate, if_pos h]
theorem zero_arrayB : ∀ w, (zeroValue 144).run Tryz.prog w = .ok (.agg zeroB) w := (zero_of_info (n := 256) (by kernel_rfl)).1
theorem ArrB.new (w : World) (t : TypeId) : ArrB (w.alloc (.cells zeroB t)) w.heap.size (fun _ => false) :=
  ⟨fun i hi => by rw [World.cell?_alloc_new]; exact zeroB_at i hi, fun i hi => by simp [go_sem]⟩
theorem ArrB.set {w : World} {b : Nat} {xs : List Int} {k z : Nat} (h : ArrB w b (fun j => (xs.take k).any fun y => y == (j : Int))) (hk : k < xs.length) (hz : z < 256) (e : xs.getD k 0 = z) : ArrB (w.setCell ⟨b, z, none⟩ (.bool true)) b (fun j => (xs.take (k + 1)).any fun y => y == (j : Int)) := by
  refine ⟨fun i hi => ?_, fun i hi => by rw [World.frozen?_setCell]; exact h.fr i hi⟩
  rw [take_succD hk, e, List.any_append]
  by_cases hiz : i = z
  · subst hiz
    rw [World.cell?_setCell_same _ _ _ (h.c i hi)]
    simp
  · rw [World.cell?_setCell_other _ _ _ _ (fun q => hiz (by injection q with q1 q2; exact q2.symm)), h.c i hi]
    have : (((z : Int) == (i : Int)) : Bool) = false := by simp; omega
    simp [this]
set_option maxRecDepth 100000 in
set_option maxHeartbeats 2000000 in
theorem eachOnce_any (v : Value) (xs : List Int) (w : World) (h : RdG w v xs) (hl : xs.length ≤ 1000) : Calls Tryz.prog 148 #[v] w fun e w' => e = .returned (.bool (onceL xs)) ∧ Below w.heap.size w w' := by
  have hz := zero_arrayB
  by_cases hx : xs = []
  · subst hx
    obtain ⟨x, c, rfl⟩ := h.slice
    clear h
    go_enter Tryz.func148, Tryz.ntmps148
    go_wp2
    clear hz
    go_loop [8] (fun i => i = .int .i64 0) (fun _ => 0)
    case atStart => rfl
    case round =>
      obtain rfl := hrel
      go_wp2
      go_ret
      exact ⟨rfl, bal (Below.refl _ _) _⟩
  obtain ⟨g, off, cap, rfl, h1, h2, h3⟩ := h.row hx
  have HC := hid h3
  have HBY := hid (getD_byte h.1)
  obtain ⟨n, hn⟩ : ∃ n, n = xs.length := ⟨_, rfl⟩
  have HN := hid hn
  rw [← hn] at hl ⊢
  clear h h3 hx h1 h2 hn
  go_enter Tryz.func148, Tryz.ntmps148
  go_wp2
  have HA0 := hid (ArrB.new w 144)
  have HB0 := hid (bal (Below.refl w.heap.size w) (.cells zeroB 144))
  obtain ⟨b, hb⟩ : ∃ b, b = w.heap.size := ⟨_, rfl⟩
  rw [← hb] at HA0 ⊢
  have hbw : w.heap.size ≤ b := by omega
  clear hb hz
  generalize w.alloc (.cells zeroB 144) = W0 at *
  go_loopw [8] (fun i W => ∃ k : Nat, k ≤ n ∧ i = .int .i64 k ∧ Hid (ArrB W b (fun j => (xs.take k).any fun y => y == (j : Int))) ∧ Hid ((xs.take k).Nodup) ∧ Hid (Below w.heap.size w W)) (fun i _ => n - (intOf i).toNat)
  case atStart => exact ⟨0, Nat.zero_le _, rfl, HA0.out, hid (by simp), HB0.out⟩
  case round =>
    obtain ⟨k, hk, rfl, HA, HD, HB⟩ := hrel
    clear HA0 HB0
    by_cases hlt : k < n
    · have hlx : k < xs.length := by rw [← HN.out]; exact hlt
      have c0 := keepc HB.out (HC.out k hlx)
      obtain ⟨b0, b1⟩ := HBY.out k hlx
      have hki : (k : Int) < n := by omega
      obtain ⟨z, hz⟩ : ∃ z : Nat, xs.getD k 0 = z := ⟨(xs.getD k 0).toNat, by omega⟩
      rw [hz] at c0 b0 b1
      have hz256 : z < 256 := by omega
      have cz := HA.out.c z hz256
      have fz := HA.out.fr z hz256
      have HZ := hid hz
      clear hz
      cases hin : ((xs.take k).any fun y => y == (z : Int))
      · rw [hin] at cz
        have HD2 := hid (show (xs.take (k + 1)).Nodup by
          rw [take_succD hlx, HZ.out]
          exact nodup_snoc HD.out (any_not.1 hin))
        have HA2 := hid (HA.out.set hlx hz256 HZ.out)
        have HB2 := hid (HB.out.setCell (p := ⟨b, z, none⟩) (by exact hbw) (.bool true))
        clear hin
        go_wp2
        go_roundw
        case rel => exact ⟨k + 1, by omega, by go_num, HA2.out, HD2.out, HB2.out⟩
        case measure => simp [intOf]; omega
      · rw [hin] at cz
        have H := hid (nodup_fall hlx (by rw [HZ.out]; exact any_mem.1 hin))
        clear hin
        go_wp2
        go_ret
        exact ⟨(by rw [H.out]; rfl), HB.out⟩
    · obtain rfl : k = n := by omega
      have H := hid (show onceL xs = true from decide_eq_true (by have := HD.out; rw [HN.out, List.take_length] at this; exact this))
      go_wp2
      go_ret
      exact ⟨(by rw [H.out]; rfl), HB.out⟩
/-- Where the first 1 stands. -/
def at1 (xs : List Int) : Nat := xs.findIdx fun x => x == 1
theorem at1_le (xs : List Int) : at1 xs ≤ xs.length := List.findIdx_le_length
theorem byte_one {x : Int} (h : 0 ≤ x ∧ x < 256) : (UInt8.ofNat x.toNat == 1) = (x == 1) := by
  obtain ⟨n, rfl⟩ : ∃ n : Nat, x = n := ⟨x.toNat, by omega⟩
  have hn : n < 256 := by omega
  rw [Bool.eq_iff_iff]
  simp only [beq_iff_eq, Int.toNat_natCast]
  constructor
  · intro e
    have := congrArg UInt8.toNat e
    rw [UInt8.toNat_ofNat_of_lt' (by simpa using hn)] at this
    have h1 : (1 : UInt8).toNat = 1 := rfl
    omega
  · intro e
    have : n = 1 := by omega
    subst this
    rfl
theorem index1 : ∀ {xs : List Int}, (∀ x ∈ xs, 0 ≤ x ∧ x < 256) → Lib.indexByte (Lib.bytesOf xs) (1 : Int).toNat.toUInt8 = if at1 xs < xs.length then (at1 xs : Int) else -1
  | [], _ => rfl
  | x :: xs, h => by
    have ih := index1 (xs := xs) (fun y hy => h y (List.mem_cons_of_mem _ hy))
    have hx := byte_one (h x (by simp))
    have e1 : (1 : Int).toNat.toUInt8 = 1 := rfl
    rw [e1] at ih ⊢
    unfold at1 at ih ⊢
    rw [show Lib.bytesOf (x :: xs) = UInt8.ofNat x.toNat :: Lib.bytesOf xs from rfl]
    unfold Lib.indexByte
    rw [List.findIdx_cons]
    cases hq : (x == 1)
    · rw [hq] at hx
      rw [if_neg (by rw [hx]; exact Bool.false_ne_true), ih, cond_false, List.length_cons]
      by_cases hl : List.findIdx (fun x => x == 1) xs < xs.length
      · rw [if_pos hl, if_pos (show List.findIdx (fun x => x == 1) xs + 1 < xs.length + 1 by omega), if_neg (by simp)]
        omega
      · rw [if_neg hl, if_neg (show ¬ List.findIdx (fun x => x == 1) xs + 1 < xs.length + 1 by omega), if_pos (by rfl)]
    · rw [hq] at hx
      rw [if_pos hx, cond_true, if_pos (by simp)]
      rfl
end
/-! XNd -/
section
open Go.RowKit Go.Lib
/-- A string's bytes. -/
def strL (s : ByteArray) : List Int := s.data.toList.map fun b => (b.toNat : Int)
theorem strL_length (s : ByteArray) : (strL s).length = s.size := by
  unfold strL
  rw [List.length_map, Array.length_toList]
  rfl
theorem strL_cells (s : ByteArray) : strCells s = (strL s).map (Value.int .u8) := by
  unfold strL strCells
  rw [List.map_map]
  rfl
theorem strL_byte (s : ByteArray) : ∀ x ∈ strL s, 0 ≤ x ∧ x < 256 := fun x hx => by
  unfold strL at hx
  obtain ⟨b, _, rfl⟩ := List.mem_map.1 hx
  have := b.toNat_lt
  omega
/-- Bytes of one's own, made since a world. -/
def Fresh (w0 w : World) (v : Value) (xs : List Int) : Prop := OwnB w v xs ∧ Below w0.heap.size w0 w ∧ ∀ k ∈ blkV v, w0.heap.size ≤ k
theorem Fresh.owns {w0 w : World} {v : Value} {xs : List Int} (h : Fresh w0 w v xs) : w.ownsRow w0.heap.size 5 1 v xs.length (xs.map (Value.int .u8)) := by
  refine ⟨h.1.2.1, ?_⟩
  rcases h.1.2.2 with h1 | ⟨g, cap, cur, rfl, hg, rest⟩
  · exact .inl h1
  · exact .inr ⟨g, cap, cur, rfl, h.2.2 g (by simp [blkV, Value.ownBlock]), rest⟩
theorem Fresh.lit (w : World) (cs : Array Value) (n : Nat) (xs : List Int) (hb : ∀ x ∈ xs, 0 ≤ x ∧ x < 256) (hc : cs.toList = xs.map (Value.int .u8)) (hn : n = xs.length) (hl : n ≤ 1000) (b : Nat) (hbk : b = w.heap.size) : Fresh w (w.alloc (.cells cs 5)) (.slice (some ⟨b, 0, none⟩) n n) xs :=
  ⟨own_lit w cs n xs hb hc hn hl b hbk, bal (Below.refl _ _) _, blk_lit w b n n (by omega)⟩
theorem Fresh.step {w0 w w' : World} {v : Value} {xs : List Int} (h : Fresh w0 w v xs) (hb : Below w.heap.size w w') : Fresh w0 w' v xs := ⟨h.1.step hb, below_t h.2.1 hb, h.2.2⟩
theorem Fresh.since {w0 w1 w : World} {v : Value} {xs : List Int} (h : Fresh w1 w v xs) (hb : Below w0.heap.size w0 w1) : Fresh w0 w v xs := ⟨h.1, below_t hb h.2.1, fun k hk => Nat.le_trans hb.size (h.2.2 k hk)⟩
theorem Fresh.slice {w0 w : World} {v : Value} {xs : List Int} (h : Fresh w0 w v xs) : ∃ x c, v = .slice x xs.length c := own_len h.1 _ rfl
theorem Fresh.done {w0 w : World} {v : Value} {xs : List Int} (h : Fresh w0 w v xs) : OwnDone xs w0 (.returned v) w := ⟨v, rfl, h.1, h.2.1, h.2.2⟩
section
variable {w0 w : World} {v : Value} {xs : List Int}
theorem fresh_grown {w' : World} {v' : Value} {ys : List Int} (h : Fresh w0 w v xs) (hy : ∀ y ∈ ys, 0 ≤ y ∧ y < 256) (hown : w'.ownsRow w0.heap.size 5 1 v' (xs.length + ys.length) (xs.map (Value.int .u8) ++ ys.map (Value.int .u8))) (hg : w.grownBy w' v.ownBlock) : Fresh w0 w' v' (xs ++ ys) := by
  refine ⟨⟨fun x hx => ?_, ?_⟩, h.2.1.grown hg h.2.1.size (fun k hk => h.2.2 k (mem_blkV.2 hk)), fun k hk => (hown.lt k (mem_blkV.1 hk)).1⟩
  · rcases List.mem_append.1 hx with h1 | h1
    · exact h.1.1 x h1
    · exact hy x h1
  · rw [List.length_append, List.map_append]
    exact hown.mono (Nat.zero_le _)
/-- A string's bytes behind. -/
theorem wpList_append_str {ops : Array Oper} {rest : List Oper} {o : Oper} {a : Act} {Q : Exit → Act → World → Prop} (hgd : o.guard = none) (sl x : Operand)
    (ho : o.op = .call { callee := .builtin .append, args := #[sl, x], argTypes := #[22, 9] }) (hs : a.eval sl = v) (hF : Fresh w0 w v xs) (s : ByteArray) (hx : a.eval x = .string s)
    (hl : xs.length + s.size ≤ 1000000) (h : ∀ x' c' w', Fresh w0 w' (.slice x' (xs.length + s.size) c') (xs ++ strL s) → wpList Tryz.prog ops Q rest (a.put o.dst (.slice x' (xs.length + s.size) c')) w') : wpList Tryz.prog ops Q (o :: rest) a w := by
  obtain ⟨i0, hi, hz0, hz1, hz2⟩ := info_parts info5
  refine wpList_append_own_string w hgd sl x 22 9 ho w0.heap.size 5 i0 Tryz.underlying22 Tryz.underlying9 hi hz0 hz1 hz2 v xs.length _ hs hF.owns s hx (by unfold maxLen; omega) (by omega) hF.2.1.size ?_
  intro v' w' hown hg _
  rw [strL_cells] at hown
  have hF' := fresh_grown hF (strL_byte s) (by rw [strL_length]; exact hown) hg
  obtain ⟨x', c', e⟩ := hF'.slice
  rw [List.length_append, strL_length] at e
  subst e
  exact h x' c' w' hF'
/-- Bytes behind. -/
theorem wpList_append_rd {ops : Array Oper} {rest : List Oper} {o : Oper} {a : Act} {Q : Exit → Act → World → Prop} (hgd : o.guard = none) (sl x : Operand)
    (ho : o.op = .call { callee := .builtin .append, args := #[sl, x], argTypes := #[22, 22] }) (hs : a.eval sl = v) (hF : Fresh w0 w v xs) (y : Value) (ys : List Int) (hx : a.eval x = y) (hr : Reads w y ys)
    (hl : xs.length + ys.length ≤ 1000000) (h : ∀ x' c' w', Fresh w0 w' (.slice x' (xs.length + ys.length) c') (xs ++ ys) → wpList Tryz.prog ops Q rest (a.put o.dst (.slice x' (xs.length + ys.length) c')) w') : wpList Tryz.prog ops Q (o :: rest) a w := by
  obtain ⟨i0, hi, hz0, hz1, hz2⟩ := info_parts info5
  have hr' := hr
  rcases hr.2 with ⟨rfl, rfl⟩ | ⟨b, cap, rfl, h1, h2, h3⟩
  · refine wpList_append_own_none hgd sl x 22 ho w0.heap.size 5 i0 1 Tryz.underlying22 hi v xs.length _ hs hF.owns hx ?_
    obtain ⟨x', c', e⟩ := hF.slice
    subst e
    have := h x' c' w
    simp only [List.length_nil, Nat.add_zero, List.append_nil] at this
    exact this hF
  · refine wpList_append_own w hgd sl x 22 ho w0.heap.size 5 i0 (.int .u8 0) 1 1 Tryz.underlying22 hi hz0 hz1 hz2 rfl (by decide) v xs.length _ hs hF.owns b ys.length cap (ys.map (Value.int .u8)) hx (by simp) (reads_src hr').2 (ints_oneCell .u8 _) (by unfold maxLen; omega) (by omega) hF.2.1.size ?_
    intro v' w' hown hg _
    have hF' := fresh_grown hF hr'.1 hown hg
    obtain ⟨x', c', e⟩ := hF'.slice
    rw [List.length_append] at e
    subst e
    exact h x' c' w' hF'
end
/-- A terminal's end in memory (the program's, or the reference's: both have the same cells). -/
structure EndM (w : World) (g : Nat) (sv av : Value) (T D : ByteArray) (fs : List Int) (st : Int) (dev : ByteArray) (ag : List Int) : Prop where
  c0 : w.cell? ⟨g, 0, none⟩ = some (.string T)
  c1 : w.cell? ⟨g, 1, none⟩ = some (.string D)
  c2 : w.cell? ⟨g, 2, none⟩ = some sv
  c3 : w.cell? ⟨g, 3, none⟩ = some (.int .i64 st)
  c4 : w.cell? ⟨g, 4, none⟩ = some (.string dev)
  c5 : w.cell? ⟨g, 5, none⟩ = some av
  fr : ∀ i, i < 6 → w.frozen? ⟨g, i, none⟩ = false
  rs : OwnB w sv fs
  ra : OwnB w av ag
  ns : g ∉ blkV sv
  na : g ∉ blkV av
section
variable {w : World} {g : Nat} {sv av : Value} {T D : ByteArray} {fs : List Int} {st : Int} {dev : ByteArray} {ag : List Int}
theorem EndM.lt (h : EndM w g sv av T D fs st dev ag) : g < w.heap.size := World.block_lt_of_cell? w _ h.c0
theorem frozen_moved {w w' : World} {S S' : List Nat} (m : Moved w w' S S') {a : Addr} (hl : a.block < w.heap.size) (hs : a.block ∉ S) : w'.frozen? a = w.frozen? a := World.frozen?_of_block (m.block _ hl hs)
theorem EndM.moved {w' : World} {S S' : List Nat} (h : EndM w g sv av T D fs st dev ag) (m : Moved w w' S S') (hg : g ∉ S) (hs : ∀ k ∈ blkV sv, k ∉ S) (ha : ∀ k ∈ blkV av, k ∉ S) : EndM w' g sv av T D fs st dev ag :=
  ⟨cell_moved m h.c0 hg, cell_moved m h.c1 hg, cell_moved m h.c2 hg, cell_moved m h.c3 hg, cell_moved m h.c4 hg, cell_moved m h.c5 hg, fun i hi => (frozen_moved m (a := ⟨g, i, none⟩) h.lt hg).trans (h.fr i hi), h.rs.moved m hs, h.ra.moved m ha, h.ns, h.na⟩
theorem EndM.step {w' : World} (h : EndM w g sv av T D fs st dev ag) (hb : Below w.heap.size w w') : EndM w' g sv av T D fs st dev ag := h.moved (Moved.below hb []) (fun q => by cases q) (fun _ _ q => by cases q) (fun _ _ q => by cases q)
theorem set_other {i j : Nat} (hij : j ≠ i) {u x : Value} (c : w.cell? ⟨g, j, none⟩ = some u) : (w.setCell ⟨g, i, none⟩ x).cell? ⟨g, j, none⟩ = some u := by
  rw [World.cell?_setCell_other _ _ _ _ (fun q => by injection q; omega)]
  exact c
theorem set_moved (w : World) (g i : Nat) (x : Value) : Moved w (w.setCell ⟨g, i, none⟩ x) [g] [g] := Moved.set (by simp) i x
theorem EndM.set3 (h : EndM w g sv av T D fs st dev ag) (s' : Int) : EndM (w.setCell ⟨g, 3, none⟩ (.int .i64 s')) g sv av T D fs s' dev ag :=
  ⟨set_other (by omega) h.c0, set_other (by omega) h.c1, set_other (by omega) h.c2, World.cell?_setCell_same _ _ _ h.c3, set_other (by omega) h.c4, set_other (by omega) h.c5, fun i hi => by rw [World.frozen?_setCell]; exact h.fr i hi,
    h.rs.moved (set_moved w g 3 _) (fun k hk q => h.ns (by rw [← List.mem_singleton.1 q]; exact hk)), h.ra.moved (set_moved w g 3 _) (fun k hk q => h.na (by rw [← List.mem_singleton.1 q]; exact hk)), h.ns, h.na⟩
theorem EndM.set4 (h : EndM w g sv av T D fs st dev ag) (d' : ByteArray) : EndM (w.setCell ⟨g, 4, none⟩ (.string d')) g sv av T D fs st d' ag :=
  ⟨set_other (by omega) h.c0, set_other (by omega) h.c1, set_other (by omega) h.c2, set_other (by omega) h.c3, World.cell?_setCell_same _ _ _ h.c4, set_other (by omega) h.c5, fun i hi => by rw [World.frozen?_setCell]; exact h.fr i hi,
    h.rs.moved (set_moved w g 4 _) (fun k hk q => h.ns (by rw [← List.mem_singleton.1 q]; exact hk)), h.ra.moved (set_moved w g 4 _) (fun k hk q => h.na (by rw [← List.mem_singleton.1 q]; exact hk)), h.ns, h.na⟩
theorem EndM.set5 {av' : Value} {ag' : List Int} (h : EndM w g sv av T D fs st dev ag) (ho : OwnB w av' ag') (hn : g ∉ blkV av') : EndM (w.setCell ⟨g, 5, none⟩ av') g sv av' T D fs st dev ag' :=
  ⟨set_other (by omega) h.c0, set_other (by omega) h.c1, set_other (by omega) h.c2, set_other (by omega) h.c3, set_other (by omega) h.c4, World.cell?_setCell_same _ _ _ h.c5, fun i hi => by rw [World.frozen?_setCell]; exact h.fr i hi,
    h.rs.moved (set_moved w g 5 _) (fun k hk q => h.ns (by rw [← List.mem_singleton.1 q]; exact hk)), ho.moved (set_moved w g 5 _) (fun k hk q => hn (by rw [← List.mem_singleton.1 q]; exact hk)), h.ns, hn⟩
theorem EndM.set5n (h : EndM w g sv av T D fs st dev ag) : EndM (w.setCell ⟨g, 5, none⟩ (.slice none 0 0)) g sv (.slice none 0 0) T D fs st dev [] := h.set5 (OwnB.nil w) (fun q => by cases q)
end
end
/-! XNe -/
section
open Go.RowKit Go.Lib
/-- Where the first 1 stands, or -1. -/
def ix1 (xs : List Int) : Int := if at1 xs < xs.length then (at1 xs : Int) else -1
set_option maxHeartbeats 1000000 in
set_option maxRecDepth 100000 in
theorem indexByte_any (v : Value) (xs : List Int) (w : World) (h : RdG w v xs) : Calls Tryz.prog 120 #[v, .int .u8 1] w fun e w' => e = .returned (.int .i64 (ix1 xs)) ∧ w = w' := by
  rcases h.2 with ⟨rfl, rfl⟩ | ⟨g, off, cap, rfl, h1, h2, h3⟩
  · clear h
    go_enter Tryz.func120, Tryz.ntmps120
    go_wp2
    rw [run_callFunc_extern Tryz.func138 (by kernel_rfl) (by kernel_rfl) (by kernel_rfl) (e := Extern.BytealgIndexByte.indexByte) (by kernel_rfl), Lib.run_indexByteNil w 0 0 1]
    simp only [Result.andThen]
    rw [Oper.upon_value]
    go_wp2
    go_ret
    exact ⟨rfl, rfl⟩
  · have H := hid (index1 h.1)
    have HC := hid h3
    clear h h3
    go_enter Tryz.func120, Tryz.ntmps120
    go_wp2
    rw [run_callFunc_extern Tryz.func138 (by kernel_rfl) (by kernel_rfl) (by kernel_rfl) (e := Extern.BytealgIndexByte.indexByte) (by kernel_rfl), Lib.run_indexByteSlice w g off xs.length cap xs rfl HC.out 1]
    simp only [Result.andThen]
    rw [Oper.upon_value]
    rw [H.out]
    rw [show (if at1 xs < xs.length then (at1 xs : Int) else -1) = ix1 xs from rfl]
    go_wp2
    go_ret
    exact ⟨rfl, rfl⟩
set_option maxHeartbeats 1000000 in
set_option maxRecDepth 100000 in
theorem index_one (v : Value) (xs : List Int) (b : Nat) (w : World) (h : RdG w v xs) (hc : w.cell? ⟨b, 0, none⟩ = some (.int .u8 1)) : Calls Tryz.prog 104 #[v, .slice (some ⟨b, 0, none⟩) 1 1] w fun e w' => e = .returned (.int .i64 (ix1 xs)) ∧ w = w' := by
  have H := hid (indexByte_any v xs w h)
  obtain ⟨x, c, rfl⟩ := h.slice
  clear h
  go_enter Tryz.func104, Tryz.ntmps104
  go_wp2_with fail
  with_reducible refine H.out.mono ?_
  rintro e w' ⟨rfl, rfl⟩
  go_wp2
  go_ret
  exact ⟨rfl, rfl⟩
theorem RdG.take {w : World} {x : Option Addr} {n c : Nat} {xs : List Int} (h : RdG w (.slice x n c) xs) (hn : n = xs.length) (k : Nat) (hk : k ≤ n) : RdG w (.slice x k c) (xs.take k) := by
  refine ⟨fun y hy => h.1 y (List.mem_of_mem_take hy), ?_⟩
  rcases h.2 with ⟨e, rfl⟩ | ⟨g, off, cap, e, h1, h2, h3⟩
  · cases e
    obtain rfl : k = 0 := by simpa using hk
    exact .inl ⟨rfl, rfl⟩
  · cases e
    have hlen : (xs.take k).length = k := by rw [List.length_take]; omega
    refine .inr ⟨g, off, c, by rw [hlen], by omega, h2, fun i hi => ?_⟩
    rw [hlen] at hi
    rw [h3 i (by omega), List.getD, List.getD, List.getElem?_take, if_pos hi]
/-- What stands from a place on, as the model slices it. -/
def fromA (x : Option Addr) (c k : Nat) : Option Addr := if c = k then x else x.map fun a => a.add k
theorem RdG.from' {w : World} {x : Option Addr} {n c : Nat} {xs : List Int} (h : RdG w (.slice x n c) xs) (hn : n = xs.length) (k : Nat) (hk : k ≤ n) : RdG w (.slice (fromA x c k) (n - k) (c - k)) (xs.drop k) := by
  refine ⟨fun y hy => h.1 y (List.mem_of_mem_drop hy), ?_⟩
  rcases h.2 with ⟨e, rfl⟩ | ⟨g, off, cap, e, h1, h2, h3⟩
  · cases e
    obtain rfl : k = 0 := by simpa using hk
    exact .inl ⟨rfl, rfl⟩
  · cases e
    have hlen : (xs.drop k).length = xs.length - k := List.length_drop
    unfold fromA
    by_cases hc : c = k
    · rw [if_pos hc]
      refine .inr ⟨g, off, c - k, by rw [hlen], by omega, by omega, fun i hi => ?_⟩
      rw [hlen] at hi
      omega
    · rw [if_neg hc]
      refine .inr ⟨g, off + k, c - k, by rw [hlen, Option.map_some, addr_add], by omega, by omega, fun i hi => ?_⟩
      rw [hlen] at hi
      rw [Nat.add_assoc, h3 (k + i) (by omega), List.getD, List.getD, List.getElem?_drop]
theorem blk_from {x : Option Addr} {n c k m d : Nat} : ∀ b ∈ blkV (.slice (fromA x c k) m d), b ∈ blkV (.slice x n c) := fun b hb => by
  unfold fromA at hb
  split at hb
  · cases x with
    | none => cases hb
    | some a => simpa [blkV, Value.ownBlock] using hb
  · cases x with
    | none => cases hb
    | some a =>
      have e : (a.add k).block = a.block := by unfold Addr.add; split <;> rfl
      simpa [blkV, Value.ownBlock, e] using hb
theorem run_fromA (x : Option Addr) (n c k : Nat) (hk : k ≤ n) (hx : x = none → k = 0 ∧ c = 0) (w : World) : (Instr.sliceAt 22 (.slice x n c) (some (.int .i64 k)) none none).run Tryz.prog w = .ok (.slice (fromA x c k) (n - k) (c - k)) w := by
  have hk' : ¬ n < k := by omega
  unfold fromA
  cases x with
  | none =>
    obtain ⟨rfl, rfl⟩ := hx rfl
    simp [Instr.sliceAt, Instr.slice, run_underlying Tryz.underlying22, Instr.sliceBounds, Instr.sliceBound, asIntOf]
  | some a =>
    simp [Instr.sliceAt, Instr.slice, run_underlying Tryz.underlying22, Instr.sliceBounds, Instr.sliceBound, asIntOf, hk]
    (try split <;> rfl)
theorem add_zero' (a : Addr) : a.add 0 = a := by
  obtain ⟨g, off, spot⟩ := a
  unfold Addr.add
  split <;> simp_all
theorem run_toA (x : Option Addr) (n c k : Nat) (hk : k ≤ n) (hc : n ≤ c) (w : World) : (Instr.sliceAt 22 (.slice x n c) none (some (.int .i64 k)) none).run Tryz.prog w = .ok (.slice x k c) w := by
  have hk' : k ≤ c := by omega
  cases x <;> simp [Instr.sliceAt, Instr.slice, run_underlying Tryz.underlying22, Instr.sliceBounds, Instr.sliceBound, asIntOf, hk', add_zero']
end
/-! XNf -/
section
open Go.RowKit Go.Lib
/-- Cut in two. -/
def CutD (x : Option Addr) (n c k : Nat) (w : World) (e : Ending) (w' : World) : Prop := e = .returned (.tuple #[.slice x k c, .slice (fromA x c (k + 1)) (n - (k + 1)) (c - (k + 1)), .bool true]) ∧ Below w.heap.size w w'
theorem RdG.none' {w : World} {n c : Nat} {xs : List Int} (h : RdG w (.slice none n c) xs) : n = 0 ∧ c = 0 ∧ xs = [] := by
  rcases h.2 with ⟨e, rfl⟩ | ⟨g, off, cap, e, h1, h2, h3⟩
  · cases e
    exact ⟨rfl, rfl, rfl⟩
  · cases e
theorem RdG.cap {w : World} {x : Option Addr} {n c : Nat} {xs : List Int} (h : RdG w (.slice x n c) xs) : n ≤ c ∧ c ≤ maxLen := by
  rcases h.2 with ⟨e, rfl⟩ | ⟨g, off, cap, e, h1, h2, h3⟩
  · cases e
    exact ⟨Nat.le_refl _, Nat.zero_le _⟩
  · cases e
    exact ⟨h1, h2⟩
set_option maxHeartbeats 1000000 in
set_option maxRecDepth 100000 in
theorem cut_found (x : Option Addr) (n c k : Nat) (xs : List Int) (b : Nat) (w : World) (h : RdG w (.slice x n c) xs) (hn : n = xs.length) (hk : k = at1 xs) (hf : k < n) (hl : n ≤ 1000000) (hc : w.cell? ⟨b, 0, none⟩ = some (.int .u8 1)) : Calls Tryz.prog 151 #[.slice x n c, .slice (some ⟨b, 0, none⟩) 1 1] w (CutD x n c k w) := by
  have H := hid (index_one _ xs b w h hc)
  have e : ix1 xs = (k : Int) := by unfold ix1; rw [← hk, if_pos (by omega)]
  rw [e] at H
  have hx0 : x ≠ none := fun q => by subst q; have := h.none'; omega
  have hcap := h.cap
  have h1 := run_toA x n c k (by omega) hcap.1
  have h2 : ∀ w, (Instr.sliceAt 22 (.slice x n c) (some (.int .i64 ((k : Int) + 1))) none none).run Tryz.prog w = .ok (.slice (fromA x c (k + 1)) (n - (k + 1)) (c - (k + 1))) w := fun w => by
    rw [show ((k : Int) + 1) = ((k + 1 : Nat) : Int) by omega]
    exact run_fromA x n c (k + 1) (by omega) (fun q => absurd q hx0) w
  have hw : IntKind.i64.wrap ((k : Int) + 1) = (k : Int) + 1 := IntWalk.i64_in _ (by omega)
  have hkp : (0 : Int) ≤ k := by omega
  unfold CutD
  generalize fromA x c (k + 1) = y at *
  clear h e hn hk hcap hc
  go_enter Tryz.func151, Tryz.ntmps151
  go_wp2_with fail
  with_reducible refine H.out.mono ?_
  rintro e w' ⟨rfl, rfl⟩
  go_wp2
  go_region_held3 (fun w' => True) (first | exact trivial | fail) (first | fail)
  go_wp2
  go_ret3
  exact ⟨rfl, (Below.refl _ _).drew⟩
set_option maxHeartbeats 1000000 in
set_option maxRecDepth 100000 in
theorem cut_none (x : Option Addr) (n c : Nat) (xs : List Int) (b : Nat) (w : World) (h : RdG w (.slice x n c) xs) (hn : n = xs.length) (hf : ¬ at1 xs < n) (hc : w.cell? ⟨b, 0, none⟩ = some (.int .u8 1)) : Calls Tryz.prog 151 #[.slice x n c, .slice (some ⟨b, 0, none⟩) 1 1] w fun e w' => e = .returned (.tuple #[.slice x n c, .slice none 0 0, .bool false]) ∧ w = w' := by
  have H := hid (index_one _ xs b w h hc)
  have e : ix1 xs = -1 := by unfold ix1; rw [if_neg (by omega)]
  rw [e] at H
  clear h e hn hf hc
  go_enter Tryz.func151, Tryz.ntmps151
  go_wp2_with fail
  with_reducible refine H.out.mono ?_
  rintro e w' ⟨rfl, rfl⟩
  go_wp2
  go_ret3
  exact ⟨rfl, rfl⟩
end
end Go.Proofs.YtaanpnmgibcemaaGreatDoor.Ng
