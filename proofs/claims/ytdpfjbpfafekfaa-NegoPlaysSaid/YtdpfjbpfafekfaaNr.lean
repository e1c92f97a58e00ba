/-
  A terminal's end hears; it is made.
-/
import Derived.Test.YtdpfjbpfafekfaaNq
import Derived.Deep.RegionHeld3
namespace Go.Proofs.Ytdpfjbpfafekfaa
open Go.RowKit Go.Lib

set_option maxRecDepth 100000 in
set_option maxHeartbeats 2000000 in
theorem hearType_yes (g : Nat) (sv av : Value) (T D : ByteArray) (fs : List Int) (st : Int) (dev : ByteArray) (ag : List Int) (w : World) (h : EndM w g sv av T D fs st dev ag) (hT : T.size ≤ 1000) (y : Option Addr) (c : Nat) (hr : RdG w (.slice y 1 c) [1]) : Calls Try.prog 63 #[.pointer (some ⟨g, 0, none⟩), .slice y 1 c] w (HDone g sv T D fs st dev ag (0 :: strL T) 0 w) := by
  obtain ⟨g2, off, cap, e, h1, h2, h3⟩ := hr.row (by simp)
  cases e
  have c0 := h3 0 (by simp)
  rw [Nat.add_zero, show ([1] : List Int).getD 0 0 = 1 from rfl] at c0
  have t0 := h.c0
  have hgl := h.lt
  have hg2 : g2 < w.heap.size := World.block_lt_of_cell? w _ c0
  have HH := hid h
  have HF := hid (Fresh.lit w #[.int .u8 0] 1 [0] (fun q hq => by simp at hq; omega) rfl rfl (by omega) w.heap.size rfl)
  clear h hr h3 h1 h2
  go_enter Try.func63, Try.ntmps63
  go_wp2_with (first
    | (at_builtin; refine wpList_append_str rfl _ _ rfl rfl HF.out T rfl (by simp; omega) ?_; intro x' c' w' hF'; have HF' := hid hF'; clear hF'))
  go_ret2
  have hF := HF'.out
  exact ⟨_, _, rfl, hF.1, HH.out.step hF.2.1, Moved.below hF.2.1 _, (fun k hk => ⟨hF.2.2 k hk, fun q => by have h1 := HH.out.ra.lt k q; have h2 := hF.2.2 k hk; omega⟩), .inl HH.out.c5⟩
set_option maxRecDepth 100000 in
set_option maxHeartbeats 2000000 in
theorem hearType_no (g : Nat) (sv av : Value) (T D : ByteArray) (fs : List Int) (st : Int) (dev : ByteArray) (ag : List Int) (w : World) (h : EndM w g sv av T D fs st dev ag) (y : Option Addr) (n c : Nat) (xs : List Int) (hr : RdG w (.slice y n c) xs) (hn : n = xs.length) (hx : xs ≠ [1]) : Calls Try.prog 63 #[.pointer (some ⟨g, 0, none⟩), .slice y n c] w (HDone g sv T D fs st dev ag [] 4 w) := by
  have HX := hid (show HDone g sv T D fs st dev ag [] 4 w (.returned (.tuple #[.slice none 0 0, .int .i64 4])) w from ⟨_, _, rfl, OwnB.nil _, h, Moved.refl _ _, (fun k q => by cases q), .inl h.c5⟩)
  by_cases h1 : n = 1
  · subst h1
    obtain ⟨z, rfl⟩ := List.length_eq_one_iff.1 hn.symm
    obtain ⟨g2, off, cap, e, h1, h2, h3⟩ := hr.row (by simp)
    cases e
    have c0 := h3 0 (by simp)
    rw [Nat.add_zero, show ([z] : List Int).getD 0 0 = z from rfl] at c0
    have hz : (z != 1) = true := by
      simp
      intro q
      exact hx (by rw [q])
    clear h hr h3 h1 h2 hx hn
    go_enter Try.func63, Try.ntmps63
    go_wp2
    go_ret2
    exact HX.out
  · have hn1 : ((n : Int) != 1) = true := by simp; omega
    clear h hr hx hn h1
    go_enter Try.func63, Try.ntmps63
    go_wp2
    go_ret2
    exact HX.out
set_option maxRecDepth 100000 in
set_option maxHeartbeats 2000000 in
theorem hear_any (g : Nat) (sv av : Value) (T D : ByteArray) (fs : List Int) (st : Int) (dev : ByteArray) (ag : List Int) (w : World) (h : EndM w g sv av T D fs st dev ag) (hT : T.size ≤ 1000) (hD : D.size ≤ 1000) (hfl : fs.length ≤ 1000) (hf : ∀ x ∈ fs, 0 ≤ x ∧ x ≤ 4) (hst : 0 ≤ st ∧ st ≤ 4) (y : Option Addr) (n c : Nat) (xs : List Int) (hr : RdG w (.slice y n c) xs) (hn : n = xs.length) (hl : n ≤ 1000) (hg : g ∉ blkV (.slice y n c)) (o : Int) : Calls Try.prog 38 #[.pointer (some ⟨g, 0, none⟩), .int .u8 o, .slice y n c] w (HDone g sv T D fs (stH fs st o xs) (devH dev st o xs) (agH fs ag st o xs) (ansH T D fs st o xs) (erH st o xs) w) := by
  by_cases h24 : o = 24
  · subst h24
    have hok : okH st 24 xs = false := okH_no (by decide)
    have e1 : stH fs st 24 xs = st := if_neg (by rw [hok]; decide)
    have e2 : devH dev st 24 xs = dev := if_neg (by rw [hok]; decide)
    have e3 : agH fs ag st 24 xs = ag := if_neg (by rw [hok]; decide)
    have H := hid (show Calls Try.prog 63 #[.pointer (some ⟨g, 0, none⟩), .slice y n c] w (HDone g sv T D fs st dev ag (ansH T D fs st 24 xs) (erH st 24 xs) w) by
      by_cases hx : xs = [1]
      · subst hx
        obtain rfl : n = 1 := hn
        exact hearType_yes g sv av T D fs st dev ag w h hT y c hr
      · rw [show ansH T D fs st 24 xs = [] by unfold ansH; rw [if_pos rfl, if_neg hx], show erH st 24 xs = 4 by unfold erH; rw [if_pos rfl, if_neg hx]]
        exact hearType_no g sv av T D fs st dev ag w h y n c xs hr hn hx)
    rw [e1, e2, e3]
    clear h hr hn hok e1 e2 e3 hg
    generalize ansH T D fs st 24 xs = A' at *
    generalize erH st 24 xs = E' at *
    go_enter Try.func38, Try.ntmps38
    go_wp2_with fail
    with_reducible refine H.out.mono ?_
    rintro e w1 ⟨v, av', rfl, ho, hrest⟩
    have HX := hid (show HDone g sv T D fs st dev ag A' E' w (.returned (.tuple #[v, .int .i64 E'])) w1 from ⟨_, _, rfl, ho, hrest⟩)
    obtain ⟨x3, n3, c3, rfl⟩ := own_slice ho
    clear ho hrest H
    go_wp2
    go_ret2
    exact HX.out
  · by_cases h40 : o = 40
    · subst h40
      have H := hid (hearTN_any g sv av T D fs st dev ag w h hT hD hfl hf hst y n c xs hr hn hl hg)
      clear h hr hn hg h24
      generalize ansH T D fs st 40 xs = A' at *
      generalize erH st 40 xs = E' at *
      generalize stH fs st 40 xs = S' at *
      generalize devH dev st 40 xs = D' at *
      generalize agH fs ag st 40 xs = G' at *
      go_enter Try.func38, Try.ntmps38
      go_wp2_with fail
      with_reducible refine H.out.mono ?_
      rintro e w1 ⟨v, av', rfl, ho, hrest⟩
      have HX := hid (show HDone g sv T D fs S' D' G' A' E' w (.returned (.tuple #[v, .int .i64 E'])) w1 from ⟨_, _, rfl, ho, hrest⟩)
      obtain ⟨x3, n3, c3, rfl⟩ := own_slice ho
      clear ho hrest H
      go_wp2
      go_ret2
      exact HX.out
    · have hok : okH st o xs = false := okH_no h40
      have e1 : stH fs st o xs = st := if_neg (by rw [hok]; decide)
      have e2 : devH dev st o xs = dev := if_neg (by rw [hok]; decide)
      have e3 : agH fs ag st o xs = ag := if_neg (by rw [hok]; decide)
      have e4 : ansH T D fs st o xs = [] := by unfold ansH; rw [if_neg h24, hok, if_neg (by decide)]
      have e5 : erH st o xs = 5 := by unfold erH; rw [if_neg h24, if_neg h40]
      rw [e1, e2, e3, e4, e5]
      have b24 : (o == 24) = false := by simpa using h24
      have b40 : (o == 40) = false := by simpa using h40
      have HX := hid (show HDone g sv T D fs st dev ag [] 5 w (.returned (.tuple #[.slice none 0 0, .int .i64 5])) w from ⟨_, _, rfl, OwnB.nil _, h, Moved.refl _ _, (fun k q => by cases q), .inl h.c5⟩)
      clear h hr hn hok e1 e2 e3 e4 e5 h24 h40 hg
      go_enter Try.func38, Try.ntmps38
      go_wp2
      go_ret2
      exact HX.out
end Go.Proofs.Ytdpfjbpfafekfaa
