/-
  What may be entered, what is numeric, what is shown; and the page that the laws of package class pick.
-/
import Derived.Test.YtadoiplfglaonaaDoorClassb
import Derived.RegionTactic
import Derived.Deep.QuietTactic
import Derived.BigQuiet
namespace Go.Proofs.YtadoiplfglaonaaDoor
open Go.RowKit Go.Lib Go.Shelf

def dataB (c : Nat) : Bool := decide (64 ≤ c ∧ c < 255)
set_option maxRecDepth 100000 in
theorem data_any (c : Nat) (w : World) : Calls Tryd.prog 46 #[.int .u8 c] w fun e w' => e = .returned (.bool (dataB c)) ∧ w = w' := by
  by_cases h1 : 64 ≤ c
  · by_cases h2 : c < 255
    · have e : dataB c = true := by simp [dataB]; omega
      rw [e]; clear e
      go_enter Tryd.func46, Tryd.ntmps46
      go_wp2
      go_ret
      exact ⟨by first | (simp; done) | (simp; omega), rfl⟩
    · have e : dataB c = false := by simp [dataB]; omega
      rw [e]; clear e
      go_enter Tryd.func46, Tryd.ntmps46
      go_wp2
      go_ret
      exact ⟨by first | (simp; done) | (simp; omega), rfl⟩
  · have e : dataB c = false := by simp [dataB]; omega
    rw [e]; clear e
    go_enter Tryd.func46, Tryd.ntmps46
    go_wp2
    go_ret
    exact ⟨by first | (simp; done) | (simp; omega), rfl⟩

def numX (x : Int) : Bool := digitB x || x == 46 || x == 45
def numericB (num : Int) (c : Nat) : Bool := if c = 28 then true else numX ((signsL num).getD c 0)

set_option maxRecDepth 100000 in
set_option maxHeartbeats 1000000 in
theorem numeric_any (B0 : Nat) (p : Option Addr) (num : Int) (c : Nat) (hc : c < 256) (w : World) (hA : PArg B0 p num w) : Calls Tryd.prog 48 #[.pointer p, .int .u8 c] w (PDone (.bool (numericB num c)) B0 p num w) := by
  by_cases h28 : c = 28
  · subst h28
    have FIN : Hid (PDone (.bool (numericB num 28)) B0 p num w (.returned (.bool true)) w) := ⟨rfl, hA, Below.refl _ _⟩
    clear hA
    go_enter Tryd.func48, Tryd.ntmps48
    go_wp2
    go_ret
    exact FIN.out
  · have q0 : ((c : Int) == 28) = false := by simp; omega
    have e : numericB num c = numX ((signsL num).getD c 0) := if_neg h28
    rw [e]
    have HK := hid (known_any B0 p num w hA)
    have HS := hid (fun b w' (h : Known B0 p num b w') => sign_any b num c hc w' h.2.2.1)
    obtain ⟨x, hx⟩ : ∃ x, x = (signsL num).getD c 0 := ⟨_, rfl⟩
    rw [← hx] at HS ⊢
    clear e hx h28 hA
    have HD := hid (fun w' => digit_any x w')
    have hcase : digitB x = true ∨ (digitB x = false ∧ (x == 46) = true) ∨ (digitB x = false ∧ (x == 46) = false ∧ (x == 45) = true) ∨ (digitB x = false ∧ (x == 46) = false ∧ (x == 45) = false) := by
      cases digitB x <;> cases (x == 46) <;> cases (x == 45) <;> simp
    rcases hcase with h | ⟨h, h1⟩ | ⟨h, h1, h2⟩ | ⟨h, h1, h2⟩
    · have e : numX x = true := by simp [numX, h]
      rw [e]
      rw [h] at HD
      clear e h
      go_enter Tryd.func48, Tryd.ntmps48
      go_wp2_with fail
      with_reducible refine HK.out.mono ?_
      rintro e w1 ⟨b, rfl, hK, hB⟩
      have HK1 := hid hK
      have HB1 := hid hB
      clear hK hB
      go_wp2_with fail
      with_reducible refine (HS.out _ _ HK1.out).mono ?_
      rintro e w2 ⟨rfl, hR, hB⟩
      have HK2 := hid (HK1.out.next hR hB)
      clear hR hB
      go_wp2_with fail
      with_reducible refine (HD.out _).mono ?_
      rintro e w' ⟨rfl, rfl⟩
      go_wp2
      go_ret
      exact ⟨by first | rfl | simp, HK2.out.1.1, HB1.out.trans HK2.out.2⟩
    · have e : numX x = true := by simp [numX, h, h1]
      rw [e]
      rw [h] at HD
      clear e h
      go_enter Tryd.func48, Tryd.ntmps48
      go_wp2_with fail
      with_reducible refine HK.out.mono ?_
      rintro e w1 ⟨b, rfl, hK, hB⟩
      have HK1 := hid hK
      have HB1 := hid hB
      clear hK hB
      go_wp2_with fail
      with_reducible refine (HS.out _ _ HK1.out).mono ?_
      rintro e w2 ⟨rfl, hR, hB⟩
      have HK2 := hid (HK1.out.next hR hB)
      clear hR hB
      go_wp2_with fail
      with_reducible refine (HD.out _).mono ?_
      rintro e w' ⟨rfl, rfl⟩
      go_wp2
      go_ret
      exact ⟨by first | rfl | simp, HK2.out.1.1, HB1.out.trans HK2.out.2⟩
    · have e : numX x = true := by simp [numX, h, h1, h2]
      rw [e]
      rw [h] at HD
      clear e h
      go_enter Tryd.func48, Tryd.ntmps48
      go_wp2_with fail
      with_reducible refine HK.out.mono ?_
      rintro e w1 ⟨b, rfl, hK, hB⟩
      have HK1 := hid hK
      have HB1 := hid hB
      clear hK hB
      go_wp2_with fail
      with_reducible refine (HS.out _ _ HK1.out).mono ?_
      rintro e w2 ⟨rfl, hR, hB⟩
      have HK2 := hid (HK1.out.next hR hB)
      clear hR hB
      go_wp2_with fail
      with_reducible refine (HD.out _).mono ?_
      rintro e w' ⟨rfl, rfl⟩
      go_wp2
      go_ret
      exact ⟨by first | rfl | simp, HK2.out.1.1, HB1.out.trans HK2.out.2⟩
    · have e : numX x = false := by simp [numX, h, h1, h2]
      rw [e]
      rw [h] at HD
      clear e h
      go_enter Tryd.func48, Tryd.ntmps48
      go_wp2_with fail
      with_reducible refine HK.out.mono ?_
      rintro e w1 ⟨b, rfl, hK, hB⟩
      have HK1 := hid hK
      have HB1 := hid hB
      clear hK hB
      go_wp2_with fail
      with_reducible refine (HS.out _ _ HK1.out).mono ?_
      rintro e w2 ⟨rfl, hR, hB⟩
      have HK2 := hid (HK1.out.next hR hB)
      clear hR hB
      go_wp2_with fail
      with_reducible refine (HD.out _).mono ?_
      rintro e w' ⟨rfl, rfl⟩
      go_wp2
      go_ret
      exact ⟨by first | rfl | simp, HK2.out.1.1, HB1.out.trans HK2.out.2⟩

theorem Known.again {B0 : Nat} {p : Option Addr} {num : Int} {b : Nat} {w w' : World} (h : Known B0 p num b w) (h' : PArg B0 (some ⟨b, 0, none⟩) num w') : Known B0 p num b w' := by
  obtain ⟨⟨_, _, _, hp⟩, hb, _, hpp⟩ := h
  obtain ⟨hN', h1', hz', hq⟩ := h'
  obtain ⟨b', e, hb', hP'⟩ : ∃ b', some (⟨b, 0, none⟩ : Addr) = some ⟨b', 0, none⟩ ∧ B0 ≤ b' ∧ Page w' b' num := by
    rcases hq with ⟨h, _⟩ | h
    · cases h
    · exact h
  cases e
  refine ⟨⟨hN', h1', hz', ?_⟩, hb, hP', hpp⟩
  rcases hpp with rfl | rfl
  · rcases hp with h | ⟨b', h, _⟩
    · exact .inl h
    · cases h
  · exact .inr ⟨b, rfl, hb, hP'⟩
theorem Known.arg {B0 : Nat} {p : Option Addr} {num : Int} {b : Nat} {w : World} (h : Known B0 p num b w) : PArg B0 (some ⟨b, 0, none⟩) num w := ⟨h.1.1, h.1.2.1, h.1.2.2.1, .inr ⟨b, rfl, h.2.1, h.2.2.1⟩⟩

def shownX (t x : Int) : Int := if t < 4 then 32 else if invisB x then 32 else x
def shownI (num : Int) (c : Nat) : Int := if c = 28 then 42 else if c = 30 then 59 else if c = 63 then 191 else shownX (ofI num c) ((signsL num).getD c 0)
theorem ofI_bd (num : Int) (c : Nat) : 0 ≤ ofI num c ∧ ofI num c ≤ 7 := by
  unfold ofI ofSignI
  repeat (split; · omega)
  omega

set_option maxRecDepth 100000 in
set_option maxHeartbeats 2000000 in
theorem shown_any (B0 : Nat) (p : Option Addr) (num : Int) (c : Nat) (hc : c < 256) (w : World) (hA : PArg B0 p num w) : Calls Tryd.prog 50 #[.pointer p, .int .u8 c] w (PDone (.int .i32 (shownI num c)) B0 p num w) := by
  have hcase : c = 28 ∨ c = 30 ∨ c = 63 ∨ (c ≠ 28 ∧ c ≠ 30 ∧ c ≠ 63) := by omega
  rcases hcase with rfl | rfl | rfl | ⟨k1, k2, k3⟩
  · have FIN : Hid (PDone (.int .i32 (shownI num 28)) B0 p num w (.returned (.int .i32 42)) w) := ⟨rfl, hA, Below.refl _ _⟩
    clear hA
    go_enter Tryd.func50, Tryd.ntmps50
    go_wp2
    go_ret
    exact FIN.out
  · have FIN : Hid (PDone (.int .i32 (shownI num 30)) B0 p num w (.returned (.int .i32 59)) w) := ⟨rfl, hA, Below.refl _ _⟩
    clear hA
    go_enter Tryd.func50, Tryd.ntmps50
    go_wp2
    go_ret
    exact FIN.out
  · have FIN : Hid (PDone (.int .i32 (shownI num 63)) B0 p num w (.returned (.int .i32 191)) w) := ⟨rfl, hA, Below.refl _ _⟩
    clear hA
    go_enter Tryd.func50, Tryd.ntmps50
    go_wp2
    go_ret
    exact FIN.out
  · have e : shownI num c = shownX (ofI num c) ((signsL num).getD c 0) := by
      unfold shownI
      rw [if_neg k1, if_neg k2, if_neg k3]
    rw [e]
    have q1 : ((c : Int) == 28) = false := by simp; omega
    have q2 : ((c : Int) == 30) = false := by simp; omega
    have q3 : ((c : Int) == 63) = false := by simp; omega
    have HK := hid (known_any B0 p num w hA)
    have HO := hid (fun b w' (h : Known B0 p num b w') => of_any B0 (some ⟨b, 0, none⟩) num c hc w' h.arg)
    have HS := hid (fun b w' (h : Known B0 p num b w') => sign_any b num c hc w' h.2.2.1)
    obtain ⟨ht0, ht1⟩ := ofI_bd num c
    obtain ⟨x, hx⟩ : ∃ x, x = (signsL num).getD c 0 := ⟨_, rfl⟩
    obtain ⟨t, ht⟩ : ∃ t, t = ofI num c := ⟨_, rfl⟩
    rw [← hx] at HS ⊢
    rw [← ht] at HO ht0 ht1 ⊢
    clear e hx ht k1 k2 k3 hA
    have HI := hid (fun w' => invis_any x w')
    by_cases hlt : t < 4
    · have e : shownX t x = 32 := if_pos hlt
      rw [e]
      clear e
      have h4 : t = 0 ∨ t = 1 ∨ t = 2 ∨ t = 3 := by omega
      rcases h4 with rfl | rfl | rfl | rfl
      all_goals
        go_enter Tryd.func50, Tryd.ntmps50
        go_wp2_with fail
        with_reducible refine HK.out.mono ?_
        rintro e w1 ⟨b, rfl, hK, hB⟩
        have HK1 := hid hK
        have HB1 := hid hB
        clear hK hB
        go_wp2_with fail
        with_reducible refine (HO.out _ _ HK1.out).mono ?_
        rintro e w2 ⟨rfl, hA2, hB2⟩
        have HK2 := hid (HK1.out.again hA2)
        have HB2 := hid (HB1.out.trans hB2)
        clear hA2 hB2
        go_wp2
        go_ret
        exact ⟨rfl, HK2.out.1, HB2.out⟩
    · have q4 : (t == 0) = false := by simp; omega
      have q5 : (t == 1) = false := by simp; omega
      have q6 : (t == 2) = false := by simp; omega
      have q7 : (t == 3) = false := by simp; omega
      cases hi : invisB x with
      | true =>
        have e : shownX t x = 32 := by simp [shownX, hlt, hi]
        rw [e]
        rw [hi] at HI
        clear e hi
        go_enter Tryd.func50, Tryd.ntmps50
        go_wp2_with fail
        with_reducible refine HK.out.mono ?_
        rintro e w1 ⟨b, rfl, hK, hB⟩
        have HK1 := hid hK
        have HB1 := hid hB
        clear hK hB
        go_wp2_with fail
        with_reducible refine (HO.out _ _ HK1.out).mono ?_
        rintro e w2 ⟨rfl, hA2, hB2⟩
        have HK2 := hid (HK1.out.again hA2)
        have HB2 := hid (HB1.out.trans hB2)
        clear hA2 hB2
        go_wp2_with fail
        with_reducible refine (HS.out _ _ HK2.out).mono ?_
        rintro e w3 ⟨rfl, hR, hB⟩
        have HK3 := hid (HK2.out.next hR hB)
        clear hR hB
        go_wp2_with fail
        with_reducible refine (HI.out _).mono ?_
        rintro e w' ⟨rfl, rfl⟩
        go_wp2
        go_ret
        exact ⟨rfl, HK3.out.1.1, HB2.out.trans HK3.out.2⟩
      | false =>
        have e : shownX t x = x := by simp [shownX, hlt, hi]
        rw [e]
        rw [hi] at HI
        clear e hi
        go_enter Tryd.func50, Tryd.ntmps50
        go_wp2_with fail
        with_reducible refine HK.out.mono ?_
        rintro e w1 ⟨b, rfl, hK, hB⟩
        have HK1 := hid hK
        have HB1 := hid hB
        clear hK hB
        go_wp2_with fail
        with_reducible refine (HO.out _ _ HK1.out).mono ?_
        rintro e w2 ⟨rfl, hA2, hB2⟩
        have HK2 := hid (HK1.out.again hA2)
        have HB2 := hid (HB1.out.trans hB2)
        clear hA2 hB2
        go_wp2_with fail
        with_reducible refine (HS.out _ _ HK2.out).mono ?_
        rintro e w3 ⟨rfl, hR, hB⟩
        have HK3 := hid (HK2.out.next hR hB)
        clear hR hB
        go_wp2_with fail
        with_reducible refine (HI.out _).mono ?_
        rintro e w' ⟨rfl, rfl⟩
        go_wp2
        go_ret
        exact ⟨rfl, HK3.out.1.1, HB2.out.trans HK3.out.2⟩
end Go.Proofs.YtadoiplfglaonaaDoor
