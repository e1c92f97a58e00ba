/-
  The page that the laws of package class pick, the document's examples, and the whole road of ClassAlone.
-/
import Derived.Test.YtadoiplfglaonaaDoorClassc
namespace Go.Proofs.YtadoiplfglaonaaDoor
open Go.RowKit Go.Lib Go.Shelf

def picked2 (n : Nat) : Int := if n % 7 = 6 then 37 else pagesL.getD (n % 7) 0
theorem picked2_mem (n : Nat) : picked2 n ∈ pagesL := by
  unfold picked2
  split
  · decide
  · have h : n % 7 < pagesL.length := by show n % 7 < 6; omega
    rw [List.getD, List.getElem?_eq_getElem h]
    simp
/-- A page is picked, or none. -/
def Picked2 (num : Int) (w : World) (e : Ending) (w' : World) : Prop := ∃ p, e = .returned (.tuple #[.pointer p, .int .i64 num]) ∧ PArg w.heap.size p num w' ∧ Below w.heap.size w w'

set_option maxRecDepth 100000 in
set_option maxHeartbeats 2000000 in
theorem pick2_any (n : Nat) (hn : n < 256) (w : World) (hN : Numbers w) : Calls Tryd.prog 41 #[.int .u8 n] w (Picked2 (picked2 n) w) := by
  have hB0 : Below w.heap.size w (w.alloc (.cells #[.int .i64 37, .int .i64 273, .int .i64 297, .int .i64 500, .int .i64 1047, .int .i64 1140] 3)) := (Below.refl _ _).alloc (Nat.le_refl _) _
  by_cases h6 : n % 7 = 6
  · have e : picked2 n = 37 := if_pos h6
    rw [e]
    have q : ((n : Int) % 7 == 6) = true := by simp; omega
    have FIN : Hid (Picked2 37 w (.returned (.tuple #[.pointer none, .int .i64 37])) (w.alloc (.cells #[.int .i64 37, .int .i64 273, .int .i64 297, .int .i64 500, .int .i64 1047, .int .i64 1140] 3))) := ⟨none, rfl, ⟨hN.below hN.1 hB0, hN.1, hB0.size, .inl ⟨rfl, rfl⟩⟩, hB0⟩
    clear e h6 hB0 hN
    go_enter Tryd.func41, Tryd.ntmps41
    go_wp2
    go_ret2
    exact FIN.out
  · have e : picked2 n = pagesL.getD (n % 7) 0 := if_neg h6
    have q : ((n : Int) % 7 == 6) = false := by simp; omega
    have h7 : n % 7 < 6 := by omega
    have hc : (w.alloc (.cells #[.int .i64 37, .int .i64 273, .int .i64 297, .int .i64 500, .int .i64 1047, .int .i64 1140] 3)).cell? ⟨w.heap.size, n % 7, none⟩ = some (.int .i64 (picked2 n)) := by
      have h : n % 7 = 0 ∨ n % 7 = 1 ∨ n % 7 = 2 ∨ n % 7 = 3 ∨ n % 7 = 4 ∨ n % 7 = 5 := by omega
      rw [e]
      rcases h with h | h | h | h | h | h <;> rw [h] <;> simp [go_sem, pagesL]
    have HK := hid (picked2_mem n)
    have HN := hid hN
    have HB0 := hid hB0
    obtain ⟨k, hk⟩ : ∃ k, k = picked2 n := ⟨_, rfl⟩
    rw [← hk] at hc HK ⊢
    clear hk e h6 hN hB0
    go_enter Tryd.func41, Tryd.ntmps41
    go_wp2_with fail
    have HNP := hid (new_page k HK.out _ (HN.out.below HN.out.1 HB0.out))
    with_reducible refine HNP.out.mono ?_
    rintro e w1 ⟨b, rfl, hb, hP, hB⟩
    have hB1 := HB0.out.trans (hB.mono HB0.out.size)
    have hz := hB.size
    simp only [World.size_alloc] at hb hz
    have hc1 : w1.cell? ⟨w.heap.size, n % 7, none⟩ = some (.int .i64 k) := (hB.cell (p := ⟨w.heap.size, n % 7, none⟩) (by simp)).trans hc
    have hPA : PArg w.heap.size (some ⟨b, 0, none⟩) k w1 := ⟨HN.out.below HN.out.1 hB1, HN.out.1, hB1.size, .inr ⟨b, rfl, by omega, hP⟩⟩
    have HPA := hid (And.intro hPA hB1)
    clear hP hB hB1 hPA hb hc
    go_wp2_with fail
    go_quiet (fail)
    go_wp2
    go_ret2
    exact ⟨_, rfl, ⟨HPA.out.1.1, HPA.out.1.2.1, HPA.out.1.2.2.1, by
      rcases HPA.out.1.2.2.2 with ⟨h, _⟩ | ⟨b', e, hb', hP⟩
      · cases h
      · cases e
        exact .inr ⟨b, rfl, hb', hP.below (below_drewN (Below.refl _ _) _)⟩⟩, below_drewN HPA.out.2 _⟩

set_option maxRecDepth 100000 in
set_option maxHeartbeats 2000000 in
theorem awake2_true (w : World) (hN : Numbers w) : Calls Tryd.prog 40 #[] w fun e w' => e = .returned (.bool true) ∧ Below w.heap.size w w' := by
  have HN := hid hN
  clear hN
  go_enter Tryd.func40, Tryd.ntmps40
  go_wp2_with fail
  refine (new_page 37 (by decide) _ HN.out).mono ?_
  rintro e w1 ⟨b, rfl, hb, hP, hB⟩
  have HA1 : Hid (PArg w.heap.size (some ⟨b, 0, none⟩) 37 w1) := ⟨HN.out.below HN.out.1 hB, HN.out.1, hB.size, .inr ⟨b, rfl, hb, hP⟩⟩
  have HB1 := hid hB
  clear hP hB
  have e1 : ofI 37 28 = 1 := by decide +kernel
  have e2 : numericB 37 247 = true := by decide +kernel
  have e3 : numericB 37 193 = false := by decide +kernel
  have e4 : shownI 37 28 = 42 := by decide +kernel
  have C1 := fun w' h => of_any w.heap.size (some ⟨b, 0, none⟩) 37 28 (by decide) w' h
  have C2 := fun w' h => numeric_any w.heap.size (some ⟨b, 0, none⟩) 37 247 (by decide) w' h
  have C3 := fun w' h => numeric_any w.heap.size (some ⟨b, 0, none⟩) 37 193 (by decide) w' h
  have C4 := fun w' h => shown_any w.heap.size (some ⟨b, 0, none⟩) 37 28 (by decide) w' h
  rw [e1] at C1
  rw [e2] at C2
  rw [e3] at C3
  rw [e4] at C4
  have HC1 := hid C1
  have HC2 := hid C2
  have HC3 := hid C3
  have HC4 := hid C4
  clear C1 C2 C3 C4 e1 e2 e3 e4
  go_wp2_with fail
  refine (HC1.out _ HA1.out).mono ?_
  rintro e w2 ⟨rfl, hA2, hB2⟩
  have HA2 := hid hA2
  have HB2 := hid (HB1.out.trans hB2)
  clear hA2 hB2
  go_wp2_with fail
  refine (HC2.out _ HA2.out).mono ?_
  rintro e w3 ⟨rfl, hA3, hB3⟩
  have HA3 := hid hA3
  have HB3 := hid (HB2.out.trans hB3)
  clear hA3 hB3
  go_wp2_with fail
  refine (HC3.out _ HA3.out).mono ?_
  rintro e w4 ⟨rfl, hA4, hB4⟩
  have HA4 := hid hA4
  have HB4 := hid (HB3.out.trans hB4)
  clear hA4 hB4
  go_wp2_with fail
  refine (HC4.out _ HA4.out).mono ?_
  rintro e w5 ⟨rfl, hA5, hB5⟩
  have HB5 := hid (HB4.out.trans hB5)
  clear hA5 hB5
  go_wp2
  go_ret
  exact ⟨rfl, HB5.out⟩

/-- What is shown is seen; what is numeric may be entered, but Dup. -/
theorem alone_facts : ∀ num ∈ pagesL, ∀ c, c < 256 → ((32 ≤ shownI num c ∧ shownI num c ≤ 126) ∨ 160 ≤ shownI num c) ∧ (numericB num c = true → dataB c = true ∨ c = 28) := by decide +kernel

set_option maxRecDepth 100000 in
set_option maxHeartbeats 2000000 in
theorem classAlone_true (n c : Nat) (hn : n < 256) (hc : c < 256) (w : World) (hN : Numbers w) : Calls Tryd.prog 14 #[.int .u8 n, .int .u8 c] w fun e w' => e = .returned (.bool true) ∧ Below w.heap.size w w' := by
  have HN := hid hN
  clear hN
  have HF := hid (alone_facts (picked2 n) (picked2_mem n) c hc)
  go_enter Tryd.func14, Tryd.ntmps14
  go_wp2_with fail
  refine (awake2_true _ HN.out).mono ?_
  rintro e w1 ⟨rfl, hB1⟩
  have HN1 := hid (HN.out.below HN.out.1 hB1)
  have HB1 := hid hB1
  clear hB1
  go_wp2_with fail
  refine (pick2_any n hn _ HN1.out).mono ?_
  rintro e w2 ⟨p, rfl, hA, hB2⟩
  have HA := hid hA
  have HB2 := hid (HB1.out.trans (hB2.mono HB1.out.size))
  have hz1 := HB1.out.size
  clear hA hB2
  have HC1 := hid (shown_any w1.heap.size p (picked2 n) c hc w2 HA.out)
  have HC2 := hid (fun w' h => numeric_any w1.heap.size p (picked2 n) c hc w' h)
  have HC3 := hid (fun w' => data_any c w')
  obtain ⟨num, hnum⟩ : ∃ num, num = picked2 n := ⟨_, rfl⟩
  rw [← hnum] at HC1 HC2 HF HA ⊢
  clear hnum
  obtain ⟨s, hs⟩ : ∃ s, s = shownI num c := ⟨_, rfl⟩
  obtain ⟨nb, hnb⟩ : ∃ nb, nb = numericB num c := ⟨_, rfl⟩
  obtain ⟨db, hdb⟩ : ∃ db, db = dataB c := ⟨_, rfl⟩
  rw [← hs] at HC1 HF
  rw [← hnb] at HC2 HF
  rw [← hdb] at HC3 HF
  clear hs hnb hdb
  have hcase : nb = false ∨ (nb = true ∧ db = true) ∨ (nb = true ∧ db = false ∧ c = 28) := by
    cases nb
    · left; rfl
    · cases db
      · right; right; exact ⟨rfl, rfl, by simpa using HF.out.2 rfl⟩
      · right; left; exact ⟨rfl, rfl⟩
  have hseen := HF.out.1
  clear HF
  rcases hseen with ⟨hs1, hs2⟩ | hs1 <;> rcases hcase with rfl | ⟨rfl, rfl⟩ | ⟨rfl, rfl, hc28⟩
  all_goals
    try (have q28 : ((c : Int) == 28) = true := by simp; omega)
    try (have HQ := hid hc28; clear hc28)
    go_wp2_with fail
    with_reducible refine HC1.out.mono ?_
    rintro e w3 ⟨rfl, hA3, hB3⟩
    have HA3 := hid hA3
    have HB3 := hid (HB2.out.trans (hB3.mono hz1))
    clear hA3 hB3
    go_wp2_with fail
    with_reducible refine (HC2.out _ HA3.out).mono ?_
    rintro e w4 ⟨rfl, hA4, hB4⟩
    have HB4 := hid (HB3.out.trans (hB4.mono hz1))
    clear hA4 hB4
    first
      | (go_wp2_with fail
         with_reducible refine (HC3.out _).mono ?_
         rintro e w' ⟨rfl, rfl⟩
         go_wp2
         go_ret
         exact ⟨by first | rfl | simp, HB4.out⟩)
      | (go_wp2
         go_ret
         exact ⟨by first | rfl | simp, HB4.out⟩)
end Go.Proofs.YtadoiplfglaonaaDoor
