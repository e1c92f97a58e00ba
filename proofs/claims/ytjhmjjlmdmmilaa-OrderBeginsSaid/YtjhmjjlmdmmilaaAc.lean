/-
  Attributes read of bytes: Parse.
-/
import Derived.Test.YtjhmjjlmdmmilaaAb
import Derived.StillTailTactics
namespace Go.Proofs.Ytjhmjjlmdmmilaa
open Go.RowKit Go.Lib


/-- The pair at a place. -/
def pairAt (xs : List Int) (i : Nat) : Nat × Nat := ((xs.getD (1 + 2 * i) 0).toNat, (xs.getD (1 + 2 * i + 1) 0).toNat)
/-- The first pairs. -/
def pairsL (xs : List Int) (n : Nat) : List (Nat × Nat) := (List.range n).map (pairAt xs)
theorem pairsL_length (xs : List Int) (n : Nat) : (pairsL xs n).length = n := by simp [pairsL]
theorem pairsL_succ (xs : List Int) (n : Nat) : pairsL xs (n + 1) = pairsL xs n ++ [pairAt xs n] := by simp [pairsL, List.range_succ]
theorem cellsP_succ (xs : List Int) (n : Nat) : cellsP (pairsL xs (n + 1)) = cellsP (pairsL xs n) ++ [.int .u8 (pairAt xs n).1, .int .u8 (pairAt xs n).2] := by
  rw [pairsL_succ, cellsP_append]; rfl
/-- Are the first all attributes? -/
def allK (xs : List Int) (n : Nat) : Bool := (pairsL xs n).all fun p => knownB p.1 p.2
theorem allK_zero (xs : List Int) : allK xs 0 = true := rfl
theorem allK_succ (xs : List Int) (n : Nat) : allK xs (n + 1) = (allK xs n && knownB (pairAt xs n).1 (pairAt xs n).2) := by simp [allK, pairsL_succ]
theorem allK_bad {xs : List Int} {k : Nat} (hk : knownB (pairAt xs k).1 (pairAt xs k).2 = false) : ∀ n, k < n → allK xs n = false := by
  intro n h
  induction n with
  | zero => omega
  | succ n ih =>
    rw [allK_succ]
    by_cases e : k = n
    · subst e; rw [hk]; simp
    · rw [ih (by omega)]; rfl
/-- Read. -/
def ParseDone (t : TypeId) (xs : List Int) (n : Nat) (w : World) (e : Ending) (w' : World) : Prop :=
  (allK xs n = true ∧ ∃ v, e = .returned (.tuple #[v, .int .i64 (1 + 2 * (n : Int)), .int .i64 0]) ∧ w'.ownsRow w.heap.size t 2 v n (cellsP (pairsL xs n)) ∧ Below w.heap.size w w') ∨
  (allK xs n = false ∧ e = .returned (.tuple #[.slice none 0 0, .int .i64 0, .int .i64 10]) ∧ Below w.heap.size w w')
theorem parse_good {t : TypeId} {xs : List Int} {n : Nat} {w w' : World} {v : Value} {u : Int} (h : allK xs n = true) (hu : u = 1 + 2 * (n : Int)) (ho : w'.ownsRow w.heap.size t 2 v n (cellsP (pairsL xs n))) (hb : Below w.heap.size w w') : ParseDone t xs n w (.returned (.tuple #[v, .int .i64 u, .int .i64 0])) w' := by
  subst hu
  exact .inl ⟨h, v, rfl, ho, hb⟩
theorem parse_bad {t : TypeId} {xs : List Int} {n : Nat} {w w' : World} (h : allK xs n = false) (hb : Below w.heap.size w w') : ParseDone t xs n w (.returned (.tuple #[.slice none 0 0, .int .i64 0, .int .i64 10])) w' := .inr ⟨h, rfl, hb⟩
theorem byte_at {xs : List Int} (hb : ∀ x ∈ xs, 0 ≤ x ∧ x < 256) (i : Nat) (h : i < xs.length) : ∃ n : Nat, n < 256 ∧ xs.getD i 0 = (n : Int) ∧ (xs.getD i 0).toNat = n := by
  have q : xs.getD i 0 ∈ xs := by rw [List.getD, List.getElem?_eq_getElem h]; exact List.getElem_mem h
  have := hb _ q
  exact ⟨(xs.getD i 0).toNat, by omega, by omega, rfl⟩
theorem own_below {w1 w2 : World} {B : Nat} {t : TypeId} {m n : Nat} {v : Value} {xs : List Value} (h : w1.ownsRow B t m v n xs) (hb : Below w1.heap.size w1 w2) : w2.ownsRow B t m v n xs := by
  refine ⟨h.1, ?_⟩
  have hl := h.lt
  rcases h.2 with h' | ⟨g, cap, cur, rfl, hg, hh, r⟩
  · exact .inl h'
  · exact .inr ⟨g, cap, cur, rfl, hg, (hb.block g (hl g rfl).2).trans hh, r⟩
theorem held_drew {w0 w : World} {p q : Addr} {x y : Value} (h : w.cell? p = some x ∧ w.cell? q = some y ∧ Below w0.heap.size w0 w) : w.drew.cell? p = some x ∧ w.drew.cell? q = some y ∧ Below w0.heap.size w0 w.drew := ⟨h.1, h.2.1, h.2.2.drew⟩
theorem held_alloc {w0 w : World} {p q : Addr} {x y : Value} {o : Obj} (h : w.cell? p = some x ∧ w.cell? q = some y ∧ Below w0.heap.size w0 w) : (w.alloc o).cell? p = some x ∧ (w.alloc o).cell? q = some y ∧ Below w0.heap.size w0 (w.alloc o) := by
  have hb : Below w.heap.size w (w.alloc o) := (Below.refl _ _).alloc (Nat.le_refl _) _
  exact ⟨keepc hb h.1, keepc hb h.2.1, below_t h.2.2 hb⟩
set_option maxRecDepth 100000 in
set_option maxHeartbeats 2000000 in
theorem parse_row (g off cap : Nat) (xs : List Int) (n : Nat) (hn : n < 256) (hx : xs.getD 0 0 = (n : Int)) (hl : 1 + 2 * n ≤ xs.length) (hlm : xs.length ≤ 100000) (hb : ∀ x ∈ xs, 0 ≤ x ∧ x < 256) (w : World) (hc : ∀ i, i < xs.length → w.cell? ⟨g, off + i, none⟩ = some (.int .u8 (xs.getD i 0))) : Calls Try.prog 25 #[.slice (some ⟨g, off, none⟩) xs.length cap] w (ParseDone 48 xs n w) := by
  obtain ⟨i0, hi, hz0, hz1, hz2⟩ := info_parts infoP
  have c00 := hc 0 (by omega)
  rw [hx, Nat.add_zero] at c00
  have HC := hid hc
  have HBY := hid (fun i h => byte_at hb i h)
  clear hc hb hx
  obtain ⟨L, hL⟩ : ∃ L, L = xs.length := ⟨_, rfl⟩
  rw [← hL] at hl hlm HC HBY ⊢
  clear hL
  have l0 : 0 < L := by omega
  have l1 : ¬ (L : Int) = 0 := by omega
  have l2 : ((L : Int) == 0) = false := by simpa using l1
  have l3 : ¬ (L : Int) < 1 + 2 * n := by omega
  have HM2 : Hid (i0.bytes * n ≤ 281474976710656) := by show _ ≤ _; rw [hz2]; omega
  have HM3 : Hid (n ≤ maxLen) := by show _ ≤ _; unfold maxLen; omega
  go_enter Try.func25, Try.ntmps25
  go_wp2_with (first
    | (at_make; refine wpList_make_own _ rfl _ _ 33 rfl w.heap.size 48 i0 (.agg #[.int .u8 0, .int .u8 0]) 2 Try.underlying33 hi hz0 hz1 .i64 .u8 _ n rfl rfl rfl HM2.out HM3.out (Nat.le_refl _) ?_; intro w1 hown1 hgrow1; have HO1 := hid hown1; have HB1 := hid (((Below.refl w.heap.size w).grown hgrow1 (Nat.le_refl _) (fun k hk => by cases hk))); clear hown1 hgrow1))
  clear c00 l0 l1 l2 l3
  go_loopw [6, 7] (fun v i w' => ∃ k m : Nat, k ≤ n ∧ i = .int .i64 m ∧ Hid (m = 1 + 2 * k) ∧ Hid (w'.ownsRow w.heap.size 48 2 v k (cellsP (pairsL xs k))) ∧ Hid (Below w.heap.size w w') ∧ Hid (allK xs k = true)) (fun _ i _ => 1 + 2 * n - (intOf i).toNat)
  case atStart => exact ⟨0, 1, Nat.zero_le _, rfl, rfl, HO1.out, HB1.out, allK_zero xs⟩
  case round =>
    obtain ⟨k, m, hk, rfl, Hm, HO, HB, HK⟩ := hrel
    by_cases hlt : k < n
    · have hm := Hm.out
      have m1 : (m : Int) < 1 + 2 * n := by omega
      have m2 : (m : Int) < L := by omega
      have m3 : (m : Int) + 1 < L := by omega
      have m4 : (0 : Int) ≤ (m : Int) + 1 := by omega
      have c0 := keepc HB.out (HC.out m (by omega))
      have c1 := keepc HB.out (HC.out (m + 1) (by omega))
      obtain ⟨x, hx1, hx2, hx3⟩ := HBY.out m (by omega)
      obtain ⟨y, hy1, hy2, hy3⟩ := HBY.out (m + 1) (by omega)
      rw [hx2] at c0
      rw [hy2] at c1
      have HP : Hid (pairAt xs k = (x, y)) := by show _ = _; unfold pairAt; rw [← hm, hx3, hy3]
      have HS := hid (cellsP_succ xs k)
      have HKS := hid (allK_succ xs k)
      rw [HP.out] at HS HKS
      have HCH := hid (check_any x y hy1)
      clear hx2 hx3 hy2 hy3 hx1 hy1 hm
      have m5 : IntKind.i64.wrap ((m : Int) + 1) = (m : Int) + 1 := IntWalk.i64_in _ (by omega)
      have m6 : ((m : Int) + 1).toNat = m + 1 := by omega
      have HX := hid (And.intro c0 (And.intro c1 HB.out))
      clear c0 c1
      go_wp2
      go_region_held3 (fun w' => w'.cell? ⟨g, off + m, none⟩ = some (.int .u8 x) ∧ w'.cell? ⟨g, off + (m + 1), none⟩ = some (.int .u8 y) ∧ Below w.heap.size w w') (first | exact held_drew HX.out | exact held_alloc (held_drew HX.out)) (first | fail)
      rename_i hH
      clear hH m5 m6 m2 m3 m4
      have KB : Below wr.heap.size wr (wr.drew.alloc (.cells #[.int .u8 x, .int .u8 y] 48)) := ((Below.refl _ _).drew).alloc (Nat.le_refl _) _
      have HOA := hid (HO.out.drew.alloc (.cells #[.int .u8 x, .int .u8 y] 48))
      have HBA := hid (below_t HB.out KB)
      clear KB
      go_wp2_with fail
      cases hkn : knownB x y
      · rw [hkn] at HCH HKS
        simp only [Bool.false_eq_true, if_false] at HCH
        have HBAD := hid (allK_bad (xs := xs) (k := k) (by rw [HP.out]; exact hkn) n hlt)
        clear hkn
        with_reducible refine (HCH.out _).mono ?_
        rintro e w2 ⟨rfl, hb2⟩
        have HB2 := hid (below_t HBA.out hb2)
        clear hb2
        go_wp2
        go_ret3
        exact parse_bad HBAD.out HB2.out
      · rw [hkn] at HCH HKS
        simp only [if_true] at HCH
        clear hkn
        with_reducible refine (HCH.out _).mono ?_
        rintro e w2 ⟨rfl, hb2⟩
        have q0 := keepc (a := ⟨wr.heap.size, 0, none⟩) (v := .int .u8 x) hb2 (by simp [go_sem])
        have q1 := keepc (a := ⟨wr.heap.size, 1, none⟩) (v := .int .u8 y) hb2 (by simp [go_sem])
        have HB2 := hid (below_t HBA.out hb2)
        have HO2 := hid ((own_below HOA.out hb2).alloc (.cells #[.int .u8 x, .int .u8 y] 48))
        have HSZ := hid (show w.heap.size ≤ (w2.alloc (.cells #[.int .u8 x, .int .u8 y] 48)).heap.size by have := HB2.out.size; simp; omega)
        have HNW := hid (news_two w2 (.int .u8 x) (.int .u8 y) 48)
        have HB3 := hid (HB2.out.alloc HB2.out.size (.cells #[.int .u8 x, .int .u8 y] 48))
        have HM : Hid (k + 1 ≤ maxLen) := by show _ ≤ _; unfold maxLen; omega
        have HL : Hid ((k + 1) * 2 ≤ 140737488355328) := by show _ ≤ _; omega
        clear hb2
        go_wp2_with (first
          | (at_builtin; refine wpList_append_own _ rfl _ _ 33 rfl w.heap.size 48 i0 (.agg #[.int .u8 0, .int .u8 0]) 2 2 Try.underlying33 hi hz0 hz1 hz2 rfl (by decide) _ k (cellsP (pairsL xs k)) rfl HO2.out ⟨w2.heap.size, 0, none⟩ 1 1 [.int .u8 x, .int .u8 y] rfl rfl HNW.out (one_two x y) HM.out HL.out HSZ.out ?_; intro v3 w3 hown3 hgrow3 hnil3; have HO4 := hid hown3; have HG4 := hid hgrow3; clear hown3 hgrow3 hnil3))
        go_roundw
        case rel =>
          refine ⟨k + 1, m + 2, by omega, by go_num, ?_, ?_, ?_, ?_⟩
          · show _ = _
            have := Hm.out
            omega
          · show World.ownsRow _ _ _ _ _ _ _
            rw [HS.out]
            exact HO4.out
          · exact HB3.out.grown HG4.out HSZ.out (own_ge HO.out)
          · show _ = _
            rw [HKS.out, HK.out]
            rfl
        case measure => have := Hm.out; simp [intOf]; omega
    · obtain rfl : k = n := by omega
      have hm := Hm.out
      have m1 : ¬ (m : Int) < 1 + 2 * k := by omega
      have HU : Hid ((1 : Int) + 2 * (k : Int) = 1 + 2 * (k : Int)) := rfl
      clear hm
      go_wp2
      go_ret3
      exact parse_good HK.out rfl HO.out HB.out
set_option maxRecDepth 100000 in
set_option maxHeartbeats 2000000 in
theorem parse_short (v : Value) (xs : List Int) (hlm : xs.length ≤ 100000) (hs : xs.length < 1 + 2 * (xs.getD 0 0).toNat) (w : World) (h : Reads w v xs) : Calls Try.prog 25 #[v] w fun e w' => e = .returned (.tuple #[.slice none 0 0, .int .i64 0, .int .i64 2]) ∧ Below w.heap.size w w' := by
  obtain ⟨hb, ⟨rfl, rfl⟩ | ⟨a, cap, rfl, hlc, hcm, hcell⟩⟩ := h
  · clear hs hb hlm
    go_enter Try.func25, Try.ntmps25
    go_wp2
    go_ret3
    exact ⟨rfl, Below.refl _ _⟩
  · by_cases h0 : xs.length = 0
    · rw [h0]
      clear hs hb hlm hlc hcm hcell h0
      go_enter Try.func25, Try.ntmps25
      go_wp2
      go_ret3
      exact ⟨rfl, Below.refl _ _⟩
    · have c0 := hcell 0 (by omega)
      obtain ⟨g, off, spot⟩ := a
      obtain rfl : spot = none := by simpa [Addr.add] using World.cell?_spot c0
      rw [addr_add, Nat.add_zero] at c0
      obtain ⟨c, hc1, hc2, hc3⟩ := byte_at hb 0 (by omega)
      rw [hc3] at hs
      rw [hc2] at c0
      generalize xs.length = L at hs h0 hlm ⊢
      have l1 : ¬ (L : Int) = 0 := by omega
      have l2 : ((L : Int) == 0) = false := by simpa using l1
      have l0 : 0 < L := by omega
      have l3 : (L : Int) < 1 + 2 * c := by omega
      clear hb hlc hcm hcell h0 hc2 hc3 hs
      go_enter Try.func25, Try.ntmps25
      go_wp2
      go_ret3
      exact ⟨rfl, Below.refl _ _⟩
theorem parse_long (v : Value) (xs : List Int) (n : Nat) (hx : (xs.getD 0 0).toNat = n) (hlm : xs.length ≤ 100000) (hs : ¬ xs.length < 1 + 2 * n) (w : World) (h : Reads w v xs) : Calls Try.prog 25 #[v] w (ParseDone 48 xs n w) := by
  obtain ⟨hb, ⟨rfl, rfl⟩ | ⟨a, cap, rfl, hlc, hcm, hcell⟩⟩ := h
  · exact absurd (by simp; omega) hs
  · have c0 := hcell 0 (by omega)
    obtain ⟨g, off, spot⟩ := a
    obtain rfl : spot = none := by simpa [Addr.add] using World.cell?_spot c0
    obtain ⟨c, hc1, hc2, hc3⟩ := byte_at hb 0 (by omega)
    obtain rfl : c = n := by omega
    exact parse_row g off cap xs c hc1 hc2 (by omega) hlm hb w (fun i hi => by have := hcell i hi; rwa [addr_add] at this)
end Go.Proofs.Ytjhmjjlmdmmilaa
