/-
  A field's places, told; its length.
  A field's length; the document's example.
  Of no space, there is nothing.
-/
import Derived.Test.YtdampfngdnicoaaDoorFg
namespace Go.Proofs.YtdampfngdnicoaaDoor
open Go.RowKit Go.Lib Go.Deep

/-- The places behind a, from the i-th on, up to an attribute. -/
def plF (P : Nat → Bool) (N a : Nat) : Nat → Nat → List Nat
  | 0, _ => []
  | f + 1, i => if P ((a + 1 + i) % N) then [] else ((a + 1 + i) % N) :: plF P N a f (i + 1)
theorem plF_len (P : Nat → Bool) (N a : Nat) : ∀ f i, (plF P N a f i).length ≤ f
  | 0, _ => Nat.le_refl _
  | f + 1, i => by
    unfold plF
    split
    · simp
    · have := plF_len P N a f (i + 1)
      simp
      omega
theorem plF_get (P : Nat → Bool) (N a : Nat) : ∀ f i k, k < (plF P N a f i).length → (plF P N a f i)[k]? = some ((a + 1 + (i + k)) % N) ∧ P ((a + 1 + (i + k)) % N) = false
  | 0, _, k, h => absurd h (Nat.not_lt_zero _)
  | f + 1, i, k, h => by
    unfold plF at h ⊢
    by_cases e : P ((a + 1 + i) % N) = true
    · rw [if_pos e] at h
      exact absurd h (Nat.not_lt_zero _)
    · rw [if_neg e] at h ⊢
      cases k with
      | zero => exact ⟨rfl, by simpa using e⟩
      | succ k =>
        have := plF_get P N a f (i + 1) k (by simpa using h)
        rw [show i + 1 + k = i + (k + 1) by omega] at this
        simpa using this
theorem plF_stop (P : Nat → Bool) (N a : Nat) : ∀ f i, (plF P N a f i).length < f → P ((a + 1 + (i + (plF P N a f i).length)) % N) = true
  | 0, _, h => absurd h (Nat.not_lt_zero _)
  | f + 1, i, h => by
    unfold plF at h ⊢
    by_cases e : P ((a + 1 + i) % N) = true
    · rw [if_pos e]
      simpa using e
    · rw [if_neg e] at h ⊢
      have := plF_stop P N a f (i + 1) (by simpa using h)
      rw [List.length_cons, show i + ((plF P N a f (i + 1)).length + 1) = i + 1 + (plF P N a f (i + 1)).length by omega]
      exact this
/-- The places of the field whose attribute stands at a. -/
def plL (P : Nat → Bool) (N a : Nat) : List Nat := if P a then plF P N a (N - 1) 0 else []
/-- What the iterator must find. -/
def RPl (bx by_ b N : Nat) (n : Int) (P : Nat → Bool) (V : World) : Prop := V.cell? ⟨bx, 0, none⟩ = some (.pointer (some ⟨b, 0, none⟩)) ∧ V.cell? ⟨by_, 0, none⟩ = some (.int .i64 n) ∧ SpP b N P V
theorem sz_any {b N : Nat} {P : Nat → Bool} {w : World} (h : SpP b N P w) (w' : World) (hb : Below w.heap.size w w') : SpP b N P w' := by
  obtain ⟨g, s, hs, hl, hp⟩ := h
  exact ⟨g, s, hs.below hb, hl, hp⟩
/-- What calls on a space of N cells with such attributes answer. -/
structure SpC (b N : Nat) (P : Nat → Bool) (R C : Int) (W : World) : Prop where
  size : ∀ V, Below W.heap.size W V → Calls Tryd.prog 41 #[.pointer (some ⟨b, 0, none⟩)] V fun e w' => e = .returned (.agg #[.int .i64 R, .int .i64 C]) ∧ Below V.heap.size V w'
  at_ : ∀ (n : Int), I64 n → ∀ V, Below W.heap.size W V → Calls Tryd.prog 14 #[.pointer (some ⟨b, 0, none⟩), .int .i64 n] V fun e w' => (∃ x0 x2 x3 x4 x5, e = .returned (.agg #[.int .u8 x0, .bool (P ((n % (N : Int)).toNat)), .int .u8 x2, .int .u8 x3, .int .u8 x4, .int .u8 x5])) ∧ Below V.heap.size V w'
theorem SpP.calls {b N : Nat} {P : Nat → Bool} {W : World} (h : SpP b N P W) : 0 < N ∧ N ≤ 3564 ∧ ∃ R C, Ok R C ∧ R * C = (N : Int) ∧ SpC b N P R C W := by
  obtain ⟨g, s, hs, hl, hp⟩ := h
  have hpos := hs.ok.pos
  rw [hl] at hpos
  refine ⟨hpos.1, hpos.2, s.r, s.c, hs.ok.sz, by rw [← hs.ok.len, hl], fun V hV => size_any V (hs.below hV), fun n hn V hV => (at_any n hn V (hs.below hV)).mono fun e w' q => ⟨?_, q.2⟩⟩
  have hw : s.wr n < N := by rw [← hl]; exact hs.ok.wr_lt n
  have e2 : (s.atC n).at_ = P ((n % (N : Int)).toNat) := by
    have := hp (s.wr n) hw
    unfold Spc.atC
    rw [this]
    unfold Spc.wr
    rw [hl]
  refine ⟨(s.atC n).ch, (s.atC n).fa, (s.atC n).hi, (s.atC n).co, (s.atC n).se, ?_⟩
  rw [q.1, ← e2]
end Go.Proofs.YtdampfngdnicoaaDoor
namespace Go.Proofs.YtdampfngdnicoaaDoor
open Go.RowKit Go.Lib Go.Deep

section
attribute [local go_sem] Oper.semAt_some
end
/-- The example's space. -/
def actA : ActD := ⟨3, 2, false, 32, cel0, .slice none 0 0, []⟩
def actB : ActD := ⟨3, 5, false, 0, cel0, .slice none 0 0, []⟩
def exS : Spc := runS (clearS (2 + ((0 % 4 : Nat) : Int)) false) [actA, actB] 2
theorem exS_eq : exS = ((clearS 2 false).setC 2 ⟨0, true, 32, 0, 0, 0⟩).setC 5 ⟨0, true, 0, 0, 0, 0⟩ := rfl
theorem exS_len : exS.L.length = 1920 := by rw [exS_eq, setC_len, setC_len]; unfold clearS; rw [List.length_replicate]; rfl
theorem exS_cel (i : Nat) : exS.cel i = if i = 5 then ⟨0, true, 0, 0, 0, 0⟩ else if i = 2 then ⟨0, true, 32, 0, 0, 0⟩ else cel0 := by
  have hl : (clearS 2 false).L.length = 1920 := by unfold clearS; rw [List.length_replicate]; rfl
  rw [exS_eq]
  unfold Spc.setC
  rw [Spc.put1_cel, Spc.put1_cel, clear_cel]
  have e1 : ((clearS 2 false).put1 ((clearS 2 false).wr 2) (fit ⟨0, true, 32, 0, 0, 0⟩)).wr 5 = 5 := by
    unfold Spc.wr
    rw [Spc.put1_len, hl]
    rfl
  have e2 : (clearS 2 false).wr 2 = 2 := by
    unfold Spc.wr
    rw [hl]
    rfl
  rw [e1, e2, Spc.put1_len, hl]
  have f1 : fit ⟨0, true, 0, 0, 0, 0⟩ = ⟨0, true, 0, 0, 0, 0⟩ := by decide +kernel
  have f2 : fit ⟨0, true, 32, 0, 0, 0⟩ = ⟨0, true, 32, 0, 0, 0⟩ := by decide +kernel
  rw [f1, f2]
  by_cases h5 : i = 5
  · rw [if_pos ⟨h5, by omega⟩, if_pos h5]
  · rw [if_neg (fun q => h5 q.1), if_neg h5]
    by_cases h2 : i = 2
    · rw [if_pos ⟨h2, by omega⟩, if_pos h2]
    · rw [if_neg (fun q => h2 q.1), if_neg h2]
theorem exS_P (i : Nat) : exS.P i = (i == 5 || i == 2) := by
  unfold Spc.P
  rw [exS_cel]
  by_cases h5 : i = 5
  · rw [if_pos h5]; simp [h5]
  · rw [if_neg h5]
    by_cases h2 : i = 2
    · rw [if_pos h2]; simp [h2]
    · rw [if_neg h2]; simp [h5, h2, cel0]
theorem exS_P_no {i : Nat} (h5 : i ≠ 5) (h2 : i ≠ 2) : exS.P i = false := by rw [exS_P]; simp [h5, h2]
theorem exS_P_yes {i : Nat} (h : exS.P i = true) : i = 5 ∨ i = 2 := by rw [exS_P] at h; simpa using h
theorem exS_wr {i : Nat} (h : i < 1920) : exS.wr (i : Int) = i := wr_nat (by rw [exS_len]; exact h)
theorem exS_start : stF exS.P exS.L.length (exS.wr 1) = 5 := by
  rw [show (1 : Int) = ((1 : Nat) : Int) from rfl, exS_wr (by decide), exS_len]
  have := stF_found (P := exS.P) (N := 1920) (p := 1) (q := 1916) (by decide) (fun j hj => by
    unfold bk
    split
    · exact exS_P_no (by omega) (by omega)
    · exact exS_P_no (by omega) (by omega)) (by
    rw [show bk 1920 1 1916 = 5 from rfl, exS_P]
    rfl)
  rw [this]
  rfl
theorem exS_plen : (plL exS.P exS.L.length (exS.wr 5)).length = 1916 := by
  rw [show (5 : Int) = ((5 : Nat) : Int) from rfl, exS_wr (by decide), exS_len]
  unfold plL
  rw [if_pos (by rw [exS_P]; rfl)]
  have h1 := plF_len exS.P 1920 5 (1920 - 1) 0
  by_cases h : (plF exS.P 1920 5 (1920 - 1) 0).length < 1920 - 1
  · have := exS_P_yes (plF_stop exS.P 1920 5 (1920 - 1) 0 h)
    omega
  · have := (plF_get exS.P 1920 5 (1920 - 1) 0 1916 (by omega)).2
    rw [exS_P] at this
    cases this
theorem exS_first (n : Nat) (h1 : 1 ≤ n) (h2 : n ≤ 1919) : firstB exS (n : Int) = decide (n = 6) := by
  unfold firstB Spc.atC
  rw [show (n : Int) - 1 = ((n - 1 : Nat) : Int) by omega, exS_wr (by omega), exS_wr (by omega), exS_cel, exS_cel]
  by_cases h6 : n = 6
  · subst h6
    decide +kernel
  · by_cases h3 : n = 3
    · subst h3
      decide +kernel
    · rw [if_neg (show ¬ n - 1 = 5 by omega), if_neg (show ¬ n - 1 = 2 by omega)]
      simp [cel0, h6]
theorem exS_next {r : Int} (h : SeekR exS (exS.wr 0) 1 r) : r = 6 := by
  rw [show exS.wr 0 = 0 from exS_wr (i := 0) (by decide)] at h
  unfold SeekR at h
  rw [exS_len] at h
  have e : ∀ j : Nat, ((0 : Nat) : Int) + 1 * ((j : Int) + 1) = ((j + 1 : Nat) : Int) := fun j => by push_cast; omega
  have h6 := exS_first 6 (by decide) (by decide)
  rcases h with ⟨k, h1, h2, h3, h4⟩ | ⟨h1, _⟩
  · have hk : ¬ 5 < k := fun q => by
      have := h3 5 q
      rw [e 5, h6] at this
      cases this
    rw [e k, exS_first (k + 1) (by omega) (by omega)] at h2
    have hk5 : k + 1 = 6 := by simpa using h2
    rw [h4, e k, hk5]
    exact congrArg _ (exS_wr (i := 6) (by decide))
  · have := h1 5 (by decide)
    rw [e 5, h6] at this
    cases this
end Go.Proofs.YtdampfngdnicoaaDoor
namespace Go.Proofs.YtdampfngdnicoaaDoor
open Go.RowKit Go.Lib Go.Deep

theorem SeqF.el0 {α : Type} {F : Fence} {n : Nat} {P : Program} {gf : Nat} {lb : Array Value} {encs : α → Array Value} {el el' : Nat → α → World → Prop} {R : World → Prop} {W : World} (h : SeqF F n P gf lb encs el 0 R W) : SeqF F n P gf lb encs el' 0 R W :=
  fun l I Ix a b c d _ => h l I Ix a b c d (fun _ _ _ _ hk => absurd hk (Nat.not_lt_zero _))
theorem vB00 : vB 0 0 = false := by decide
set_option maxRecDepth 100000 in
set_option maxHeartbeats 4000000 in
theorem start_nil (n : Int) (w : World) : Calls Tryd.prog 92 #[.pointer none, .int .i64 n] w fun e w' => e = .returned (.int .i64 (-1)) ∧ Below w.heap.size w w' := by
  have HSZ := hid (show Calls Tryd.prog 41 #[.pointer none] w fun e w' => e = .returned (.agg #[.int .i64 0, .int .i64 0]) ∧ Below w.heap.size w w' from size_nil w)
  have HWR := hid (fun W => wrap_no 0 0 n vB00 W)
  have HCL := hid (fun W => cells_no 0 0 vB00 W)
  go_enter Tryd.func92, Tryd.ntmps92
  go_wp2_with fail
  with_reducible refine HSZ.out.mono ?_
  rintro e w1 ⟨rfl, hb1⟩
  obtain ⟨W0, hW0⟩ : ∃ W0, w1.alloc (.cells #[.int .i64 0, .int .i64 0] 84) = W0 := ⟨_, rfl⟩
  have HZ := hid (show ∀ V, Below W0.heap.size W0 V → V.cell? ⟨w1.heap.size, 0, none⟩ = some (.int .i64 0) ∧ V.cell? ⟨w1.heap.size, 1, none⟩ = some (.int .i64 0) ∧ w1.heap.size < V.heap.size from fun V hV => by
    rw [← hW0] at hV
    obtain ⟨c0, c1, _, _, hs⟩ := box2 hV
    exact ⟨c0, c1, hs⟩)
  have HB0 := hid (show Below w.heap.size w W0 by rw [← hW0]; exact bal hb1 _)
  have HW0 := hid hW0
  clear hb1 hW0
  obtain ⟨z0, z1, z2⟩ := HZ.out _ (Below.refl _ _)
  go_wp2_with fail
  simp only [HW0.out]
  with_reducible refine (HWR.out _).mono ?_
  rintro e w2 ⟨rfl, hb2⟩
  have HB2 := hid hb2
  clear hb2 z0 z1 z2
  obtain ⟨z0, z1, z2⟩ := HZ.out _ HB2.out
  go_wp2_with fail
  with_reducible refine (HCL.out _).mono ?_
  rintro e w3 ⟨rfl, hb3⟩
  have HB3 := hid (below_t HB2.out hb3)
  clear hb3 z0 z1 z2 HB2
  go_wp2_with fail
  go_loopw [14] (fun i W => i = .int .i64 0 ∧ Hid (Below W0.heap.size W0 W)) (fun _ _ => 0)
  case atStart => exact ⟨rfl, HB3.out⟩
  case round =>
    clear HB3
    obtain ⟨rfl, HB⟩ := hrel
    go_wp2
    go_ret
    exact ⟨rfl, below_t HB0.out HB.out⟩
set_option maxRecDepth 100000 in
set_option maxHeartbeats 4000000 in
theorem seek_nil (n st : Int) (w : World) : Calls Tryd.prog 78 #[.pointer none, .int .i64 n, .int .i64 st] w fun e w' => e = .returned (.int .i64 (-1)) ∧ Below w.heap.size w w' := by
  have HSZ := hid (show Calls Tryd.prog 41 #[.pointer none] w fun e w' => e = .returned (.agg #[.int .i64 0, .int .i64 0]) ∧ Below w.heap.size w w' from size_nil w)
  have HWR := hid (fun W => wrap_no 0 0 n vB00 W)
  have HCL := hid (fun W => cells_no 0 0 vB00 W)
  go_enter Tryd.func78, Tryd.ntmps78
  go_wp2_with fail
  with_reducible refine HSZ.out.mono ?_
  rintro e w1 ⟨rfl, hb1⟩
  obtain ⟨W0, hW0⟩ : ∃ W0, w1.alloc (.cells #[.int .i64 0, .int .i64 0] 84) = W0 := ⟨_, rfl⟩
  have HZ := hid (show ∀ V, Below W0.heap.size W0 V → V.cell? ⟨w1.heap.size, 0, none⟩ = some (.int .i64 0) ∧ V.cell? ⟨w1.heap.size, 1, none⟩ = some (.int .i64 0) ∧ w1.heap.size < V.heap.size from fun V hV => by
    rw [← hW0] at hV
    obtain ⟨c0, c1, _, _, hs⟩ := box2 hV
    exact ⟨c0, c1, hs⟩)
  have HB0 := hid (show Below w.heap.size w W0 by rw [← hW0]; exact bal hb1 _)
  have HW0 := hid hW0
  clear hb1 hW0
  obtain ⟨z0, z1, z2⟩ := HZ.out _ (Below.refl _ _)
  go_wp2_with fail
  simp only [HW0.out]
  with_reducible refine (HWR.out _).mono ?_
  rintro e w2 ⟨rfl, hb2⟩
  have HB2 := hid hb2
  clear hb2 z0 z1 z2
  obtain ⟨z0, z1, z2⟩ := HZ.out _ HB2.out
  go_wp2_with fail
  with_reducible refine (HCL.out _).mono ?_
  rintro e w3 ⟨rfl, hb3⟩
  have HB3 := hid (below_t HB2.out hb3)
  clear hb3 z0 z1 z2 HB2
  go_wp2_with fail
  go_loopw [15, 1] (fun i t W => i = .int .i64 0 ∧ t = .int .i64 0 ∧ Hid (Below W0.heap.size W0 W)) (fun _ _ _ => 0)
  case atStart => exact ⟨rfl, rfl, HB3.out⟩
  case round =>
    clear HB3
    obtain ⟨rfl, rfl, HB⟩ := hrel
    go_wp2
    go_ret
    exact ⟨rfl, below_t HB0.out HB.out⟩
set_option maxRecDepth 100000 in
set_option maxHeartbeats 4000000 in
theorem next_nil (n : Int) (w : World) : Calls Tryd.prog 57 #[.pointer none, .int .i64 n] w fun e w' => e = .returned (.int .i64 (-1)) ∧ Below w.heap.size w w' := by
  have HS := hid (fun W => seek_nil n 1 W)
  go_enter Tryd.func57, Tryd.ntmps57
  go_wp2_with fail
  with_reducible refine (HS.out _).mono ?_
  rintro e w1 ⟨rfl, hb⟩
  have HR := hid hb
  clear hb
  go_wp2
  go_ret
  exact ⟨rfl, HR.out⟩
set_option maxRecDepth 100000 in
set_option maxHeartbeats 4000000 in
theorem fof_nil (n : Int) (w : World) : Calls Tryd.prog 73 #[.pointer none, .int .i64 n] w fun e w' => e = .returned (.tuple #[field0, .bool false]) ∧ Below w.heap.size w w' := by
  have HS := hid (fun W => start_nil n W)
  go_enter Tryd.func73, Tryd.ntmps73
  go_wp2_with fail
  with_reducible refine (HS.out _).mono ?_
  rintro e w1 ⟨rfl, hb1⟩
  obtain ⟨⟨c0, c1, c2, c3⟩, ⟨f0, f1, f2, f3⟩, hs⟩ := box4 hb1
  have HB1 := hid (blw hb1)
  clear hb1 HS
  go_wp2
  exact bodyPost_ret (v := .tuple #[field0, .bool false]) (by simp [results, Tryd.results73, go_sem, c0, c1, c2, c3]) rfl ⟨rfl, ((((HB1.out.sc _ _ _ (Nat.le_refl _)).sc _ _ _ (Nat.le_refl _)).sc _ _ _ (Nat.le_refl _)).sc _ _ _ (Nat.le_refl _))⟩
set_option maxRecDepth 100000 in
set_option maxHeartbeats 4000000 in
theorem modify_nil (n : Int) (w : World) : Calls Tryd.prog 77 #[.pointer none, .int .i64 n] w fun e w' => e = .returned (.bool false) ∧ Below w.heap.size w w' := by
  have HS := hid (fun W => start_nil n W)
  go_enter Tryd.func77, Tryd.ntmps77
  go_wp2_with fail
  with_reducible refine (HS.out _).mono ?_
  rintro e w1 ⟨rfl, hb⟩
  have HR := hid hb
  clear hb
  go_wp2
  go_ret
  exact ⟨rfl, HR.out⟩
set_option maxRecDepth 100000 in
set_option maxHeartbeats 4000000 in
theorem fieldsIt (o : Option Addr) (w : World) : Calls Tryd.prog 95 #[.pointer o] w fun e w' => ∃ bx, e = .returned (.func (.func 109) #[] #[.pointer (some ⟨bx, 0, none⟩)]) ∧ w.heap.size ≤ bx ∧ w'.cell? ⟨bx, 0, none⟩ = some (.pointer o) ∧ Below w.heap.size w w' := by
  go_enter Tryd.func95, Tryd.ntmps95
  go_wp2
  go_ret
  exact ⟨w.heap.size, rfl, Nat.le_refl _, by simp [go_sem], (Below.refl _ _).al (Nat.le_refl _) _⟩
set_option maxRecDepth 100000 in
set_option maxHeartbeats 4000000 in
theorem modifiedIt (o : Option Addr) (w : World) : Calls Tryd.prog 76 #[.pointer o] w fun e w' => ∃ bx, e = .returned (.func (.func 94) #[] #[.pointer (some ⟨bx, 0, none⟩)]) ∧ w.heap.size ≤ bx ∧ w'.cell? ⟨bx, 0, none⟩ = some (.pointer o) ∧ Below w.heap.size w w' := by
  go_enter Tryd.func76, Tryd.ntmps76
  go_wp2
  go_ret
  exact ⟨w.heap.size, rfl, Nat.le_refl _, by simp [go_sem], (Below.refl _ _).al (Nat.le_refl _) _⟩
/-- What is told of a field. -/
abbrev encFn (x : Nat × Cel) : Array Value := #[.int .i64 x.1, x.2.fv]
def RPn (bx by_ : Nat) (n : Int) (V : World) : Prop := V.cell? ⟨bx, 0, none⟩ = some (.pointer none) ∧ V.cell? ⟨by_, 0, none⟩ = some (.int .i64 n)
set_option maxRecDepth 100000 in
set_option maxHeartbeats 4000000 in
theorem fields_nil_seq (n : Nat) (hn : 6 ≤ n) (bx : Nat) (W : World) : SeqF Fence.wide n Tryd.prog 109 #[.pointer (some ⟨bx, 0, none⟩)] encFn (fun _ _ _ => False) 0 (RN bx) W := fun l I Ix hI hIx hR h0 hY => by
  have hb : W.cell? ⟨bx, 0, none⟩ = some (.pointer none) := hR _ _ _ h0
  have hlt : bx < W.heap.size := World.block_lt_of_cell? W _ hb
  have H0 := hid h0
  clear hY hR h0
  refine callsIn_of_wp_marks Tryd.func109 rfl trivial ?_ rfl
  simp only [Tryd.ntmps109, List.size_toArray, List.length_cons, List.length_nil, Nat.reduceAdd, Nat.reduceSub, Array.replicate_succ, Array.replicate_zero, List.push_toArray, List.append_toArray, List.nil_append, List.cons_append]
  gi_wp2
  refine ⟨trivial, fun _ => (by omega), ?_⟩
  refine (callsIn_wide.2 (attrsIt_nil _)).mono ?_
  rintro e w1 ⟨bs, rfl, hbs, hcs, hb1⟩
  have hg1 : Grow W.heap.size W w1 := (Grow.alloc W _ _).trans (Grow.below hb1 _)
  have hz1 : W.heap.size ≤ w1.heap.size := hg1.size
  have HI0 := hid (show I 0 [] w1 ∧ RN bs w1 from ⟨hI _ _ _ _ hg1 H0.out, hcs⟩)
  clear hb1 hg1 hcs hbs hb hlt
  gi_wp2
  refine rangeFunc_none (n := n) (w := w1) rfl (by omega) (gf := 88) (lb := #[.pointer (some ⟨bs, 0, none⟩)]) rfl trivial (enters_of Tryd.func88 (by kernel_rfl) rfl)
    (encs := encI) (fun _ => rfl) (R := RN bs) (fun V => I 0 [] V ∧ RN bs V) (fun A C hg h => ⟨hI _ _ _ _ (hg.mono hz1) h.1, cell_grow hg h.2⟩) (fun V h => h.2) HI0.out (fun V => attrs_nil_seq (n - 1) (by omega) bs V) ?done
  case done =>
    rintro D V hD hi hK
    have HK := hid hK
    have HI := hid hi
    clear hi hK
    gi_wp2
    refine ⟨by simp, .inl ⟨_, _, rfl, run_takeDeferred HK.out, ?_⟩⟩
    exact ⟨_, results_none rfl _ _ _, ⟨_, rfl⟩, .inl ⟨[], hI _ _ _ _ (Grow.put _ (by omega) HK.out rfl) HI.out.1⟩⟩
set_option maxRecDepth 100000 in
set_option maxHeartbeats 4000000 in
theorem modified_nil_seq (n : Nat) (hn : 7 ≤ n) (bx : Nat) (W : World) : SeqF Fence.wide n Tryd.prog 94 #[.pointer (some ⟨bx, 0, none⟩)] encI (fun _ _ _ => False) 0 (RN bx) W := fun l I Ix hI hIx hR h0 hY => by
  have hb : W.cell? ⟨bx, 0, none⟩ = some (.pointer none) := hR _ _ _ h0
  have hlt : bx < W.heap.size := World.block_lt_of_cell? W _ hb
  have H0 := hid h0
  clear hY hR h0
  refine callsIn_of_wp_marks Tryd.func94 rfl trivial ?_ rfl
  simp only [Tryd.ntmps94, List.size_toArray, List.length_cons, List.length_nil, Nat.reduceAdd, Nat.reduceSub, Array.replicate_succ, Array.replicate_zero, List.push_toArray, List.append_toArray, List.nil_append, List.cons_append]
  gi_wp2
  refine ⟨trivial, fun _ => (by omega), ?_⟩
  refine (callsIn_wide.2 (fieldsIt none _)).mono ?_
  rintro e w1 ⟨bs, rfl, hbs, hcs, hb1⟩
  have hg1 : Grow W.heap.size W w1 := (Grow.alloc W _ _).trans (Grow.below hb1 _)
  have hz1 : W.heap.size ≤ w1.heap.size := hg1.size
  have HI0 := hid (show I 0 [] w1 ∧ RN bs w1 from ⟨hI _ _ _ _ hg1 H0.out, hcs⟩)
  clear hb1 hg1 hcs hbs hb hlt
  gi_wp2
  refine rangeFunc_none (n := n) (w := w1) rfl (by omega) (gf := 109) (lb := #[.pointer (some ⟨bs, 0, none⟩)]) rfl trivial (enters_of Tryd.func109 (by kernel_rfl) rfl)
    (encs := encFn) (fun _ => rfl) (R := RN bs) (fun V => I 0 [] V ∧ RN bs V) (fun A C hg h => ⟨hI _ _ _ _ (hg.mono hz1) h.1, cell_grow hg h.2⟩) (fun V h => h.2) HI0.out (fun V => fields_nil_seq (n - 1) (by omega) bs V) ?done
  case done =>
    rintro D V hD hi hK
    have HK := hid hK
    have HI := hid hi
    clear hi hK
    gi_wp2
    refine ⟨by simp, .inl ⟨_, _, rfl, run_takeDeferred HK.out, ?_⟩⟩
    exact ⟨_, results_none rfl _ _ _, ⟨_, rfl⟩, .inl ⟨[], hI _ _ _ _ (Grow.put _ (by omega) HK.out rfl) HI.out.1⟩⟩
set_option maxRecDepth 100000 in
set_option maxHeartbeats 4000000 in
theorem unmod_nil (m : Nat) (hm : 6 ≤ m) (w : World) :
    CallsIn Fence.wide m Tryd.prog 53 #[.pointer none] w fun e w' => (∃ v, e = .returned v) ∧ Below w.heap.size w w' := by
  refine callsIn_of_wp_marks Tryd.func53 rfl trivial ?_ rfl
  simp only [Tryd.ntmps53, List.size_toArray, List.length_cons, List.length_nil, Nat.reduceAdd, Nat.reduceSub, Array.replicate_succ, Array.replicate_zero, List.push_toArray, List.append_toArray, List.nil_append, List.cons_append]
  gi_wp2
  obtain ⟨a0, ha0⟩ : ∃ a0, w.alloc (.cells #[.pointer none] 25) = a0 := ⟨_, rfl⟩
  have hz0 : a0.heap.size = w.heap.size + 1 := by rw [← ha0]; simp
  have hb0 : Below w.heap.size w a0 := by rw [← ha0]; exact bal (Below.refl _ _) _
  have HBL := hid (show Below w.heap.size w a0 from hb0)
  simp only [ha0]
  clear hz0 hb0 ha0
  refine ⟨trivial, fun _ => (by omega), ?_⟩
  refine (callsIn_wide.2 (attrsIt_nil _)).mono ?_
  rintro e w1 ⟨bx, rfl, hbx, hcx, hb1⟩
  have HB1 := hid (below_t HBL.out hb1)
  have hlz : w.heap.size ≤ w1.heap.size := HB1.out.size
  have HRR := hid (show RN bx w1 from hcx)
  clear hb1
  gi_wp2
  refine rangeFunc_none (n := m) (w := w1) rfl (by omega) (gf := 88) (lb := #[.pointer (some ⟨bx, 0, none⟩)]) rfl trivial (enters_of Tryd.func88 (by kernel_rfl) rfl)
    (encs := encI) (fun _ => rfl) (R := RN bx) (fun V => RN bx V ∧ Below w.heap.size w V) (fun A C hg h => ⟨cell_grow hg h.1, below_grow h.2 hg hlz (Nat.le_refl _)⟩) (fun V h => h.1) ⟨HRR.out, HB1.out⟩ (fun V => attrs_nil_seq (m - 1) (by omega) bx V) ?done
  case done =>
    rintro D V hD hi hK
    have HK := hid hK
    have HI := hid hi
    clear hi hK
    gi_wp2
    refine ⟨by simp, .inl ⟨_, _, rfl, run_takeDeferred HK.out, ?_⟩⟩
    have hg := Grow.put (m := w1.heap.size) (.deferred none) hD HK.out rfl
    exact ⟨_, results_none rfl _ _ _, ⟨_, rfl⟩, below_grow HI.out.2 hg hlz (Nat.le_refl _)⟩
end Go.Proofs.YtdampfngdnicoaaDoor
