/-
  Extended attributes: which there are; pairs in memory.
-/
import Derived.Test.YtjhmjjlmdmmilaaAa
import Derived.OwnWalk
import Derived.Laws.AppendOwnNone
import Derived.Deep.RegionHeld3
namespace Go.Proofs.Ytjhmjjlmdmmilaa
open Go.RowKit Go.Lib

/-- The values of a type. -/
def rightL (t : Nat) : List Nat := if t = 0 then [0] else if t = 65 then [0, 240, 241, 242, 244, 248] else if t = 66 then [0, 241, 242, 243, 244, 245, 246, 247] else if t = 67 then [0, 241] else []
/-- Is it one? -/
def knownB (t v : Nat) : Bool := t == 192 || (rightL t).contains v
abbrev pairV (t v : Nat) : Value := .agg #[.int .u8 t, .int .u8 v]
theorem known_192 (v : Nat) : knownB 192 v = true := rfl
theorem known_none {t : Nat} (v : Nat) (h0 : t ≠ 0) (h1 : t ≠ 65) (h2 : t ≠ 66) (h3 : t ≠ 67) (h4 : t ≠ 192) : knownB t v = false := by
  unfold knownB rightL
  rw [if_neg h0, if_neg h1, if_neg h2, if_neg h3]
  simp [h4]
theorem known_0 (v : Nat) : knownB 0 v = [0].contains v := rfl
theorem known_65 (v : Nat) : knownB 65 v = [0, 240, 241, 242, 244, 248].contains v := rfl
theorem known_66 (v : Nat) : knownB 66 v = [0, 241, 242, 243, 244, 245, 246, 247].contains v := rfl
theorem known_67 (v : Nat) : knownB 67 v = [0, 241].contains v := rfl
set_option maxRecDepth 100000 in
set_option maxHeartbeats 1000000 in
theorem is_0 (v : Nat) (_hv : v < 256) (w : World) : Calls Try.prog 30 #[pairV 0 v] w fun e w' => e = .returned (.bool (knownB 0 v)) ∧ Below w.heap.size w w' := by
  rw [known_0]
  by_cases hm : v = 0
  · rcases hm with rfl
    all_goals
      go_enter Try.func30, Try.ntmps30
      go_wp2
      go_ret
      exact ⟨rfl, (Below.refl _ _).alloc (Nat.le_refl _) _⟩
  · have hb : [0].contains v = false := by simp; omega
    rw [hb]
    have e0 : ((v : Int) == 0) = false := by simp; omega
    clear hm hb
    go_enter Try.func30, Try.ntmps30
    go_wp2
    go_ret
    exact ⟨rfl, (Below.refl _ _).alloc (Nat.le_refl _) _⟩
set_option maxRecDepth 100000 in
set_option maxHeartbeats 1000000 in
theorem is_65 (v : Nat) (_hv : v < 256) (w : World) : Calls Try.prog 30 #[pairV 65 v] w fun e w' => e = .returned (.bool (knownB 65 v)) ∧ Below w.heap.size w w' := by
  rw [known_65]
  by_cases hm : v = 0 ∨ v = 240 ∨ v = 241 ∨ v = 242 ∨ v = 244 ∨ v = 248
  · rcases hm with rfl | rfl | rfl | rfl | rfl | rfl
    all_goals
      go_enter Try.func30, Try.ntmps30
      go_wp2
      go_ret
      exact ⟨rfl, (Below.refl _ _).alloc (Nat.le_refl _) _⟩
  · have hb : [0, 240, 241, 242, 244, 248].contains v = false := by simp; omega
    rw [hb]
    have e0 : ((v : Int) == 0) = false := by simp; omega
    have e240 : ((v : Int) == 240) = false := by simp; omega
    have e241 : ((v : Int) == 241) = false := by simp; omega
    have e242 : ((v : Int) == 242) = false := by simp; omega
    have e244 : ((v : Int) == 244) = false := by simp; omega
    have e248 : ((v : Int) == 248) = false := by simp; omega
    clear hm hb
    go_enter Try.func30, Try.ntmps30
    go_wp2
    go_ret
    exact ⟨rfl, (Below.refl _ _).alloc (Nat.le_refl _) _⟩
set_option maxRecDepth 100000 in
set_option maxHeartbeats 1000000 in
theorem is_66 (v : Nat) (_hv : v < 256) (w : World) : Calls Try.prog 30 #[pairV 66 v] w fun e w' => e = .returned (.bool (knownB 66 v)) ∧ Below w.heap.size w w' := by
  rw [known_66]
  by_cases hm : v = 0 ∨ v = 241 ∨ v = 242 ∨ v = 243 ∨ v = 244 ∨ v = 245 ∨ v = 246 ∨ v = 247
  · rcases hm with rfl | rfl | rfl | rfl | rfl | rfl | rfl | rfl
    all_goals
      go_enter Try.func30, Try.ntmps30
      go_wp2
      go_ret
      exact ⟨rfl, (Below.refl _ _).alloc (Nat.le_refl _) _⟩
  · have hb : [0, 241, 242, 243, 244, 245, 246, 247].contains v = false := by simp; omega
    rw [hb]
    have e0 : ((v : Int) == 0) = false := by simp; omega
    by_cases q1 : (241 : Int) ≤ v
    · have q2 : ¬ (v : Int) ≤ 247 := by omega
      clear hm hb
      go_enter Try.func30, Try.ntmps30
      go_wp2
      go_ret
      exact ⟨rfl, (Below.refl _ _).alloc (Nat.le_refl _) _⟩
    · clear hm hb
      go_enter Try.func30, Try.ntmps30
      go_wp2
      go_ret
      exact ⟨rfl, (Below.refl _ _).alloc (Nat.le_refl _) _⟩
set_option maxRecDepth 100000 in
set_option maxHeartbeats 1000000 in
theorem is_67 (v : Nat) (_hv : v < 256) (w : World) : Calls Try.prog 30 #[pairV 67 v] w fun e w' => e = .returned (.bool (knownB 67 v)) ∧ Below w.heap.size w w' := by
  rw [known_67]
  by_cases hm : v = 0 ∨ v = 241
  · rcases hm with rfl | rfl
    all_goals
      go_enter Try.func30, Try.ntmps30
      go_wp2
      go_ret
      exact ⟨rfl, (Below.refl _ _).alloc (Nat.le_refl _) _⟩
  · have hb : [0, 241].contains v = false := by simp; omega
    rw [hb]
    have e0 : ((v : Int) == 0) = false := by simp; omega
    have e241 : ((v : Int) == 241) = false := by simp; omega
    clear hm hb
    go_enter Try.func30, Try.ntmps30
    go_wp2
    go_ret
    exact ⟨rfl, (Below.refl _ _).alloc (Nat.le_refl _) _⟩
set_option maxRecDepth 100000 in
set_option maxHeartbeats 1000000 in
theorem is_192 (v : Nat) (w : World) : Calls Try.prog 30 #[pairV 192 v] w fun e w' => e = .returned (.bool true) ∧ Below w.heap.size w w' := by
  go_enter Try.func30, Try.ntmps30
  go_wp2
  go_ret
  exact ⟨rfl, (Below.refl _ _).alloc (Nat.le_refl _) _⟩
set_option maxRecDepth 100000 in
set_option maxHeartbeats 1000000 in
theorem is_none (t v : Nat) (h0 : t ≠ 0) (h1 : t ≠ 65) (h2 : t ≠ 66) (h3 : t ≠ 67) (h4 : t ≠ 192) (w : World) : Calls Try.prog 30 #[pairV t v] w fun e w' => e = .returned (.bool false) ∧ Below w.heap.size w w' := by
  have e0 : ((t : Int) == 0) = false := by simp; omega
  have e1 : ((t : Int) == 65) = false := by simp; omega
  have e2 : ((t : Int) == 66) = false := by simp; omega
  have e3 : ((t : Int) == 67) = false := by simp; omega
  have e4 : ((t : Int) == 192) = false := by simp; omega
  clear h0 h1 h2 h3 h4
  go_enter Try.func30, Try.ntmps30
  go_wp2
  go_ret
  exact ⟨rfl, (Below.refl _ _).alloc (Nat.le_refl _) _⟩
theorem is_any (t v : Nat) (hv : v < 256) (w : World) : Calls Try.prog 30 #[pairV t v] w fun e w' => e = .returned (.bool (knownB t v)) ∧ Below w.heap.size w w' := by
  by_cases h0 : t = 0
  · subst h0; exact is_0 v hv w
  by_cases h1 : t = 65
  · subst h1; exact is_65 v hv w
  by_cases h2 : t = 66
  · subst h2; exact is_66 v hv w
  by_cases h3 : t = 67
  · subst h3; exact is_67 v hv w
  by_cases h4 : t = 192
  · subst h4; exact is_192 v w
  rw [known_none v h0 h1 h2 h3 h4]
  exact is_none t v h0 h1 h2 h3 h4 w
set_option maxRecDepth 100000 in
set_option maxHeartbeats 1000000 in
theorem check_any (t v : Nat) (hv : v < 256) (w : World) : Calls Try.prog 29 #[pairV t v] w fun e w' => e = .returned (.int .i64 (if knownB t v then 0 else 10)) ∧ Below w.heap.size w w' := by
  have H := hid (is_any t v hv)
  cases hk : knownB t v
  all_goals
    rw [hk] at H
    clear hk
    go_enter Try.func29, Try.ntmps29
    go_wp2_with fail
    with_reducible refine (H.out _).mono ?_
    rintro e w1 ⟨rfl, hb1⟩
    have H1 := hid hb1
    clear hb1
    go_wp2
    go_ret
    exact ⟨rfl, ((Below.refl _ _).alloc (Nat.le_refl _) _).trans (H1.out.mono (by simp))⟩
theorem infoP : (Try.prog.info? 48).map (fun i => (i.zero, i.size, i.bytes)) = some (some (.agg #[.int .u8 0, .int .u8 0]), 2, 2) := by kernel_rfl
/-- Pairs' cells. -/
def cellsP (ps : List (Nat × Nat)) : List Value := ps.flatMap fun p => [.int .u8 p.1, .int .u8 p.2]
theorem cellsP_nil : cellsP [] = [] := rfl
theorem cellsP_append (a b : List (Nat × Nat)) : cellsP (a ++ b) = cellsP a ++ cellsP b := by simp [cellsP]
theorem cellsP_length (ps : List (Nat × Nat)) : (cellsP ps).length = ps.length * 2 := by
  induction ps with
  | nil => rfl
  | cons p ps ih => simp [cellsP] at ih ⊢; omega
theorem cellsP_snoc (ps : List (Nat × Nat)) (k : Nat) (h : k < ps.length) : cellsP (ps.take (k + 1)) = cellsP (ps.take k) ++ [.int .u8 (ps.getD k (0, 0)).1, .int .u8 (ps.getD k (0, 0)).2] := by
  rw [List.take_succ_eq_append_getElem h, cellsP_append, List.getD, List.getElem?_eq_getElem h]
  rfl
theorem cellsP_get (ps : List (Nat × Nat)) : ∀ i, i < ps.length → (cellsP ps)[i * 2]? = some (.int .u8 (ps.getD i (0, 0)).1) ∧ (cellsP ps)[i * 2 + 1]? = some (.int .u8 (ps.getD i (0, 0)).2) := by
  induction ps with
  | nil => intro i h; simp at h
  | cons p ps ih =>
    intro i h
    match i with
    | 0 => exact ⟨rfl, rfl⟩
    | i + 1 =>
      have e : (i + 1) * 2 = i * 2 + 1 + 1 := by omega
      have := ih i (by simpa using h)
      show (_ :: _ :: cellsP ps)[(i + 1) * 2]? = _ ∧ (_ :: _ :: cellsP ps)[(i + 1) * 2 + 1]? = _
      rw [e, List.getElem?_cons_succ, List.getElem?_cons_succ, List.getElem?_cons_succ, List.getElem?_cons_succ]
      exact this
/-- A slice that reads as pairs. -/
def PairsIn (w : World) (v : Value) (ps : List (Nat × Nat)) : Prop :=
  (v = .slice none 0 0 ∧ ps = []) ∨ ∃ g off cap, v = .slice (some ⟨g, off, none⟩) ps.length cap ∧ ∀ i, i < ps.length → w.cell? ⟨g, off + i * 2, none⟩ = some (.int .u8 (ps.getD i (0, 0)).1) ∧ w.cell? ⟨g, off + i * 2 + 1, none⟩ = some (.int .u8 (ps.getD i (0, 0)).2)
theorem pairs_below {w w' : World} {v : Value} {ps : List (Nat × Nat)} (h : PairsIn w v ps) (hb : Below w.heap.size w w') : PairsIn w' v ps := by
  rcases h with h | ⟨g, off, cap, rfl, h⟩
  · exact .inl h
  · exact .inr ⟨g, off, cap, rfl, fun i hi => ⟨keepc hb (h i hi).1, keepc hb (h i hi).2⟩⟩
theorem pairs_owned {w : World} {B : Nat} {t : TypeId} {v : Value} {ps : List (Nat × Nat)} (h : w.ownsRow B t 2 v ps.length (cellsP ps)) : PairsIn w v ps := by
  rcases h.2 with ⟨rfl, e⟩ | ⟨g, cap, cur, rfl, hg, hh, h1, h2, h3, h4⟩
  · exact .inl ⟨rfl, List.length_eq_zero_iff.1 e⟩
  · refine .inr ⟨g, 0, cap, rfl, fun i hi => ?_⟩
    have q := cellsP_get ps i hi
    rw [Nat.zero_add]
    exact ⟨(World.ownsRow.cellAt h (i * 2) (by omega)).trans q.1, (World.ownsRow.cellAt h (i * 2 + 1) (by omega)).trans q.2⟩
theorem own_ge {w : World} {B : Nat} {t : TypeId} {n m : Nat} {v : Value} {xs : List Value} (h : w.ownsRow B t m v n xs) : ∀ k, v.ownBlock = some k → B ≤ k := fun k hk => (h.lt k hk).1
theorem news_two (W : World) (x y : Value) (t : TypeId) : ∀ j u, [x, y][j]? = some u → (W.alloc (.cells #[x, y] t)).cell? ((⟨W.heap.size, 0, none⟩ : Addr).add j) = some u := by
  intro j u hu
  match j, hu with
  | 0, hu => simp only [List.getElem?_cons_zero, Option.some.injEq] at hu; subst hu; rw [show (⟨W.heap.size, 0, none⟩ : Addr).add 0 = ⟨W.heap.size, 0, none⟩ from rfl]; simp [go_sem]
  | 1, hu => simp only [List.getElem?_cons_succ, List.getElem?_cons_zero, Option.some.injEq] at hu; subst hu; rw [show (⟨W.heap.size, 0, none⟩ : Addr).add 1 = ⟨W.heap.size, 1, none⟩ from rfl]; simp [go_sem]
  | j + 2, hu => simp at hu
theorem one_two (x y : Int) : ∀ u ∈ [Value.int .u8 x, .int .u8 y], u.oneCell' = true := by
  intro u hu
  simp only [List.mem_cons, List.not_mem_nil, or_false] at hu
  rcases hu with rfl | rfl <;> rfl
end Go.Proofs.Ytjhmjjlmdmmilaa
