/-
  Rows and columns and moves: the program's and the reference's, by contracts.
  The reference's moves, lines, lengths; spans, purely.
  The places to the end of the row, told one by one, whatever is put there.
  Deleting a character: what it leaves, and the program's Delete.
  The places of a span told one by one; those ahead of the first attribute.
  Where a tab comes to, as a function; the program's Next and Prev, the reference's tab, by it.
-/
import Derived.Test.YtdampfngdnicoaaDoorFl
import Derived.Test.YtdampfngdnicoaaDoorFj
import Derived.Deep.RegionHeld3
import Derived.IntWalk
namespace Go.Proofs.YtdampfngdnicoaaDoor
open Go.RowKit Go.Lib
theorem box_kept {b : Nat} {w w1 w2 : World} {x y : Value} (hb : Below w1.heap.size w1 w2) (h : w1.cell? ⟨b, 0, none⟩ = some x ∧ w1.cell? ⟨b, 1, none⟩ = some y ∧ Below w.heap.size w w1) : w2.cell? ⟨b, 0, none⟩ = some x ∧ w2.cell? ⟨b, 1, none⟩ = some y ∧ Below w.heap.size w w2 := by
  have hl := World.block_lt_of_cell? w1 _ h.1
  exact ⟨(hb.cell (p := ⟨b, 0, none⟩) hl).trans h.1, (hb.cell (p := ⟨b, 1, none⟩) hl).trans h.2.1, h.2.2.trans (hb.mono h.2.2.size)⟩
/-- The box as it is made. -/
theorem box_new {w w1 : World} {x y : Value} {t : TypeId} (hb : Below (w.alloc (.cells #[x, y] t)).heap.size (w.alloc (.cells #[x, y] t)) w1) : w1.cell? ⟨w.heap.size, 0, none⟩ = some x ∧ w1.cell? ⟨w.heap.size, 1, none⟩ = some y ∧ Below w.heap.size w w1 :=
  box_kept hb ⟨by simp [go_sem], by simp [go_sem], (Below.refl _ _).alloc (Nat.le_refl _) _⟩
theorem box_drew {b : Nat} {w w1 : World} {x y : Value} (h : w1.cell? ⟨b, 0, none⟩ = some x ∧ w1.cell? ⟨b, 1, none⟩ = some y ∧ Below w.heap.size w w1) : w1.drew.cell? ⟨b, 0, none⟩ = some x ∧ w1.drew.cell? ⟨b, 1, none⟩ = some y ∧ Below w.heap.size w w1.drew := ⟨h.1, h.2.1, h.2.2.drew⟩

/-- Where a move comes to. -/
def moveZ (r c n p q : Int) : Int := ((n % (r * c) + q % (r * c)) % (r * c) / c + p % r) % r * c + (n % (r * c) + q % (r * c)) % (r * c) % c % c
/-- How many places there are between two. -/
def lenZ (r c p q : Int) : Int := if (q % (r * c) - p % (r * c)) % (r * c) = 0 then r * c else (q % (r * c) - p % (r * c)) % (r * c)
theorem mod_bd (n : Int) {m : Int} (h : 1 ≤ m) : 0 ≤ n % m ∧ n % m < m := ⟨Int.emod_nonneg n (by omega), Int.emod_lt_of_pos n (by omega)⟩
theorem div_bd {k r c : Int} (h0 : 0 ≤ k) (hc : 1 ≤ c) (h : k < r * c) : 0 ≤ k / c ∧ k / c < r := by
  refine ⟨Int.ediv_nonneg h0 (by omega), ?_⟩
  exact Int.ediv_lt_of_lt_mul (by omega) h

end Go.Proofs.YtdampfngdnicoaaDoor
namespace Go.Proofs.YtdampfngdnicoaaDoor
open Go.RowKit Go.Lib

theorem box_alloc {w : World} {x y : Value} {t : TypeId} : (w.alloc (.cells #[x, y] t)).cell? ⟨w.heap.size, 0, none⟩ = some x ∧ (w.alloc (.cells #[x, y] t)).cell? ⟨w.heap.size, 1, none⟩ = some y ∧ Below w.heap.size w (w.alloc (.cells #[x, y] t)) :=
  ⟨by simp [go_sem], by simp [go_sem], (Below.refl _ _).alloc (Nat.le_refl _) _⟩
theorem lenZ_zero {r c p q : Int} (h : (q % (r * c) - p % (r * c)) % (r * c) = 0) : lenZ r c p q = r * c := if_pos h
theorem lenZ_not {r c p q : Int} (h : ¬ (q % (r * c) - p % (r * c)) % (r * c) = 0) : lenZ r c p q = (q % (r * c) - p % (r * c)) % (r * c) := if_neg h
set_option maxRecDepth 100000 in
set_option maxHeartbeats 2000000 in
theorem length_ok (r c p q : Int) (h : Ok r c) (hp : I64 p) (hq : I64 q) (w : World) : Calls Tryd.prog 82 #[.agg #[.int .i64 r, .int .i64 c], .int .i64 p, .int .i64 q] w fun e w' => e = .returned (.int .i64 (lenZ r c p q)) ∧ Below w.heap.size w w' := by
  have HP := hid (wrap_ok r c p h hp)
  have HQ := hid (wrap_ok r c q h hq)
  have HCE := hid (cells_ok r c h)
  have hN := ok_pos h
  have HZ0 := hid (@lenZ_zero r c p q)
  have HZ1 := hid (@lenZ_not r c p q)
  generalize lenZ r c p q = L at HZ0 HZ1 ⊢
  obtain ⟨p1, p2⟩ := mod_bd p hN.1
  obtain ⟨q1, q2⟩ := mod_bd q hN.1
  generalize p % (r * c) = P at HP HZ0 HZ1 p1 p2 ⊢
  generalize q % (r * c) = Q at HQ HZ0 HZ1 q1 q2 ⊢
  have HW := hid (wrap_ok r c (Q - P) h (i64_small (by omega) (by omega)))
  generalize (Q - P) % (r * c) = K at HW HZ0 HZ1
  have p3 : P < 3564 := by omega
  have q3 : Q < 3564 := by omega
  clear hN hp hq p2 q2 h
  by_cases hK : K = 0
  · have e := HZ0.out hK
    subst hK
    rw [e]
    clear HZ0 HZ1 e
    go_enter Tryd.func82, Tryd.ntmps82
    go_wp2
    have HX := hid (box_alloc (w := w) (x := .int .i64 r) (y := .int .i64 c) (t := 84))
    have s1 : IntKind.i64.wrap (Q - P) = Q - P := IntWalk.i64_in _ (by omega)
    go_region_held3 (fun w' => w'.cell? ⟨w.heap.size, 0, none⟩ = some (.int .i64 r) ∧ w'.cell? ⟨w.heap.size, 1, none⟩ = some (.int .i64 c) ∧ Below w.heap.size w w') (first | exact box_kept (by assumption) (by assumption) | assumption | exact box_drew HX.out)
      (first
        | (go_at_call 42; (with_reducible refine (HP.out _).mono ?_); rintro e w2 ⟨rfl, hb2⟩)
        | (go_at_call 42; (with_reducible refine (HQ.out _).mono ?_); rintro e w2 ⟨rfl, hb2⟩)
        | (go_at_call 42; (with_reducible refine (HW.out _).mono ?_); rintro e w2 ⟨rfl, hb2⟩))
    all_goals
      rename_i hH
      obtain ⟨g1, g2, g3⟩ := hH
      have G3 := hid g3
      clear g3
      go_wp2_with fail
      with_reducible refine (HCE.out _).mono ?_
      rintro e w9 ⟨rfl, hb9⟩
      have HB9 := hid hb9
      clear hb9
      go_wp2
      go_ret
      exact ⟨rfl, G3.out.trans (HB9.out.mono G3.out.size)⟩
  · have e := HZ1.out hK
    subst e
    clear HZ0 HZ1
    go_enter Tryd.func82, Tryd.ntmps82
    go_wp2
    have HX := hid (box_alloc (w := w) (x := .int .i64 r) (y := .int .i64 c) (t := 84))
    have s1 : IntKind.i64.wrap (Q - P) = Q - P := IntWalk.i64_in _ (by omega)
    go_region_held3 (fun w' => w'.cell? ⟨w.heap.size, 0, none⟩ = some (.int .i64 r) ∧ w'.cell? ⟨w.heap.size, 1, none⟩ = some (.int .i64 c) ∧ Below w.heap.size w w') (first | exact box_kept (by assumption) (by assumption) | assumption | exact box_drew HX.out)
      (first
        | (go_at_call 42; (with_reducible refine (HP.out _).mono ?_); rintro e w2 ⟨rfl, hb2⟩)
        | (go_at_call 42; (with_reducible refine (HQ.out _).mono ?_); rintro e w2 ⟨rfl, hb2⟩)
        | (go_at_call 42; (with_reducible refine (HW.out _).mono ?_); rintro e w2 ⟨rfl, hb2⟩))
    all_goals
      rename_i hH
      obtain ⟨g1, g2, g3⟩ := hH
      have G3 := hid g3
      clear g3
      go_wp2
      go_ret
      exact ⟨rfl, G3.out⟩
set_option maxRecDepth 100000 in
set_option maxHeartbeats 2000000 in
theorem length_no (r c p q : Int) (h : vB r c = false) (w : World) : Calls Tryd.prog 82 #[.agg #[.int .i64 r, .int .i64 c], .int .i64 p, .int .i64 q] w fun e w' => e = .returned (.int .i64 0) ∧ Below w.heap.size w w' := by
  have HW := hid (fun x => wrap_no r c x h)
  have HCE := hid (cells_no r c h)
  clear h
  go_enter Tryd.func82, Tryd.ntmps82
  go_wp2
  have HX := hid (box_alloc (w := w) (x := .int .i64 r) (y := .int .i64 c) (t := 84))
  go_region_held3 (fun w' => w'.cell? ⟨w.heap.size, 0, none⟩ = some (.int .i64 r) ∧ w'.cell? ⟨w.heap.size, 1, none⟩ = some (.int .i64 c) ∧ Below w.heap.size w w') (first | exact box_kept (by assumption) (by assumption) | assumption | exact box_drew HX.out)
    (first
      | (go_at_call 42; (with_reducible refine (HW.out _ _).mono ?_); rintro e w2 ⟨rfl, hb2⟩))
  all_goals
    rename_i hH
    obtain ⟨g1, g2, g3⟩ := hH
    have G3 := hid g3
    clear g3
    go_wp2_with fail
    with_reducible refine (HCE.out _).mono ?_
    rintro e w9 ⟨rfl, hb9⟩
    have HB9 := hid hb9
    clear hb9
    go_wp2
    go_ret
    exact ⟨rfl, G3.out.trans (HB9.out.mono G3.out.size)⟩

/-- The places from one on, so many of them. -/
def spanL (N a : Int) (k : Nat) : List Int := (List.range k).map fun (i : Nat) => (a + (i : Int)) % N
theorem spanL_len (N a : Int) (k : Nat) : (spanL N a k).length = k := by simp [spanL]
theorem spanL_succ (N a : Int) (k : Nat) : spanL N a (k + 1) = spanL N a k ++ [(a + (k : Int)) % N] := by simp [spanL, List.range_succ]
theorem spanL_one {N a : Int} (h0 : 0 ≤ a) (h1 : a < N) : spanL N a 1 = [a] := by
  simp [spanL, Int.emod_eq_of_lt h0 h1]
theorem spanL_take (N a : Int) (j k : Nat) (h : j ≤ k) : (spanL N a k).take j = spanL N a j := by
  simp [spanL, ← List.map_take, List.take_range, Nat.min_eq_left h]
theorem spanL_get (N a : Int) (k i : Nat) (h : i < k) : (spanL N a k)[i]? = some ((a + (i : Int)) % N) := by simp [spanL, h]
theorem spanL_bd {N a : Int} (hN : 1 ≤ N) {k : Nat} : ∀ x ∈ spanL N a k, 0 ≤ x ∧ x < N := by
  intro x hx
  simp only [spanL, List.mem_map, List.mem_range] at hx
  obtain ⟨i, _, rfl⟩ := hx
  exact mod_bd _ hN
/-- How many there are, of two places that are in. -/
def lenS (N a b : Int) : Int := if (b - a) % N = 0 then N else (b - a) % N
theorem lenS_eq (r c p q : Int) : lenZ r c p q = lenS (r * c) (p % (r * c)) (q % (r * c)) := rfl
theorem lenS_bd {N a b : Int} (hN : 1 ≤ N) : 1 ≤ lenS N a b ∧ lenS N a b ≤ N := by
  unfold lenS
  obtain ⟨h0, h1⟩ := mod_bd (b - a) hN
  split <;> omega
theorem sub_mod {N a b : Int} (a0 : 0 ≤ a) (a1 : a < N) (b0 : 0 ≤ b) (b1 : b < N) : (b - a) % N = if a ≤ b then b - a else b - a + N := by
  split
  · exact Int.emod_eq_of_lt (by omega) (by omega)
  · have : (b - a + N) % N = (b - a) % N := by rw [Int.add_emod_right]
    rw [← this]
    exact Int.emod_eq_of_lt (by omega) (by omega)
theorem add_mod {N a k : Int} (a0 : 0 ≤ a) (a1 : a < N) (k0 : 0 ≤ k) (k1 : k ≤ N) : (a + k) % N = if a + k < N then a + k else a + k - N := by
  split
  · exact Int.emod_eq_of_lt (by omega) (by omega)
  · have : (a + k - N) % N = (a + k) % N := by rw [Int.sub_emod_right]
    rw [← this]
    exact Int.emod_eq_of_lt (by omega) (by omega)
/-- The reference goes on where it isn't through. -/
theorem span_more {N a b k : Int} (a0 : 0 ≤ a) (a1 : a < N) (b0 : 0 ≤ b) (b1 : b < N) (k1 : 1 ≤ k) (hk : k < lenS N a b) : ¬ (a + k) % N = b ∧ ¬ (a + k) % N = a := by
  have hN : 1 ≤ N := by omega
  have hl := lenS_bd (a := a) (b := b) hN
  unfold lenS at hk hl
  rw [sub_mod a0 a1 b0 b1] at hk hl
  rw [add_mod a0 a1 (by omega) (by omega)]
  constructor <;> intro h <;> split at h <;> split at hk <;> split at hl <;> (try split at hk) <;> (try split at hl) <;> omega
theorem span_end {N a b k : Int} (a0 : 0 ≤ a) (a1 : a < N) (b0 : 0 ≤ b) (b1 : b < N) (hk : k = lenS N a b) : (a + k) % N = b := by
  have hN : 1 ≤ N := by omega
  have hl := lenS_bd (a := a) (b := b) hN
  subst hk
  rw [add_mod a0 a1 (by omega) (by omega)]
  unfold lenS at hl ⊢
  rw [sub_mod a0 a1 b0 b1] at hl ⊢
  repeat' split
  all_goals omega
theorem span_next (N a k : Int) : ((a + k) % N + 1) % N = (a + (k + 1)) % N := by
  rw [Int.emod_add_emod, Int.add_assoc]

end Go.Proofs.YtdampfngdnicoaaDoor
namespace Go.Proofs.YtdampfngdnicoaaDoor
open Go.RowKit Go.Lib Go.Deep

/-- In that row, no attribute. -/
def inB (P : Nat → Bool) (N : Nat) (C rz : Int) (p : Nat) : Bool := decide (p < N) && (decide ((p : Int) / C = rz) && !P p)
/-- From a place on. -/
def rowF (P : Nat → Bool) (N : Nat) (C rz : Int) : Nat → Nat → List Nat
  | 0, _ => []
  | f + 1, p => if inB P N C rz p then p :: rowF P N C rz f (p + 1) else []
theorem rowF_len (P : Nat → Bool) (N : Nat) (C rz : Int) : ∀ f p, (rowF P N C rz f p).length ≤ f
  | 0, _ => Nat.le_refl _
  | f + 1, p => by
    unfold rowF
    split
    · have := rowF_len P N C rz f (p + 1)
      simp
      omega
    · simp
theorem rowF_get (P : Nat → Bool) (N : Nat) (C rz : Int) : ∀ f p k, k < (rowF P N C rz f p).length → (rowF P N C rz f p)[k]? = some (p + k) ∧ inB P N C rz (p + k) = true
  | 0, _, _, h => by simp [rowF] at h
  | f + 1, p, k, h => by
    unfold rowF at h ⊢
    split at h
    · rename_i hc
      rw [if_pos hc]
      cases k with
      | zero => exact ⟨rfl, hc⟩
      | succ k =>
        have q := rowF_get P N C rz f (p + 1) k (by simpa using h)
        rw [show p + 1 + k = p + (k + 1) by omega] at q
        exact ⟨by simpa using q.1, q.2⟩
    · simp at h
theorem rowF_stop (P : Nat → Bool) (N : Nat) (C rz : Int) : ∀ f p, N ≤ p + f → inB P N C rz (p + (rowF P N C rz f p).length) = false
  | 0, p, h => by
    unfold rowF inB
    simp only [List.length_nil, Nat.add_zero]
    rw [decide_eq_false (by omega)]
    rfl
  | f + 1, p, h => by
    unfold rowF
    split
    · have := rowF_stop P N C rz f (p + 1) (by omega)
      rw [List.length_cons, show p + ((rowF P N C rz f (p + 1)).length + 1) = p + 1 + (rowF P N C rz f (p + 1)).length by omega]
      exact this
    · rename_i hc
      simpa using hc
/-- The places to the row's end. -/
def rowL (P : Nat → Bool) (N : Nat) (C : Int) (p : Nat) : List Nat := rowF P N C ((p : Int) / C) N p
/-- The space at b, of that size and those attributes; its pointer and a number lie in boxes. -/
def RRo (bx by_ b N : Nat) (R C n : Int) (P : Nat → Bool) (V : World) : Prop := V.cell? ⟨bx, 0, none⟩ = some (.pointer (some ⟨b, 0, none⟩)) ∧ V.cell? ⟨by_, 0, none⟩ = some (.int .i64 n) ∧ ∃ g s, SpM V b g s ∧ s.L.length = N ∧ s.r = R ∧ s.c = C ∧ s.P = P
theorem RRo.below {bx by_ b N : Nat} {R C n : Int} {P : Nat → Bool} {A B : World} (h : RRo bx by_ b N R C n P A) (hb : Below A.heap.size A B) : RRo bx by_ b N R C n P B := by
  obtain ⟨h1, h2, g, s, h3, h4⟩ := h
  exact ⟨keepc hb h1, keepc hb h2, g, s, h3.below hb, h4⟩
section
variable {b g : Nat} {s : Spc}
end
end Go.Proofs.YtdampfngdnicoaaDoor
namespace Go.Proofs.YtdampfngdnicoaaDoor
open Go.RowKit Go.Lib Go.Deep

theorem putC_at (s : Spc) (n x : Int) (i : Nat) : ((s.putC n x).cel i).at_ = (s.cel i).at_ := by
  unfold Spc.putC
  split
  · rfl
  · rename_i ha
    unfold Spc.setC
    rw [Spc.put1_cel]
    split
    · rename_i hc
      rw [fit_at, hc.1]
      rfl
    · rfl
theorem putC_P (s : Spc) (n x : Int) : (s.putC n x).P = s.P := funext fun i => putC_at s n x i
theorem putC_mo (s : Spc) (n x : Int) : (s.putC n x).mo = s.mo ∧ (s.putC n x).alt = s.alt ∧ (s.putC n x).cu = s.cu := by
  unfold Spc.putC
  split
  · exact ⟨rfl, rfl, rfl⟩
  · exact ⟨rfl, rfl, rfl⟩
/-- The same size, the same attributes' places. -/
structure Alike (s t : Spc) : Prop where
  len : t.L.length = s.L.length
  r : t.r = s.r
  c : t.c = s.c
  P : t.P = s.P
theorem Alike.refl (s : Spc) : Alike s s := ⟨rfl, rfl, rfl, rfl⟩
theorem Alike.put {s t : Spc} (h : Alike s t) (n x : Int) : Alike s (t.putC n x) := by
  obtain ⟨h1, h2, h3⟩ := putC_mo t n x
  exact ⟨(putC_len t n x).trans h.len, (by unfold Spc.r; rw [h1, h2]; exact h.r), (by unfold Spc.c; rw [h1, h2]; exact h.c), (putC_P t n x).trans h.P⟩
theorem Alike.wr {s t : Spc} (h : Alike s t) (n : Int) : t.wr n = s.wr n := by unfold Spc.wr; rw [h.len]
/-- The place that was last. -/
def lastZ (n : Int) (pl : List Nat) (k : Nat) : Int := if k = 0 then n else (pl.getD (k - 1) 0 : Nat)
theorem lastZ_succ {n : Int} {pl : List Nat} {k x : Nat} (h : pl[k]? = some x) : lastZ n pl (k + 1) = (x : Int) := by
  unfold lastZ
  rw [if_neg (by omega), Nat.add_sub_cancel, List.getD_eq_getElem?_getD, h]
  rfl
/-- The characters move, one by one. -/
def delR (s : Spc) (n : Int) (pl : List Nat) : Nat → Spc
  | 0 => s
  | k + 1 => (delR s n pl k).putC (lastZ n pl k) ((delR s n pl k).cel (pl.getD k 0)).ch
theorem delR_alike (s : Spc) (n : Int) (pl : List Nat) : ∀ k, Alike s (delR s n pl k)
  | 0 => Alike.refl s
  | k + 1 => (delR_alike s n pl k).put _ _
theorem delR_ok {s : Spc} (h : s.OK) (n : Int) (pl : List Nat) : ∀ k, (delR s n pl k).OK
  | 0 => h
  | k + 1 => (delR_ok h n pl k).putC _ ((delR_ok h n pl k).cel _).ch
/-- What Delete leaves. -/
def rowS (s : Spc) (n : Int) : List Nat := rowL s.P s.L.length s.c (s.wr n)
def delS (s : Spc) (n : Int) : Spc := modS ((delR s n (rowS s n) (rowS s n).length).putC (lastZ n (rowS s n) (rowS s n).length) 0) n
theorem moved_newc {w A : World} {S S' : List Nat} (h : Moved w A S S') {i : Nat} (hi : w.heap.size ≤ i) (o : Nat) (u : Value) : Moved w (A.setCell ⟨i, o, none⟩ u) S S' :=
  ⟨h.os, h.tape, h.output, by have := h.size; simp [World.setCell]; omega, fun k hk hs => (Go.heap_setCell_other A ⟨i, o, none⟩ k u (by simp; omega)).trans (h.block k hk hs), h.from'⟩
theorem touch_old {m : Nat} {A C : World} {b g : Nat} (h : Moved A C [b, g] [b, g]) (hb : b < m) (hg : g < m) (S : List Nat) : Touch m A C S S :=
  ⟨h.size, fun k hm hk _ => h.block k hk (by simp; omega), fun _ q => .inl q⟩
section
variable {b g : Nat} {s : Spc}
attribute [local go_sem] Oper.semAt_some
end
end Go.Proofs.YtdampfngdnicoaaDoor
namespace Go.Proofs.YtdampfngdnicoaaDoor
open Go.RowKit Go.Lib Go.Deep

/-- So many places, round. -/
def spN (N a L : Nat) : List Nat := (List.range L).map (fun i => (a + i) % N)
theorem spN_len (N a L : Nat) : (spN N a L).length = L := by simp [spN]
theorem spN_get {N a L k : Nat} (h : k < L) : (spN N a L)[k]? = some ((a + k) % N) := by simp [spN, h]
/-- A span's boxes. -/
def RSp (bx bp bq : Nat) (R C p q : Int) (V : World) : Prop := V.cell? ⟨bx, 0, none⟩ = some (.int .i64 R) ∧ V.cell? ⟨bx, 1, none⟩ = some (.int .i64 C) ∧ V.cell? ⟨bp, 0, none⟩ = some (.int .i64 p) ∧ V.cell? ⟨bq, 0, none⟩ = some (.int .i64 q)
theorem RSp.grow {bx bp bq m : Nat} {R C p q : Int} {A B : World} (h : RSp bx bp bq R C p q A) (hg : Grow m A B) : RSp bx bp bq R C p q B := ⟨cell_grow hg h.1, cell_grow hg h.2.1, cell_grow hg h.2.2.1, cell_grow hg h.2.2.2⟩
theorem RSp.below {bx bp bq : Nat} {R C p q : Int} {A B : World} (h : RSp bx bp bq R C p q A) (hb : Below A.heap.size A B) : RSp bx bp bq R C p q B := h.grow (Grow.below hb 0)
set_option maxRecDepth 100000 in
theorem spanIt (R C p q : Int) (w : World) : Calls Tryd.prog 74 #[.agg #[.int .i64 R, .int .i64 C], .int .i64 p, .int .i64 q] w fun e w' => ∃ bx bp bq, e = .returned (.func (.func 93) #[] #[.pointer (some ⟨bx, 0, none⟩), .pointer (some ⟨bp, 0, none⟩), .pointer (some ⟨bq, 0, none⟩)]) ∧ w.heap.size ≤ bx ∧ w.heap.size ≤ bp ∧ w.heap.size ≤ bq ∧ RSp bx bp bq R C p q w' ∧ Below w.heap.size w w' := by
  go_enter Tryd.func74, Tryd.ntmps74
  go_wp2
  go_ret
  refine ⟨w.heap.size, w.heap.size + 1, w.heap.size + 2, rfl, by omega, by omega, by omega, ⟨by simp [go_sem], by simp [go_sem], by simp [go_sem], by simp [go_sem]⟩, ?_⟩
  exact (((Below.refl _ w).alloc (Nat.le_refl _) _).alloc (by simp) _).alloc (by simp; omega) _
set_option maxRecDepth 100000 in
set_option maxHeartbeats 4000000 in
theorem span_seq (n : Nat) (hn : 4 ≤ n) (bx bp bq N : Nat) (R C p q : Int) (hok : Ok R C) (hRC : R * C = (N : Int)) (hp : I64 p) (hq : I64 q) (W : World) : SeqF Fence.wide n Tryd.prog 93 #[.pointer (some ⟨bx, 0, none⟩), .pointer (some ⟨bp, 0, none⟩), .pointer (some ⟨bq, 0, none⟩)] encI (fun k x _ => (spN N (p % (N : Int)).toNat (lenZ R C p q).toNat)[k]? = some x) (lenZ R C p q).toNat (RSp bx bp bq R C p q) W := fun l I Ix hI hIx hR h0 hY => by
  have hpos := ok_pos hok
  have hN0 : 0 < N := by omega
  have hN1 : N ≤ 3564 := by omega
  have hL0 : 0 ≤ lenZ R C p q ∧ lenZ R C p q ≤ 3564 := by
    have := mod_bd (q % (R * C) - p % (R * C)) hpos.1
    unfold lenZ
    split <;> omega
  obtain ⟨L, hL⟩ : ∃ L : Nat, lenZ R C p q = (L : Int) := ⟨(lenZ R C p q).toNat, by omega⟩
  obtain ⟨a, ha⟩ : ∃ a : Nat, p % (N : Int) = (a : Int) := ⟨(p % (N : Int)).toNat, by have := Int.emod_nonneg p (show (N : Int) ≠ 0 by omega); omega⟩
  have haN : a < N := by have := Int.emod_lt_of_pos p (show (0 : Int) < N by omega); omega
  have HWA := hid (fun V => (show Calls Tryd.prog 42 #[.agg #[.int .i64 R, .int .i64 C], .int .i64 p] V fun e w' => e = .returned (.int .i64 (a : Nat)) ∧ Below V.heap.size V w' from by
    have r := wrap_ok R C p hok hp V
    rwa [hRC, ha] at r))
  have HWK := hid (fun (k : Nat) (hk : k ≤ 10000) V => (show Calls Tryd.prog 42 #[.agg #[.int .i64 R, .int .i64 C], .int .i64 ((a : Int) + k)] V fun e w' => e = .returned (.int .i64 (((a + k) % N : Nat) : Int)) ∧ Below V.heap.size V w' from by
    have r := wrap_ok R C ((a : Int) + k) hok (i64_small (by omega) (by omega)) V
    rwa [hRC, show ((a : Int) + k) % (N : Int) = (((a + k) % N : Nat) : Int) by push_cast; rfl] at r))
  have HLE := hid (fun V => (show Calls Tryd.prog 82 #[.agg #[.int .i64 R, .int .i64 C], .int .i64 p, .int .i64 q] V fun e w' => e = .returned (.int .i64 (L : Nat)) ∧ Below V.heap.size V w' from by
    have r := length_ok R C p q hok hp hq V
    rwa [hL] at r))
  rw [ha, hL, Int.toNat_natCast, Int.toNat_natCast] at hY
  rw [hL, Int.toNat_natCast]
  rw [hL] at hL0
  have HY := hid hY
  have HR := hid hR
  have HI := hid hI
  have H0 := hid h0
  obtain ⟨c0, c1, c2, c3⟩ := hR _ _ _ h0
  have l0 := World.block_lt_of_cell? W _ c0
  have l2 := World.block_lt_of_cell? W _ c2
  have l3 := World.block_lt_of_cell? W _ c3
  clear hY hR hI h0 hL ha hp hq hok hRC hpos
  refine callsIn_of_wp Tryd.func93 rfl trivial ?_ rfl
  simp only [Tryd.ntmps93, List.size_toArray, List.length_cons, List.length_nil, Nat.reduceAdd, Nat.reduceSub, Array.replicate_succ, Array.replicate_zero, List.push_toArray, List.append_toArray, List.nil_append, List.cons_append]
  gi_wp2
  refine ⟨trivial, fun _ => (by omega), ?_⟩
  refine (callsIn_wide.2 (HWA.out _)).mono ?_
  rintro e w1 ⟨rfl, hb1⟩
  have HI1 := hid (HI.out _ _ _ _ (Grow.below hb1 _) H0.out)
  have hz1 : W.heap.size ≤ w1.heap.size := hb1.size
  clear hb1 c0 c1 c2 c3 l0 l2 l3 H0
  obtain ⟨c0, c1, c2, c3⟩ := HR.out _ _ _ HI1.out
  have l0 := World.block_lt_of_cell? w1 _ c0
  have l2 := World.block_lt_of_cell? w1 _ c2
  have l3 := World.block_lt_of_cell? w1 _ c3
  gi_wp2
  refine ⟨trivial, fun _ => (by omega), ?_⟩
  refine (callsIn_wide.2 (HLE.out _)).mono ?_
  rintro e w2 ⟨rfl, hb2⟩
  have HI2 := hid (HI.out _ _ _ _ (Grow.below hb2 _) HI1.out)
  have hz2 : W.heap.size ≤ w2.heap.size := Nat.le_trans hz1 hb2.size
  clear hb2 c0 c1 c2 c3 l0 l2 l3 HI1
  gi_wp2
  gi_loopw [14] (fun v wr => ∃ k : Nat, k ≤ L ∧ v = .int .i64 k ∧ Hid (∃ S, I k S wr) ∧ W.heap.size ≤ wr.heap.size) (fun v _ => L - (intOf v).toNat)
  case atStart => exact ⟨0, by omega, rfl, ⟨_, HI2.out⟩, hz2⟩
  case round =>
    clear HI2 hz2 hz1
    obtain ⟨k, hk, rfl, ⟨S, hi⟩, hsz⟩ := hrel
    obtain ⟨c0, c1, c2, c3⟩ := HR.out _ _ _ hi
    have l0 := World.block_lt_of_cell? wr _ c0
    have HI1 := hid hi
    clear hi c2 c3
    by_cases hkL : k < L
    · have hki : (k : Int) < L := by omega
      have hw1 : IntKind.i64.wrap ((a : Int) + k) = (a : Int) + k := wrapI (i64_small (by omega) (by omega))
      obtain ⟨y, hye⟩ : ∃ y, (a + k) % N = y := ⟨_, rfl⟩
      have HWKk := hid (HWK.out k (by omega))
      have hgt := spN_get (N := N) (a := a) hkL
      rw [hye] at HWKk hgt
      clear hye
      gi_wp2
      try simp only [hw1]
      refine ⟨trivial, fun _ => (by omega), ?_⟩
      refine (callsIn_wide.2 (HWKk.out _)).mono ?_
      rintro e w3 ⟨rfl, hb3⟩
      have HI3 := hid (HI.out _ _ _ _ (Grow.below hb3 _) HI1.out)
      have hz3 : W.heap.size ≤ w3.heap.size := Nat.le_trans hsz hb3.size
      clear hb3
      obtain ⟨f1, t1, a6, b1, hy, hr⟩ := HY.out k _ S w3 hkL hgt HI3.out hz3
      have HRR := hid hr
      clear hr
      gi_wp2
      refine ⟨fun _ => (by omega), HRR.out.mono ?_⟩
      rintro e W1 ⟨S', ht, ⟨rfl, hj⟩ | ⟨rfl, hj⟩⟩
      · have HJ := hid (show ∃ S, I (k + 1) S W1 from ⟨S', hj⟩)
        have hsz1 := Nat.le_trans hz3 ht.size
        clear hj ht HI3
        gi_wp2
        go_roundw
        case rel => exact ⟨k + 1, by omega, by go_num, HJ, hsz1⟩
        case measure => simp [intOf]; omega
      · have HJ := hid hj
        clear hj ht HI3
        gi_wp2
        refine bodyPost_ret (results_none rfl _ _ _) rfl ?_
        exact ⟨⟨_, rfl⟩, .inr ⟨k, S', hkL, HJ.out⟩⟩
    · obtain rfl : k = L := by omega
      gi_wp2
      go_end0
      exact ⟨⟨_, rfl⟩, .inl ⟨S, HI1.out⟩⟩
theorem tw_at {p : Nat → Bool} : ∀ (l : List Nat) (k x : Nat), l[k]? = some x → k ≤ (l.takeWhile p).length → (p x = true → k < (l.takeWhile p).length ∧ (l.takeWhile p)[k]? = some x) ∧ (p x = false → (l.takeWhile p).length = k)
  | [], k, x, h, _ => by simp at h
  | y :: l, 0, x, h, _ => by
    simp at h
    subst h
    refine ⟨fun hp => ?_, fun hp => ?_⟩
    · rw [List.takeWhile_cons, if_pos hp]
      simp
    · rw [List.takeWhile_cons, hp]
      simp
  | y :: l, k + 1, x, h, hk => by
    rw [List.takeWhile_cons] at hk ⊢
    cases hy : p y
    · rw [hy] at hk
      simp at hk
    · rw [hy] at hk
      have q := tw_at l k x (by simpa using h) (by simpa using hk)
      refine ⟨fun hp => ?_, fun hp => ?_⟩
      · have q1 := q.1 hp
        simpa using q1
      · have q2 := q.2 hp
        simpa using q2
theorem tw_all {p : Nat → Bool} {l : List Nat} (h : l.length ≤ (l.takeWhile p).length) : (l.takeWhile p).length = l.length := Nat.le_antisymm (List.takeWhile_sublist p).length_le h
/-- Ahead of the first attribute. -/
def ahL (P : Nat → Bool) (l : List Nat) : List Nat := l.takeWhile (fun i => !P i)
def RAh (bs bf bt b N : Nat) (R C p q : Int) (P : Nat → Bool) (V : World) : Prop := V.cell? ⟨bs, 0, none⟩ = some (.pointer (some ⟨b, 0, none⟩)) ∧ V.cell? ⟨bf, 0, none⟩ = some (.int .i64 p) ∧ V.cell? ⟨bt, 0, none⟩ = some (.int .i64 q) ∧ ∃ g s, SpM V b g s ∧ s.L.length = N ∧ s.r = R ∧ s.c = C ∧ s.P = P
theorem RAh.below {bs bf bt b N : Nat} {R C p q : Int} {P : Nat → Bool} {A B : World} (h : RAh bs bf bt b N R C p q P A) (hb : Below A.heap.size A B) : RAh bs bf bt b N R C p q P B := by
  obtain ⟨h1, h2, h3, g, s, h4, h5⟩ := h
  exact ⟨keepc hb h1, keepc hb h2, keepc hb h3, g, s, h4.below hb, h5⟩
/-- Between two places of the span: so many have been told. -/
def IAh (I : Nat → List Nat → World → Prop) (K m yb bx bp bq l : Nat) (R C p q : Int) (k : Nat) (S : List Nat) (V : World) : Prop :=
  I k S V ∧ k ≤ K ∧ V.cell? ⟨yb, 0, none⟩ = some (.func (.yield l) #[] #[]) ∧ RSp bx bp bq R C p q V ∧ yb ∉ S ∧ bx ∉ S ∧ bp ∉ S ∧ bq ∉ S ∧ m ≤ yb ∧ m ≤ bx ∧ m ≤ bp ∧ m ≤ bq
theorem IAh.grow {I : Nat → List Nat → World → Prop} {K m yb bx bp bq l k m' : Nat} {R C p q : Int} {S : List Nat} {A B : World} (h : IAh I K m yb bx bp bq l R C p q k S A) (hI : ∀ k S, Abides m (I k S)) (hm : m ≤ m') (hg : Grow m' A B) : IAh I K m yb bx bp bq l R C p q k S B :=
  ⟨hI _ _ _ _ (hg.mono hm) h.1, h.2.1, cell_grow hg h.2.2.1, h.2.2.2.1.grow hg, h.2.2.2.2⟩
def IxAh (I Ix : Nat → List Nat → World → Prop) (K : Nat) (c : Code) (_ : Nat) (_ : List Nat) (V : World) : Prop := c = .ret ∧ ((∃ S, I K S V) ∨ ∃ j S, j < K ∧ Ix (j + 1) S V)
section
attribute [local go_sem] Oper.semAt_some
end
end Go.Proofs.YtdampfngdnicoaaDoor
namespace Go.Proofs.YtdampfngdnicoaaDoor
open Go.RowKit Go.Lib Go.Deep

/-- The first place on or back, or -1. -/
def seekZ (s : Spc) (p : Nat) (st : Int) : Int :=
  match (List.range s.L.length).find? (fun k : Nat => firstB s ((p : Int) + st * ((k : Int) + 1))) with
  | some k => (s.wr ((p : Int) + st * ((k : Int) + 1)) : Int)
  | none => -1
theorem SeekR.is {s : Spc} {p : Nat} {st r : Int} (h : SeekR s p st r) : r = seekZ s p st := by
  unfold seekZ
  rcases h with ⟨k, hk, hf, hn, hr⟩ | ⟨hn, hr⟩
  · have e : (List.range s.L.length).find? (fun k : Nat => firstB s ((p : Int) + st * ((k : Int) + 1))) = some k :=
      List.find?_range_eq_some.2 ⟨hf, List.mem_range.2 hk, fun j hj => by simp [hn j hj]⟩
    rw [e]
    exact hr
  · have e : (List.range s.L.length).find? (fun k : Nat => firstB s ((p : Int) + st * ((k : Int) + 1))) = none :=
      List.find?_range_eq_none.2 fun j hj => by simp [hn j hj]
    rw [e]
    exact hr
theorem seekZ_R (s : Spc) (p : Nat) (st : Int) : SeekR s p st (seekZ s p st) := by
  unfold seekZ
  cases e : (List.range s.L.length).find? (fun k : Nat => firstB s ((p : Int) + st * ((k : Int) + 1))) with
  | some k =>
    obtain ⟨hf, hk, hn⟩ := List.find?_range_eq_some.1 e
    exact .inl ⟨k, List.mem_range.1 hk, hf, fun j hj => by simpa using hn j hj, rfl⟩
  | none =>
    have hn := List.find?_range_eq_none.1 e
    exact .inr ⟨fun j hj => by simpa using hn j hj, rfl⟩
theorem best_is {s : Spc} (h : s.OK) (back : Bool) {p : Nat} (hp : p < s.L.length) {r : Int} (hr : BestR s.L.length p back (firL s) r) : r = seekZ s p (stB back) :=
  best_one hp (fun f hf => firL_mem h.pos.1 hf) hr (seek_best h back hp (seekZ_R s p (stB back)))
/-- A tab's place. -/
def tabZ (s : Spc) (n : Int) (back : Bool) : Int := if seekZ s (s.wr n) (stB back) < 0 then 0 else seekZ s (s.wr n) (stB back)
theorem seekZ_bd {s : Spc} (h : s.OK) (p : Nat) (st : Int) : seekZ s p st = -1 ∨ ∃ a : Nat, a < s.L.length ∧ seekZ s p st = (a : Int) := by
  rcases (seekZ_R s p st) with ⟨k, _, _, _, hr⟩ | ⟨_, hr⟩
  · exact .inr ⟨_, h.wr_lt _, hr⟩
  · exact .inl hr
theorem tabZ_bd {s : Spc} (h : s.OK) (n : Int) (back : Bool) : ∃ a : Nat, a < s.L.length ∧ tabZ s n back = (a : Int) := by
  have hp := h.pos
  unfold tabZ
  rcases seekZ_bd h (s.wr n) (stB back) with e | ⟨a, ha, e⟩
  · exact ⟨0, hp.1, by rw [e]; rfl⟩
  · exact ⟨a, ha, by rw [e, if_neg (by omega)]⟩
/-- The cursor stands there. -/
def Spc.cuS (s : Spc) (v : Int) : Spc := { s with cu := v }
theorem place_cuS {s : Spc} {a : Nat} (ha : a < s.L.length) : s.place (a : Int) = s.cuS (a : Int) := by
  unfold Spc.place Spc.cuS
  rw [wr_nat ha]
theorem cuS_ok {s : Spc} (h : s.OK) {a : Nat} (ha : a < s.L.length) : (s.cuS (a : Int)).OK := by
  rw [← place_cuS ha]
  exact h.place _
/-- Where one may write, from a place on. -/
def frstZ (s : Spc) (n : Int) : Int := if openB s n then (s.wr n : Int) else tabZ s n false
theorem frstZ_bd {s : Spc} (h : s.OK) (n : Int) : ∃ a : Nat, a < s.L.length ∧ frstZ s n = (a : Int) := by
  unfold frstZ
  split
  · exact ⟨_, h.wr_lt n, rfl⟩
  · exact tabZ_bd h n false
section
variable {b g : Nat} {s : Spc}
theorem next_is (n : Int) (hn : I64 n) (w : World) (h : SpM w b g s) : Calls Tryd.prog 57 #[.pointer (some ⟨b, 0, none⟩), .int .i64 n] w fun e w' => e = .returned (.int .i64 (seekZ s (s.wr n) 1)) ∧ Below w.heap.size w w' :=
  (next_any n hn w h).mono fun e w' q => by
    obtain ⟨⟨r, rfl, hr⟩, hb⟩ := q
    rw [hr.is]
    exact ⟨rfl, hb⟩
end
end Go.Proofs.YtdampfngdnicoaaDoor
