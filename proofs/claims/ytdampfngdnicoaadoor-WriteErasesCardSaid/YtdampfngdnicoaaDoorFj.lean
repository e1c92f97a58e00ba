/-
  The reference's Next: the nearest first place.
  FieldNexts: what is sought is the nearest; on and back again; the law's own walk.
-/
import Derived.Test.YtdampfngdnicoaaDoorFi
namespace Go.Proofs.YtdampfngdnicoaaDoor
open Go.RowKit Go.Lib Go.Deep

/-- How far a place lies behind (ahead of) another one. -/
def dst0 (N p : Nat) (back : Bool) (f : Nat) : Nat := ((if back then (p : Int) - f else (f : Int) - p) % (N : Int)).toNat
def dst (N p : Nat) (back : Bool) (f : Nat) : Nat := if dst0 N p back f = 0 then N else dst0 N p back f
def BestR (N p : Nat) (back : Bool) (l : List Nat) (r : Int) : Prop := (l = [] ∧ r = -1) ∨ ∃ f ∈ l, r = (f : Int) ∧ ∀ f' ∈ l, dst N p back f ≤ dst N p back f'
def BestK (N p : Nat) (back : Bool) (l : List Nat) (be fa : Int) : Prop := (l = [] ∧ be = -1) ∨ ∃ f ∈ l, be = (f : Int) ∧ fa = (dst N p back f : Int) ∧ ∀ f' ∈ l, dst N p back f ≤ dst N p back f'
theorem BestK.new {N p : Nat} {back : Bool} {l : List Nat} {be fa : Int} (h : BestK N p back l be fa) (f : Nat) (hn : be < 0 ∨ (dst N p back f : Int) < fa) : BestK N p back (l ++ [f]) f (dst N p back f) := by
  refine .inr ⟨f, by simp, rfl, rfl, fun f' hf' => ?_⟩
  rcases List.mem_append.1 hf' with q | q
  · rcases h with ⟨h1, _⟩ | ⟨f0, h1, h2, h3, h4⟩
    · rw [h1] at q; cases q
    · have := h4 f' q
      rcases hn with hn | hn
      · omega
      · omega
  · simp at q
    rw [q]
    exact Nat.le_refl _
theorem BestK.old {N p : Nat} {back : Bool} {l : List Nat} {be fa : Int} (h : BestK N p back l be fa) (f : Nat) (hn : ¬ be < 0) (hm : ¬ (dst N p back f : Int) < fa) : BestK N p back (l ++ [f]) be fa := by
  rcases h with ⟨_, h2⟩ | ⟨f0, h1, h2, h3, h4⟩
  · omega
  · refine .inr ⟨f0, by simp [h1], h2, h3, fun f' hf' => ?_⟩
    rcases List.mem_append.1 hf' with q | q
    · exact h4 f' q
    · simp at q
      rw [q]
      omega
theorem BestK.done {N p : Nat} {back : Bool} {l : List Nat} {be fa : Int} (h : BestK N p back l be fa) : BestR N p back l be := by
  rcases h with h | ⟨f0, h1, h2, _, h4⟩
  · exact .inl h
  · exact .inr ⟨f0, h1, h2, h4⟩
theorem firL_mem {s : Spc} {f : Nat} (hN : 0 < s.L.length) (h : f ∈ firL s) : f < s.L.length := by
  unfold firL flS at h
  obtain ⟨a, _, rfl⟩ := List.mem_map.1 h
  exact Nat.mod_lt _ hN
section
variable {b g : Nat} {s : Spc}
end
end Go.Proofs.YtdampfngdnicoaaDoor
namespace Go.Proofs.YtdampfngdnicoaaDoor
open Go.RowKit Go.Lib Go.Deep

theorem sub_mod_eq (n m d N : Int) (h : n % N = m % N) : (n - d) % N = (m - d) % N := by
  rw [Int.sub_emod, h, ← Int.sub_emod]
theorem add_mod_eq (n m d N : Int) (h : n % N = m % N) : (n + d) % N = (m + d) % N := by
  rw [Int.add_emod, h, ← Int.add_emod]
theorem firstB_congr {s : Spc} {n m : Int} (h : n % (s.L.length : Int) = m % (s.L.length : Int)) : firstB s n = firstB s m := by
  unfold firstB Spc.atC Spc.wr
  rw [h, sub_mod_eq n m 1 _ h]
theorem wr_congr {s : Spc} {n m : Int} (h : n % (s.L.length : Int) = m % (s.L.length : Int)) : s.wr n = s.wr m := by
  unfold Spc.wr
  rw [h]
theorem wr_mod {s : Spc} (h : s.OK) (n : Int) : ((s.wr n : Nat) : Int) % (s.L.length : Int) = n % (s.L.length : Int) := by
  rw [h.wr_eq, Int.emod_emod]
theorem dst_on {N p f : Nat} (hp : p < N) (hf : f < N) : dst N p false f = if p < f then f - p else f + N - p := by
  unfold dst dst0
  simp only [Bool.false_eq_true, if_false]
  by_cases h : p < f
  · rw [if_pos h, Int.emod_eq_of_lt (by omega) (by omega), if_neg (by omega)]
    omega
  · rw [if_neg h]
    by_cases e : p = f
    · subst e
      rw [Int.sub_self, Int.zero_emod]
      show (if (0 : Nat) = 0 then N else 0) = _
      rw [if_pos rfl]
      omega
    · rw [← Int.add_emod_right, Int.emod_eq_of_lt (by omega) (by omega), if_neg (by omega)]
      omega
theorem dst_back {N p f : Nat} (hp : p < N) (hf : f < N) : dst N p true f = if f < p then p - f else p + N - f := by
  unfold dst dst0
  simp only [if_true]
  by_cases h : f < p
  · rw [if_pos h, Int.emod_eq_of_lt (by omega) (by omega), if_neg (by omega)]
    omega
  · rw [if_neg h]
    by_cases e : p = f
    · subst e
      rw [Int.sub_self, Int.zero_emod]
      show (if (0 : Nat) = 0 then N else 0) = _
      rw [if_pos rfl]
      omega
    · rw [← Int.add_emod_right, Int.emod_eq_of_lt (by omega) (by omega), if_neg (by omega)]
      omega
def stB (back : Bool) : Int := if back then -1 else 1
/-- A place is as far as it lies. -/
theorem dst_to {N p f : Nat} (back : Bool) (hp : p < N) (hf : f < N) : 1 ≤ dst N p back f ∧ dst N p back f ≤ N ∧ ((p : Int) + stB back * (dst N p back f : Int)) % (N : Int) = (f : Int) % (N : Int) := by
  cases back
  · rw [dst_on hp hf, show stB false = 1 from rfl]
    split
    · refine ⟨by omega, by omega, ?_⟩
      congr 1
      omega
    · refine ⟨by omega, by omega, ?_⟩
      rw [show (p : Int) + 1 * ((f + N - p : Nat) : Int) = (f : Int) + N by omega, Int.add_emod_right]
  · rw [dst_back hp hf, show stB true = -1 from rfl]
    split
    · refine ⟨by omega, by omega, ?_⟩
      congr 1
      omega
    · refine ⟨by omega, by omega, ?_⟩
      rw [show (p : Int) + -1 * ((p + N - f : Nat) : Int) = (f : Int) - N by omega, ← Int.add_emod_right]
      congr 1
      omega
theorem mod_inj {N a b : Nat} (ha : a < N) (hb : b < N) (h : (a : Int) % (N : Int) = (b : Int) % (N : Int)) : a = b := by
  rw [Int.emod_eq_of_lt (by omega) (by omega), Int.emod_eq_of_lt (by omega) (by omega)] at h
  omega
theorem dst_inj {N p f f' : Nat} (back : Bool) (hp : p < N) (hf : f < N) (hf' : f' < N) (h : dst N p back f = dst N p back f') : f = f' := by
  have h1 := (dst_to back hp hf).2.2
  have h2 := (dst_to back hp hf').2.2
  rw [h] at h1
  exact mod_inj hf hf' (h1.symm.trans h2)
theorem dst_of {N p x k : Nat} (back : Bool) (hp : p < N) (hx : x < N) (hk : k < N) (h : ((p : Int) + stB back * ((k : Int) + 1)) % (N : Int) = (x : Int) % (N : Int)) : dst N p back x = k + 1 := by
  rw [Int.emod_eq_of_lt (a := (x : Int)) (by omega) (by omega)] at h
  cases back
  · rw [dst_on hp hx]
    rw [show stB false = 1 from rfl] at h
    by_cases e : p + (k + 1) < N
    · rw [Int.emod_eq_of_lt (by omega) (by omega)] at h
      rw [if_pos (by omega)]
      omega
    · rw [show (p : Int) + 1 * ((k : Int) + 1) = ((p : Int) + (k + 1) - N) + N by omega, Int.add_emod_right, Int.emod_eq_of_lt (by omega) (by omega)] at h
      rw [if_neg (by omega)]
      omega
  · rw [dst_back hp hx]
    rw [show stB true = -1 from rfl] at h
    by_cases e : k + 1 ≤ p
    · rw [Int.emod_eq_of_lt (by omega) (by omega)] at h
      rw [if_pos (by omega)]
      omega
    · rw [← Int.add_emod_right, Int.emod_eq_of_lt (by omega) (by omega)] at h
      rw [if_neg (by omega)]
      omega
/-- A first place is one that is told. -/
theorem firL_iff {s : Spc} (h : s.OK) {f : Nat} (hf : f < s.L.length) : f ∈ firL s ↔ firstB s (f : Int) = true := by
  have hN := big_len h
  have hwf : s.wr (f : Int) = f := wr_nat hf
  have hwp : s.wr ((f : Int) - 1) = bk s.L.length f 1 := wr_bk (q := 1) hf (by omega)
  have e : firstB s (f : Int) = ((s.cel (bk s.L.length f 1)).at_ && !(s.cel (bk s.L.length f 1)).prot && !(s.cel f).at_) := by
    unfold firstB Spc.atC
    rw [hwf, hwp]
  rw [e]
  have hba : bk s.L.length f 1 < s.L.length := by unfold bk; split <;> omega
  have hb1 : (bk s.L.length f 1 + 1) % s.L.length = f := by
    rw [modN (by omega)]
    unfold bk
    split <;> split <;> omega
  constructor
  · intro hm
    unfold firL flS at hm
    obtain ⟨a, ha, rfl⟩ := List.mem_map.1 hm
    obtain ⟨ha1, ha2⟩ := List.mem_filter.1 ha
    have ham := attP_mem (P := s.P) (N := s.L.length) ha1
    have hab : bk s.L.length ((a + 1) % s.L.length) 1 = a := by
      rw [modN (by omega)]
      unfold bk
      split <;> split <;> omega
    rw [hab]
    unfold goodA at ha2
    have h2 : s.P a = true := ham.2
    unfold Spc.P at ha2 h2
    rw [h2]
    simpa using ha2
  · intro hm
    unfold firL flS
    refine List.mem_map.2 ⟨bk s.L.length f 1, List.mem_filter.2 ⟨?_, ?_⟩, hb1⟩
    · show _ ∈ attP s.P s.L.length
      unfold attP
      have : s.P (bk s.L.length f 1) = true := by
        unfold Spc.P
        simp at hm
        exact hm.1.1
      simp [hba, this]
    · unfold goodA
      rw [hb1]
      unfold Spc.P
      simp at hm
      simp [hm.1.2, hm.2]
theorem seek_best {s : Spc} (h : s.OK) (back : Bool) {p : Nat} (hp : p < s.L.length) {r : Int} (hr : SeekR s p (stB back) r) : BestR s.L.length p back (firL s) r := by
  have hN := h.pos
  have key : ∀ f, f ∈ firL s → f < s.L.length ∧ firstB s ((p : Int) + stB back * (dst s.L.length p back f : Int)) = true := fun f hf => by
    have hfN := firL_mem hN.1 hf
    refine ⟨hfN, ?_⟩
    rw [firstB_congr (dst_to back hp hfN).2.2]
    exact (firL_iff h hfN).1 hf
  rcases hr with ⟨k, h1, h2, h3, h4⟩ | ⟨h1, h2⟩
  · right
    have hx := h.wr_lt ((p : Int) + stB back * ((k : Int) + 1))
    have hm := (wr_mod h ((p : Int) + stB back * ((k : Int) + 1))).symm
    have hd := dst_of back hp hx h1 hm
    refine ⟨_, (firL_iff h hx).2 (by rw [← firstB_congr hm]; exact h2), h4, fun f' hf' => ?_⟩
    obtain ⟨hf1, hf2⟩ := key f' hf'
    have hd1 := (dst_to back hp hf1).1
    rw [hd]
    apply Nat.le_of_not_lt
    intro hlt
    have := h3 (dst s.L.length p back f' - 1) (by omega)
    rw [show (((dst s.L.length p back f' - 1 : Nat) : Int) + 1) = (dst s.L.length p back f' : Int) by omega, hf2] at this
    cases this
  · left
    refine ⟨List.eq_nil_iff_forall_not_mem.2 fun f hf => ?_, h2⟩
    obtain ⟨hf1, hf2⟩ := key f hf
    have hd := dst_to back hp hf1
    have := h1 (dst s.L.length p back f - 1) (by omega)
    rw [show (((dst s.L.length p back f - 1 : Nat) : Int) + 1) = (dst s.L.length p back f : Int) by omega, hf2] at this
    cases this
theorem best_one {N p : Nat} {back : Bool} {l : List Nat} {r r' : Int} (hp : p < N) (hl : ∀ f ∈ l, f < N) (h : BestR N p back l r) (h' : BestR N p back l r') : r = r' := by
  rcases h with ⟨h1, h2⟩ | ⟨f, h1, h2, h3⟩
  · rcases h' with ⟨_, k2⟩ | ⟨f', k1, _, _⟩
    · rw [h2, k2]
    · rw [h1] at k1; cases k1
  · rcases h' with ⟨k1, _⟩ | ⟨f', k1, k2, k3⟩
    · rw [k1] at h1; cases h1
    · rw [h2, k2, dst_inj back hp (hl f h1) (hl f' k1) (Nat.le_antisymm (h3 f' k1) (k3 f h1))]
theorem SeekR.bd {s : Spc} {p : Nat} {st r : Int} (h : SeekR s p st r) : r = -1 ∨ ∃ k : Nat, r = (s.wr ((p : Int) + st * ((k : Int) + 1)) : Int) ∧ firstB s ((p : Int) + st * ((k : Int) + 1)) = true := by
  rcases h with ⟨k, _, h2, _, h4⟩ | ⟨_, h2⟩
  · exact .inr ⟨k, h4, h2⟩
  · exact .inl h2
/-- Back, and on again. -/
theorem seek_round {s : Spc} (h : s.OK) {a : Nat} (ha : a < s.L.length) (hf : firstB s (a : Int) = true) {r c : Int} (hr : SeekR s a (-1) r) (hc : SeekR s (s.wr r) 1 c) : c = (a : Int) := by
  have hN := h.pos
  have hself : ((a : Int) + -1 * (((s.L.length - 1 : Nat) : Int) + 1)) % (s.L.length : Int) = (a : Int) % (s.L.length : Int) := by
    rw [← Int.add_emod_right]
    congr 1
    omega
  rcases hr with ⟨k, h1, h2, h3, h4⟩ | ⟨h1, _⟩
  · have hb : (s.wr r : Int) % (s.L.length : Int) = ((a : Int) + -1 * ((k : Int) + 1)) % (s.L.length : Int) := by
      rw [wr_mod h, h4, wr_mod h]
    have hat : ∀ j : Nat, firstB s ((s.wr r : Int) + 1 * ((j : Int) + 1)) = firstB s ((a : Int) + -1 * ((k : Int) + 1) + 1 * ((j : Int) + 1)) := fun j => firstB_congr (add_mod_eq _ _ _ _ hb)
    have hk : firstB s ((s.wr r : Int) + 1 * ((k : Int) + 1)) = true := by
      rw [hat k, show (a : Int) + -1 * ((k : Int) + 1) + 1 * ((k : Int) + 1) = (a : Int) by omega]
      exact hf
    rcases hc with ⟨k2, c1, c2, c3, c4⟩ | ⟨c1, _⟩
    · have hle : ¬ k < k2 := fun q => by
        have := c3 k q
        rw [hk] at this
        cases this
      have hge : ¬ k2 < k := fun q => by
        rw [hat k2] at c2
        have := h3 (k - k2 - 1) (by omega)
        rw [show (a : Int) + -1 * (((k - k2 - 1 : Nat) : Int) + 1) = (a : Int) + -1 * ((k : Int) + 1) + 1 * ((k2 : Int) + 1) by omega, c2] at this
        cases this
      obtain rfl : k2 = k := by omega
      rw [c4, wr_congr (s := s) (add_mod_eq _ _ (1 * ((k2 : Int) + 1)) _ hb), show (a : Int) + -1 * ((k2 : Int) + 1) + 1 * ((k2 : Int) + 1) = (a : Int) by omega, wr_nat ha]
    · have := c1 k h1
      rw [hk] at this
      cases this
  · have := h1 (s.L.length - 1) (by omega)
    rw [firstB_congr hself, hf] at this
    cases this
theorem seek_first {s : Spc} (h : s.OK) {p : Nat} {st r : Int} (hr : SeekR s p st r) (h0 : 0 ≤ r) : ∃ a : Nat, a < s.L.length ∧ r = (a : Int) ∧ firstB s (a : Int) = true := by
  rcases hr.bd with q | ⟨k, h1, h2⟩
  · omega
  · exact ⟨_, h.wr_lt _, h1, by rw [firstB_congr (wr_mod h _)]; exact h2⟩
theorem seek_i64 {s : Spc} (h : s.OK) {p : Nat} {st r : Int} (hr : SeekR s p st r) : I64 r := by
  rcases hr.bd with q | ⟨k, h1, _⟩
  · rw [q]; exact ⟨by decide, by decide⟩
  · have := h.wr_lt ((p : Int) + st * ((k : Int) + 1))
    have := h.pos
    exact i64_small (by omega) (by omega)
/-- Numbers that lie below B. -/
structure NumsIn (B : Nat) (w : World) (v : Value) (xs : List Int) : Prop where
  i64 : ∀ i, i < xs.length → I64 (xs.getD i 0)
  len : xs.length ≤ 9223372036854775807
  sl : ∃ x c, v = .slice x xs.length c
  at_ : ∀ x c, v = .slice x xs.length c → ∀ i, i < xs.length → ∃ g o, x = some ⟨g, o, none⟩ ∧ g < B ∧ w.cell? ⟨g, o + i, none⟩ = some (.int .i64 (xs.getD i 0))
theorem NumsIn.below {B : Nat} {A C : World} {v : Value} {xs : List Int} (h : NumsIn B A v xs) (hb : Below B A C) : NumsIn B C v xs :=
  ⟨h.i64, h.len, h.sl, fun x c e i hi => by
    obtain ⟨g, o, e1, e2, e3⟩ := h.at_ x c e i hi
    exact ⟨g, o, e1, e2, (hb.cell (p := ⟨g, o + i, none⟩) e2).trans e3⟩⟩
end Go.Proofs.YtdampfngdnicoaaDoor
