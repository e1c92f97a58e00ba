/-
  WriteAgain: results compared; bytes appended; the law's own walk.
-/
import Derived.Test.YtdampfngdnicoaaDoorMn
namespace Go.Proofs.YtdampfngdnicoaaDoor
open Go.RowKit Go.Lib Go.Deep

theorem row_anyK {w : World} {base : Nat} {e : TypeId} {size n : Nat} {v : Value} {xs : List Value} (h : w.ownsRow base e size v n xs) : ∃ y cap, v = .slice y n cap := by
  rcases h.2 with ⟨rfl, h0⟩ | ⟨g, cap, cur, rfl, _⟩
  · exact ⟨none, 0, by rw [h0]⟩
  · exact ⟨_, cap, rfl⟩
theorem ints_one (l : List Int) : ∀ v ∈ l.map (Value.int .u8), v.oneCell' = true := by
  intro v hv
  obtain ⟨x, _, rfl⟩ := List.mem_map.1 hv
  rfl

theorem run_append_none (w : World) {B n : Nat} {v : Value} {xs : List Value} (h : w.ownsRow B 5 1 v n xs) (ty : TypeId) : (Builtin.append_ #[23, 23] ty #[v, .slice none 0 0]).run Tryd.prog w = .ok v w := by
  obtain ⟨i0, hi, hz0, hz1, hz2⟩ := info_parts info5
  rcases h.2 with ⟨rfl, _⟩ | ⟨g, cap, cur, rfl, _, _, hnc, _⟩
  · simp [Builtin.append_, run_underlying Tryd.underlying23, sizeOf, typeInfo, hi, Builtin.lenOf, Builtin.firstCells]
  · simp [Builtin.append_, run_underlying Tryd.underlying23, sizeOf, typeInfo, hi, Builtin.lenOf, Builtin.firstCells, hnc, storeCells]
theorem wpList_append_val {P : Program} {w w' : World} {ops : Array Oper} {rest : List Oper} {o : Oper} {a : Act} {Q : Exit → Act → World → Prop} (hgd : o.guard = none) (s x : Operand) (t : TypeId)
    (ho : o.op = .call { callee := .builtin .append, args := #[s, x], argTypes := #[t, t] }) (vs vx v' : Value) (hs : a.eval s = vs) (hx : a.eval x = vx) (hr : (Builtin.append_ #[t, t] o.type #[vs, vx]).run P w = .ok v' w')
    (h : wpList P ops Q rest (a.put o.dst v') w') : wpList P ops Q (o :: rest) a w :=
  wpList_plain hgd fun _ hK => by
    unfold Oper.wp execOp
    simp only [ho, resolve, invoke, builtin, Sem.run_bind, Sem.run_pure, Result.andThen_ok, List.map_toArray, List.map_cons, List.map_nil, hs, hx, hr]
    exact hK _ _ h
/-- An append of bytes onto a row of one's own, whatever the bytes are: one law for nil and the rest. -/
theorem append_bytes {w : World} {B n : Nat} {v u : Value} {ys xs : List Int} (h : w.ownsRow B 5 1 v n (ys.map (Value.int .u8))) (hu : Reads w u xs) (hn : n + xs.length ≤ 10000000) (hB : B ≤ w.heap.size) (ty : TypeId) :
    ∃ v' w', (Builtin.append_ #[23, 23] ty #[v, u]).run Tryd.prog w = .ok v' w' ∧ w'.ownsRow B 5 1 v' (n + xs.length) ((ys ++ xs).map (Value.int .u8)) ∧ w.grownBy w' v.ownBlock := by
  rcases hu.2 with ⟨rfl, rfl⟩ | ⟨a, cap, rfl, _, _, _⟩
  · exact ⟨v, w, run_append_none w h ty, by simpa using h, ⟨rfl, rfl, rfl, Nat.le_refl _, fun _ _ _ => rfl⟩⟩
  · obtain ⟨i0, hi, hz0, hz1, hz2⟩ := info_parts info5
    have hsrc := (reads_src hu).2
    obtain ⟨v', w', h1, h2, h3, _⟩ := run_append_own (P := Tryd.prog) w B 23 ty 5 i0 (.int .u8 0) 1 1 Tryd.underlying23 hi hz0 hz1 hz2 rfl (by decide) v n _ h a xs.length cap (xs.map (Value.int .u8)) (by simp) hsrc (ints_one xs) (by unfold maxLen; omega) (by omega) hB
    exact ⟨v', w', h1, by rw [List.map_append]; exact h2, h3⟩
theorem wpList_append_bytes {w : World} {ops : Array Oper} {rest : List Oper} {o : Oper} {a : Act} {Q : Exit → Act → World → Prop} (hgd : o.guard = none) (s x : Operand)
    (ho : o.op = .call { callee := .builtin .append, args := #[s, x], argTypes := #[23, 23] }) (B n : Nat) (v u : Value) (ys xs : List Int) (hs : a.eval s = v) (hx : a.eval x = u) (h : w.ownsRow B 5 1 v n (ys.map (Value.int .u8))) (hu : Reads w u xs) (hn : n + xs.length ≤ 10000000) (hB : B ≤ w.heap.size) (N : Nat) (hN : n + xs.length = N) (zs : List Int) (hz : ys ++ xs = zs)
    (hk : ∀ y cap w', w'.ownsRow B 5 1 (.slice y N cap) N (zs.map (Value.int .u8)) → w.grownBy w' v.ownBlock → wpList Tryd.prog ops Q rest (a.put o.dst (.slice y N cap)) w') : wpList Tryd.prog ops Q (o :: rest) a w := by
  subst hN hz
  obtain ⟨v', w', h1, h2, h3⟩ := append_bytes h hu hn hB o.type
  obtain ⟨y, cap, rfl⟩ := row_anyK h2
  exact wpList_append_val hgd s x 23 ho v u _ hs hx h1 (hk y cap w' h2 h3)

set_option maxRecDepth 100000 in
set_option maxHeartbeats 2000000 in
theorem rsame17 (cmd : Int) (r a t : Bool) (k : Nat) (w : World) : Calls Tryd.prog 10 #[resV cmd r a t k, resV cmd r a t k] w fun e w' => e = .returned (.bool true) ∧ Below w.heap.size w w' := by
  have HS := hid (fun W => same_true (.slice none 0 0) (.slice none 0 0) [] W (reads_nil W) (reads_nil W))
  unfold resV
  cases r <;> cases a <;> cases t <;> (
    go_enter Tryd.func10, Tryd.ntmps10
    go_wp2_with fail
    with_reducible refine (HS.out _).mono ?_
    rintro e w1 ⟨rfl, rfl⟩
    go_wp2
    go_ret
    exact ⟨rfl, ((Below.refl _ _).alloc (Nat.le_refl _) _).alloc (by simp) _⟩)
/-- The model and the size stay. -/
def SameH (s t : Spc) : Prop := t.mo = s.mo ∧ t.alt = s.alt
theorem SameH.trans {s t u : Spc} (h : SameH s t) (k : SameH t u) : SameH s u := ⟨k.1.trans h.1, k.2.trans h.2⟩
theorem samH_set (s : Spc) (n : Int) (c : Cel) : SameH s (s.setC n c) := ⟨rfl, rfl⟩
theorem samH_put (s : Spc) (n x : Int) : SameH s (s.putC n x) := by
  unfold Spc.putC
  split <;> exact ⟨rfl, rfl⟩
theorem samH_rng (s : Spc) (l : List Nat) (f : Bool) : ∀ k, SameH s (rngR s l f k)
  | 0 => ⟨rfl, rfl⟩
  | k + 1 => by
    show SameH s (if _ then rngR s l f k else (rngR s l f k).putC _ 0)
    split
    · exact samH_rng s l f k
    · exact (samH_rng s l f k).trans (samH_put _ _ _)
theorem samH_rep (s : Spc) (p q : Int) (c : Cel) : SameH s (repS s p q c) := ⟨(repR_sz _ _ _ _).mo, (repR_sz _ _ _ _).alt⟩
theorem samH_nul : ∀ (f : Nat) (s : Spc) (n : Nat), SameH s (nulS s n f)
  | 0, _, _ => ⟨rfl, rfl⟩
  | f + 1, s, n => by
    unfold nulS
    split
    · exact ⟨rfl, rfl⟩
    · exact (samH_put s n 0).trans (samH_nul f _ _)
theorem samH_text : ∀ (l : List Int) (x : Wst), SameH x.s (textW x l).s
  | [], _ => ⟨rfl, rfl⟩
  | c :: r, x => (show SameH x.s (putW x (charC x.lk c false)).s from samH_set _ _ _).trans (samH_text r _)
theorem samH_exec (x : Wst) (d : OpD) : SameH x.s (execW x d).s := by
  show SameH x.s (bodyW x d).s
  unfold bodyW
  by_cases h0 : d.kind = 0
  · rw [if_pos h0]; exact samH_text _ _
  rw [if_neg h0]
  by_cases h1 : d.kind = 8
  · rw [if_pos h1]; exact samH_set _ _ _
  rw [if_neg h1]
  by_cases h2 : d.kind = 17
  · rw [if_pos h2]; exact ⟨rfl, rfl⟩
  rw [if_neg h2]
  by_cases h3 : d.kind = 18
  · rw [if_pos h3]; exact samH_rng _ _ _ _
  rw [if_neg h3]
  by_cases h4 : d.kind = 60
  · rw [if_pos h4]; exact samH_rep _ _ _ _
  rw [if_neg h4]
  by_cases h5 : d.kind = 29
  · rw [if_pos h5]; exact samH_set _ _ _
  rw [if_neg h5]
  by_cases h6 : d.kind = 41
  · rw [if_pos h6]; exact samH_set _ _ _
  rw [if_neg h6]
  by_cases h7 : d.kind = 44
  · rw [if_pos h7]; exact samH_set _ _ _
  rw [if_neg h7]
  by_cases h8 : d.kind = 40
  · rw [if_pos h8]; exact ⟨rfl, rfl⟩
  rw [if_neg h8]
  by_cases h9 : d.kind = 19
  · rw [if_pos h9]; exact ⟨rfl, rfl⟩
  rw [if_neg h9]
  by_cases h10 : d.kind = 5
  · rw [if_pos h10]
    show SameH x.s (if x.wr then nullW x else x).s
    split
    · exact samH_nul _ _ _
    · exact ⟨rfl, rfl⟩
  rw [if_neg h10]
  exact ⟨rfl, rfl⟩
theorem samH_run : ∀ (l : List (OpD × Int)) (x : Wst), SameH x.s (runO x l).1.s
  | [], _ => ⟨rfl, rfl⟩
  | p :: t, x => by
    unfold runO
    split
    · exact ⟨rfl, rfl⟩
    · split
      · exact ⟨rfl, rfl⟩
      · split
        · exact ⟨rfl, rfl⟩
        · exact (samH_exec x p.1).trans (samH_run t _)
theorem ew_alt (mo : Int) (alt : Bool) (ps : List Int) : (ewS mo alt ps).1.s.alt = alt := (samH_run _ _).2
end Go.Proofs.YtdampfngdnicoaaDoor
