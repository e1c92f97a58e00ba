/-
  The law's all of any tally, and the state of the law: a tally and the reference's counters, or none of both.
-/
import Derived.Test.YtadoiplfglaonabAllb
namespace Go.Proofs.Ytadoiplfglaonab
open Go.RowKit Go.Shelf Go.Deep Go.Lib
attribute [local go_sem] Oper.semAt_some

theorem pairsL_take (ts : List (List UInt8)) (cs : List Int) (n k : Nat) : (pairsL ts cs n).take k = pairsL ts cs (min k n) := by
  unfold pairsL
  rw [← List.map_take, List.take_range]
theorem cellsP_pairs (ts : List (List UInt8)) (cs : List Int) (h : cs.length = ts.length) : ∀ k, k ≤ ts.length → cellsP (pairsL ts cs k) = cellsC (ts.take k) (cs.take k)
  | 0, _ => by simp [pairsL, cellsP, cellsC]
  | k + 1, hk => by
    rw [pairsL_succ, cellsP_append, cellsP_pairs ts cs h k (by omega), List.take_succ_eq_append_getElem (show k < ts.length by omega), List.take_succ_eq_append_getElem (show k < cs.length by omega), cellsC_append _ _ _ _ (by simp; omega)]
    simp [cellsP, cellsC, List.getD, List.getElem?_eq_getElem (show k < ts.length by omega), List.getElem?_eq_getElem (show k < cs.length by omega)]
theorem take_min {α : Type} (ts : List α) (k n : Nat) (h : ts.length = n) : ts.take (min k n) = ts.take k := by
  rcases Nat.le_total k n with h1 | h1
  · rw [Nat.min_eq_left h1]
  · rw [Nat.min_eq_right h1, List.take_of_length_le (by omega), List.take_of_length_le (by omega)]
/-- The counters that all told. -/
def ToldPost (ts : List (List UInt8)) (cs : List Int) (K : Nat) (w : World) (e : Ending) (w' : World) : Prop := ∃ v, e = .returned v ∧ RefIn w' w.heap.size v (ts.take K) (cs.take K) ∧ Below w.heap.size w w'
theorem told_of (ts : List (List UInt8)) (cs : List Int) (h : cs.length = ts.length) (K : Nat) (w : World) (e : Ending) (w' : World) (hp : PDone ((pairsL ts cs ts.length).take K) w e w') : ToldPost ts cs K w e w' := by
  obtain ⟨v, h1, h2, h3⟩ := hp
  rw [pairsL_take, cellsP_pairs ts cs h _ (Nat.min_le_right _ _), pairsL_len, take_min _ _ _ rfl, take_min _ _ _ h] at h2
  exact ⟨v, h1, ⟨by rw [List.length_take]; exact h2, by simp [h]⟩, h3⟩
section
variable {B t : Nat} {vn : Value} {g : Nat} {ts : List (List UInt8)} {cs : List Int}
theorem all_some (K : Nat) (hK1 : 1 ≤ K) (hK2 : K ≤ 100000) (w : World) (hT : TallyIn w B t vn g ts cs) : Calls Try.prog 12 #[.pointer (some ⟨t, 0, none⟩), .int .i64 K] w (ToldPost ts cs K w) := by
  have hf := hT.few
  refine (callsIn_wide.1 (all_in 4 (by omega) _ K hK1 hK2 (pairsL ts cs ts.length) (by rw [pairsL_len]; omega) w ?_)).mono fun e w' h => told_of ts cs hT.size K w e w' h
  have hT2 : TallyIn ((w.alloc (.cells #[.int .i64 K] 3)).alloc (.cells #[.slice none 0 0] 30)) B t vn g ts cs := (hT.grown (World.grownBy_alloc _ _ none)).grown (World.grownBy_alloc _ _ none)
  refine (all24 _ hT2).mono ?_
  rintro e w' ⟨b1, b2, oN, oV, cN, cV, rfl, hX, hb⟩
  simp only [World.size_alloc] at hX hb
  refine ⟨b1, b2, rfl, hb, ?_⟩
  rw [pairsL_len]
  have q := iter_stops 3 (by omega) (w.heap.size + 1 + 1) w'.heap.size b1 b2 oN oV cN cV ts cs hf w' hX (Nat.le_refl _) (KeepR (w.heap.size + 2) w'.heap.size) (fun _ _ h => h)
  intro l J Jx W h1 h2 h3 h4 h5
  exact (q l J Jx W h1 h2 h3 h4 h5).mono fun e W' ⟨h6, h7⟩ => ⟨h6, h7.imp id fun ⟨pre, ⟨k, h8, hk⟩, h9⟩ => ⟨pre, ⟨k, by rw [pairsL_take, Nat.min_eq_left hk]; exact h8⟩, h9⟩⟩
end
/-- The iterator over no names: no round. -/
theorem none_stopsP (n : Nat) (b1 b2 : Nat) (w : World) (hb : b1 < w.heap.size) (h1 : w.cell? ⟨b1, 0, none⟩ = some (.slice none 0 0)) (Kp : World → World → Prop) (Sp : List (List UInt8 × Int) → Prop) :
    SeqStopsK Fence.wide n Try.prog 33 (lbA b1 b2) encP Kp (fun xs => xs = []) Sp 0 w := fun l J Jx W hW _ _ _ h0 => by
  have h1' : W.cell? ⟨b1, 0, none⟩ = some (.slice none 0 0) := (hW.cell (p := ⟨b1, 0, none⟩) hb).trans h1
  unfold lbA
  refine callsIn_of_wp Try.func33 rfl trivial ?_ rfl
  simp only [Try.ntmps33, List.size_toArray, List.length_cons, List.length_nil, Nat.reduceAdd, Nat.reduceSub, Array.replicate_succ, Array.replicate_zero, List.push_toArray, List.append_toArray, List.nil_append, List.cons_append]
  gi_wp2
  gi_loop [8] (fun i => i = .int .i64 0) (fun _ => 0)
  case atStart => rfl
  case round =>
    subst hrel
    gi_wp2
    go_end0
    first | exact ⟨⟨_, rfl⟩, .inl ⟨_, rfl, h0⟩⟩ | exact ⟨⟨_, rfl⟩, h0⟩ | exact ⟨⟨_, rfl⟩, .inl h0⟩
theorem all_none (K : Nat) (hK1 : 1 ≤ K) (hK2 : K ≤ 100000) (w : World) : Calls Try.prog 12 #[.pointer none, .int .i64 K] w (ToldPost [] [] K w) := by
  refine (callsIn_wide.1 (all_in 4 (by omega) _ K hK1 hK2 [] (by simp) w ?_)).mono fun e w' h => told_of [] [] rfl K w e w' h
  refine (all_of_nil _).mono ?_
  rintro e w' ⟨b1, b2, rfl, hb1, hc, hb⟩
  simp only [World.size_alloc] at hb
  exact ⟨b1, b2, rfl, hb, none_stopsP 3 b1 b2 w' (World.block_lt_of_cell? w' _ hc) hc _ _⟩
/-- A tally and the reference's counters, alike; or none of both. -/
def StateIn (W : World) (B : Nat) (p v : Value) (ts : List (List UInt8)) : Prop := (p = .pointer none ∧ v = .slice none 0 0 ∧ ts = []) ∨ ∃ t vn g cs, p = .pointer (some ⟨t, 0, none⟩) ∧ PairIn W B t vn g v ts cs
theorem StateIn.grown {W W' : World} {B : Nat} {p v : Value} {ts : List (List UInt8)} (h : StateIn W B p v ts) (hg : W.grownBy W' none) : StateIn W' B p v ts := by
  rcases h with h | ⟨t, vn, g, cs, h1, h2⟩
  · exact .inl h
  · exact .inr ⟨t, vn, g, cs, h1, h2.grown hg⟩
theorem StateIn.slice {W : World} {B : Nat} {p v : Value} {ts : List (List UInt8)} (h : StateIn W B p v ts) : (∃ q, p = .pointer q) ∧ ∃ y c, v = .slice y ts.length c := by
  rcases h with ⟨rfl, rfl, rfl⟩ | ⟨t, vn, g, cs, rfl, h2⟩
  · exact ⟨⟨_, rfl⟩, none, 0, rfl⟩
  · obtain ⟨y, c, e⟩ := row_slice h2.ref.row
    exact ⟨⟨_, rfl⟩, y, c, e⟩
theorem StateIn.few {W : World} {B : Nat} {p v : Value} {ts : List (List UInt8)} (h : StateIn W B p v ts) : ts.length ≤ 64 := by
  rcases h with ⟨_, _, rfl⟩ | ⟨t, vn, g, cs, rfl, h2⟩
  · simp
  · exact h2.tally.few
theorem StateIn.put {W : World} {B : Nat} {p v : Value} {ts : List (List UInt8)} (h : StateIn W B p v ts) (m j : Nat) (x : Value) (hm : m < B) : StateIn (W.setCell ⟨m, j, none⟩ x) B p v ts := by
  rcases h with h | ⟨t, vn, g, cs, h1, h2⟩
  · exact .inl h
  · have hg : W.grownBy (W.setCell ⟨m, j, none⟩ x) (some m) := ⟨rfl, rfl, rfl, by simp [World.setCell], fun i _ hi => Below.heap_setCell W _ _ _ (fun e => hi (by rw [e]))⟩
    have hk : ∀ (u : Value) (e : TypeId) (size n : Nat) (xs : List Value), W.ownsRow B e size u n xs → (W.setCell ⟨m, j, none⟩ x).ownsRow B e size u n xs := fun u e size n xs ho => ho.kept hg (.inr fun q => by have := (ho.lt m q).1; omega)
    refine .inr ⟨t, vn, g, cs, h1, ⟨?_, h2.tally.base, hk _ _ _ _ _ h2.tally.names, hk _ _ _ _ _ h2.tally.counts, h2.tally.size, h2.tally.few, h2.tally.rising⟩, ⟨hk _ _ _ _ _ h2.ref.row, h2.ref.size⟩⟩
    rw [hg.block t (Array.getElem?_eq_some_iff.1 h2.tally.block).1 (fun e => by cases e; have := h2.tally.base; omega)]
    exact h2.tally.block
set_option maxRecDepth 100000 in
set_option maxHeartbeats 4000000 in
theorem do_nil (d : Nat) (hd : d < 256) (s : ByteArray) (hs : s.size ≤ maxLen) (n : Int) (w : World) :
    Calls Try.prog 10 #[.pointer none, .slice none 0 0, .agg #[.int .u8 d, .string s, .int .u64 n]] w fun e w' => e = .returned (.bool true) ∧ Below w.heap.size w w' := by
  have HS := hid hs
  obtain ⟨x, hx⟩ : ∃ x, x = cutS s := ⟨_, rfl⟩
  have HF := hid (fun W => find_any (.slice none 0 0) [] [] x W ⟨none, 0, rfl, by simp, fun i hi => absurd hi (Nat.not_lt_zero i)⟩)
  have hs1 : Below w.heap.size w (w.alloc (.cells #[.int .u8 d, .string s, .int .u64 n] 35)) := (Below.refl _ w).alloc (Nat.le_refl _) _
  have HB1 := hid hs1
  clear hs hs1
  go_enter Try.func10, Try.ntmps10
  go_wp2_with (first
    | (go_at_call 15; refine (cutText_any s _ HS.out).mono ?_; rintro e w' ⟨rfl, rfl⟩)
    | fail)
  rw [← hx]
  refine (HF.out _).mono ?_
  rintro e w1 ⟨hg1, hfd⟩
  have bk0 : ∀ i, w1.cell? ⟨w.heap.size, i, none⟩ = (w.alloc (.cells #[.int .u8 d, .string s, .int .u64 n] 35)).cell? ⟨w.heap.size, i, none⟩ := fun i => World.cell?_of_block (hg1.block w.heap.size (by simp) (by simp))
  have k0 : w1.cell? ⟨w.heap.size, 0, none⟩ = some (.int .u8 d) := (bk0 0).trans (by simp [go_sem])
  have k2 : w1.cell? ⟨w.heap.size, 2, none⟩ = some (.int .u64 n) := (bk0 2).trans (by simp [go_sem])
  have HBW := hid (HB1.out.trans (grown_below0 hg1 (by simp)))
  clear bk0 HB1 HF hx hg1
  have h6 : d % 6 = 0 ∨ d % 6 = 1 ∨ d % 6 = 2 ∨ d % 6 = 3 ∨ d % 6 = 4 ∨ d % 6 = 5 := by omega
  rcases hfd with ⟨j, hj, _, _⟩ | ⟨_, rfl⟩
  · exact absurd hj (Nat.not_lt_zero j)
  · rcases h6 with h | h | h | h | h | h
    · have hr : (d : Int) % 6 = 0 := by omega
      clear h
      go_wp2_with (go_at_call 17; refine (add_nil _ _ _).mono ?_; rintro e w' ⟨rfl, rfl⟩)
      go_ret
      exact ⟨by simp, HBW.out⟩
    · have hr : (d : Int) % 6 = 1 := by omega
      clear h
      go_wp2_with (go_at_call 17; refine (add_nil _ _ _).mono ?_; rintro e w' ⟨rfl, rfl⟩)
      go_ret
      exact ⟨by simp, HBW.out⟩
    · have hr : (d : Int) % 6 = 2 := by omega
      clear h
      go_wp2_with (go_at_call 18; refine (most_nil _ _ _).mono ?_; rintro e w' ⟨rfl, rfl⟩)
      go_ret
      exact ⟨by simp, HBW.out⟩
    · have hr : (d : Int) % 6 = 3 := by omega
      clear h
      go_wp2_with (go_at_call 19; refine (take_nil _ _).mono ?_; rintro e w' ⟨rfl, rfl⟩)
      go_ret
      exact ⟨by simp, HBW.out⟩
    · have hr : (d : Int) % 6 = 4 := by omega
      clear h
      go_wp2_with (go_at_call 20; refine (get_nil _ _).mono ?_; rintro e w' ⟨rfl, rfl⟩)
      go_ret
      exact ⟨by simp, HBW.out⟩
    · have hr : (d : Int) % 6 = 5 := by omega
      clear h
      go_wp2
      go_loop [75] (fun i => i = .int .i64 0) (fun _ => 0)
      case atStart => rfl
      case round =>
        subst hrel
        go_wp2_with (go_at_call 16; refine (reset_nil _).mono ?_; rintro e w' ⟨rfl, rfl⟩)
        go_ret
        exact ⟨rfl, HBW.out⟩
/-- Both are told the same. -/
theorem do_any (d : Nat) (hd : d < 256) (s : ByteArray) (hs : s.size ≤ maxLen) (n : Int) (hn0 : 0 ≤ n) (hn1 : n < 18446744073709551616) {W : World} {B : Nat} {p v : Value} {ts : List (List UInt8)} (h : StateIn W B p v ts) (hB : B ≤ W.heap.size) :
    Calls Try.prog 10 #[p, v, .agg #[.int .u8 d, .string s, .int .u64 n]] W fun e W' => e = .returned (.bool true) ∧ StateIn W' B p v ts ∧ Below B W W' := by
  rcases h with ⟨rfl, rfl, rfl⟩ | ⟨t, vn, g, cs, rfl, h2⟩
  · exact (do_nil d hd s hs n W).mono fun e W' ⟨h1, h2⟩ => ⟨h1, .inl ⟨rfl, rfl, rfl⟩, h2.mono hB⟩
  · exact (do_some (C := W.heap.size) d hd s hs n hn0 hn1 W h2 (h2.tally.counts.lt g (by simp [Value.ownBlock])).2 (fun k hk => (h2.ref.row.lt k hk).2)).mono fun e W' ⟨h1, ⟨cs', h3⟩, h4⟩ => ⟨h1, .inr ⟨t, vn, g, cs', rfl, h3⟩, h4.below⟩
/-- All of it, and what it is held against. -/
theorem all_any (K : Nat) (hK1 : 1 ≤ K) (hK2 : K ≤ 100000) {W : World} {B : Nat} {p v : Value} {ts : List (List UInt8)} (h : StateIn W B p v ts) :
    Calls Try.prog 12 #[p, .int .i64 K] W fun e W' => ∃ u cs, e = .returned u ∧ CRead W' u (ts.take K) (cs.take K) ∧ CRead W' v ts cs ∧ StateIn W' B p v ts ∧ Below W.heap.size W W' := by
  have H := h
  rcases h with ⟨rfl, rfl, rfl⟩ | ⟨t, vn, g, cs, rfl, h2⟩
  · exact (all_none K hK1 hK2 W).mono fun e W' ⟨u, h1, h3, h4⟩ => ⟨u, [], h1, by simpa using h3.read (by simp), ⟨none, 0, rfl, by simp, fun i hi => absurd hi (Nat.not_lt_zero i)⟩, H.grown (grown_of_below h4), h4⟩
  · exact (all_some K hK1 hK2 W h2.tally).mono fun e W' ⟨u, h1, h3, h4⟩ => ⟨u, cs, h1, h3.read (by have := h2.tally.few; rw [List.length_take]; omega), (h2.ref.grown (grown_of_below h4)).read h2.tally.few, H.grown (grown_of_below h4), h4⟩
end Go.Proofs.Ytadoiplfglaonab
