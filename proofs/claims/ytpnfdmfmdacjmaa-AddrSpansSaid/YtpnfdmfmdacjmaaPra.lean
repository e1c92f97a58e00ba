/-
  Slices of pairs: told back, and compared.
-/
import Derived.Test.YtpnfdmfmdacjmaaApa
import Derived.OwnWalk
import Derived.Laws.AppendOwnNone
import Derived.Deep.RegionHeld3
namespace Go.Proofs.Ytpnfdmfmdacjmaa
open Go.RowKit Go.Lib

theorem info78 : (Try.prog.info? 78).map (fun i => (i.zero, i.size, i.bytes)) = some (some (.agg #[.int .u8 0, .int .u8 0]), 2, 2) := by kernel_rfl
theorem info82 : (Try.prog.info? 82).map (fun i => (i.zero, i.size, i.bytes)) = some (some (.agg #[.int .u8 0, .int .u8 0]), 2, 2) := by kernel_rfl
/-- Pairs' cells. -/
def cellsP (ps : List (Nat × Nat)) : List Value := ps.flatMap fun p => [.int .u8 p.1, .int .u8 p.2]
theorem cellsP_nil : cellsP [] = [] := rfl
theorem cellsP_append (a b : List (Nat × Nat)) : cellsP (a ++ b) = cellsP a ++ cellsP b := by simp [cellsP]
theorem cellsP_length (ps : List (Nat × Nat)) : (cellsP ps).length = ps.length * 2 := by
  induction ps with
  | nil => rfl
  | cons p ps ih => simp [cellsP] at ih ⊢; omega
theorem cellsP_snoc (ps : List (Nat × Nat)) (k : Nat) (h : k < ps.length) : cellsP (ps.take (k + 1)) = cellsP (ps.take k) ++ [.int .u8 (ps.getD k (0, 0)).1, .int .u8 (ps.getD k (0, 0)).2] := by
  rw [List.take_succ_eq_append_getElem h, cellsP_append, List.getD, List.getElem?_eq_getElem h]
  rfl
theorem cellsP_get (ps : List (Nat × Nat)) : ∀ i, i < ps.length → (cellsP ps)[i * 2]? = some (.int .u8 (ps.getD i (0, 0)).1) ∧ (cellsP ps)[i * 2 + 1]? = some (.int .u8 (ps.getD i (0, 0)).2) := by
  induction ps with
  | nil => intro i h; simp at h
  | cons p ps ih =>
    intro i h
    match i with
    | 0 => exact ⟨rfl, rfl⟩
    | i + 1 =>
      have e : (i + 1) * 2 = i * 2 + 1 + 1 := by omega
      have := ih i (by simpa using h)
      show (_ :: _ :: cellsP ps)[(i + 1) * 2]? = _ ∧ (_ :: _ :: cellsP ps)[(i + 1) * 2 + 1]? = _
      rw [e, List.getElem?_cons_succ, List.getElem?_cons_succ, List.getElem?_cons_succ, List.getElem?_cons_succ]
      exact this
/-- A slice that reads as pairs. -/
def PairsIn (w : World) (v : Value) (ps : List (Nat × Nat)) : Prop :=
  (v = .slice none 0 0 ∧ ps = []) ∨ ∃ g off cap, v = .slice (some ⟨g, off, none⟩) ps.length cap ∧ ∀ i, i < ps.length → w.cell? ⟨g, off + i * 2, none⟩ = some (.int .u8 (ps.getD i (0, 0)).1) ∧ w.cell? ⟨g, off + i * 2 + 1, none⟩ = some (.int .u8 (ps.getD i (0, 0)).2)
theorem pairs_below {w w' : World} {v : Value} {ps : List (Nat × Nat)} (h : PairsIn w v ps) (hb : Below w.heap.size w w') : PairsIn w' v ps := by
  rcases h with h | ⟨g, off, cap, rfl, h⟩
  · exact .inl h
  · exact .inr ⟨g, off, cap, rfl, fun i hi => ⟨keepc hb (h i hi).1, keepc hb (h i hi).2⟩⟩
theorem pairs_owned {w : World} {B : Nat} {t : TypeId} {v : Value} {ps : List (Nat × Nat)} (h : w.ownsRow B t 2 v ps.length (cellsP ps)) : PairsIn w v ps := by
  rcases h.2 with ⟨rfl, e⟩ | ⟨g, cap, cur, rfl, hg, hh, h1, h2, h3, h4⟩
  · exact .inl ⟨rfl, List.length_eq_zero_iff.1 e⟩
  · refine .inr ⟨g, 0, cap, rfl, fun i hi => ?_⟩
    have q := cellsP_get ps i hi
    rw [Nat.zero_add]
    exact ⟨(World.ownsRow.cellAt h (i * 2) (by omega)).trans q.1, (World.ownsRow.cellAt h (i * 2 + 1) (by omega)).trans q.2⟩
/-- Pairs of one's own are there. -/
def OwnPairs (t : TypeId) (ps : List (Nat × Nat)) (w : World) (e : Ending) (w' : World) : Prop := ∃ v, e = .returned v ∧ w'.ownsRow w.heap.size t 2 v ps.length (cellsP ps) ∧ Below w.heap.size w w'
theorem own_done {t : TypeId} {ps : List (Nat × Nat)} {w w' : World} {v : Value} (h : w'.ownsRow w.heap.size t 2 v ps.length (cellsP ps)) (hb : Below w.heap.size w w') : OwnPairs t ps w (.returned v) w' := ⟨v, rfl, h, hb⟩
theorem own_ge {w : World} {B : Nat} {t : TypeId} {n m : Nat} {v : Value} {xs : List Value} (h : w.ownsRow B t m v n xs) : ∀ k, v.ownBlock = some k → B ≤ k := fun k hk => (h.lt k hk).1
theorem news_two (W : World) (x y : Value) (t : TypeId) : ∀ j u, [x, y][j]? = some u → (W.alloc (.cells #[x, y] t)).cell? ((⟨W.heap.size, 0, none⟩ : Addr).add j) = some u := by
  intro j u hu
  match j, hu with
  | 0, hu => simp only [List.getElem?_cons_zero, Option.some.injEq] at hu; subst hu; rw [show (⟨W.heap.size, 0, none⟩ : Addr).add 0 = ⟨W.heap.size, 0, none⟩ from rfl]; simp [go_sem]
  | 1, hu => simp only [List.getElem?_cons_succ, List.getElem?_cons_zero, Option.some.injEq] at hu; subst hu; rw [show (⟨W.heap.size, 0, none⟩ : Addr).add 1 = ⟨W.heap.size, 1, none⟩ from rfl]; simp [go_sem]
  | j + 2, hu => simp at hu
theorem one_two (x y : Int) : ∀ u ∈ [Value.int .u8 x, .int .u8 y], u.oneCell' = true := by
  intro u hu
  simp only [List.mem_cons, List.not_mem_nil, or_false] at hu
  rcases hu with rfl | rfl <;> rfl
set_option maxRecDepth 100000 in
set_option maxHeartbeats 2000000 in
theorem back_row (g off cap : Nat) (ps : List (Nat × Nat)) (hn : ps.length ≤ 100000) (w : World) (hc : ∀ i, i < ps.length → w.cell? ⟨g, off + i * 2, none⟩ = some (.int .u8 (ps.getD i (0, 0)).1) ∧ w.cell? ⟨g, off + i * 2 + 1, none⟩ = some (.int .u8 (ps.getD i (0, 0)).2)) : Calls Try.prog 63 #[.slice (some ⟨g, off, none⟩) ps.length cap] w (OwnPairs 78 ps w) := by
  obtain ⟨i0, hi, hz0, hz1, hz2⟩ := info_parts info78
  have HC := hid hc
  have HSN := hid (cellsP_snoc ps)
  have HEND := hid (show cellsP (ps.take ps.length) = cellsP ps by rw [List.take_length])
  clear hc
  obtain ⟨n, hln⟩ : ∃ n, n = ps.length := ⟨_, rfl⟩
  rw [← hln] at hn HC HSN HEND ⊢
  have HLN := hid hln
  clear hln
  go_enter Try.func63, Try.ntmps63
  go_wp2
  go_loopw [3, 8] (fun s i w' => ∃ k : Nat, k ≤ n ∧ i = .int .i64 k ∧ Hid (w'.ownsRow w.heap.size 78 2 s k (cellsP (ps.take k))) ∧ Hid (Below w.heap.size w w')) (fun _ i _ => n - (intOf i).toNat)
  case atStart => exact ⟨0, Nat.zero_le _, rfl, World.ownsRow_nil _ _ _ _, Below.refl _ _⟩
  case round =>
    obtain ⟨k, hk, rfl, HO, HB⟩ := hrel
    by_cases hlt : k < n
    · have c0 := keepc HB.out (HC.out k hlt).1
      have c1 := keepc HB.out (HC.out k hlt).2
      have HS := hid (HSN.out k hlt)
      generalize (ps.getD k (0, 0)).1 = x at c0 HS
      generalize (ps.getD k (0, 0)).2 = y at c1 HS
      have HM : Hid (k + 1 ≤ maxLen) := by show _ ≤ _; unfold maxLen; omega
      have HL : Hid ((k + 1) * 2 ≤ 140737488355328) := by show _ ≤ _; omega
      have hki : (k : Int) < n := by omega
      have HO2 := hid ((HO.out.alloc (.cells #[.int .u8 x, .int .u8 y] 82)).alloc (.cells #[.int .u8 x, .int .u8 y] 78))
      have HB2 := hid ((HB.out.alloc HB.out.size (.cells #[.int .u8 x, .int .u8 y] 82)).alloc (by have := HB.out.size; simp; omega) (.cells #[.int .u8 x, .int .u8 y] 78))
      have HNW := hid (news_two (wr.alloc (.cells #[.int .u8 x, .int .u8 y] 82)) (.int .u8 x) (.int .u8 y) 78)
      rw [show (wr.alloc (.cells #[.int .u8 x, .int .u8 y] 82)).heap.size = wr.heap.size + 1 by simp] at HNW
      have HSZ := hid (show w.heap.size ≤ ((wr.alloc (.cells #[.int .u8 x, .int .u8 y] 82)).alloc (.cells #[.int .u8 x, .int .u8 y] 78)).heap.size by have := HB.out.size; simp; omega)
      go_wp2_with (first
        | (at_builtin; refine wpList_append_own _ rfl _ _ 93 rfl w.heap.size 78 i0 (.agg #[.int .u8 0, .int .u8 0]) 2 2 Try.underlying93 hi hz0 hz1 hz2 rfl (by decide) _ k (cellsP (ps.take k)) rfl HO2.out ⟨wr.heap.size + 1, 0, none⟩ 1 1 [.int .u8 x, .int .u8 y] rfl rfl HNW.out (one_two x y) HM.out HL.out HSZ.out ?_; intro v1 w1 hown1 hgrow1 hnil1; have HO1 := hid hown1; have HG1 := hid hgrow1; clear hown1 hgrow1 hnil1))
      go_roundw
      case rel =>
        refine ⟨k + 1, by omega, by go_num, ?_, ?_⟩
        · show World.ownsRow _ _ _ _ _ _ _
          rw [HS.out]
          exact HO1.out
        · exact HB2.out.grown HG1.out HSZ.out (own_ge HO.out)
      case measure => simp [intOf]; omega
    · obtain rfl : k = n := by omega
      have HO1 := HO.out
      rw [HEND.out] at HO1
      have HO3 := hid HO1
      clear HO1
      go_wp2
      go_ret
      exact own_done (by rw [← HLN.out]; exact HO3.out) HB.out
set_option maxRecDepth 100000 in
set_option maxHeartbeats 2000000 in
theorem back_nil (w : World) : Calls Try.prog 63 #[.slice none 0 0] w (OwnPairs 78 [] w) := by
  go_enter Try.func63, Try.ntmps63
  go_wp2
  go_loopw [3, 8] (fun s i w' => s = .slice none 0 0 ∧ i = .int .i64 0 ∧ w' = w) (fun _ _ _ => 0)
  case atStart => exact ⟨rfl, rfl, rfl⟩
  case round =>
    obtain ⟨rfl, rfl, rfl⟩ := hrel
    go_wp2
    go_ret
    exact own_done (World.ownsRow_nil _ _ _ _) (Below.refl _ _)
theorem back_any (v : Value) (ps : List (Nat × Nat)) (hn : ps.length ≤ 100000) (w : World) (h : PairsIn w v ps) : Calls Try.prog 63 #[v] w (OwnPairs 78 ps w) := by
  rcases h with ⟨rfl, rfl⟩ | ⟨g, off, cap, rfl, h⟩
  · exact back_nil w
  · exact back_row g off cap ps hn w h
theorem four_drew {w0 w : World} {p q p' q' : Addr} {x y : Value} (h : w.cell? p = some x ∧ w.cell? q = some y ∧ w.cell? p' = some x ∧ w.cell? q' = some y ∧ Below w0.heap.size w0 w) : w.drew.cell? p = some x ∧ w.drew.cell? q = some y ∧ w.drew.cell? p' = some x ∧ w.drew.cell? q' = some y ∧ Below w0.heap.size w0 w.drew := ⟨h.1, h.2.1, h.2.2.1, h.2.2.2.1, h.2.2.2.2.drew⟩
set_option maxRecDepth 100000 in
set_option maxHeartbeats 2000000 in
theorem equal_row (g off cap g' off' cap' : Nat) (ps : List (Nat × Nat)) (hn : ps.length ≤ 100000) (w : World) (hc : ∀ i, i < ps.length → w.cell? ⟨g, off + i * 2, none⟩ = some (.int .u8 (ps.getD i (0, 0)).1) ∧ w.cell? ⟨g, off + i * 2 + 1, none⟩ = some (.int .u8 (ps.getD i (0, 0)).2))
    (hc' : ∀ i, i < ps.length → w.cell? ⟨g', off' + i * 2, none⟩ = some (.int .u8 (ps.getD i (0, 0)).1) ∧ w.cell? ⟨g', off' + i * 2 + 1, none⟩ = some (.int .u8 (ps.getD i (0, 0)).2)) : Calls Try.prog 62 #[.slice (some ⟨g, off, none⟩) ps.length cap, .slice (some ⟨g', off', none⟩) ps.length cap'] w fun e w' => e = .returned (.bool true) ∧ Below w.heap.size w w' := by
  have HC := hid hc
  have HC' := hid hc'
  clear hc hc'
  generalize ps.length = n at hn HC HC' ⊢
  go_enter Try.func62, Try.ntmps62
  go_wp2
  go_loopw [13] (fun i w' => ∃ k : Nat, k ≤ n ∧ i = .int .i64 k ∧ Hid (Below w.heap.size w w')) (fun i _ => n - (intOf i).toNat)
  case atStart => exact ⟨0, Nat.zero_le _, rfl, Below.refl _ _⟩
  case round =>
    obtain ⟨k, hk, rfl, HB⟩ := hrel
    by_cases hlt : k < n
    · have hki : (k : Int) < n := by omega
      have hk0 : (0 : Int) ≤ k := by omega
      have HX := hid (And.intro (keepc HB.out (HC.out k hlt).1) (And.intro (keepc HB.out (HC.out k hlt).2) (And.intro (keepc HB.out (HC'.out k hlt).1) (And.intro (keepc HB.out (HC'.out k hlt).2) HB.out))))
      generalize (ps.getD k (0, 0)).1 = x at HX
      generalize (ps.getD k (0, 0)).2 = y at HX
      go_wp2
      go_region_held3 (fun w' => w'.cell? ⟨g, off + k * 2, none⟩ = some (.int .u8 x) ∧ w'.cell? ⟨g, off + k * 2 + 1, none⟩ = some (.int .u8 y) ∧ w'.cell? ⟨g', off' + k * 2, none⟩ = some (.int .u8 x) ∧ w'.cell? ⟨g', off' + k * 2 + 1, none⟩ = some (.int .u8 y) ∧ Below w.heap.size w w') (first | exact four_drew HX.out | assumption) (first | fail)
      rename_i hH
      have HB' := hid hH.2.2.2.2
      clear hH
      go_wp2
      go_roundw
      case rel => exact ⟨k + 1, by omega, by go_num, HB'.out⟩
      case measure => simp [intOf]; omega
    · go_wp2
      go_ret
      exact ⟨rfl, HB.out⟩
set_option maxRecDepth 100000 in
set_option maxHeartbeats 2000000 in
theorem equal_none (a b : Option Addr) (c d : Nat) (w : World) : Calls Try.prog 62 #[.slice a 0 c, .slice b 0 d] w fun e w' => e = .returned (.bool true) ∧ Below w.heap.size w w' := by
  go_enter Try.func62, Try.ntmps62
  go_wp2
  go_loopw [13] (fun i w' => i = .int .i64 0 ∧ w' = w) (fun _ _ => 0)
  case atStart => exact ⟨rfl, rfl⟩
  case round =>
    obtain ⟨rfl, rfl⟩ := hrel
    go_wp2
    go_ret
    exact ⟨rfl, Below.refl _ _⟩
theorem equal_same (v u : Value) (ps : List (Nat × Nat)) (hn : ps.length ≤ 100000) (w : World) (h : PairsIn w v ps) (h' : PairsIn w u ps) : Calls Try.prog 62 #[v, u] w fun e w' => e = .returned (.bool true) ∧ Below w.heap.size w w' := by
  rcases h with ⟨rfl, rfl⟩ | ⟨g, off, cap, rfl, h⟩
  · rcases h' with ⟨rfl, _⟩ | ⟨g', off', cap', rfl, h'⟩
    · exact equal_none _ _ _ _ w
    · exact equal_none _ _ _ _ w
  · rcases h' with ⟨rfl, rfl⟩ | ⟨g', off', cap', rfl, h'⟩
    · exact equal_none _ _ _ _ w
    · exact equal_row g off cap g' off' cap' ps hn w h h'
end Go.Proofs.Ytpnfdmfmdacjmaa
