/-
  The reference's New: names put in one by one.
-/
import Derived.Test.YtadoiplfglaonabFnd
import Derived.Deep.RegionHeld3
import Derived.Deep.AppendLies
namespace Go.Proofs.Ytadoiplfglaonab
open Go.RowKit Go.Shelf Go.Deep Go.Lib

section
variable {P : Program} {ops : Array Oper} {Q : Exit → Act → World → Prop} {md : Region.Mode} {S : World → Prop}
/-- An operation is taken first: its slot is written. -/
theorem takeD {i : Nat} {oi : Oper} {v : Value} (d : Tmp) {fuel : Nat} {listed : Array Bool} {ts : Array Value} {ds : List Deferred} {w : World} (hi : ops[i]? = some oi) (hd : oi.dst = some d)
    (hs : Region.noSelect ops = true) (hf : Region.free md ops listed i = true) (hr : (Region.ready md ops listed).contains i = true)
    (hQ : ∀ c a w, Q (.panic c) (a.put oi.dst v) w → Q (.panic c) a w) (hS : S w) (hy : YieldsIf P ops S oi v ⟨ts, ds⟩)
    (h : wpAnyH P md ops Q S fuel (listed.setIfInBounds i true) ⟨ts.setIfInBounds d v, ds⟩ w) : wpAnyH P md ops Q S (fuel + 1) listed ⟨ts, ds⟩ w :=
  wpAnyH_take hi hs hf hr hQ hy hS (by rw [hd]; exact h)
end

theorem row_slice {w : World} {base : Nat} {e : TypeId} {size n : Nat} {v : Value} {xs : List Value} (h : w.ownsRow base e size v n xs) : ∃ y cap, v = .slice y n cap := by
  rcases h.2 with ⟨rfl, h0⟩ | ⟨g, cap, cur, rfl, _⟩
  · exact ⟨none, 0, by rw [h0]⟩
  · exact ⟨_, cap, rfl⟩
section
variable {P : Program} {ops : Array Oper} {o : Oper} {a : Act} {w : World} {K : Act → World → Prop} {Q : Exit → Act → World → Prop} {E : Prop}
theorem step_append_any (hgd : o.guard = none) (s x : Operand) (t : TypeId) (ho : o.op = .call { callee := .builtin .append, args := #[s, x], argTypes := #[t, t] })
    (base : Nat) (e : TypeId) (i : TypeInfo) (z : Value) (size bytes : Nat) (ht : P.underlying t = some (.slice e)) (hi : P.info? e = some i) (hz : i.zero = some z)
    (hsize : i.size = size) (hby : i.bytes = bytes) (hzs : z.cells.size = size) (hsz : 0 < size)
    (v : Value) (n : Nat) (xs : List Value) (hs : a.eval s = v) (hown : w.ownsRow base e size v n xs)
    (ad : Addr) (m c : Nat) (news : List Value) (hx : a.eval x = .slice (some ad) m c) (hl : news.length = m * size) (hnews : ∀ j u, news[j]? = some u → w.cell? (ad.add j) = some u) (h1 : ∀ u ∈ news, u.oneCell' = true)
    (N : Nat) (hN : n + m = N) (XS : List Value) (hXS : xs ++ news = XS) (h63 : n + m ≤ maxLen) (hbytes : (n + m) * bytes ≤ 140737488355328) (hbase : base ≤ w.heap.size)
    (h : ∀ y cap w', w'.ownsRow base e size (.slice y N cap) N XS → w.grownBy w' v.ownBlock → K (a.put o.dst (.slice y N cap)) w') :
    if Region.wanted o (yielded ops a.tmps) = true then Oper.wp P o a w K Q else E := by
  have hw : Region.wanted o (yielded ops a.tmps) = true := by simp [Region.wanted, hgd]
  rw [if_pos hw]
  subst hN hXS
  refine wp_append_own w s x t ho base e i z size bytes ht hi hz hsize hby hzs hsz v n xs hs hown ad m c news hx hl hnews h1 h63 hbytes hbase fun v' w' q1 q2 _ => ?_
  obtain ⟨y, cap, rfl⟩ := row_slice q1
  exact h y cap w' q1 q2
end
theorem info41 : (Try.prog.info? 41).map (fun i => (i.zero, i.size, i.bytes)) = some (some (.agg #[.string ByteArray.empty, .int .u64 0]), 2, 24) := by kernel_rfl
theorem one_cellsC : ∀ (ts : List (List UInt8)) (cs : List Int), ∀ u ∈ cellsC ts cs, u.oneCell' = true
  | x :: ts, c :: cs, u, h => by
    simp only [cellsC, List.mem_cons] at h
    rcases h with rfl | rfl | h
    · rfl
    · rfl
    · exact one_cellsC ts cs u h
  | [], [], u, h => by cases h
  | [], _ :: _, u, h => by cases h
  | _ :: _, [], u, h => by cases h
theorem news_two (W : World) (x y : Value) (t : TypeId) : ∀ j u, [x, y][j]? = some u → (W.alloc (.cells #[x, y] t)).cell? ((⟨W.heap.size, 0, none⟩ : Addr).add j) = some u := by
  intro j u hu
  match j, hu with
  | 0, hu => simp only [List.getElem?_cons_zero, Option.some.injEq] at hu; subst hu; rw [show (⟨W.heap.size, 0, none⟩ : Addr).add 0 = ⟨W.heap.size, 0, none⟩ from rfl]; simp [go_sem]
  | 1, hu => simp only [List.getElem?_cons_succ, List.getElem?_cons_zero, Option.some.injEq] at hu; subst hu; rw [show (⟨W.heap.size, 0, none⟩ : Addr).add 1 = ⟨W.heap.size, 1, none⟩ from rfl]; simp [go_sem]
  | j + 2, hu => simp at hu
theorem news_one (W : World) (x : Value) (t : TypeId) : ∀ j u, [x][j]? = some u → (W.alloc (.cells #[x] t)).cell? ((⟨W.heap.size, 0, none⟩ : Addr).add j) = some u := by
  intro j u hu
  match j, hu with
  | 0, hu => simp only [List.getElem?_cons_zero, Option.some.injEq] at hu; subst hu; rw [show (⟨W.heap.size, 0, none⟩ : Addr).add 0 = ⟨W.heap.size, 0, none⟩ from rfl]; simp [go_sem]
  | j + 1, hu => simp at hu
theorem SRead.below {w w' : World} {v : Value} {zs : List ByteArray} {B : Nat} (h : SRead w v zs) (hb : Below B w w') (hB : w.heap.size ≤ B) : SRead w' v zs := by
  obtain ⟨o, cap, rfl, hl, hc⟩ := h
  refine ⟨o, cap, rfl, hl, fun i hi => ?_⟩
  obtain ⟨g, off, rfl, c, hs⟩ := hc i hi
  exact ⟨g, off, rfl, (World.cell?_of_block (hb.block g (Nat.lt_of_lt_of_le (World.block_lt_of_cell? w _ c) hB))).trans c, hs⟩
theorem SRead.of_row {w : World} {B : Nat} {v : Value} {zs : List ByteArray} (h : w.ownsRow B 9 1 v zs.length (zs.map Value.string)) (hl : zs.length ≤ maxLen) (hs : ∀ s ∈ zs, s.size ≤ maxLen) : SRead w v zs := by
  rcases h.2 with ⟨rfl, h0⟩ | ⟨g, cap, cur, rfl, _⟩
  · exact ⟨none, 0, by rw [h0], hl, fun i hi => by omega⟩
  · refine ⟨_, cap, rfl, hl, fun i hi => ⟨g, 0, rfl, ?_, hs _ ?_⟩⟩
    · rw [Nat.zero_add, h.cellAt i (by omega)]
      simp [List.getD, List.getElem?_eq_getElem hi]
    · simp [List.getD, List.getElem?_eq_getElem hi]
set_option maxRecDepth 100000 in
set_option maxHeartbeats 1000000 in
theorem few_any (v : Value) (zs : List ByteArray) (w : World) (h : SRead w v zs) : Calls Try.prog 7 #[v] w (FewPost zs w) := by
  obtain ⟨i0, hi, hz0, hz1, hz2⟩ := info_parts info9
  obtain ⟨o, cap, rfl, hf, hc⟩ := h
  have HC := hid hc
  have HST := hid (few_step zs)
  have HSY := hid (few_stay zs)
  have HEND := hid (show zs.take zs.length = zs from List.take_length)
  clear hc
  obtain ⟨n, hn⟩ : ∃ n, n = zs.length := ⟨_, rfl⟩
  rw [← hn] at hf HC HST HEND ⊢
  have HN := hid hn
  clear hn
  unfold maxLen at hf
  go_enter Try.func7, Try.ntmps7
  go_wp2
  go_loopw [3, 8] (fun v3 i wr => ∃ k : Nat, k ≤ n ∧ i = .int .i64 k ∧ Hid (wr.ownsRow w.heap.size 9 1 v3 (fewL (zs.take k)).length ((fewL (zs.take k)).map Value.string)) ∧ Hid (Below w.heap.size w wr)) (fun _ i _ => n - (intOf i).toNat)
  case atStart => exact ⟨0, Nat.zero_le _, rfl, World.ownsRow_nil _ _ _ _, Below.refl _ _⟩
  case round =>
    obtain ⟨k, hk, rfl, HO, HB⟩ := hrel
    by_cases hlt : k < n
    · obtain ⟨g, off, rfl, c0, hsz⟩ := HC.out k hlt
      have c0' := (World.cell?_of_block (a := ⟨g, off + k, none⟩) (HB.out.block g (World.block_lt_of_cell? w _ c0))).trans c0
      have HS := hid hsz
      clear c0 hsz
      by_cases h7 : k < 70
      · obtain ⟨e1, e2, e3⟩ := HST.out k hlt h7
        have HE1 := hid e1
        have HE2 := hid e2
        obtain ⟨s, hs⟩ : ∃ s, s = zs.getD k ByteArray.empty := ⟨_, rfl⟩
        rw [← hs] at c0' HS HE1
        rw [e3] at HO
        clear e1 e2 e3 hs
        obtain ⟨y, cp, rfl⟩ := row_slice HO.out
        go_wp2_with (first
          | (go_at_call 15; refine (cutText_any s _ HS.out).mono ?_; rintro e w' ⟨rfl, rfl⟩)
          | (at_builtin; refine wpList_append_own _ rfl _ _ 22 rfl w.heap.size 9 i0 (.string ByteArray.empty) 1 16 Try.underlying22 hi hz0 hz1 hz2 rfl (by decide) _ k _ rfl (HO.out.alloc _) ⟨wr.heap.size, 0, none⟩ 1 1 [.string (cutS s)] rfl rfl (news_one _ _ _) (by intro u hu; simp at hu; subst hu; rfl) (by unfold maxLen; omega) (by omega) (by have := HB.out.size; simp; omega) ?_; intro v2 w2 hown2 hgrow2 _; have HO2 := hid hown2; have HB2 := hid ((HB.out.alloc HB.out.size (.cells #[.string (cutS s)] 9)).grown hgrow2 (by have := HB.out.size; simp; omega) (fun k' e' => ((HO.out.alloc (.cells #[.string (cutS s)] 9)).lt k' e').1)); clear hown2 hgrow2))
        go_roundw
        case rel => exact ⟨k + 1, by omega, by go_num, by rw [HE1.out, HE2.out]; exact HO2.out, HB2.out⟩
        case measure => simp [intOf]; omega
      · go_wp2
        go_roundw
        case rel => exact ⟨k + 1, by omega, by go_num, by rw [HSY.out k h7]; exact HO.out, HB.out⟩
        case measure => simp [intOf]; omega
    · have hkn : k = n := by omega
      subst hkn
      rw [HEND.out] at HO
      go_wp2
      go_ret
      exact ⟨_, rfl, HO.out, HB.out⟩
end Go.Proofs.Ytadoiplfglaonab
