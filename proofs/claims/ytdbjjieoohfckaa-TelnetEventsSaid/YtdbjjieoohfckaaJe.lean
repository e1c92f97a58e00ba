/-
  The law's events.
-/
import Derived.Test.YtdbjjieoohfckaaJd
namespace Go.Proofs.Ytdbjjieoohfckaa
open Go.RowKit Go.Lib Go.Deep Go.Shelf
attribute [local go_sem] Oper.semAt_some

/-- The first K events were told. -/
def ToldE (ps : List Int) (K : Nat) (w : World) (e : Ending) (w' : World) : Prop := ∃ (s : Value) (xs : List (Ev × Value)), e = .returned s ∧ xs.map (·.1) = mergeL (emit .between ps) ∧ EvsX w' s (xs.take K) ∧ Below w.heap.size w w'
/-- What a round begins with: the event lies in its box. -/
def AxE (w : World) (B ob kb K : Nat) (es : List Ev) (fr : Value → Value → Array Value) (x : Value × List (Ev × Value) × Nat) (a : Act) (W : World) : Prop :=
  ∃ eb e d xd nd cd, PreE w B ob kb K es x W ∧ Six W eb 0 e d ∧ d = .slice xd nd cd ∧ x.2.1.getD x.2.2 (dat [], .bool false) = (e, d) ∧ a = { tmps := fr (.pointer (some ⟨eb, 0, none⟩)) (.agg (evC e d).toArray), defers := [] }
theorem Six.kept {W W' : World} {g b : Nat} {e : Ev} {d : Value} (h : Six W g b e d) {row : Option Nat} (hg : W.grownBy W' row) (hr : ∀ r, row = some r → ∃ o : Obj, W.heap[r]? = some o ∧ o.isCells = false) : Six W' g b e d :=
  ⟨cell_kept h.c0 hg hr, cell_kept h.c1 hg hr, cell_kept h.c2 hg hr, cell_kept h.c3 hg hr, cell_kept h.c4 hg hr, cell_kept h.c5 hg hr⟩
theorem six_new (W : World) (e : Ev) (d : Value) : Six (W.alloc (.cells (evC e d).toArray 37)) W.heap.size 0 e d := by
  refine six_of fun j hj => ?_
  have h := news_six W (.int .i64 e.kind) (.int .u8 e.verb) (.int .u8 e.opt) d (.bool e.long) (.bool e.broken) 37 j
  rw [addr_add] at h
  obtain ⟨u, hu⟩ : ∃ u, (evC e d)[j]? = some u := ⟨_, List.getElem?_eq_getElem (show j < (evC e d).length from hj)⟩
  rw [hu]
  exact h u hu
theorem row_any {w : World} {base : Nat} {e : TypeId} {size n : Nat} {v : Value} {xs : List Value} (h : w.ownsRow base e size v n xs) : ∃ y cap, v = .slice y n cap := by
  rcases h.2 with ⟨rfl, h0⟩ | ⟨g, cap, cur, rfl, _⟩
  · exact ⟨none, 0, by rw [h0]⟩
  · exact ⟨_, cap, rfl⟩
set_option maxRecDepth 100000 in
set_option maxHeartbeats 4000000 in
theorem events_in (n : Nat) (hn : 4 ≤ n) (p : Value) (ps : List Int) (K : Nat) (hK1 : 1 ≤ K) (hK2 : K ≤ 100000) (hl : ps.length ≤ 600) (w : World) (hp : Reads w p ps) :
    CallsIn Fence.wide n Try.prog 15 #[p, .int .i64 K] w (ToldE ps K w) := by
  have h1 : 1 ≤ n := by omega
  obtain ⟨i0, hi, hz0, hz1, hz2⟩ := info_parts info36
  have HP := hid hp
  obtain ⟨x0, n0, c0, rfl⟩ := reads_any_slice hp
  obtain ⟨es, hes⟩ : ∃ es, mergeL (emit .between ps) = es := ⟨_, rfl⟩
  have HES := hid hes
  clear hp hes
  refine callsIn_of_wp_marks Try.func15 rfl trivial ?_ rfl
  simp only [Try.ntmps15, List.size_toArray, List.length_cons, List.length_nil, Nat.reduceAdd, Nat.reduceSub, Array.replicate_succ, Array.replicate_zero, List.push_toArray, List.append_toArray, List.nil_append, List.cons_append]
  gi_wp2
  refine ⟨trivial, ?_⟩
  have hB0 : Below w.heap.size w ((w.alloc (.cells #[.int .i64 K] 3)).alloc (.cells #[.slice none 0 0] 28)) := ((Below.refl _ w).alloc (Nat.le_refl _) _).alloc (by simp) _
  have k0 : ((w.alloc (.cells #[.int .i64 K] 3)).alloc (.cells #[.slice none 0 0] 28)).cell? ⟨w.heap.size, 0, none⟩ = some (.int .i64 K) := by simp [go_sem]
  have o0 : ((w.alloc (.cells #[.int .i64 K] 3)).alloc (.cells #[.slice none 0 0] 28)).heap[w.heap.size + 1]? = some (.cells #[.slice none 0 0] 28 (0, 0)) := by
    have := World.alloc_heap_new (w.alloc (.cells #[.int .i64 K] 3)) (.cells #[.slice none 0 0] 28)
    rwa [World.size_alloc] at this
  refine (callsIn_wide.2 (eventsSeq_any _ ps _ (reads_below HP.out hB0) (by omega))).mono ?_
  rintro e w2 ⟨b, v, rfl, hbv, ho, hb2⟩
  have k2 := (hb2.cell (p := ⟨w.heap.size, 0, none⟩) (by simp; omega)).trans k0
  have o2 := (hb2.block (w.heap.size + 1) (by simp)).trans o0
  have hB2 := hB0.trans (hb2.mono (by simp; omega))
  have hs2 : w.heap.size + 2 ≤ w2.heap.size := by have := hb2.size; simpa using this
  have hJ0 : JI w w2.heap.size (w.heap.size + 1) w.heap.size K (.slice none 0 0) [] 0 w2 :=
    ⟨⟨.slice none 0 0, by simp [World.cell?, o2], by simp [World.frozen?, o2], World.ownsRow_nil _ _ _ _⟩, ⟨_, o2⟩, k2, OwnL.nil _, hB2, ⟨by omega, by omega⟩, by omega, ⟨by omega, by omega⟩, Nat.le_refl _⟩
  have HJ0 := hid hJ0
  have HBV := hid hbv
  have HO := hid ho
  clear hB0 k0 o0 hb2 k2 o2 hB2 hJ0 hbv ho HP
  gi_wp2
  refine rangeFunc_jointB (n := n) (w := w2) rfl h1 (gf := 28) (lb := #[.pointer (some ⟨b, 0, none⟩)]) rfl trivial (enters_of Try.func28 (by kernel_rfl) rfl)
    (encs := encE) (fun _ => rfl) (Pre := PreE w w2.heap.size (w.heap.size + 1) w.heap.size K es) (J := JE w w2.heap.size (w.heap.size + 1) w.heap.size K) (Jx := JxE w w2.heap.size (w.heap.size + 1) w.heap.size K es)
    (Dn := DnE w w2.heap.size (w.heap.size + 1) w.heap.size K es) (St := StE w w2.heap.size (w.heap.size + 1) w.heap.size K es)
    ?hJ ?hJx ?hDn ?hSt (AxE w w2.heap.size (w.heap.size + 1) w.heap.size K es (fun eb e9 => #[.slice x0 n0 c0, .int .i64 K, undef, .pointer (some ⟨w.heap.size, 0, none⟩), .slice none 0 0, .pointer (some ⟨w.heap.size + 1, 0, none⟩), eb, .slice x0 n0 c0, .func (.func 28) #[] #[.pointer (some ⟨b, 0, none⟩)], e9, undef, undef, undef, undef, undef, undef, undef, undef, undef])) ?hAx ?assign ?body ?iter ?done ?stop
  case hJ => exact fun x W l o o' hm ho hc h => ⟨JI.booked (by omega) W l o o' hm ho hc h.1, h.2⟩
  case hJx => exact fun c x W l o o' hm ho hc h => ⟨h.1, JI.booked (by omega) W l o o' hm ho hc h.2.1, h.2.2⟩
  case hDn => exact fun W l o o' hm ho hc ⟨v, xs, h1, h2, h3⟩ => ⟨v, xs, h1, JI.booked (by omega) W l o o' hm ho hc h2, h3⟩
  case hSt => exact fun c W l o o' hm ho hc ⟨h0, v, xs, h1, h2, h3⟩ => ⟨h0, v, xs, h1, JI.booked (by omega) W l o o' hm ho hc h2, h3⟩
  case hAx => exact fun x a W l o o' hm ho hc ⟨eb, e, d, xd, nd, cd, h1, h2, h3⟩ => ⟨eb, e, d, xd, nd, cd, ⟨JI.booked (by omega) W l o o' hm ho hc h1.1, h1.2⟩, h2.kept (grownBy_putObj' W l o') (fun r e => by cases e; exact ⟨o, ho, hc⟩), h3⟩
  case iter =>
    intro o1 o2 hc1 hc2
    have hbb : Below w2.heap.size w2 ((w2.alloc o1).alloc o2) := ((Below.refl _ w2).alloc (Nat.le_refl _) _).alloc (by simp) _
    exact iter_tells (n - 1) (by omega) w w2.heap.size (w.heap.size + 1) w.heap.size K b hK1 v ps _ hl ((hbb.cell (p := ⟨b, 0, none⟩) (World.block_lt_of_cell? w2 _ HBV.out)).trans HBV.out) (HO.out.moved (Moved.below hbb []) (fun _ _ h => by cases h)) ((HJ0.out.alloc o1).alloc o2) es HES.out
  case assign =>
    rintro l ⟨v1, xs, k⟩ W KK hp hK
    have hkx : k < xs.length := hp.2.1
    have hod := own_slice (hp.1.evs.data xs[k] (List.getElem_mem hkx))
    obtain ⟨xk, hxk⟩ : ∃ y, y = xs[k] := ⟨_, rfl⟩
    have hgd : xs.getD k (dat [], .bool false) = xk := by rw [hxk]; simp [List.getD, List.getElem?_eq_getElem hkx]
    rw [← hxk] at hod
    have hen : encE (v1, xs, k) = #[.agg (evC xk.1 xk.2).toArray] := by unfold encE; dsimp only; rw [hgd]
    obtain ⟨⟨ek, ev, eo, ed, el, eb⟩, dv⟩ := xk
    obtain ⟨xd, nd, cd, hde⟩ := hod
    dsimp only at hde
    subst hde
    rw [hen]
    have HK := hid hK
    have HPP := hid hp
    have HGD := hid hgd
    clear hK hp hgd hxk hkx hen
    unfold evC
    gi_wp2
    refine HK.out _ _ (KeepsOthers.alloc _ _) ⟨W.heap.size, _, _, xd, nd, cd, ⟨HPP.out.1.alloc _, HPP.out.2⟩, six_new W ⟨ek, ev, eo, ed, el, eb⟩ (.slice xd nd cd), rfl, HGD.out, rfl⟩
  case body =>
    rintro l ⟨v1, xs, k⟩ a' W ⟨eb, ⟨ek, ev, eo, ed, el, ek2⟩, d, xd, nd, cd, hp, h6, rfl, hgd, rfl⟩
    have hkx : k < xs.length := hp.2.1
    have hkK : k < K := hp.2.2.1
    have HXK : Hid (xs[k] = (⟨ek, ev, eo, ed, el, ek2⟩, .slice xd nd cd)) := by rw [← hgd]; simp [Hid, List.getD, List.getElem?_eq_getElem hkx]
    obtain ⟨s, hs, hsf, hrow⟩ := hp.1.out
    have hkc := hp.1.kc
    have hsz := hp.1.size
    have HP := hid hp
    have HS := hid hs
    have HROW := hid hrow
    have z0 := h6.c0
    have z1 := h6.c1
    have z2 := h6.c2
    have z3 := h6.c3
    have z4 := h6.c4
    have z5 := h6.c5
    dsimp only at z0 z1 z2 z3 z4 z5
    clear hp hrow hgd h6 HJ0 HBV HO
    unfold evC
    by_cases hkk : k + 1 = K
    · have hkb : ((k : Int) + 1 == K) = true := by simp; omega
      have HKK := hid hkk
      clear hkk
      gi_wp2_with (gi_at_builtin; refine wpListIn_append_own _ rfl _ _ 28 rfl w2.heap.size 36 i0 _ 6 48 Try.underlying28 hi hz0 hz1 hz2 rfl (by decide) s k (cellsE (xs.take k)) rfl (HROW.out.alloc _) ⟨W.heap.size, 0, none⟩ 1 1 (evC ⟨ek, ev, eo, ed, el, ek2⟩ (.slice xd nd cd)) rfl rfl (news_six W _ _ _ _ _ _ _) (one_evC _ _ rfl) (by unfold maxLen; omega) (by omega) (by simp; omega) ?_; intro v' W1 hown' hgrow _; obtain ⟨s1, s2, s3, s4, s5⟩ := HP.out.1.step HS.out hkx HXK.out hown' hgrow; obtain ⟨g', cap', rfl⟩ := row_any hown'; have S1 := hid s1; have S2 := hid s2; clear hown' hgrow s1 s2)
      exact ⟨S2.out, rfl, S1.out, HKK.out, by have := HKK.out; dsimp only; omega, HP.out.2.2.2⟩
    · have hkb : ((k : Int) + 1 == K) = false := by simp; omega
      have HKK := hid hkk
      clear hkk
      gi_wp2_with (gi_at_builtin; refine wpListIn_append_own _ rfl _ _ 28 rfl w2.heap.size 36 i0 _ 6 48 Try.underlying28 hi hz0 hz1 hz2 rfl (by decide) s k (cellsE (xs.take k)) rfl (HROW.out.alloc _) ⟨W.heap.size, 0, none⟩ 1 1 (evC ⟨ek, ev, eo, ed, el, ek2⟩ (.slice xd nd cd)) rfl rfl (news_six W _ _ _ _ _ _ _) (one_evC _ _ rfl) (by unfold maxLen; omega) (by omega) (by simp; omega) ?_; intro v' W1 hown' hgrow _; obtain ⟨s1, s2, s3, s4, s5⟩ := HP.out.1.step HS.out hkx HXK.out hown' hgrow; obtain ⟨g', cap', rfl⟩ := row_any hown'; have S1 := hid s1; have S2 := hid s2; clear hown' hgrow s1 s2)
      exact ⟨S2.out, S1.out, by have := HKK.out; dsimp only; omega⟩
  case done =>
    rintro D W hD ⟨v1, xs, hm, hj, hlen⟩ hK
    have HK := hid hK
    have HM := hid hm
    have HD := hid (hj.done (Nat.le_refl _) (grownBy_putObj' W D (.deferred none)) (fun r e => by cases e; exact ⟨by omega, _, hK, rfl⟩))
    obtain ⟨s, hs, ⟨sx, sn, sc, rfl⟩, hev, hbel⟩ := HD.out
    rw [List.take_length] at hev
    have HEV : Hid (EvsX (W.putObj D (.deferred none)) (.slice sx sn sc) (xs.take K)) := by rw [List.take_of_length_le (by omega)]; exact hev
    have HBL := hid hbel
    clear hm hj hK HD hev hbel HJ0 HBV HO
    gi_wp2
    refine ⟨by simp, .inl ⟨_, _, rfl, run_takeDeferred HK.out, ?_⟩⟩
    exact ⟨.slice sx sn sc, by simp [results, Try.f15, go_sem], _, xs, rfl, HM.out.trans HES.out.symm, HEV.out, HBL.out⟩
  case stop =>
    rintro D c W hD ⟨rfl, v1, xs, hm, hj, hlen⟩ hK
    have HK := hid hK
    have HM := hid hm
    have HD := hid (hj.done hlen (grownBy_putObj' W D (.deferred none)) (fun r e => by cases e; exact ⟨by omega, _, hK, rfl⟩))
    obtain ⟨s, hs, ⟨sx, sn, sc, rfl⟩, hev, hbel⟩ := HD.out
    have HEV := hid hev
    have HBL := hid hbel
    clear hm hj hK HD hev hbel HJ0 HBV HO
    gi_wp2
    refine ⟨by simp, .inl ⟨_, _, rfl, run_takeDeferred HK.out, ?_⟩⟩
    exact ⟨.slice sx sn sc, by simp [results, Try.f15, go_sem], _, xs, rfl, HM.out.trans HES.out.symm, HEV.out, HBL.out⟩
theorem events_any (p : Value) (ps : List Int) (K : Nat) (hK1 : 1 ≤ K) (hK2 : K ≤ 100000) (hl : ps.length ≤ 600) (w : World) (hp : Reads w p ps) : Calls Try.prog 15 #[p, .int .i64 K] w (ToldE ps K w) := callsIn_wide.1 (events_in 4 (by omega) p ps K hK1 hK2 hl w hp)
end Go.Proofs.Ytdbjjieoohfckaa
