/-
  The reference's Rest: the places to the end of a field, or of the screen, or round it. | The reference's Rest, walked.
-/
import Derived.Test.YtpehhinpohmpiaaXk
namespace Go.Proofs.Ytpehhinpohmpiaa
open Go.RowKit Go.Lib Go.Deep

theorem stF_seen {P : Nat → Bool} {N p a : Nat} (hp : p < N) (hP : P p = false) (h : stF P N p = (a : Int)) : ∃ j, j + 1 < N ∧ p = (a + 1 + j) % N ∧ ∀ i, i ≤ j → P ((a + 1 + i) % N) = false := by
  unfold stF at h
  rcases lastP_cases P (p + 1) with ⟨h1, h2⟩ | ⟨a', h1, h2, h3, h4⟩
  · rw [h2, if_neg (by omega)] at h
    rcases lastP_cases P N with ⟨k1, k2⟩ | ⟨a', k1, k2, k3, k4⟩
    · rw [k2] at h; omega
    · rw [k4] at h
      obtain rfl : a' = a := by omega
      have hap : p < a' := by
        rcases Nat.lt_or_ge p a' with q | q
        · exact q
        · have := h1 a' (by omega)
          rw [k2] at this
          cases this
      refine ⟨p + N - a' - 1, by omega, by rw [modN (by omega)]; split <;> omega, fun i hi => ?_⟩
      rw [modN (by omega)]
      split
      · exact k3 _ (by omega) (by omega)
      · exact h1 _ (by omega)
  · rw [h4, if_pos (by omega)] at h
    obtain rfl : a' = a := by omega
    have hne : a' ≠ p := fun e => by rw [e, hP] at h2; cases h2
    refine ⟨p - a' - 1, by omega, by rw [modN (by omega)]; split <;> omega, fun i hi => ?_⟩
    rw [modN (by omega)]
    split
    · exact h3 _ (by omega) (by omega)
    · omega
theorem plF_ah (P : Nat → Bool) (N a : Nat) : ∀ f i, plF P N a f i = ahL P ((List.range f).map (fun t => (a + 1 + (i + t)) % N))
  | 0, _ => rfl
  | f + 1, i => by
    unfold plF ahL
    rw [List.range_succ_eq_map, List.map_cons, List.map_map, List.takeWhile_cons, Nat.add_zero]
    have ih := plF_ah P N a f (i + 1)
    unfold ahL at ih
    have e : ((fun t => (a + 1 + (i + t)) % N) ∘ Nat.succ) = fun t => (a + 1 + (i + 1 + t)) % N := funext fun t => by
      show (a + 1 + (i + (t + 1))) % N = _
      rw [show i + (t + 1) = i + 1 + t by omega]
    rw [e, ← ih]
    cases P ((a + 1 + i) % N) <;> rfl
theorem ah_drop {P : Nat → Bool} {p : Nat} (hp : P p = false) : ∀ (l : List Nat) (j : Nat), l[j]? = some p → (∀ i, i < j → ∀ y, l[i]? = some y → P y = false ∧ y ≠ p) → (ahL P l).dropWhile (· != p) = ahL P (l.drop j)
  | [], j, h, _ => by simp at h
  | x :: l, 0, h, _ => by
    simp at h
    subst h
    unfold ahL
    rw [List.drop_zero, List.takeWhile_cons, hp]
    simp
  | x :: l, j + 1, h, hb => by
    obtain ⟨h1, h2⟩ := hb 0 (by omega) x rfl
    have ih := ah_drop hp l j (by simpa using h) (fun i hi y hy => hb (i + 1) (by omega) y (by simpa using hy))
    unfold ahL at ih ⊢
    rw [List.takeWhile_cons, h1, List.drop_succ_cons]
    simp only [Bool.not_false, if_true]
    rw [List.dropWhile_cons, if_pos (by simpa using h2)]
    exact ih
theorem ah_stop {P : Nat → Bool} {a : Nat} (ha : P a = true) : ∀ (l r : List Nat), ahL P (l ++ a :: r) = ahL P l
  | [], r => by
    unfold ahL
    rw [List.nil_append, List.takeWhile_cons, ha]
    rfl
  | x :: l, r => by
    have ih := ah_stop ha l r
    unfold ahL at ih ⊢
    rw [List.cons_append, List.takeWhile_cons, List.takeWhile_cons, ih]
theorem ah_all {P : Nat → Bool} : ∀ (l : List Nat), (∀ x ∈ l, P x = false) → ahL P l = l
  | [], _ => rfl
  | x :: l, h => by
    have ih := ah_all l (fun y hy => h y (List.mem_cons_of_mem _ hy))
    unfold ahL at ih ⊢
    rw [List.takeWhile_cons, h x List.mem_cons_self, ih]
    rfl
theorem spN_take (N a L k : Nat) (h : k ≤ L) : (spN N a L).take k = spN N a k := by
  unfold spN
  rw [← List.map_take, List.take_range, Nat.min_eq_left h]
theorem spN_drop (N a L k : Nat) : (spN N a L).drop k = spN N (a + k) (L - k) := by
  refine List.ext_getElem? fun i => ?_
  rw [List.getElem?_drop]
  unfold spN
  rw [List.getElem?_map, List.getElem?_map]
  by_cases h : k + i < L
  · rw [List.getElem?_range h, List.getElem?_range (show i < L - k by omega)]
    simp [Nat.add_assoc]
  · rw [List.getElem?_eq_none (by simpa using by omega), List.getElem?_eq_none (by simpa using by omega)]
    rfl
theorem spN_mod (N a L : Nat) : spN N (a % N) L = spN N a L := by
  unfold spN
  refine List.map_congr_left fun i _ => ?_
  rw [Nat.mod_add_mod]
/-- From a place of a field on: to the field's end. -/
theorem pl_from {P : Nat → Bool} {N p a : Nat} (hp : p < N) (hP : P p = false) (ha : P a = true) (haN : a < N) (h : stF P N p = (a : Int)) : (plL P N a).dropWhile (· != p) = ahL P (spN N p N) := by
  obtain ⟨j, hj, e, hf⟩ := stF_seen hp hP h
  have e1 : plL P N a = ahL P (spN N (a + 1) (N - 1)) := by
    unfold plL
    rw [if_pos ha, plF_ah]
    unfold spN
    simp only [Nat.zero_add]
  rw [e1, ah_drop hP _ j (by rw [spN_get (by omega), ← e]) (fun i hi y hy => by
    rw [spN_get (by omega)] at hy
    injection hy with hy
    subst hy
    refine ⟨hf i (by omega), fun q => ?_⟩
    rw [e, modN (by omega), modN (by omega)] at q
    split at q <;> split at q <;> omega), spN_drop, ← spN_mod, ← e]
  have hm : N - 1 - j < (spN N p N).length := by rw [spN_len]; omega
  have hd := List.take_append_drop (N - 1 - j) (spN N p N)
  rw [List.drop_eq_getElem_cons hm, spN_take _ _ _ _ (by omega)] at hd
  have hx : (spN N p N)[N - 1 - j] = a := by
    have q := spN_get (N := N) (a := p) (L := N) (k := N - 1 - j) (by omega)
    rw [List.getElem?_eq_getElem hm] at q
    injection q with q
    rw [q, e, Nat.mod_add_mod, show a + 1 + j + (N - 1 - j) = a + N by omega, Nat.add_mod_right, Nat.mod_eq_of_lt haN]
  rw [hx] at hd
  rw [← hd, ah_stop ha]
/-- What the reference's Rest tells. -/
def rsL (s : Spc) (n : Int) (rd : Bool) : List Nat := if stF s.P s.L.length (s.wr n) < 0 then spN s.L.length (s.wr n) (if rd then s.L.length else s.L.length - s.wr n) else (plL s.P s.L.length (stF s.P s.L.length (s.wr n)).toNat).dropWhile (· != s.wr n)
theorem stF_free {P : Nat → Bool} {N p : Nat} (h : stF P N p < 0) : ∀ j, j < N → P j = false := by
  unfold stF at h
  rcases lastP_cases P N with ⟨k1, k2⟩ | ⟨a', k1, k2, k3, k4⟩
  · exact k1
  · rw [k4] at h
    split at h <;> omega
theorem lenZ_self (r c n : Int) : lenZ r c n n = r * c := by
  unfold lenZ
  simp only [Int.sub_self, Int.zero_emod, if_true]
theorem rsL_round {s : Spc} (h : s.OK) {n : Int} (hP : s.P (s.wr n) = false) : rsL s n true = restL s n n := by
  have hw := h.wr_lt n
  have e0 : (lenZ s.r s.c n n).toNat = s.L.length := by rw [lenZ_self]; have := h.len; omega
  unfold rsL restL
  rw [e0]
  rcases stF_bd s.P hw with e | ⟨a, ha, hpa, e⟩
  · have hf := stF_free (P := s.P) (N := s.L.length) (p := s.wr n) (by omega)
    rw [if_pos (by omega), if_pos rfl, ah_all _ (fun x hx => hf x (by
      obtain ⟨i, -, rfl⟩ := List.mem_map.1 hx
      exact Nat.mod_lt _ h.pos.1))]
  · rw [if_neg (by omega), e, Int.toNat_natCast]
    exact pl_from hw hP hpa ha e
theorem rsL_end {s : Spc} (h : s.OK) {n : Int} (hP : s.P (s.wr n) = false) : rsL s n false = endL s n := by
  have hw := h.wr_lt n
  have hN := h.pos
  rcases stF_bd s.P hw with e | ⟨a, ha, hpa, e⟩
  · have hf := stF_free (P := s.P) (N := s.L.length) (p := s.wr n) (by omega)
    have hA : ¬ 0 < s.A.length := fun q => by
      have hm := List.getElem_mem q
      obtain ⟨m1, m2⟩ := mem_A.1 hm
      rw [hf _ m1] at m2
      cases m2
    have e2 : endT s n = 0 := by unfold endT; rw [decide_eq_false hA]; rfl
    have e3 : (lenZ s.r s.c n 0).toNat = s.L.length - s.wr n := by
      have hl := h.len
      have hwe := h.wr_eq n
      unfold lenZ
      rw [← hl, ← hwe, Int.zero_emod, Int.zero_sub]
      by_cases q : s.wr n = 0
      · rw [q]; simp
      · have : (-(s.wr n : Int)) % (s.L.length : Int) = (s.L.length : Int) - s.wr n := by
          rw [← Int.add_emod_right]
          rw [Int.emod_eq_of_lt (by omega) (by omega)]
          omega
        rw [this, if_neg (by omega)]
        omega
    unfold rsL endL restL
    rw [e2, e3, if_pos (by omega), if_neg (by decide), ah_all _ (fun x hx => hf x (by
      obtain ⟨i, -, rfl⟩ := List.mem_map.1 hx
      exact Nat.mod_lt _ hN.1))]
  · have hA : 0 < s.A.length := List.length_pos_of_mem (mem_A.2 ⟨ha, hpa⟩)
    have e2 : endT s n = n := by unfold endT; rw [decide_eq_true hA]; rfl
    unfold endL
    rw [e2, ← rsL_round h hP]
    unfold rsL
    rw [if_neg (by omega), if_neg (by omega)]
theorem dw_succ {l : List Nat} {k x p : Nat} (h : l[k]? = some x) : (l.take (k + 1)).dropWhile (· != p) = (if p ∈ l.take k ∨ x = p then (l.take k).dropWhile (· != p) ++ [x] else []) ∧ (p ∈ l.take (k + 1) ↔ p ∈ l.take k ∨ x = p) ∧ (¬ p ∈ l.take k → (l.take k).dropWhile (· != p) = []) := by
  have hk : k < l.length := by
    rcases Nat.lt_or_ge k l.length with q | q
    · exact q
    · rw [List.getElem?_eq_none q] at h; cases h
  have hx : l[k] = x := by rw [List.getElem?_eq_getElem hk] at h; exact Option.some.inj h
  have e : l.take (k + 1) = l.take k ++ [x] := by rw [List.take_succ_eq_append_getElem hk, hx]
  have hn : ∀ (m : List Nat), ¬ p ∈ m → m.dropWhile (· != p) = [] := fun m hm => by
    induction m with
    | nil => rfl
    | cons y m ih =>
      rw [List.dropWhile_cons, if_pos (by simp; exact fun q => hm (by rw [q]; exact List.mem_cons_self))]
      exact ih (fun q => hm (List.mem_cons_of_mem _ q))
  have ha : ∀ (m : List Nat), p ∈ m → (m ++ [x]).dropWhile (· != p) = m.dropWhile (· != p) ++ [x] := fun m hm => by
    induction m with
    | nil => cases hm
    | cons y m ih =>
      rw [List.cons_append, List.dropWhile_cons, List.dropWhile_cons]
      by_cases q : y = p
      · subst q
        simp
      · rw [if_pos (by simpa using q), if_pos (by simpa using q)]
        exact ih (by
          rcases List.mem_cons.1 hm with r | r
          · exact absurd r.symm q
          · exact r)
  rw [e]
  refine ⟨?_, by simp [eq_comm], hn _⟩
  by_cases hm : p ∈ l.take k
  · rw [if_pos (.inl hm)]
    exact ha _ hm
  · rw [hn _ hm]
    by_cases q : x = p
    · rw [if_pos (.inr q)]
      subst q
      rw [List.dropWhile_append_of_pos (fun y hy => by simp; exact fun r => hm (r ▸ hy))]
      simp
    · rw [if_neg (fun r => r.elim hm q)]
      exact hn _ (fun r => by
        rcases List.mem_append.1 r with r | r
        · exact hm r
        · exact q (List.mem_singleton.1 r).symm)

section
variable {b g : Nat} {s : Spc}
set_option maxRecDepth 100000 in
set_option maxHeartbeats 8000000 in
theorem rest_on (n : Int) (hn : I64 n) (w : World) (h : RfM w b g s) (hst : stF s.P s.L.length (s.wr n) < 0) : Calls Try.prog 121 #[.pointer (some ⟨b, 0, none⟩), .int .i64 n, .bool true] w (ListD 3 1 (intsV ((rsL s n true).map Int.ofNat)) (rsL s n true).length w) := by
  obtain ⟨i0, hi, hz0, hz1, hz2⟩ := info_parts infoI
  have hN := h.ok.pos
  have hw := h.ok.wr_lt n
  have he : rsL s n true = spN s.L.length (s.wr n) s.L.length := by unfold rsL; rw [if_pos hst]; rfl
  rw [he]
  have HWR := hid (fun (k : Nat) (hk : k < s.L.length) W h => (show Calls Try.prog 19 #[.pointer (some ⟨b, 0, none⟩), .int .i64 ((s.wr n : Int) + (k : Int))] W fun e w' => e = .returned (.int .i64 (((s.wr n + k) % s.L.length : Nat) : Int)) ∧ Below W.heap.size W w' from by
    have q := rpos_any (b := b) (g := g) (s := s) ((s.wr n : Int) + (k : Int)) (i64_small (by omega) (by omega)) W h
    have e : s.wr ((s.wr n : Int) + (k : Int)) = (s.wr n + k) % s.L.length := by
      have q2 := h.ok.wr_eq ((s.wr n : Int) + (k : Int))
      have : ((s.wr ((s.wr n : Int) + (k : Int)) : Nat) : Int) = (((s.wr n + k) % s.L.length : Nat) : Int) := by rw [q2]; push_cast; rfl
      omega
    rwa [e] at q))
  have HRN := hid (fun W h => rpos_any (b := b) (g := g) (s := s) n hn W h)
  have HST := hid (fun W h => (show Calls Try.prog 32 #[.pointer (some ⟨b, 0, none⟩), .int .i64 (s.wr n : Nat)] W fun e w' => e = .returned (.int .i64 (-1)) ∧ Below W.heap.size W w' from by
    have q := rstart_any (b := b) (g := g) (s := s) (s.wr n : Nat) (i64_small (by omega) (by omega)) W h
    rw [wr_nat hw] at q
    rcases stF_bd s.P hw with e | ⟨a, _, _, e⟩
    · rwa [e] at q
    · omega))
  have HX := hid (fun W (hW : RfM W b g s) => (show W.cell? ⟨b, 4, none⟩ = some (.slice (some ⟨g, 0, none⟩) s.L.length s.L.length) ∧ b < W.heap.size from ⟨hW.h4, hW.lt.1⟩))
  have HH := hid h
  generalize s.wr n = p at hw HWR HRN HST ⊢
  obtain ⟨N, hNe⟩ : ∃ N, s.L.length = N := ⟨_, rfl⟩
  rw [hNe] at hN hw HWR HX ⊢
  obtain ⟨hN1, hN2⟩ := hN
  rw [spN_len]
  have HSP := hid (fun k => (show intsV ((spN N p (k + 1)).map Int.ofNat) = intsV ((spN N p k).map Int.ofNat) ++ [.int .i64 (((p + k) % N : Nat) : Int)] by unfold spN intsV; rw [List.range_succ, List.map_append, List.map_append, List.map_append]; rfl))
  clear h hn hst he hNe
  go_enter Try.func121, Try.ntmps121
  go_wp2_with fail
  with_reducible refine (HRN.out _ HH.out).mono ?_
  rintro e w1 ⟨rfl, hb1⟩
  have HB1 := hid hb1
  clear hb1
  go_wp2_with fail
  with_reducible refine (HST.out _ (HH.out.below HB1.out)).mono ?_
  rintro e w2 ⟨rfl, hb2⟩
  have HB2 := hid (below_t HB1.out hb2)
  clear hb2
  go_wp2_with fail
  go_loopw [8, 9] (fun o i W => ∃ k m : Nat, k ≤ N ∧ Hid (m = k) ∧ i = .int .i64 k ∧ Hid (W.ownsRow 0 3 1 o m (intsV ((spN N p m).map Int.ofNat))) ∧ Hid (∀ q ∈ blkV o, w2.heap.size ≤ q) ∧ Hid (Below w2.heap.size w2 W)) (fun _ i _ => N - (RowKit.intOf i).toNat)
  case atStart => exact ⟨0, 0, by omega, (show _ = _ by omega), rfl, World.ownsRow_nil _ _ _ _, fun q hq => (by cases hq), Below.refl _ _⟩
  case round =>
    obtain ⟨k, m, hk, hm, rfl, HR, HBk, HB⟩ := hrel
    obtain ⟨y, cc, rfl⟩ := row_any HR.out
    obtain ⟨h4, hlb⟩ := HX.out _ (HH.out.below (below_t HB2.out HB.out))
    by_cases hkN : k < N
    · have hki : (k : Int) < N := by omega
      have hwa : IntKind.i64.wrap ((p : Int) + (k : Int)) = (p : Int) + (k : Int) := wrapI (i64_small (by omega) (by omega))
      obtain rfl : k = m := hm.out.symm
      clear hm
      go_wp2_with fail
      with_reducible refine (HWR.out k hkN _ (HH.out.below (below_t HB2.out HB.out))).mono ?_
      rintro e w3 ⟨rfl, hb3⟩
      have HRX := hid (own_below HR.out hb3)
      have HB3 := hid (below_t HB.out hb3)
      have HSK := hid (HSP.out k)
      clear hb3 h4
      go_wp2_with (first | (at_builtin; refine wpList_append_blk _ rfl _ _ 37 rfl 3 i0 _ 1 8 Try.underlying37 hi hz0 hz1 hz2 rfl (by decide) _ _ _ rfl (HRX.out.alloc _) ⟨w3.heap.size, 0, none⟩ 1 1 [.int .i64 (((p + k) % N : Nat) : Int)] rfl rfl (one_new _ _ _ _ (by simp)) (by simp [Value.oneCell']) (by unfold maxLen; omega) (by omega) ?_; intro v' W1 hown' hgrow _ hb'; obtain ⟨g', cap', rfl⟩ := row_any hown'; have H1 := hid hown'; have H2 := hid hgrow; have H3 := hid hb'; clear hown' hgrow hb') | fail)
      go_roundw
      case rel =>
        refine ⟨k + 1, k + 1, by omega, (show _ = _ by omega), by go_num, ?_, fun q hq => ?_, ?_⟩
        · rw [HSK.out]
          exact H1.out
        · rcases H3.out q hq with h | h
          · exact HBk.out q h
          · have := HB3.out.size
            simp at h
            omega
        · exact (HB3.out.al (Nat.le_refl _) _).grown H2.out (by have := HB3.out.size; simp; omega) (fun q e => HBk.out q (mem_blkV.2 e))
      case measure => simp [RowKit.intOf]; omega
    · obtain rfl : k = N := by omega
      have hkf : ¬ (k : Int) < (k : Int) := by omega
      obtain rfl : m = k := by have := hm.out; omega
      clear hm
      go_wp2
      go_ret
      exact ⟨_, rfl, HR.out, fun q hq => Nat.le_trans HB2.out.size (HBk.out q hq), below_t HB2.out HB.out⟩
set_option maxRecDepth 100000 in
set_option maxHeartbeats 8000000 in
theorem rest_end (n : Int) (hn : I64 n) (w : World) (h : RfM w b g s) (hst : stF s.P s.L.length (s.wr n) < 0) : Calls Try.prog 121 #[.pointer (some ⟨b, 0, none⟩), .int .i64 n, .bool false] w (ListD 3 1 (intsV ((rsL s n false).map Int.ofNat)) (rsL s n false).length w) := by
  obtain ⟨i0, hi, hz0, hz1, hz2⟩ := info_parts infoI
  have hN := h.ok.pos
  have hw := h.ok.wr_lt n
  have he : rsL s n false = spN s.L.length (s.wr n) (s.L.length - s.wr n) := by unfold rsL; rw [if_pos hst]; rfl
  rw [he]
  have HWR := hid (fun (k : Nat) (hk : k < s.L.length) W h => (show Calls Try.prog 19 #[.pointer (some ⟨b, 0, none⟩), .int .i64 ((s.wr n : Int) + (k : Int))] W fun e w' => e = .returned (.int .i64 (((s.wr n + k) % s.L.length : Nat) : Int)) ∧ Below W.heap.size W w' from by
    have q := rpos_any (b := b) (g := g) (s := s) ((s.wr n : Int) + (k : Int)) (i64_small (by omega) (by omega)) W h
    have e : s.wr ((s.wr n : Int) + (k : Int)) = (s.wr n + k) % s.L.length := by
      have q2 := h.ok.wr_eq ((s.wr n : Int) + (k : Int))
      have : ((s.wr ((s.wr n : Int) + (k : Int)) : Nat) : Int) = (((s.wr n + k) % s.L.length : Nat) : Int) := by rw [q2]; push_cast; rfl
      omega
    rwa [e] at q))
  have HRN := hid (fun W h => rpos_any (b := b) (g := g) (s := s) n hn W h)
  have HST := hid (fun W h => (show Calls Try.prog 32 #[.pointer (some ⟨b, 0, none⟩), .int .i64 (s.wr n : Nat)] W fun e w' => e = .returned (.int .i64 (-1)) ∧ Below W.heap.size W w' from by
    have q := rstart_any (b := b) (g := g) (s := s) (s.wr n : Nat) (i64_small (by omega) (by omega)) W h
    rw [wr_nat hw] at q
    rcases stF_bd s.P hw with e | ⟨a, _, _, e⟩
    · rwa [e] at q
    · omega))
  have HX := hid (fun W (hW : RfM W b g s) => (show W.cell? ⟨b, 4, none⟩ = some (.slice (some ⟨g, 0, none⟩) s.L.length s.L.length) ∧ b < W.heap.size from ⟨hW.h4, hW.lt.1⟩))
  have HH := hid h
  generalize s.wr n = p at hw HWR HRN HST ⊢
  obtain ⟨N, hNe⟩ : ∃ N, s.L.length = N := ⟨_, rfl⟩
  rw [hNe] at hN hw HWR HX ⊢
  obtain ⟨hN1, hN2⟩ := hN
  rw [spN_len]
  have HSP := hid (fun k => (show intsV ((spN N p (k + 1)).map Int.ofNat) = intsV ((spN N p k).map Int.ofNat) ++ [.int .i64 (((p + k) % N : Nat) : Int)] by unfold spN intsV; rw [List.range_succ, List.map_append, List.map_append, List.map_append]; rfl))
  clear h hn hst he hNe
  go_enter Try.func121, Try.ntmps121
  go_wp2_with fail
  with_reducible refine (HRN.out _ HH.out).mono ?_
  rintro e w1 ⟨rfl, hb1⟩
  have HB1 := hid hb1
  clear hb1
  go_wp2_with fail
  with_reducible refine (HST.out _ (HH.out.below HB1.out)).mono ?_
  rintro e w2 ⟨rfl, hb2⟩
  have HB2 := hid (below_t HB1.out hb2)
  clear hb2
  go_wp2_with fail
  go_loopw [8, 9] (fun o i W => ∃ k m : Nat, k ≤ N ∧ Hid (m = min k (N - p)) ∧ i = .int .i64 k ∧ Hid (W.ownsRow 0 3 1 o m (intsV ((spN N p m).map Int.ofNat))) ∧ Hid (∀ q ∈ blkV o, w2.heap.size ≤ q) ∧ Hid (Below w2.heap.size w2 W)) (fun _ i _ => N - (RowKit.intOf i).toNat)
  case atStart => exact ⟨0, 0, by omega, (show _ = _ by omega), rfl, World.ownsRow_nil _ _ _ _, fun q hq => (by cases hq), Below.refl _ _⟩
  case round =>
    obtain ⟨k, m, hk, hm, rfl, HR, HBk, HB⟩ := hrel
    obtain ⟨y, cc, rfl⟩ := row_any HR.out
    obtain ⟨h4, hlb⟩ := HX.out _ (HH.out.below (below_t HB2.out HB.out))
    by_cases hkN : k < N
    · have hki : (k : Int) < N := by omega
      have hwa : IntKind.i64.wrap ((p : Int) + (k : Int)) = (p : Int) + (k : Int) := wrapI (i64_small (by omega) (by omega))
      by_cases hpk : p + k < N
      · have hpi : (p : Int) + (k : Int) < N := by omega
        obtain rfl : k = m := by have := hm.out; omega
        have HMM := hm
        clear hm
        go_wp2_with fail
        with_reducible refine (HWR.out k hkN _ (HH.out.below (below_t HB2.out HB.out))).mono ?_
        rintro e w3 ⟨rfl, hb3⟩
        have HRX := hid (own_below HR.out hb3)
        have HB3 := hid (below_t HB.out hb3)
        have HSK := hid (HSP.out k)
        clear hb3 h4
        go_wp2_with (first | (at_builtin; refine wpList_append_blk _ rfl _ _ 37 rfl 3 i0 _ 1 8 Try.underlying37 hi hz0 hz1 hz2 rfl (by decide) _ _ _ rfl (HRX.out.alloc _) ⟨w3.heap.size, 0, none⟩ 1 1 [.int .i64 (((p + k) % N : Nat) : Int)] rfl rfl (one_new _ _ _ _ (by simp)) (by simp [Value.oneCell']) (by unfold maxLen; omega) (by omega) ?_; intro v' W1 hown' hgrow _ hb'; obtain ⟨g', cap', rfl⟩ := row_any hown'; have H1 := hid hown'; have H2 := hid hgrow; have H3 := hid hb'; clear hown' hgrow hb') | fail)
        go_roundw
        case rel =>
          refine ⟨k + 1, k + 1, by omega, (show _ = _ by have := HMM.out; omega), by go_num, ?_, fun q hq => ?_, ?_⟩
          · rw [HSK.out]
            exact H1.out
          · rcases H3.out q hq with h | h
            · exact HBk.out q h
            · have := HB3.out.size
              simp at h
              omega
          · exact (HB3.out.al (Nat.le_refl _) _).grown H2.out (by have := HB3.out.size; simp; omega) (fun q e => HBk.out q (mem_blkV.2 e))
        case measure => simp [RowKit.intOf]; omega
      · have hpi : ¬ (p : Int) + (k : Int) < N := by omega
        go_wp2_with fail
        go_roundw
        case rel => exact ⟨k + 1, m, by omega, (show _ = _ by have := hm.out; omega), by go_num, HR.out, HBk.out, HB.out⟩
        case measure => simp [RowKit.intOf]; omega
    · obtain rfl : k = N := by omega
      have hkf : ¬ (k : Int) < (k : Int) := by omega
      obtain rfl : m = k - p := by have := hm.out; omega
      clear hm
      go_wp2
      go_ret
      exact ⟨_, rfl, HR.out, fun q hq => Nat.le_trans HB2.out.size (HBk.out q hq), below_t HB2.out HB.out⟩
set_option maxRecDepth 100000 in
set_option maxHeartbeats 8000000 in
theorem rest_field_any (n : Int) (hn : I64 n) (rd : Bool) (w : World) (h : RfM w b g s) (hst : ¬ stF s.P s.L.length (s.wr n) < 0) : Calls Try.prog 121 #[.pointer (some ⟨b, 0, none⟩), .int .i64 n, .bool rd] w (ListD 3 1 (intsV ((rsL s n rd).map Int.ofNat)) (rsL s n rd).length w) := by
  obtain ⟨i0, hi, hz0, hz1, hz2⟩ := info_parts infoI
  have hN := h.ok.pos
  have hw := h.ok.wr_lt n
  have he : rsL s n rd = (plL s.P s.L.length (stF s.P s.L.length (s.wr n)).toNat).dropWhile (· != s.wr n) := by unfold rsL; rw [if_neg hst]
  rw [he]
  have HRN := hid (fun W h => rpos_any (b := b) (g := g) (s := s) n hn W h)
  obtain ⟨a, ha, hae⟩ : ∃ a : Nat, a < s.L.length ∧ stF s.P s.L.length (s.wr n) = (a : Int) := by
    rcases stF_bd s.P hw with e | ⟨a, h1, _, e⟩
    · omega
    · exact ⟨a, h1, e⟩
  have HST := hid (fun W h => (show Calls Try.prog 32 #[.pointer (some ⟨b, 0, none⟩), .int .i64 (s.wr n : Nat)] W fun e w' => e = .returned (.int .i64 a) ∧ Below W.heap.size W w' from by
    have q := rstart_any (b := b) (g := g) (s := s) (s.wr n : Nat) (i64_small (by omega) (by omega)) W h
    rwa [wr_nat hw, hae] at q))
  have HPL := hid (fun W h => (show Calls Try.prog 33 #[.pointer (some ⟨b, 0, none⟩), .int .i64 (a : Nat)] W (ListD 3 1 (intsV ((plL s.P s.L.length a).map Int.ofNat)) (plL s.P s.L.length a).length W) from by
    have q := rplaces_any (b := b) (g := g) (s := s) (a : Int) (i64_small (by omega) (by omega)) W h
    rwa [wr_nat ha] at q))
  have hKB : (plL s.P s.L.length a).length ≤ 4000 := by have := plL_len s.P s.L.length a; omega
  rw [hae, Int.toNat_natCast]
  have HH := hid h
  have hneg : ¬ (a : Int) < 0 := by omega
  have hai : (a : Int) < 4000 := by omega
  have HMB := hid (fun x (hx : x ∈ plL s.P s.L.length a) => plL_mem hN.1 hx)
  generalize s.wr n = p at hw HRN HST ⊢
  generalize plL s.P s.L.length a = pl at HPL hKB HMB ⊢
  obtain ⟨NA, hNA⟩ : ∃ NA : Nat, pl.length = NA := ⟨_, rfl⟩
  have HPN := hid hNA
  rw [hNA] at HPL hKB
  have HDW := hid (fun k x (h : pl[k]? = some x) => dw_succ (p := p) h)
  have hpN : p < 4000 := by omega
  generalize s.L.length = N at hw ha HMB hN
  clear h hn hst he hae hNA
  go_enter Try.func121, Try.ntmps121
  go_wp2_with fail
  with_reducible refine (HRN.out _ HH.out).mono ?_
  rintro e w1 ⟨rfl, hb1⟩
  have HB1 := hid hb1
  clear hb1
  go_wp2_with fail
  with_reducible refine (HST.out _ (HH.out.below HB1.out)).mono ?_
  rintro e w2 ⟨rfl, hb2⟩
  have HB2 := hid (below_t HB1.out hb2)
  clear hb2
  go_wp2_with fail
  with_reducible refine (HPL.out _ (HH.out.below HB2.out)).mono ?_
  rintro e w3 ⟨v1, rfl, ho1, hk1, hb3⟩
  obtain ⟨y1, c1, rfl, hlc⟩ := lst_cells ho1 HPN.out hk1
  have HLC := hid hlc
  have HB3 := hid (below_t HB2.out hb3)
  clear ho1 hk1 hb3 hlc
  go_wp2_with fail
  go_loopw [8, 10, 55] (fun o f i W => ∃ k : Nat, k ≤ NA ∧ f = .bool (decide (p ∈ pl.take k)) ∧ i = .int .i64 k ∧ Hid (W.ownsRow 0 3 1 o ((pl.take k).dropWhile (· != p)).length (intsV (((pl.take k).dropWhile (· != p)).map Int.ofNat))) ∧ Hid (∀ q ∈ blkV o, w3.heap.size ≤ q) ∧ Hid (Below w3.heap.size w3 W)) (fun _ _ i _ => NA - (RowKit.intOf i).toNat)
  case atStart => exact ⟨0, by omega, by simp, rfl, World.ownsRow_nil _ _ _ _, fun q hq => (by cases hq), Below.refl _ _⟩
  case round =>
    obtain ⟨k, hk, rfl, rfl, HR, HBk, HB⟩ := hrel
    have hml : ((pl.take k).dropWhile (· != p)).length ≤ k := Nat.le_trans (List.IsSuffix.length_le (List.dropWhile_suffix _)) (by rw [List.length_take]; omega)
    by_cases hkN : k < NA
    · have hki : (k : Int) < NA := by omega
      obtain ⟨gg, rfl, hgg, hc0⟩ := HLC.out k hkN
      have hc := keepc HB.out hc0
      have hlc := World.block_lt_of_cell? wr _ hc
      have hget : pl[k]? = some (pl.getD k 0) := by rw [List.getD_eq_getElem?_getD, List.getElem?_eq_getElem (by rw [HPN.out]; exact hkN)]; rfl
      have HDK := hid (HDW.out k _ hget)
      have hxN := HMB.out _ (List.mem_of_getElem? hget)
      generalize pl.getD k 0 = x at hc hxN HDK
      generalize (pl.take k).dropWhile (· != p) = L at HR hml HDK
      obtain ⟨L2, hL2⟩ : ∃ L2, (pl.take (k + 1)).dropWhile (· != p) = L2 := ⟨_, rfl⟩
      rw [hL2] at HDK
      have HL2 := hid hL2
      clear hL2
      obtain ⟨ln, hln⟩ : ∃ ln, L.length = ln := ⟨_, rfl⟩
      rw [hln] at HR hml
      have HLN := hid hln
      obtain ⟨y, cc, rfl⟩ := row_any HR.out
      clear hln
      clear hc0 hget
      by_cases hin : p ∈ pl.take k ∨ x = p
      · have HE := hid (show L2 = L ++ [x] ∧ decide (p ∈ pl.take (k + 1)) = true by
          obtain ⟨q1, q2, -⟩ := HDK.out
          rw [if_pos hin] at q1
          exact ⟨q1, decide_eq_true (q2.2 hin)⟩)
        have HRX := HR
        have HF := hid hin
        obtain ⟨fb, hfb⟩ : ∃ fb, decide (p ∈ pl.take k) = fb := ⟨_, rfl⟩
        rw [hfb]
        have hor : fb = true ∨ x = p := by
          rcases hin with q | q
          · exact .inl (by rw [← hfb]; exact decide_eq_true q)
          · exact .inr q
        clear hin hfb
        have HL := hid (show intsV ((L ++ [x]).map Int.ofNat) = intsV (L.map Int.ofNat) ++ [.int .i64 (x : Int)] by unfold intsV; rw [List.map_append, List.map_append]; rfl)
        have HLL := hid (show (L ++ [x]).length = ln + 1 by rw [List.length_append, HLN.out]; rfl)
        have hL := hml
        generalize intsV (L.map Int.ofNat) = vs at HRX HL HR
        clear hml
        cases fb
        · have hxp : x = p := by
            rcases hor with q | q
            · cases q
            · exact q
          subst hxp
          clear hor
          go_wp2_with (first | (at_builtin; refine wpList_append_blk _ rfl _ _ 37 rfl 3 i0 _ 1 8 Try.underlying37 hi hz0 hz1 hz2 rfl (by decide) _ _ _ rfl (HRX.out.alloc _) ⟨wr.heap.size, 0, none⟩ 1 1 [.int .i64 (x : Int)] rfl rfl (one_new _ _ _ _ (by simp)) (by simp [Value.oneCell']) (by unfold maxLen; omega) (by omega) ?_; intro v' W1 hown' hgrow _ hb'; obtain ⟨g', cap', rfl⟩ := row_any hown'; have H1 := hid hown'; have H2 := hid hgrow; have H3 := hid hb'; clear hown' hgrow hb') | fail)
          go_roundw
          case rel =>
            refine ⟨k + 1, by omega, by rw [HE.out.2], by go_num, ?_, fun q hq => ?_, ?_⟩
            · rw [HL2.out, HE.out.1, HLL.out, HL.out]
              exact H1.out
            · rcases H3.out q hq with h | h
              · exact HBk.out q h
              · have := HB.out.size
                simp at h
                omega
            · exact (HB.out.al (Nat.le_refl _) _).grown H2.out (by have := HB.out.size; simp; omega) (fun q e => HBk.out q (mem_blkV.2 e))
          case measure => simp [RowKit.intOf]; omega
        · clear hor
          go_wp2_with (first | (at_builtin; refine wpList_append_blk _ rfl _ _ 37 rfl 3 i0 _ 1 8 Try.underlying37 hi hz0 hz1 hz2 rfl (by decide) _ _ _ rfl (HRX.out.alloc _) ⟨wr.heap.size, 0, none⟩ 1 1 [.int .i64 (x : Int)] rfl rfl (one_new _ _ _ _ (by simp)) (by simp [Value.oneCell']) (by unfold maxLen; omega) (by omega) ?_; intro v' W1 hown' hgrow _ hb'; obtain ⟨g', cap', rfl⟩ := row_any hown'; have H1 := hid hown'; have H2 := hid hgrow; have H3 := hid hb'; clear hown' hgrow hb') | fail)
          go_roundw
          case rel =>
            refine ⟨k + 1, by omega, by rw [HE.out.2], by go_num, ?_, fun q hq => ?_, ?_⟩
            · rw [HL2.out, HE.out.1, HLL.out, HL.out]
              exact H1.out
            · rcases H3.out q hq with h | h
              · exact HBk.out q h
              · have := HB.out.size
                simp at h
                omega
            · exact (HB.out.al (Nat.le_refl _) _).grown H2.out (by have := HB.out.size; simp; omega) (fun q e => HBk.out q (mem_blkV.2 e))
          case measure => simp [RowKit.intOf]; omega
      · have hni : ¬ p ∈ pl.take k := fun q => hin (.inl q)
        have hxp : ¬ (x : Int) = (p : Int) := fun q => hin (.inr (by omega))
        have HE := hid (show L2 = L ∧ decide (p ∈ pl.take (k + 1)) = false by
          obtain ⟨q1, q2, q3⟩ := HDK.out
          rw [if_neg hin] at q1
          exact ⟨q1.trans (q3 hni).symm, decide_eq_false (fun q => hin (q2.1 q))⟩)
        rw [decide_eq_false hni]
        have hxq : ((x : Int) == (p : Int)) = false := by simpa using hxp
        clear hin hni
        go_wp2_with fail
        go_roundw
        case rel => exact ⟨k + 1, by omega, by rw [HE.out.2], by go_num, by rw [HL2.out, HE.out.1, HLN.out]; exact HR.out, HBk.out, HB.out⟩
        case measure => simp [RowKit.intOf]; omega
    · obtain rfl : k = NA := by omega
      have et : pl.take k = pl := by rw [← HPN.out, List.take_length]
      rw [et] at HR
      obtain ⟨y, cc, rfl⟩ := row_any HR.out
      clear et
      go_wp2
      go_ret
      exact ⟨_, rfl, HR.out, fun q hq => Nat.le_trans HB3.out.size (HBk.out q hq), below_t HB3.out HB.out⟩
theorem rest_any (n : Int) (hn : I64 n) (rd : Bool) (w : World) (h : RfM w b g s) : Calls Try.prog 121 #[.pointer (some ⟨b, 0, none⟩), .int .i64 n, .bool rd] w (ListD 3 1 (intsV ((rsL s n rd).map Int.ofNat)) (rsL s n rd).length w) := by
  by_cases hst : stF s.P s.L.length (s.wr n) < 0
  · cases rd
    · exact rest_end n hn w h hst
    · exact rest_on n hn w h hst
  · exact rest_field_any n hn rd w h hst
end
end Go.Proofs.Ytpehhinpohmpiaa
