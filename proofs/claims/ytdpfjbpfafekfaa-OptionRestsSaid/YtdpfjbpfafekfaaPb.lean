/-
  Two ends that talk: what holds of their states and of the words under way.
-/
import Derived.Test.YtdpfjbpfafekfaaPa
import Derived.Test.YtdpfjbpfafekfaaOe
namespace Go.Proofs.Ytdpfjbpfafekfaa

/-- Words about the hearer's own side, and about the other's. -/
def usW (q : List (Nat × Nat)) (o : Nat) : List Bool := (q.filter fun m => m.2 == o && (m.1 == 253 || m.1 == 254)).map fun m => m.1 == 253
def himW (q : List (Nat × Nat)) (o : Nat) : List Bool := (q.filter fun m => m.2 == o && (m.1 == 251 || m.1 == 252)).map fun m => m.1 == 251
/-- The message that is said. -/
def msgL (side say : Int) (o : Nat) : List (Nat × Nat) := if say = 0 then [] else [((verbN side say).toNat, o)]
theorem usW_app (p q : List (Nat × Nat)) (o : Nat) : usW (p ++ q) o = usW p o ++ usW q o := by simp [usW]
theorem himW_app (p q : List (Nat × Nat)) (o : Nat) : himW (p ++ q) o = himW p o ++ himW q o := by simp [himW]
theorem msg_cases {say : Int} (h0 : 0 ≤ say) (h2 : say ≤ 2) : say = 0 ∨ say = 1 ∨ say = 2 := by omega
theorem msg_us {say : Int} (h0 : 0 ≤ say) (h2 : say ≤ 2) (o o' : Nat) : usW (msgL 0 say o) o' = [] ∧ himW (msgL 0 say o) o' = if o' = o then wordL say else [] := by
  by_cases e : o' = o
  · subst e
    rcases msg_cases h0 h2 with rfl | rfl | rfl <;> simp [msgL, usW, himW, wordL, verbN]
  · have e1 : (o == o') = false := by simpa using fun h => e h.symm
    rcases msg_cases h0 h2 with rfl | rfl | rfl <;> simp [msgL, usW, himW, verbN, e, e1]
theorem msg_him {say : Int} (h0 : 0 ≤ say) (h2 : say ≤ 2) (o o' : Nat) : himW (msgL 1 say o) o' = [] ∧ usW (msgL 1 say o) o' = if o' = o then wordL say else [] := by
  by_cases e : o' = o
  · subst e
    rcases msg_cases h0 h2 with rfl | rfl | rfl <;> simp [msgL, usW, himW, wordL, verbN]
  · have e1 : (o == o') = false := by simpa using fun h => e h.symm
    rcases msg_cases h0 h2 with rfl | rfl | rfl <;> simp [msgL, usW, himW, verbN, e, e1]
theorem head_us {v o : Nat} (hv : v = 253 ∨ v = 254) (q : List (Nat × Nat)) (o' : Nat) : himW ((v, o) :: q) o' = himW q o' ∧ usW ((v, o) :: q) o' = if o' = o then (v == 253) :: usW q o' else usW q o' := by
  by_cases e : o' = o
  · subst e
    rcases hv with rfl | rfl <;> simp [usW, himW]
  · have e1 : (o == o') = false := by simpa using fun h => e h.symm
    rcases hv with rfl | rfl <;> simp [usW, himW, e, e1]
theorem head_him {v o : Nat} (hv : v = 251 ∨ v = 252) (q : List (Nat × Nat)) (o' : Nat) : usW ((v, o) :: q) o' = usW q o' ∧ himW ((v, o) :: q) o' = if o' = o then (v == 251) :: himW q o' else himW q o' := by
  by_cases e : o' = o
  · subst e
    rcases hv with rfl | rfl <;> simp [usW, himW]
  · have e1 : (o == o') = false := by simpa using fun h => e h.symm
    rcases hv with rfl | rfl <;> simp [usW, himW, e, e1]
/-- One option's pair: the performer, and the other end. -/
def PairI (G G' : Nat → Bool) (S S' : Nat → Int) (q q' : List (Nat × Nat)) (o : Nat) (d : Int) (m : Nat) : Prop := InT (G o) (G' (256 + o)) (S o) (S' (256 + o)) (usW q o) (himW q' o) d m
def sumD (f : Nat → Int) : Int := f 0 + f 1 + f 2 + f 3
def sumM (f : Nat → Nat) : Nat := f 0 + f 1 + f 2 + f 3
theorem sumD_upd (f : Nat → Int) {o : Nat} (ho : o < 4) (x : Int) : sumD (fun i => if i = o then x else f i) = sumD f - f o + x := by
  have : o = 0 ∨ o = 1 ∨ o = 2 ∨ o = 3 := by omega
  rcases this with rfl | rfl | rfl | rfl <;> simp [sumD] <;> omega
theorem sumM_upd (f : Nat → Nat) {o : Nat} (ho : o < 4) (x : Nat) : sumM (fun i => if i = o then x else f i) + f o = sumM f + x := by
  have : o = 0 ∨ o = 1 ∨ o = 2 ∨ o = 3 := by omega
  rcases this with rfl | rfl | rfl | rfl <;> simp [sumM] <;> omega
def ValidQ (q : List (Nat × Nat)) : Prop := ∀ m ∈ q, isVerb m.1 ∧ m.2 < 4
def HighZ (S : Nat → Int) : Prop := ∀ o, 4 ≤ o → o < 256 → S o = 0 ∧ S (256 + o) = 0
/-- What holds of two ends that talk. -/
structure Glob (G0 G1 : Nat → Bool) (S0 S1 : Nat → Int) (q0 q1 : List (Nat × Nat)) (n asks : Int) (tot : Nat) : Prop where
  ex : ∃ D0 D1 M0 M1, (∀ o, o < 4 → PairI G0 G1 S0 S1 q0 q1 o (D0 o) (M0 o)) ∧ (∀ o, o < 4 → PairI G1 G0 S1 S0 q1 q0 o (D1 o) (M1 o)) ∧ n ≤ 4 * asks + sumD D0 + sumD D1 ∧ tot = sumM M0 + sumM M1
  v0 : ValidQ q0
  v1 : ValidQ q1
  z0 : HighZ S0
  z1 : HighZ S1
theorem Glob.swap {G0 G1 : Nat → Bool} {S0 S1 : Nat → Int} {q0 q1 : List (Nat × Nat)} {n asks : Int} {tot : Nat} (h : Glob G0 G1 S0 S1 q0 q1 n asks tot) : Glob G1 G0 S1 S0 q1 q0 n asks tot := by
  obtain ⟨⟨D0, D1, M0, M1, h1, h2, h3, h4⟩, v0, v1, z0, z1⟩ := h
  exact ⟨⟨D1, D0, M1, M0, h2, h1, by omega, by omega⟩, v1, v0, z1, z0⟩
theorem Glob.new (G0 G1 : Nat → Bool) : Glob G0 G1 (fun _ => 0) (fun _ => 0) [] [] 0 0 0 :=
  ⟨⟨fun _ => 0, fun _ => 0, fun _ => 0, fun _ => 0, fun o _ => tab_new _ _, fun o _ => tab_new _ _, by simp [sumD], by simp [sumM]⟩, (fun m h => by cases h), (fun m h => by cases h), fun o _ _ => ⟨rfl, rfl⟩, fun o _ _ => ⟨rfl, rfl⟩⟩
theorem HighZ.upd {S : Nat → Int} (h : HighZ S) {i : Nat} (hi : i < 4 ∨ (256 ≤ i ∧ i < 260)) (x : Int) : HighZ (upd S i x) := fun o h4 h256 => by
  rw [upd_other S x (by omega), upd_other S x (by omega)]
  exact h o h4 h256
theorem valid_msg {q : List (Nat × Nat)} (h : ValidQ q) {side say : Int} {o : Nat} (ho : o < 4) (hs : say = 0 ∨ isVerb (verbN side say).toNat) : ValidQ (q ++ msgL side say o) := fun m hm => by
  rcases List.mem_append.1 hm with h1 | h1
  · exact h m h1
  · unfold msgL at h1
    split at h1
    · cases h1
    · rw [List.mem_singleton.1 h1]
      rcases hs with h2 | h2
      · contradiction
      · exact ⟨h2, ho⟩
theorem verb_verb {side say : Int} (h : side = 0 ∨ side = 1) (hs : 0 ≤ say ∧ say ≤ 2) : say = 0 ∨ isVerb (verbN side say).toNat := by
  rcases msg_cases hs.1 hs.2 with rfl | rfl | rfl
  · exact .inl rfl
  all_goals
    right
    rcases h with rfl | rfl <;> simp [isVerb, verbN]
theorem pair_same {G G' : Nat → Bool} {S S' T T' : Nat → Int} {q q' r r' : List (Nat × Nat)} {o : Nat} {d : Int} {m : Nat} (h : PairI G G' S S' q q' o d m) (h1 : T o = S o) (h2 : T' (256 + o) = S' (256 + o)) (h3 : usW r o = usW q o) (h4 : himW r' o = himW q' o) : PairI G G' T T' r r' o d m := by
  unfold PairI at h ⊢
  rw [h1, h2, h3, h4]
  exact h
theorem Glob.hear {G0 G1 : Nat → Bool} {S0 S1 : Nat → Int} {v o : Nat} {q0 q1 : List (Nat × Nat)} {n asks : Int} {tot : Nat} (h : Glob G0 G1 S0 S1 ((v, o) :: q0) q1 n asks tot) (ok : 0 ≤ S0 (idx (sideOf v) o) ∧ S0 (idx (sideOf v) o) ≤ 5) :
    ∃ tot', tot' + 1 ≤ tot ∧ Glob G0 G1 (upd S0 (idx (sideOf v) o) (hearN v (S0 (idx (sideOf v) o)) (G0 (idx (sideOf v) o))).1) S1 q0 (q1 ++ msgL (sideOf v) (hearN v (S0 (idx (sideOf v) o)) (G0 (idx (sideOf v) o))).2 o) (n + wordN (hearN v (S0 (idx (sideOf v) o)) (G0 (idx (sideOf v) o))).2) asks tot' := by
  obtain ⟨⟨D0, D1, M0, M1, h1, h2, h3, h4⟩, v0, v1, z0, z1⟩ := h
  obtain ⟨hv, ho⟩ := v0 (v, o) (by simp)
  simp only at hv ho
  have v0' : ValidQ q0 := fun m hm => v0 m (List.mem_cons_of_mem _ hm)
  by_cases hs : v = 253 ∨ v = 254
  · have e0 : sideOf v = 0 := by rcases hs with rfl | rfl <;> rfl
    rw [e0, idx_0] at ok ⊢
    have eh : hearN v (S0 o) (G0 o) = if (v == 253) then hOn (S0 o) (G0 o) else hOff (S0 o) := by rcases hs with rfl | rfl <;> rfl
    rw [eh]
    have hp := h1 o ho
    unfold PairI at hp
    rw [(head_us hs q0 o).2, if_pos rfl] at hp
    obtain ⟨d', m', g1, g2, g3⟩ := hp.hearA
    have fit : 0 ≤ (if (v == 253) then hOn (S0 o) (G0 o) else hOff (S0 o)).2 ∧ (if (v == 253) then hOn (S0 o) (G0 o) else hOff (S0 o)).2 ≤ 2 := by
      split
      · have := hOn_fit ok.1 ok.2 (G0 o); omega
      · have := hOff_fit ok.1 ok.2; omega
    generalize (if (v == 253) then hOn (S0 o) (G0 o) else hOff (S0 o)) = R at *
    have u := msg_us fit.1 fit.2 o
    have sM := sumM_upd M0 ho m'
    have sD := sumD_upd D0 ho d'
    refine ⟨sumM (fun i => if i = o then m' else M0 i) + sumM M1, by omega, ⟨⟨fun i => if i = o then d' else D0 i, D1, fun i => if i = o then m' else M0 i, M1, fun i hi => ?_, fun i hi => ?_, by omega, rfl⟩, v0', valid_msg v1 ho (verb_verb (.inl rfl) fit), z0.upd (.inl ho) _, z1⟩⟩
    · by_cases e : i = o
      · subst e
        simp only [if_pos]
        unfold PairI
        rw [upd_same, himW_app, (u i).2, if_pos rfl]
        exact g1
      · simp only [if_neg e]
        exact pair_same (h1 i hi) (upd_other _ _ e) rfl (by rw [(head_us hs q0 i).2, if_neg e]) (by rw [himW_app, (u i).2, if_neg e, List.append_nil])
    · exact pair_same (h2 i hi) rfl (upd_other _ _ (by omega)) (by rw [usW_app, (u i).1, List.append_nil]) (by rw [(head_us hs q0 i).1])
  · have hs' : v = 251 ∨ v = 252 := by unfold isVerb at hv; omega
    have e0 : sideOf v = 1 := by rcases hs' with rfl | rfl <;> rfl
    rw [e0, idx_1] at ok ⊢
    have eh : hearN v (S0 (256 + o)) (G0 (256 + o)) = if (v == 251) then hOn (S0 (256 + o)) (G0 (256 + o)) else hOff (S0 (256 + o)) := by rcases hs' with rfl | rfl <;> rfl
    rw [eh]
    have hp := h2 o ho
    unfold PairI at hp
    rw [(head_him hs' q0 o).2, if_pos rfl] at hp
    obtain ⟨d', m', g1, g2, g3⟩ := hp.hearB
    have fit : 0 ≤ (if (v == 251) then hOn (S0 (256 + o)) (G0 (256 + o)) else hOff (S0 (256 + o))).2 ∧ (if (v == 251) then hOn (S0 (256 + o)) (G0 (256 + o)) else hOff (S0 (256 + o))).2 ≤ 2 := by
      split
      · have := hOn_fit ok.1 ok.2 (G0 (256 + o)); omega
      · have := hOff_fit ok.1 ok.2; omega
    generalize (if (v == 251) then hOn (S0 (256 + o)) (G0 (256 + o)) else hOff (S0 (256 + o))) = R at *
    have u := msg_him fit.1 fit.2 o
    have sM := sumM_upd M1 ho m'
    have sD := sumD_upd D1 ho d'
    refine ⟨sumM M0 + sumM (fun i => if i = o then m' else M1 i), by omega, ⟨⟨D0, fun i => if i = o then d' else D1 i, M0, fun i => if i = o then m' else M1 i, fun i hi => ?_, fun i hi => ?_, by omega, rfl⟩, v0', valid_msg v1 ho (verb_verb (.inr rfl) fit), z0.upd (.inr (by omega)) _, z1⟩⟩
    · exact pair_same (h1 i hi) (upd_other _ _ (by omega)) rfl (by rw [(head_him hs' q0 i).1]) (by rw [himW_app, (u i).1, List.append_nil])
    · by_cases e : i = o
      · subst e
        simp only [if_pos]
        unfold PairI
        rw [upd_same, usW_app, (u i).2, if_pos rfl]
        exact g1
      · simp only [if_neg e]
        exact pair_same (h2 i hi) rfl (upd_other _ _ (by omega)) (by rw [usW_app, (u i).2, if_neg e, List.append_nil]) (by rw [(head_him hs' q0 i).2, if_neg e])
theorem Glob.ask {G0 G1 : Nat → Bool} {S0 S1 : Nat → Int} {q0 q1 : List (Nat × Nat)} {n asks : Int} {tot : Nat} (h : Glob G0 G1 S0 S1 q0 q1 n asks tot) (side : Int) (hs : side = 0 ∨ side = 1) (o : Nat) (ho : o < 4) (on : Bool) (ok : 0 ≤ S0 (idx side o) ∧ S0 (idx side o) ≤ 5) (ha : (askN (S0 (idx side o)) on).2.2 = true) :
    ∃ tot', Glob G0 G1 (upd S0 (idx side o) (askN (S0 (idx side o)) on).1) S1 q0 (q1 ++ msgL side (askN (S0 (idx side o)) on).2.1 o) (n + wordN (askN (S0 (idx side o)) on).2.1) (asks + 1) tot' := by
  obtain ⟨⟨D0, D1, M0, M1, h1, h2, h3, h4⟩, v0, v1, z0, z1⟩ := h
  have fit := askN_fit ok.1 ok.2 on
  rcases hs with rfl | rfl
  · rw [idx_0] at ok ha fit ⊢
    obtain ⟨d', m', g1, g2⟩ := InT.askA (h1 o ho) on ha
    generalize askN (S0 o) on = R at *
    have u := msg_us fit.2.2.1 fit.2.2.2 o
    have sD := sumD_upd D0 ho d'
    refine ⟨_, ⟨⟨fun i => if i = o then d' else D0 i, D1, fun i => if i = o then m' else M0 i, M1, fun i hi => ?_, fun i hi => ?_, by omega, rfl⟩, v0, valid_msg v1 ho (verb_verb (.inl rfl) fit.2.2), z0.upd (.inl ho) _, z1⟩⟩
    · by_cases e : i = o
      · subst e
        simp only [if_pos]
        unfold PairI
        rw [upd_same, himW_app, (u i).2, if_pos rfl]
        exact g1
      · simp only [if_neg e]
        exact pair_same (h1 i hi) (upd_other _ _ e) rfl rfl (by rw [himW_app, (u i).2, if_neg e, List.append_nil])
    · exact pair_same (h2 i hi) rfl (upd_other _ _ (by omega)) (by rw [usW_app, (u i).1, List.append_nil]) rfl
  · rw [idx_1] at ok ha fit ⊢
    obtain ⟨d', m', g1, g2⟩ := InT.askB (h2 o ho) on ha
    generalize askN (S0 (256 + o)) on = R at *
    have u := msg_him fit.2.2.1 fit.2.2.2 o
    have sD := sumD_upd D1 ho d'
    refine ⟨_, ⟨⟨D0, fun i => if i = o then d' else D1 i, M0, fun i => if i = o then m' else M1 i, fun i hi => ?_, fun i hi => ?_, by omega, rfl⟩, v0, valid_msg v1 ho (verb_verb (.inr rfl) fit.2.2), z0.upd (.inr (by omega)) _, z1⟩⟩
    · exact pair_same (h1 i hi) (upd_other _ _ (by omega)) rfl rfl (by rw [himW_app, (u i).1, List.append_nil])
    · by_cases e : i = o
      · subst e
        simp only [if_pos]
        unfold PairI
        rw [upd_same, usW_app, (u i).2, if_pos rfl]
        exact g1
      · simp only [if_neg e]
        exact pair_same (h2 i hi) rfl (upd_other _ _ (by omega)) (by rw [usW_app, (u i).2, if_neg e, List.append_nil]) rfl
/-- So many hearings are left at most. -/
theorem Glob.few {G0 G1 : Nat → Bool} {S0 S1 : Nat → Int} {q0 q1 : List (Nat × Nat)} {n asks : Int} {tot : Nat} (h : Glob G0 G1 S0 S1 q0 q1 n asks tot) : tot ≤ 40 := by
  obtain ⟨⟨D0, D1, M0, M1, h1, h2, h3, h4⟩, _⟩ := h
  have a (o : Nat) (ho : o < 4) := InT.le (h1 o ho)
  have b (o : Nat) (ho : o < 4) := InT.le (h2 o ho)
  have a0 := a 0 (by omega); have a1 := a 1 (by omega); have a2 := a 2 (by omega); have a3 := a 3 (by omega)
  have b0 := b 0 (by omega); have b1 := b 1 (by omega); have b2 := b 2 (by omega); have b3 := b 3 (by omega)
  unfold sumM at h4
  omega
/-- At rest: few words; both of one mind; all is settled. -/
theorem Glob.rest {G0 G1 : Nat → Bool} {S0 S1 : Nat → Int} {n asks : Int} {tot : Nat} (h : Glob G0 G1 S0 S1 [] [] n asks tot) : n ≤ 4 * asks ∧ (∀ o, o < 4 → S0 o = S1 (256 + o) ∧ S1 o = S0 (256 + o)) ∧ (∀ o, o < 256 → (S0 o = 0 ∨ S0 o = 1) ∧ (S0 (256 + o) = 0 ∨ S0 (256 + o) = 1)) ∧ (∀ o, o < 256 → (S1 o = 0 ∨ S1 o = 1) ∧ (S1 (256 + o) = 0 ∨ S1 (256 + o) = 1)) := by
  obtain ⟨⟨D0, D1, M0, M1, h1, h2, h3, h4⟩, _, _, z0, z1⟩ := h
  have a (o : Nat) (ho : o < 4) := InT.le (h1 o ho)
  have b (o : Nat) (ho : o < 4) := InT.le (h2 o ho)
  have r (o : Nat) (ho : o < 4) := InT.rest (h1 o ho)
  have t (o : Nat) (ho : o < 4) := InT.rest (h2 o ho)
  refine ⟨?_, fun o ho => ⟨(r o ho).1, (t o ho).1⟩, fun o ho => ?_, fun o ho => ?_⟩
  · have a0 := a 0 (by omega); have a1 := a 1 (by omega); have a2 := a 2 (by omega); have a3 := a 3 (by omega)
    have b0 := b 0 (by omega); have b1 := b 1 (by omega); have b2 := b 2 (by omega); have b3 := b 3 (by omega)
    unfold sumD at h3
    omega
  · by_cases h4' : o < 4
    · exact ⟨(r o h4').2.1, by rw [← (t o h4').1]; exact (t o h4').2.1⟩
    · have := z0 o (by omega) ho
      exact ⟨.inl this.1, .inl this.2⟩
  · by_cases h4' : o < 4
    · exact ⟨(t o h4').2.1, by rw [← (r o h4').1]; exact (r o h4').2.1⟩
    · have := z1 o (by omega) ho
      exact ⟨.inl this.1, .inl this.2⟩
end Go.Proofs.Ytdpfjbpfafekfaa
