/-
  FieldNexts: what is sought is the nearest; on and back again; the law's own walk.
-/
import Derived.Test.YtdaainifnbbhiaaZw
namespace Go.Proofs.Ytdaainifnbbhiaa
open Go.RowKit Go.Lib Go.Deep

theorem sub_mod_eq (n m d N : Int) (h : n % N = m % N) : (n - d) % N = (m - d) % N := by
  rw [Int.sub_emod, h, ← Int.sub_emod]
theorem add_mod_eq (n m d N : Int) (h : n % N = m % N) : (n + d) % N = (m + d) % N := by
  rw [Int.add_emod, h, ← Int.add_emod]
theorem firstB_congr {s : Spc} {n m : Int} (h : n % (s.L.length : Int) = m % (s.L.length : Int)) : firstB s n = firstB s m := by
  unfold firstB Spc.atC Spc.wr
  rw [h, sub_mod_eq n m 1 _ h]
theorem wr_congr {s : Spc} {n m : Int} (h : n % (s.L.length : Int) = m % (s.L.length : Int)) : s.wr n = s.wr m := by
  unfold Spc.wr
  rw [h]
theorem wr_mod {s : Spc} (h : s.OK) (n : Int) : ((s.wr n : Nat) : Int) % (s.L.length : Int) = n % (s.L.length : Int) := by
  rw [h.wr_eq, Int.emod_emod]
theorem dst_on {N p f : Nat} (hp : p < N) (hf : f < N) : dst N p false f = if p < f then f - p else f + N - p := by
  unfold dst dst0
  simp only [Bool.false_eq_true, if_false]
  by_cases h : p < f
  · rw [if_pos h, Int.emod_eq_of_lt (by omega) (by omega), if_neg (by omega)]
    omega
  · rw [if_neg h]
    by_cases e : p = f
    · subst e
      rw [Int.sub_self, Int.zero_emod]
      show (if (0 : Nat) = 0 then N else 0) = _
      rw [if_pos rfl]
      omega
    · rw [← Int.add_emod_right, Int.emod_eq_of_lt (by omega) (by omega), if_neg (by omega)]
      omega
theorem dst_back {N p f : Nat} (hp : p < N) (hf : f < N) : dst N p true f = if f < p then p - f else p + N - f := by
  unfold dst dst0
  simp only [if_true]
  by_cases h : f < p
  · rw [if_pos h, Int.emod_eq_of_lt (by omega) (by omega), if_neg (by omega)]
    omega
  · rw [if_neg h]
    by_cases e : p = f
    · subst e
      rw [Int.sub_self, Int.zero_emod]
      show (if (0 : Nat) = 0 then N else 0) = _
      rw [if_pos rfl]
      omega
    · rw [← Int.add_emod_right, Int.emod_eq_of_lt (by omega) (by omega), if_neg (by omega)]
      omega
def stB (back : Bool) : Int := if back then -1 else 1
/-- A place is as far as it lies. -/
theorem dst_to {N p f : Nat} (back : Bool) (hp : p < N) (hf : f < N) : 1 ≤ dst N p back f ∧ dst N p back f ≤ N ∧ ((p : Int) + stB back * (dst N p back f : Int)) % (N : Int) = (f : Int) % (N : Int) := by
  cases back
  · rw [dst_on hp hf, show stB false = 1 from rfl]
    split
    · refine ⟨by omega, by omega, ?_⟩
      congr 1
      omega
    · refine ⟨by omega, by omega, ?_⟩
      rw [show (p : Int) + 1 * ((f + N - p : Nat) : Int) = (f : Int) + N by omega, Int.add_emod_right]
  · rw [dst_back hp hf, show stB true = -1 from rfl]
    split
    · refine ⟨by omega, by omega, ?_⟩
      congr 1
      omega
    · refine ⟨by omega, by omega, ?_⟩
      rw [show (p : Int) + -1 * ((p + N - f : Nat) : Int) = (f : Int) - N by omega, ← Int.add_emod_right]
      congr 1
      omega
theorem mod_inj {N a b : Nat} (ha : a < N) (hb : b < N) (h : (a : Int) % (N : Int) = (b : Int) % (N : Int)) : a = b := by
  rw [Int.emod_eq_of_lt (by omega) (by omega), Int.emod_eq_of_lt (by omega) (by omega)] at h
  omega
theorem dst_inj {N p f f' : Nat} (back : Bool) (hp : p < N) (hf : f < N) (hf' : f' < N) (h : dst N p back f = dst N p back f') : f = f' := by
  have h1 := (dst_to back hp hf).2.2
  have h2 := (dst_to back hp hf').2.2
  rw [h] at h1
  exact mod_inj hf hf' (h1.symm.trans h2)
theorem dst_of {N p x k : Nat} (back : Bool) (hp : p < N) (hx : x < N) (hk : k < N) (h : ((p : Int) + stB back * ((k : Int) + 1)) % (N : Int) = (x : Int) % (N : Int)) : dst N p back x = k + 1 := by
  rw [Int.emod_eq_of_lt (a := (x : Int)) (by omega) (by omega)] at h
  cases back
  · rw [dst_on hp hx]
    rw [show stB false = 1 from rfl] at h
    by_cases e : p + (k + 1) < N
    · rw [Int.emod_eq_of_lt (by omega) (by omega)] at h
      rw [if_pos (by omega)]
      omega
    · rw [show (p : Int) + 1 * ((k : Int) + 1) = ((p : Int) + (k + 1) - N) + N by omega, Int.add_emod_right, Int.emod_eq_of_lt (by omega) (by omega)] at h
      rw [if_neg (by omega)]
      omega
  · rw [dst_back hp hx]
    rw [show stB true = -1 from rfl] at h
    by_cases e : k + 1 ≤ p
    · rw [Int.emod_eq_of_lt (by omega) (by omega)] at h
      rw [if_pos (by omega)]
      omega
    · rw [← Int.add_emod_right, Int.emod_eq_of_lt (by omega) (by omega)] at h
      rw [if_neg (by omega)]
      omega
/-- A first place is one that is told. -/
theorem firL_iff {s : Spc} (h : s.OK) {f : Nat} (hf : f < s.L.length) : f ∈ firL s ↔ firstB s (f : Int) = true := by
  have hN := big_len h
  have hwf : s.wr (f : Int) = f := wr_nat hf
  have hwp : s.wr ((f : Int) - 1) = bk s.L.length f 1 := wr_bk (q := 1) hf (by omega)
  have e : firstB s (f : Int) = ((s.cel (bk s.L.length f 1)).at_ && !(s.cel (bk s.L.length f 1)).prot && !(s.cel f).at_) := by
    unfold firstB Spc.atC
    rw [hwf, hwp]
  rw [e]
  have hba : bk s.L.length f 1 < s.L.length := by unfold bk; split <;> omega
  have hb1 : (bk s.L.length f 1 + 1) % s.L.length = f := by
    rw [modN (by omega)]
    unfold bk
    split <;> split <;> omega
  constructor
  · intro hm
    unfold firL flS at hm
    obtain ⟨a, ha, rfl⟩ := List.mem_map.1 hm
    obtain ⟨ha1, ha2⟩ := List.mem_filter.1 ha
    have ham := attP_mem (P := s.P) (N := s.L.length) ha1
    have hab : bk s.L.length ((a + 1) % s.L.length) 1 = a := by
      rw [modN (by omega)]
      unfold bk
      split <;> split <;> omega
    rw [hab]
    unfold goodA at ha2
    have h2 : s.P a = true := ham.2
    unfold Spc.P at ha2 h2
    rw [h2]
    simpa using ha2
  · intro hm
    unfold firL flS
    refine List.mem_map.2 ⟨bk s.L.length f 1, List.mem_filter.2 ⟨?_, ?_⟩, hb1⟩
    · show _ ∈ attP s.P s.L.length
      unfold attP
      have : s.P (bk s.L.length f 1) = true := by
        unfold Spc.P
        simp at hm
        exact hm.1.1
      simp [hba, this]
    · unfold goodA
      rw [hb1]
      unfold Spc.P
      simp at hm
      simp [hm.1.2, hm.2]
theorem seek_best {s : Spc} (h : s.OK) (back : Bool) {p : Nat} (hp : p < s.L.length) {r : Int} (hr : SeekR s p (stB back) r) : BestR s.L.length p back (firL s) r := by
  have hN := h.pos
  have key : ∀ f, f ∈ firL s → f < s.L.length ∧ firstB s ((p : Int) + stB back * (dst s.L.length p back f : Int)) = true := fun f hf => by
    have hfN := firL_mem hN.1 hf
    refine ⟨hfN, ?_⟩
    rw [firstB_congr (dst_to back hp hfN).2.2]
    exact (firL_iff h hfN).1 hf
  rcases hr with ⟨k, h1, h2, h3, h4⟩ | ⟨h1, h2⟩
  · right
    have hx := h.wr_lt ((p : Int) + stB back * ((k : Int) + 1))
    have hm := (wr_mod h ((p : Int) + stB back * ((k : Int) + 1))).symm
    have hd := dst_of back hp hx h1 hm
    refine ⟨_, (firL_iff h hx).2 (by rw [← firstB_congr hm]; exact h2), h4, fun f' hf' => ?_⟩
    obtain ⟨hf1, hf2⟩ := key f' hf'
    have hd1 := (dst_to back hp hf1).1
    rw [hd]
    apply Nat.le_of_not_lt
    intro hlt
    have := h3 (dst s.L.length p back f' - 1) (by omega)
    rw [show (((dst s.L.length p back f' - 1 : Nat) : Int) + 1) = (dst s.L.length p back f' : Int) by omega, hf2] at this
    cases this
  · left
    refine ⟨List.eq_nil_iff_forall_not_mem.2 fun f hf => ?_, h2⟩
    obtain ⟨hf1, hf2⟩ := key f hf
    have hd := dst_to back hp hf1
    have := h1 (dst s.L.length p back f - 1) (by omega)
    rw [show (((dst s.L.length p back f - 1 : Nat) : Int) + 1) = (dst s.L.length p back f : Int) by omega, hf2] at this
    cases this
theorem best_one {N p : Nat} {back : Bool} {l : List Nat} {r r' : Int} (hp : p < N) (hl : ∀ f ∈ l, f < N) (h : BestR N p back l r) (h' : BestR N p back l r') : r = r' := by
  rcases h with ⟨h1, h2⟩ | ⟨f, h1, h2, h3⟩
  · rcases h' with ⟨_, k2⟩ | ⟨f', k1, _, _⟩
    · rw [h2, k2]
    · rw [h1] at k1; cases k1
  · rcases h' with ⟨k1, _⟩ | ⟨f', k1, k2, k3⟩
    · rw [k1] at h1; cases h1
    · rw [h2, k2, dst_inj back hp (hl f h1) (hl f' k1) (Nat.le_antisymm (h3 f' k1) (k3 f h1))]
theorem SeekR.bd {s : Spc} {p : Nat} {st r : Int} (h : SeekR s p st r) : r = -1 ∨ ∃ k : Nat, r = (s.wr ((p : Int) + st * ((k : Int) + 1)) : Int) ∧ firstB s ((p : Int) + st * ((k : Int) + 1)) = true := by
  rcases h with ⟨k, _, h2, _, h4⟩ | ⟨_, h2⟩
  · exact .inr ⟨k, h4, h2⟩
  · exact .inl h2
/-- Back, and on again. -/
theorem seek_round {s : Spc} (h : s.OK) {a : Nat} (ha : a < s.L.length) (hf : firstB s (a : Int) = true) {r c : Int} (hr : SeekR s a (-1) r) (hc : SeekR s (s.wr r) 1 c) : c = (a : Int) := by
  have hN := h.pos
  have hself : ((a : Int) + -1 * (((s.L.length - 1 : Nat) : Int) + 1)) % (s.L.length : Int) = (a : Int) % (s.L.length : Int) := by
    rw [← Int.add_emod_right]
    congr 1
    omega
  rcases hr with ⟨k, h1, h2, h3, h4⟩ | ⟨h1, _⟩
  · have hb : (s.wr r : Int) % (s.L.length : Int) = ((a : Int) + -1 * ((k : Int) + 1)) % (s.L.length : Int) := by
      rw [wr_mod h, h4, wr_mod h]
    have hat : ∀ j : Nat, firstB s ((s.wr r : Int) + 1 * ((j : Int) + 1)) = firstB s ((a : Int) + -1 * ((k : Int) + 1) + 1 * ((j : Int) + 1)) := fun j => firstB_congr (add_mod_eq _ _ _ _ hb)
    have hk : firstB s ((s.wr r : Int) + 1 * ((k : Int) + 1)) = true := by
      rw [hat k, show (a : Int) + -1 * ((k : Int) + 1) + 1 * ((k : Int) + 1) = (a : Int) by omega]
      exact hf
    rcases hc with ⟨k2, c1, c2, c3, c4⟩ | ⟨c1, _⟩
    · have hle : ¬ k < k2 := fun q => by
        have := c3 k q
        rw [hk] at this
        cases this
      have hge : ¬ k2 < k := fun q => by
        rw [hat k2] at c2
        have := h3 (k - k2 - 1) (by omega)
        rw [show (a : Int) + -1 * (((k - k2 - 1 : Nat) : Int) + 1) = (a : Int) + -1 * ((k : Int) + 1) + 1 * ((k2 : Int) + 1) by omega, c2] at this
        cases this
      obtain rfl : k2 = k := by omega
      rw [c4, wr_congr (s := s) (add_mod_eq _ _ (1 * ((k2 : Int) + 1)) _ hb), show (a : Int) + -1 * ((k2 : Int) + 1) + 1 * ((k2 : Int) + 1) = (a : Int) by omega, wr_nat ha]
    · have := c1 k h1
      rw [hk] at this
      cases this
  · have := h1 (s.L.length - 1) (by omega)
    rw [firstB_congr hself, hf] at this
    cases this
theorem seek_first {s : Spc} (h : s.OK) {p : Nat} {st r : Int} (hr : SeekR s p st r) (h0 : 0 ≤ r) : ∃ a : Nat, a < s.L.length ∧ r = (a : Int) ∧ firstB s (a : Int) = true := by
  rcases hr.bd with q | ⟨k, h1, h2⟩
  · omega
  · exact ⟨_, h.wr_lt _, h1, by rw [firstB_congr (wr_mod h _)]; exact h2⟩
theorem seek_i64 {s : Spc} (h : s.OK) {p : Nat} {st r : Int} (hr : SeekR s p st r) : I64 r := by
  rcases hr.bd with q | ⟨k, h1, _⟩
  · rw [q]; exact ⟨by decide, by decide⟩
  · have := h.wr_lt ((p : Int) + st * ((k : Int) + 1))
    have := h.pos
    exact i64_small (by omega) (by omega)
/-- Numbers that lie below B. -/
structure NumsIn (B : Nat) (w : World) (v : Value) (xs : List Int) : Prop where
  i64 : ∀ i, i < xs.length → I64 (xs.getD i 0)
  len : xs.length ≤ 9223372036854775807
  sl : ∃ x c, v = .slice x xs.length c
  at_ : ∀ x c, v = .slice x xs.length c → ∀ i, i < xs.length → ∃ g o, x = some ⟨g, o, none⟩ ∧ g < B ∧ w.cell? ⟨g, o + i, none⟩ = some (.int .i64 (xs.getD i 0))
theorem NumsIn.below {B : Nat} {A C : World} {v : Value} {xs : List Int} (h : NumsIn B A v xs) (hb : Below B A C) : NumsIn B C v xs :=
  ⟨h.i64, h.len, h.sl, fun x c e i hi => by
    obtain ⟨g, o, e1, e2, e3⟩ := h.at_ x c e i hi
    exact ⟨g, o, e1, e2, (hb.cell (p := ⟨g, o + i, none⟩) e2).trans e3⟩⟩
set_option maxRecDepth 100000 in
set_option maxHeartbeats 8000000 in
theorem nexts_any (m : Nat) (hm : m < 256) (v : Value) (ac : List ActD) (u : Value) (xs : List Int) (w : World) (hx : ActsIn w.heap.size w v ac) (hu : NumsIn w.heap.size w u xs) : Calls Try.prog 8 #[.int .u8 m, v, u] w fun e w' => e = .returned (.bool true) ∧ Below w.heap.size w w' := by
  have HW := hid (awake13 w)
  have HLY := hid (fun W (hb : Below w.heap.size w W) => lay_any m hm v ac w.heap.size W hb.size (hx.below hb))
  obtain ⟨x, cp, rfl⟩ := hx.sl
  obtain ⟨y, cq, rfl⟩ := hu.sl
  have HU := hid hu
  obtain ⟨M, hM⟩ : ∃ M, M = xs.length := ⟨_, rfl⟩
  have HM := hid hM
  have hML : M ≤ 9223372036854775807 := by rw [hM]; exact hu.len
  rw [← hM]
  generalize runS (clearS (2 + ((m % 4 : Nat) : Int)) false) ac ac.length = s at HLY
  have HNX := hid (fun b g n hn W h => next_any (b := b) (g := g) (s := s) n hn W h)
  have HPV := hid (fun b g n hn W h => prev_any (b := b) (g := g) (s := s) n hn W h)
  have HRN := hid (fun b g n hn W h => rnext_on (b := b) (g := g) (s := s) n hn W h)
  have HRB := hid (fun b g n hn W h => rnext_back (b := b) (g := g) (s := s) n hn W h)
  clear hx hu hm hM
  go_enter Try.func8, Try.ntmps8
  go_wp2_with fail
  with_reducible refine HW.out.mono ?_
  rintro e w1 ⟨rfl, hb1⟩
  have HB1 := hid hb1
  clear hb1
  go_wp2_with fail
  with_reducible refine (HLY.out _ HB1.out).mono ?_
  rintro e w2 ⟨b1, g1, b2, g2, rfl, hd, -⟩
  have HD2 := hid (show SpM w2 b1 g1 s ∧ RfM w2 b2 g2 s ∧ Below w.heap.size w w2 from ⟨hd.sp, hd.rf, below_t HB1.out hd.bel⟩)
  have HOK := hid hd.sp.ok
  clear hd HB1
  go_wp2_with fail
  go_loopw [23] (fun i W => ∃ q : Nat, q ≤ M ∧ i = .int .i64 q ∧ Hid (Below w2.heap.size w2 W)) (fun i _ => M - (intOf i).toNat)
  case atStart => exact ⟨0, by omega, rfl, Below.refl _ _⟩
  case round =>
    obtain ⟨q, hq, rfl, HB⟩ := hrel
    by_cases hqM : q < M
    · have hqi : (q : Int) < M := by omega
      obtain ⟨gu, ou, rfl, hgu, hcu⟩ := (HU.out.below (HD2.out.2.2.trans (HB.out.mono HD2.out.2.2.size))).at_ y cq rfl q (by rw [← HM.out]; exact hqM)
      have HNI := hid (HU.out.i64 q (by rw [← HM.out]; exact hqM))
      have hlu := World.block_lt_of_cell? wr _ hcu
      generalize xs.getD q 0 = n at hcu HNI
      by_cases h8 : 8 ≤ q
      · have h8i : (8 : Int) ≤ q := by omega
        go_wp2
        go_ret
        exact ⟨rfl, below_t HD2.out.2.2 HB.out⟩
      · have h8i : ¬ (8 : Int) ≤ q := by omega
        have hwp := HOK.out.wr_lt n
        go_wp2_with fail
        with_reducible refine (HNX.out b1 g1 n HNI.out _ (HD2.out.1.below HB.out)).mono ?_
        rintro e w3 ⟨⟨a, rfl, hsa⟩, hb3⟩
        have HSA := hid hsa
        have HB3 := hid (below_t HB.out hb3)
        clear hb3 hsa
        go_wp2_with fail
        with_reducible refine (HPV.out b1 g1 n HNI.out _ (HD2.out.1.below HB3.out)).mono ?_
        rintro e w4 ⟨⟨b, rfl, hsb⟩, hb4⟩
        have HSB := hid hsb
        have HB4 := hid (below_t HB3.out hb4)
        clear hb4 hsb
        go_wp2_with fail
        with_reducible refine (HRN.out b2 g2 n HNI.out _ (HD2.out.2.1.below HB4.out)).mono ?_
        rintro e w5 ⟨⟨a', rfl, hra⟩, hb5⟩
        obtain rfl : a = a' := best_one hwp (fun f hf => firL_mem HOK.out.pos.1 hf) (seek_best HOK.out false hwp HSA.out) hra
        have HB5 := hid (below_t HB4.out hb5)
        clear hb5 hra
        go_wp2_with fail
        with_reducible refine (HRB.out b2 g2 n HNI.out _ (HD2.out.2.1.below HB5.out)).mono ?_
        rintro e w6 ⟨⟨b', rfl, hrb⟩, hb6⟩
        obtain rfl : b = b' := best_one hwp (fun f hf => firL_mem HOK.out.pos.1 hf) (seek_best HOK.out true hwp HSB.out) hrb
        have HB6 := hid (below_t HB5.out hb6)
        clear hb6 hrb
        by_cases h0 : 0 ≤ a
        · obtain ⟨a1, ha1, rfl, hfa⟩ := seek_first HOK.out HSA.out h0
          have HFA := hid hfa
          have HA1 := hid (show I64 (a1 : Int) from seek_i64 HOK.out HSA.out)
          clear hfa
          go_wp2_with fail
          with_reducible refine (HPV.out b1 g1 (a1 : Int) HA1.out _ (HD2.out.1.below HB6.out)).mono ?_
          rintro e w7 ⟨⟨r, rfl, hsr⟩, hb7⟩
          rw [wr_nat ha1] at hsr
          have HSR := hid hsr
          have HB7 := hid (below_t HB6.out hb7)
          clear hb7 hsr
          go_wp2_with fail
          with_reducible refine (HNX.out b1 g1 r (seek_i64 HOK.out HSR.out) _ (HD2.out.1.below HB7.out)).mono ?_
          rintro e w8 ⟨⟨c, rfl, hsc⟩, hb8⟩
          obtain rfl := seek_round HOK.out ha1 HFA.out HSR.out hsc
          have HB8 := hid (below_t HB7.out hb8)
          clear hb8 hsc
          go_wp2
          go_roundw
          case rel => exact ⟨q + 1, by omega, by go_num, HB8.out⟩
          case measure => simp [intOf]; omega
        · go_wp2
          go_roundw
          case rel => exact ⟨q + 1, by omega, by go_num, HB6.out⟩
          case measure => simp [intOf]; omega
    · obtain rfl : q = M := by omega
      go_wp2
      go_ret
      exact ⟨rfl, below_t HD2.out.2.2 HB.out⟩
end Go.Proofs.Ytdaainifnbbhiaa
