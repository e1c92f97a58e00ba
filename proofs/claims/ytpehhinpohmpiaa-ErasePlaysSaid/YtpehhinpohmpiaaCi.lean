/-
  The places that tabs come to, told one by one.
-/
import Derived.Test.YtpehhinpohmpiaaCf
import Derived.Test.YtpehhinpohmpiaaFh
namespace Go.Proofs.Ytpehhinpohmpiaa
open Go.RowKit Go.Lib Go.Deep

/-- They are. -/
def tabL (s : Spc) : List Nat := (List.range s.L.length).filter (fun i : Nat => firstB s (i : Int))
theorem tabL_mem {s : Spc} {x : Nat} : x ∈ tabL s ↔ x < s.L.length ∧ firstB s (x : Int) = true := by simp [tabL]
theorem tabL_up (s : Spc) : (tabL s).Pairwise (· < ·) := List.Pairwise.filter _ List.pairwise_lt_range
theorem tabL_len (s : Spc) : (tabL s).length ≤ s.L.length := by
  have := List.length_filter_le (fun i : Nat => firstB s (i : Int)) (List.range s.L.length)
  rwa [List.length_range] at this
/-- The one ahead. -/
def bef (l : List Nat) (k : Nat) : Int := if k = 0 then -1 else (l.getD (k - 1) 0 : Nat)
theorem bef_succ {l : List Nat} {k x : Nat} (h : l[k]? = some x) : bef l (k + 1) = (x : Int) := by
  unfold bef
  rw [if_neg (by omega), Nat.add_sub_cancel, List.getD_eq_getElem?_getD, h]
  rfl
theorem bef_in {l : List Nat} {k N : Nat} (hl : ∀ x ∈ l, x < N) (hk : k ≤ l.length) : -1 ≤ bef l k ∧ bef l k < N := by
  unfold bef
  by_cases h : k = 0
  · rw [if_pos h]; omega
  · have hk' : k - 1 < l.length := by omega
    have := hl _ (List.getElem_mem hk')
    rw [if_neg h, List.getD_eq_getElem?_getD, List.getElem?_eq_getElem hk']
    simp only [Option.getD_some]
    omega
/-- Between the one ahead and the next there is none; behind the last, neither. -/
theorem up_gap {l : List Nat} (hs : l.Pairwise (· < ·)) {k y : Nat} (hk : k ≤ l.length) (hy : y ∈ l) (hb : bef l k < (y : Int)) : ∃ h : k < l.length, l[k] ≤ y := by
  obtain ⟨j, hj, rfl⟩ := List.mem_iff_getElem.1 hy
  have hq := List.pairwise_iff_getElem.1 hs
  have hkj : k ≤ j := by
    apply Nat.le_of_not_lt
    intro hjk
    unfold bef at hb
    rw [if_neg (by omega), List.getD_eq_getElem?_getD, List.getElem?_eq_getElem (show k - 1 < l.length by omega)] at hb
    simp only [Option.getD_some] at hb
    by_cases e : j = k - 1
    · subst e; omega
    · have := hq j (k - 1) hj (by omega) (by omega)
      omega
  refine ⟨by omega, ?_⟩
  by_cases e : k = j
  · subst e; exact Nat.le_refl _
  · exact Nat.le_of_lt (hq k j (by omega) hj (by omega))
theorem bef_up {l : List Nat} (hs : l.Pairwise (· < ·)) {k x : Nat} (h : l[k]? = some x) : bef l k < (x : Int) := by
  obtain ⟨hk, rfl⟩ := List.getElem?_eq_some_iff.1 h
  unfold bef
  by_cases e : k = 0
  · rw [if_pos e]; omega
  · rw [if_neg e, List.getD_eq_getElem?_getD, List.getElem?_eq_getElem (show k - 1 < l.length by omega)]
    simp only [Option.getD_some]
    have := List.pairwise_iff_getElem.1 hs (k - 1) k (by omega) hk (by omega)
    omega
theorem wr_shift {s : Spc} (h : s.OK) (p d : Int) : ((s.wr p : Nat) + d : Int) % (s.L.length : Int) = (p + d) % (s.L.length : Int) := add_mod_eq _ _ _ _ (wr_mod h p)
/-- The next one's place, if there is one ahead of the end. -/
theorem seek_up {s : Spc} (h : s.OK) {p : Int} {x : Nat} (h1 : -1 ≤ p) (h2 : p < (x : Int)) (hx : x < s.L.length) (hf : firstB s (x : Int) = true) (hn : ∀ y : Nat, p < (y : Int) → y < x → firstB s (y : Int) = false) : seekZ s (s.wr p) 1 = (x : Int) := by
  have hk : ((x : Int) - p - 1).toNat < s.L.length := by omega
  have e : ∀ j : Nat, firstB s ((s.wr p : Nat) + 1 * ((j : Int) + 1)) = firstB s (p + ((j : Int) + 1)) := fun j => firstB_congr (by rw [Int.one_mul]; exact wr_shift h p _)
  refine (SeekR.is (.inl ⟨((x : Int) - p - 1).toNat, hk, ?_, fun j hj => ?_, ?_⟩)).symm
  · rw [e, show p + ((((x : Int) - p - 1).toNat : Int) + 1) = (x : Int) by omega]
    exact hf
  · rw [e, show p + ((j : Int) + 1) = ((p + 1 + j).toNat : Int) by omega]
    exact hn _ (by omega) (by omega)
  · have q : s.wr ((s.wr p : Nat) + 1 * ((((x : Int) - p - 1).toNat : Int) + 1)) = s.wr (x : Int) := wr_congr (by
      rw [Int.one_mul, wr_shift h p]
      congr 1
      omega)
    rw [q, wr_nat hx]
theorem seek_over {s : Spc} (h : s.OK) {p : Int} (h1 : -1 ≤ p) (hn : ∀ y : Nat, p < (y : Int) → y < s.L.length → firstB s (y : Int) = false) : seekZ s (s.wr p) 1 ≤ p := by
  have hr := seekZ_R s (s.wr p) 1
  by_cases h0 : 0 ≤ seekZ s (s.wr p) 1
  · obtain ⟨a, ha, e, hf⟩ := seek_first h hr h0
    rw [e]
    apply Int.le_of_not_gt
    intro q
    rw [hn a q ha] at hf
    cases hf
  · omega
theorem tab_more {s : Spc} (h : s.OK) {k x : Nat} (hx : (tabL s)[k]? = some x) : seekZ s (s.wr (bef (tabL s) k)) 1 = (x : Int) := by
  obtain ⟨hk, e⟩ := List.getElem?_eq_some_iff.1 hx
  have hm := tabL_mem.1 (e ▸ List.getElem_mem hk)
  have hb := bef_in (N := s.L.length) (fun y hy => (tabL_mem.1 hy).1) (Nat.le_of_lt hk)
  refine seek_up h hb.1 (bef_up (tabL_up s) hx) hm.1 hm.2 (fun y hy hyx => ?_)
  cases hf : firstB s (y : Int)
  · rfl
  · obtain ⟨hk', hle⟩ := up_gap (tabL_up s) (Nat.le_of_lt hk) (tabL_mem.2 ⟨by omega, hf⟩) hy
    rw [e] at hle
    omega
theorem tab_over {s : Spc} (h : s.OK) {k : Nat} (hk : k = (tabL s).length) : seekZ s (s.wr (bef (tabL s) k)) 1 ≤ bef (tabL s) k := by
  have hb := bef_in (N := s.L.length) (fun y hy => (tabL_mem.1 hy).1) (Nat.le_of_eq hk)
  refine seek_over h hb.1 (fun y hy hyN => ?_)
  cases hf : firstB s (y : Int)
  · rfl
  · obtain ⟨hk', _⟩ := up_gap (tabL_up s) (Nat.le_of_eq hk) (tabL_mem.2 ⟨hyN, hf⟩) hy
    omega
/-- The box holds the space. -/
def RTb (bx b g : Nat) (s : Spc) (V : World) : Prop := V.cell? ⟨bx, 0, none⟩ = some (.pointer (some ⟨b, 0, none⟩)) ∧ SpM V b g s
set_option maxRecDepth 100000 in
set_option maxHeartbeats 4000000 in
theorem tabs_seq (n : Nat) (hn : 4 ≤ n) (bx b g : Nat) (s : Spc) (W : World) : SeqF Fence.wide n Try.prog 105 #[.pointer (some ⟨bx, 0, none⟩)] encI (fun k x _ => (tabL s)[k]? = some x) (tabL s).length (RTb bx b g s) W := fun l I Ix hI hIx hR h0 hY => by
  obtain ⟨hb, hsp⟩ := hR _ _ _ h0
  have hok := hsp.ok
  have hlt : bx < W.heap.size := World.block_lt_of_cell? W _ hb
  have HNX := hid (fun k (hk : k ≤ (tabL s).length) V (h : SpM V b g s) => next_is (b := b) (g := g) (s := s) (bef (tabL s) k) (by
    have q := bef_in (N := s.L.length) (fun y hy => (tabL_mem.1 hy).1) hk
    have := hok.pos
    exact i64_small (by omega) (by omega)) V h)
  have HMO := hid (fun k x hx => tab_more (s := s) hok (k := k) (x := x) hx)
  have HOV := hid (fun k hk => tab_over (s := s) hok (k := k) hk)
  have HUP := hid (fun k x hx => bef_up (tabL_up s) (k := k) (x := x) hx)
  have HIN := hid (fun k hk => bef_in (l := tabL s) (k := k) (N := s.L.length) (fun y hy => (tabL_mem.1 hy).1) hk)
  have HSU := hid (fun k x hx => bef_succ (l := tabL s) (k := k) (x := x) hx)
  have HB0 := hid (show bef (tabL s) 0 = -1 from rfl)
  generalize hZ : (fun k => seekZ s (s.wr (bef (tabL s) k)) 1) = Z
  have hZk : ∀ k, seekZ s (s.wr (bef (tabL s) k)) 1 = Z k := fun k => by rw [← hZ]
  simp only [hZk] at HNX HMO HOV
  generalize bef (tabL s) = B at HNX HMO HOV HUP HIN HSU HB0 hZk
  generalize tabL s = tl at HNX HMO HOV HUP HIN HSU hY ⊢
  obtain ⟨K, hK⟩ : ∃ K, tl.length = K := ⟨_, rfl⟩
  rw [hK] at HNX HOV HIN hY ⊢
  have HKL := hid hK
  have HY := hid hY
  have HR := hid hR
  have HI := hid hI
  have H0 := hid h0
  have hN := hok.pos
  generalize s.L.length = N at HIN hN
  clear hY hR h0 hI hsp hb hK hZ hZk hok
  refine callsIn_of_wp Try.func105 rfl trivial ?_ rfl
  simp only [Try.ntmps105, List.size_toArray, List.length_cons, List.length_nil, Nat.reduceAdd, Nat.reduceSub, Array.replicate_succ, Array.replicate_zero, List.push_toArray, List.append_toArray, List.nil_append, List.cons_append]
  gi_wp2
  gi_loopw [3] (fun v wr => ∃ k : Nat, k ≤ K ∧ v = .int .i64 (B k) ∧ Hid (∃ S, I k S wr) ∧ W.heap.size ≤ wr.heap.size) (fun v _ => ((N : Int) - intOf v).toNat)
  case atStart => exact ⟨0, by omega, by rw [HB0.out], ⟨_, H0.out⟩, Nat.le_refl _⟩
  case round =>
    obtain ⟨k, hk, rfl, ⟨S, hi⟩, hsz⟩ := hrel
    obtain ⟨cb, hsp⟩ := HR.out _ _ _ hi
    have hltb : bx < wr.heap.size := World.block_lt_of_cell? wr _ cb
    have HI1 := hid hi
    have HSP := hid hsp
    have HIN1 := hid (HIN.out k hk)
    clear hsp hi
    gi_wp2
    refine ⟨trivial, fun _ => (by omega), ?_⟩
    refine (callsIn_wide.2 (HNX.out k hk _ HSP.out)).mono ?_
    rintro e w1 ⟨rfl, hb1⟩
    have HI2 := hid (HI.out _ _ _ _ (Grow.below hb1 _) HI1.out)
    have hz2 : W.heap.size ≤ w1.heap.size := Nat.le_trans hsz hb1.size
    clear hb1 HSP
    by_cases hkK : k < K
    · have hx : tl[k]? = some (tl[k]'(by rw [HKL.out]; exact hkK)) := List.getElem?_eq_getElem _
      generalize tl[k]'(by rw [HKL.out]; exact hkK) = x at hx
      have hlt' := HUP.out k x hx
      have hsu := HSU.out k x hx
      have hxN := (HIN.out (k + 1) hkK).2
      rw [HMO.out k x hx]
      rw [hsu] at hxN
      have hb1 := HIN1.out.1
      have HXP := hid (And.intro hlt' (And.intro hxN hb1))
      obtain ⟨p, hp⟩ : ∃ p, B k = p := ⟨_, rfl⟩
      rw [hp] at hlt' hb1 ⊢
      have hle : ¬ (x : Int) ≤ p := by omega
      obtain ⟨f1, t1, a6, b1, hy, hr⟩ := HY.out k x S w1 hkK hx HI2.out hz2
      have HRR := hid hr
      have HSX := hid hsu
      clear hr hx hlt' hsu hxN hb1 hp
      gi_wp2
      refine ⟨fun _ => (by omega), HRR.out.mono ?_⟩
      rintro e W1 ⟨S', ht, ⟨rfl, hj⟩ | ⟨rfl, hj⟩⟩
      · have HJ := hid (show ∃ S, I (k + 1) S W1 from ⟨S', hj⟩)
        have hsz1 := Nat.le_trans hz2 ht.size
        clear hj ht HI2
        gi_wp2
        go_roundw
        case rel => exact ⟨k + 1, by omega, by rw [HSX.out], HJ, hsz1⟩
        case measure =>
          have := HXP.out
          simp [intOf]
          omega
      · have HJ := hid hj
        clear hj ht HI2
        gi_wp2
        refine bodyPost_ret (results_none rfl _ _ _) rfl ?_
        exact ⟨⟨_, rfl⟩, .inr ⟨k, S', hkK, HJ.out⟩⟩
    · have e : k = K := by omega
      have hle := HOV.out k e
      generalize Z k = r at hle ⊢
      generalize B k = p at hle ⊢
      have HI9 := hid (show I K S w1 by rw [← e]; exact HI2.out)
      clear HI2
      gi_wp2
      rename_i aK _ _ _ _
      refine ⟨fun _ f => (by cases f), aK _ _ ?_⟩
      gi_wp2
      refine bodyPost_ret (results_none rfl _ _ _) rfl ?_
      exact ⟨⟨_, rfl⟩, .inl ⟨S, HI9.out⟩⟩
set_option maxRecDepth 100000 in
set_option maxHeartbeats 4000000 in
theorem tabs_nil_seq (n : Nat) (hn : 4 ≤ n) (bx : Nat) (W : World) : SeqF Fence.wide n Try.prog 105 #[.pointer (some ⟨bx, 0, none⟩)] encI (fun _ _ _ => False) 0 (RN bx) W := fun l I Ix hI hIx hR h0 hY => by
  have hb : W.cell? ⟨bx, 0, none⟩ = some (.pointer none) := hR _ _ _ h0
  have hlt : bx < W.heap.size := World.block_lt_of_cell? W _ hb
  have H0 := hid h0
  have HI := hid hI
  clear hY hR h0 hI
  refine callsIn_of_wp Try.func105 rfl trivial ?_ rfl
  simp only [Try.ntmps105, List.size_toArray, List.length_cons, List.length_nil, Nat.reduceAdd, Nat.reduceSub, Array.replicate_succ, Array.replicate_zero, List.push_toArray, List.append_toArray, List.nil_append, List.cons_append]
  gi_wp2
  gi_loopw [3] (fun v wr => v = .int .i64 (-1) ∧ Hid (wr = W)) (fun v _ => 0)
  case atStart => exact ⟨rfl, rfl⟩
  case round =>
    obtain ⟨rfl, ⟨rfl⟩⟩ := hrel
    gi_wp2
    refine ⟨trivial, fun _ => (by omega), ?_⟩
    refine (callsIn_wide.2 (next_nil (-1) _)).mono ?_
    rintro e w1 ⟨rfl, hb1⟩
    have HI2 := hid (HI.out _ _ _ _ (Grow.below hb1 _) H0.out)
    clear hb1
    gi_wp2
    rename_i aK _ _ _ _
    refine ⟨fun _ f => (by cases f), aK _ _ ?_⟩
    gi_wp2
    refine bodyPost_ret (results_none rfl _ _ _) rfl ?_
    exact ⟨⟨_, rfl⟩, .inl ⟨[], HI2.out⟩⟩
set_option maxRecDepth 100000 in
theorem tabsIt (o : Option Addr) (w : World) : Calls Try.prog 47 #[.pointer o] w fun e w' => ∃ bx, e = .returned (.func (.func 105) #[] #[.pointer (some ⟨bx, 0, none⟩)]) ∧ w.heap.size ≤ bx ∧ w'.cell? ⟨bx, 0, none⟩ = some (.pointer o) ∧ Below w.heap.size w w' := by
  go_enter Try.func47, Try.ntmps47
  go_wp2
  go_ret
  exact ⟨w.heap.size, rfl, Nat.le_refl _, by simp [go_sem], (Below.refl _ _).al (Nat.le_refl _) _⟩
theorem collectT_nil (bx : Nat) (w : World) (hb : w.cell? ⟨bx, 0, none⟩ = some (.pointer none)) : Calls Try.prog 25 #[.func (.func 105) #[] #[.pointer (some ⟨bx, 0, none⟩)]] w fun e w' => (∃ x c, e = .returned (.slice x 0 c)) ∧ Below w.heap.size w w' :=
  (collect_any 105 #[.pointer (some ⟨bx, 0, none⟩)] [] (by simp) (RN bx) (enters_of Try.func105 (by kernel_rfl) rfl) (fun V => SeqF.el0 (tabs_nil_seq 7 (by omega) bx V)) w (fun V hV => keepc hV hb)).mono fun e w' h => by
    obtain ⟨v, rfl, h1, _, h3⟩ := h
    obtain ⟨y, c, rfl⟩ := row_any h1
    exact ⟨⟨y, c, rfl⟩, h3⟩
theorem collectT_any (b g : Nat) (s : Spc) (bx : Nat) (w : World) (h : SpM w b g s) (hb : w.cell? ⟨bx, 0, none⟩ = some (.pointer (some ⟨b, 0, none⟩))) : Calls Try.prog 25 #[.func (.func 105) #[] #[.pointer (some ⟨bx, 0, none⟩)]] w (IntsD ((tabL s).map Int.ofNat) w) :=
  collect_any 105 #[.pointer (some ⟨bx, 0, none⟩)] (tabL s) (by have := tabL_len s; have := h.ok.pos; omega) (RTb bx b g s) (enters_of Try.func105 (by kernel_rfl) rfl) (fun V => tabs_seq 7 (by omega) bx b g s V) w (fun V hV => ⟨keepc hV hb, h.below hV⟩)
end Go.Proofs.Ytpehhinpohmpiaa
