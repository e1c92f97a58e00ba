/-
  The reference hears any subnegotiation, as the program does.
-/
import Derived.Test.YtdpfjbpfafekfaaRd
namespace Go.Proofs.Ytdpfjbpfafekfaa
open Go.RowKit Go.Lib

section
variable {T D : ByteArray} {fs ag xs : List Int} {dev : ByteArray} {st o : Int}
theorem off_st (h : okH st o xs = false) : stH fs st o xs = st := by unfold stH; rw [h]; rfl
theorem off_dev (h : okH st o xs = false) : devH dev st o xs = dev := by unfold devH; rw [h]; rfl
theorem off_ag (h : okH st o xs = false) : agH fs ag st o xs = ag := by unfold agH; rw [h]; rfl
theorem off_ans (ho : o ≠ 24) (h : okH st o xs = false) : ansH T D fs st o xs = [] := by unfold ansH; rw [if_neg ho, h]; rfl
theorem on_st (h : okH st 40 xs = true) : stH fs st 40 xs = stK fs (kindL xs) (xs.drop 2) := if_pos h
theorem on_dev (h : okH st 40 xs = true) : devH dev st 40 xs = devK dev (kindL xs) (secondN (xs.drop 2)) := if_pos h
theorem on_ag (h : okH st 40 xs = true) : agH fs ag st 40 xs = agK fs ag (kindL xs) (xs.drop 2) := if_pos h
theorem on_ans (h : okH st 40 xs = true) : ansH T D fs st 40 xs = ansK T D fs (kindL xs) (xs.drop 2) := by unfold ansH; rw [if_neg (by decide), if_pos h]
theorem er_form (h : kindL xs = 0) : erH st 40 xs = 4 := by unfold erH; rw [if_neg (by decide), if_pos rfl, if_pos h]
theorem er_state (h : kindL xs ≠ 0) (hp : permB st (kindL xs) = false) : erH st 40 xs = 6 := by unfold erH; rw [if_neg (by decide), if_pos rfl, if_neg h, hp]; rfl
theorem er_ok (h : kindL xs ≠ 0) (hp : permB st (kindL xs) = true) : erH st 40 xs = 0 := by unfold erH; rw [if_neg (by decide), if_pos rfl, if_neg h, if_pos hp]
end
/-- The reference's Hear, in the program's words. -/
def RH (g : Nat) (sv : Value) (T D : ByteArray) (fs : List Int) (st : Int) (dev : ByteArray) (ag : List Int) (y : Option Addr) (n c : Nat) (xs : List Int) (w : World) : Prop :=
  Calls Try.prog 39 #[.pointer (some ⟨g, 0, none⟩), .int .u8 40, .slice y n c] w (HDone g sv T D fs (stH fs st 40 xs) (devH dev st 40 xs) (agH fs ag st 40 xs) (ansH T D fs st 40 xs) (erH st 40 xs) w)
section
variable {g : Nat} {sv : Value} {T D : ByteArray} {fs : List Int} {st : Int} {dev : ByteArray} {ag : List Int} {y : Option Addr} {n c : Nat} {xs : List Int} {w : World}
theorem rh_form (hk : kindL xs = 0) (h : Calls Try.prog 39 #[.pointer (some ⟨g, 0, none⟩), .int .u8 40, .slice y n c] w (HDone g sv T D fs st dev ag [] 4 w)) : RH g sv T D fs st dev ag y n c xs w := by
  unfold RH
  have hok := okH_none (st := st) (o := 40) hk
  rw [off_st hok, off_dev hok, off_ag hok, off_ans (by decide) hok, er_form hk]
  exact h
theorem rh_state (hk : kindL xs ≠ 0) (hp : permB st (kindL xs) = false) (h : Calls Try.prog 39 #[.pointer (some ⟨g, 0, none⟩), .int .u8 40, .slice y n c] w (HDone g sv T D fs st dev ag [] 6 w)) : RH g sv T D fs st dev ag y n c xs w := by
  unfold RH
  have hok := okH_perm (o := 40) hp
  rw [off_st hok, off_dev hok, off_ag hok, off_ans (by decide) hok, er_state hk hp]
  exact h
theorem rh_ok (hk : kindL xs ≠ 0) (hp : permB st (kindL xs) = true) (h : Calls Try.prog 39 #[.pointer (some ⟨g, 0, none⟩), .int .u8 40, .slice y n c] w (HDone g sv T D fs (stK fs (kindL xs) (xs.drop 2)) (devK dev (kindL xs) (secondN (xs.drop 2))) (agK fs ag (kindL xs) (xs.drop 2)) (ansK T D fs (kindL xs) (xs.drop 2)) 0 w)) : RH g sv T D fs st dev ag y n c xs w := by
  unfold RH
  have hok := okH_yes hk hp
  rw [on_st hok, on_dev hok, on_ag hok, on_ans hok, er_ok hk hp]
  exact h
end
theorem rhear40 (g : Nat) (sv av : Value) (T D : ByteArray) (fs : List Int) (st : Int) (dev : ByteArray) (ag : List Int) (w : World) (h : EndM w g sv av T D fs st dev ag) (hT : T.size ≤ 1000) (hD : D.size ≤ 1000) (hfl : fs.length ≤ 1000) (hf : ∀ x ∈ fs, 0 ≤ x ∧ x ≤ 4) (hst : 0 ≤ st ∧ st ≤ 4) (y : Option Addr) (n c : Nat) (xs : List Int) (hr : RdG w (.slice y n c) xs) (hn : n = xs.length) (hl : n ≤ 1000) (hg : g ∉ blkV (.slice y n c)) : RH g sv T D fs st dev ag y n c xs w := by
  match xs, hr, hn with
  | [], hr, hn => exact rh_form rfl (rshort g sv av T D fs st dev ag w h hT hD hfl hf hst y n c [] hr hn (by simp at hn; omega))
  | [a], hr, hn => exact rh_form rfl (rshort g sv av T D fs st dev ag w h hT hD hfl hf hst y n c [a] hr hn (by simp at hn; omega))
  | a :: b :: r, hr, hn =>
    have hn' : n = r.length + 2 := by simpa using hn
    by_cases h82 : a :: b :: r = [8, 2]
    · have hk : kindL (a :: b :: r) = 1 := by rw [h82]; rfl
      by_cases h4 : st = 4
      · refine rh_state (by rw [hk]; decide) (by rw [hk, h4]; rfl) ?_
        exact rhear_send_no g sv av T D fs st dev ag w h hT hD hfl hf hst y n c _ hr hn hl hg h82 h4
      · have hp : permB st 1 = true := by
          unfold permB
          rw [if_pos rfl, show (st == 4) = false by simpa using h4]
          rfl
        refine rh_ok (by rw [hk]; decide) (by rw [hk]; exact hp) ?_
        rw [hk]
        by_cases hd : D.size = 0
        · exact rhear_send_e g sv av T D fs st dev ag w h hT hD hfl hf hst y n c _ hr hn hl hg h82 h4 hd
        · exact rhear_send_d g sv av T D fs st dev ag w h hT hD hfl hf hst y n c _ hr hn hl hg h82 h4 hd
    by_cases h26 : a = 2 ∧ b = 6
    · obtain ⟨rfl, rfl⟩ := h26
      have hkk : kindL (2 :: 6 :: r) = if r.length = 2 ∧ r.getD 0 0 = 5 then 3 else 0 := by rw [kindL_two]; rfl
      by_cases hc : r.length = 2 ∧ r.getD 0 0 = 5
      · have hk : kindL (2 :: 6 :: r) = 3 := by rw [hkk, if_pos hc]
        by_cases hs : st = 1
        · refine rh_ok (by rw [hk]; decide) (by rw [hk, hs]; rfl) ?_
          rw [hk]
          exact rrej_ok g sv av T D fs st dev ag w h hT hD hfl hf hst y n c r hr hn' hl hg (by omega) hc.2 hs
        · refine rh_state (by rw [hk]; decide) ?_ (rrej_state g sv av T D fs st dev ag w h hT hD hfl hf hst y n c r hr hn' hl hg (by omega) hc.2 hs)
          rw [hk]
          unfold permB
          rw [if_neg (by decide), if_pos (by decide)]
          simpa using hs
      · refine rh_form (by rw [hkk, if_neg hc]) ?_
        by_cases h4 : n = 4
        · exact rrej_five g sv av T D fs st dev ag w h hT hD hfl hf hst y n c r hr hn' hl hg h4 (fun q => hc ⟨by omega, q⟩)
        · exact rrej_len g sv av T D fs st dev ag w h hT hD hfl hf hst y n c r hr hn' hl hg h4
    by_cases h24 : a = 2 ∧ b = 4
    · obtain ⟨rfl, rfl⟩ := h24
      have hkk : kindL (2 :: 4 :: r) = if namesOk r = true then 2 else 0 := by rw [kindL_two]; rfl
      cases hc : namesOk r
      · exact rh_form (by rw [hkk, hc]; rfl) (rdev_no g sv av T D fs st dev ag w h hT hD hfl hf hst y n c r hr hn' hl hg hc)
      · have hk : kindL (2 :: 4 :: r) = 2 := by rw [hkk, if_pos hc]
        by_cases hs : st = 1
        · refine rh_ok (by rw [hk]; decide) (by rw [hk, hs]; rfl) ?_
          rw [hk]
          exact rdev_ok g sv av T D fs st dev ag w h hT hD hfl hf hst y n c r hr hn' hl hg hc hs
        · refine rh_state (by rw [hk]; decide) ?_ (rdev_state g sv av T D fs st dev ag w h hT hD hfl hf hst y n c r hr hn' hl hg hc hs)
          rw [hk]
          unfold permB
          rw [if_neg (by decide), if_pos (by decide)]
          simpa using hs
    by_cases h34 : a = 3 ∧ b = 4
    · obtain ⟨rfl, rfl⟩ := h34
      have hkk : kindL (3 :: 4 :: r) = if onceL r = true then 4 else 0 := by rw [kindL_two]; rfl
      cases hc : onceL r
      · exact rh_form (by rw [hkk, hc]; rfl) (ris_form g sv av T D fs st dev ag w h hT hD hfl hf hst y n c r hr hn' hl hg hc)
      · have hk : kindL (3 :: 4 :: r) = 4 := by rw [hkk, if_pos hc]
        by_cases hs : st = 2
        · refine rh_ok (by rw [hk]; decide) (by rw [hk, hs]; rfl) ?_
          rw [hk]
          show Calls _ _ _ _ (HDone g sv T D fs (if allF fs r = true then 3 else 4) dev (if allF fs r = true then sortL r else ag) [] 0 w)
          cases ha : allF fs r
          · exact ris_no g sv av T D fs st dev ag w h hT hD hfl hf hst y n c r hr hn' hl hg hc hs ha
          · exact ris_yes g sv av T D fs st dev ag w h hT hD hfl hf hst y n c r hr hn' hl hg hc hs ha
        · refine rh_state (by rw [hk]; decide) ?_ (ris_state g sv av T D fs st dev ag w h hT hD hfl hf hst y n c r hr hn' hl hg hc hs)
          rw [hk]
          unfold permB
          rw [if_neg (by decide), if_neg (by decide), if_pos rfl]
          simpa using hs
    by_cases h37 : a = 3 ∧ b = 7
    · obtain ⟨rfl, rfl⟩ := h37
      have hkk : kindL (3 :: 7 :: r) = if onceL r = true then 5 else 0 := by rw [kindL_two]; rfl
      cases hc : onceL r
      · exact rh_form (by rw [hkk, hc]; rfl) (rrq_form g sv av T D fs st dev ag w h hT hD hfl hf hst y n c r hr hn' hl hg hc)
      · have hk : kindL (3 :: 7 :: r) = 5 := by rw [hkk, if_pos hc]
        by_cases hs : st = 2
        · refine rh_ok (by rw [hk]; decide) (by rw [hk, hs]; rfl) ?_
          rw [hk]
          show Calls _ _ _ _ (HDone g sv T D fs (if allF fs r = true then 3 else 2) dev (if allF fs r = true then sortL r else []) (if allF fs r = true then 3 :: 4 :: r else 3 :: 7 :: keepL fs r) 0 w)
          cases ha : allF fs r
          · exact rrq_no2 g sv av T D fs st dev ag w h hT hD hfl hf hst y n c r hr hn' hl hg hc hs ha
          · exact rrq_yes2 g sv av T D fs st dev ag w h hT hD hfl hf hst y n c r hr hn' hl hg hc hs ha
        · by_cases hs3 : st = 3
          · refine rh_ok (by rw [hk]; decide) (by rw [hk, hs3]; rfl) ?_
            rw [hk]
            show Calls _ _ _ _ (HDone g sv T D fs (if allF fs r = true then 3 else 2) dev (if allF fs r = true then sortL r else []) (if allF fs r = true then 3 :: 4 :: r else 3 :: 7 :: keepL fs r) 0 w)
            cases ha : allF fs r
            · exact rrq_no3 g sv av T D fs st dev ag w h hT hD hfl hf hst y n c r hr hn' hl hg hc hs3 ha
            · exact rrq_yes3 g sv av T D fs st dev ag w h hT hD hfl hf hst y n c r hr hn' hl hg hc hs3 ha
          · refine rh_state (by rw [hk]; decide) ?_ (rrq_state g sv av T D fs st dev ag w h hT hD hfl hf hst y n c r hr hn' hl hg hc hs hs3)
            rw [hk]
            unfold permB
            rw [if_neg (by decide), if_neg (by decide), if_neg (by decide), if_pos rfl, show (st == 2) = false by simpa using hs, show (st == 3) = false by simpa using hs3]
            rfl
    · refine rh_form ?_ (rother g sv av T D fs st dev ag w h hT hD hfl hf hst a b y n c r hr hn' hl hg h82 h26 h24 h34 h37)
      rw [kindL_two]
      unfold kind2
      by_cases a8 : a = 8
      · rw [if_pos a8]
        unfold kindS
        exact if_neg (fun q => h82 (by rw [a8, q.1, List.length_eq_zero_iff.1 q.2]))
      · rw [if_neg a8]
        by_cases a2 : a = 2
        · rw [if_pos a2]
          unfold kindD
          rw [if_neg (fun q => h24 ⟨a2, q⟩), if_neg (fun q => h26 ⟨a2, q⟩)]
        · rw [if_neg a2]
          by_cases a3 : a = 3
          · rw [if_pos a3]
            unfold kindF
            rw [if_neg (fun q => h34 ⟨a3, q⟩), if_neg (fun q => h37 ⟨a3, q⟩)]
            split <;> rfl
          · rw [if_neg a3]
theorem rhear_any (g : Nat) (sv av : Value) (T D : ByteArray) (fs : List Int) (st : Int) (dev : ByteArray) (ag : List Int) (w : World) (h : EndM w g sv av T D fs st dev ag) (hT : T.size ≤ 1000) (hD : D.size ≤ 1000) (hfl : fs.length ≤ 1000) (hf : ∀ x ∈ fs, 0 ≤ x ∧ x ≤ 4) (hst : 0 ≤ st ∧ st ≤ 4) (y : Option Addr) (n c : Nat) (xs : List Int) (hr : RdG w (.slice y n c) xs) (hn : n = xs.length) (hl : n ≤ 1000) (hg : g ∉ blkV (.slice y n c)) (o : Int) : Calls Try.prog 39 #[.pointer (some ⟨g, 0, none⟩), .int .u8 o, .slice y n c] w (HDone g sv T D fs (stH fs st o xs) (devH dev st o xs) (agH fs ag st o xs) (ansH T D fs st o xs) (erH st o xs) w) := by
  by_cases h24 : o = 24
  · subst h24
    have hok : okH st 24 xs = false := okH_no (by decide)
    rw [off_st hok, off_dev hok, off_ag hok]
    by_cases hx : xs = [1]
    · rw [show ansH T D fs st 24 xs = 0 :: strL T by unfold ansH; rw [if_pos rfl, if_pos hx], show erH st 24 xs = 0 by unfold erH; rw [if_pos rfl, if_pos hx]]
      exact rhear_24 g sv av T D fs st dev ag w h hT hD hfl hf hst y n c xs hr hn hl hg hx
    · rw [show ansH T D fs st 24 xs = [] by unfold ansH; rw [if_pos rfl, if_neg hx], show erH st 24 xs = 4 by unfold erH; rw [if_pos rfl, if_neg hx]]
      exact rhear_24_no g sv av T D fs st dev ag w h hT hD hfl hf hst y n c xs hr hn hl hg hx
  · by_cases h40 : o = 40
    · subst h40
      exact rhear40 g sv av T D fs st dev ag w h hT hD hfl hf hst y n c xs hr hn hl hg
    · have hok : okH st o xs = false := okH_no h40
      rw [off_st hok, off_dev hok, off_ag hok, off_ans h24 hok, show erH st o xs = 5 by unfold erH; rw [if_neg h24, if_neg h40]]
      exact rhear_none g sv av T D fs st dev ag w h hT hD hfl hf hst y n c xs hr hn hl hg o h24 h40
end Go.Proofs.Ytdpfjbpfafekfaa
