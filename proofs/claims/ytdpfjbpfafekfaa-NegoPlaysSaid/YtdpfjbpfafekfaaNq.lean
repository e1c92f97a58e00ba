/-
  A terminal's end hears any subnegotiation.
-/
import Derived.Test.YtdpfjbpfafekfaaNp
namespace Go.Proofs.Ytdpfjbpfafekfaa
open Go.RowKit Go.Lib

/-- Something was heard: an answer, an error, an end that has moved. -/
def HDone (g : Nat) (sv : Value) (T D : ByteArray) (fs : List Int) (st : Int) (dev : ByteArray) (ag : List Int) (ans : List Int) (er : Int) (w : World) (e : Ending) (w' : World) : Prop :=
  ∃ v av', e = .returned (.tuple #[v, .int .i64 er]) ∧ OwnB w' v ans ∧ EndM w' g sv av' T D fs st dev ag ∧ Moved w w' [g] [g] ∧ (∀ k ∈ blkV v, w.heap.size ≤ k ∧ k ∉ blkV av') ∧ OldNew w g av'
/-- A message that is one, and that is permitted. -/
def okH (st o : Int) (xs : List Int) : Bool := (o == 40) && !(kindL xs == 0) && permB st (kindL xs)
def ansH (T D : ByteArray) (fs : List Int) (st o : Int) (xs : List Int) : List Int := if o = 24 then (if xs = [1] then 0 :: strL T else []) else if okH st o xs = true then ansK T D fs (kindL xs) (xs.drop 2) else []
def erH (st o : Int) (xs : List Int) : Int := if o = 24 then (if xs = [1] then 0 else 4) else if o = 40 then (if kindL xs = 0 then 4 else if permB st (kindL xs) = true then 0 else 6) else 5
def stH (fs : List Int) (st o : Int) (xs : List Int) : Int := if okH st o xs = true then stK fs (kindL xs) (xs.drop 2) else st
def devH (dev : ByteArray) (st o : Int) (xs : List Int) : ByteArray := if okH st o xs = true then devK dev (kindL xs) (secondN (xs.drop 2)) else dev
def agH (fs ag : List Int) (st o : Int) (xs : List Int) : List Int := if okH st o xs = true then agK fs ag (kindL xs) (xs.drop 2) else ag
theorem okH_no {st o : Int} {xs : List Int} (h : o ≠ 40) : okH st o xs = false := by
  unfold okH
  rw [show (o == 40) = false by simpa using h]
  rfl
theorem okH_none {st o : Int} {xs : List Int} (h : kindL xs = 0) : okH st o xs = false := by
  unfold okH
  rw [h]
  simp
theorem okH_perm {st o : Int} {xs : List Int} (h : permB st (kindL xs) = false) : okH st o xs = false := by
  unfold okH
  rw [h]
  simp
theorem okH_yes {st : Int} {xs : List Int} (h : kindL xs ≠ 0) (hp : permB st (kindL xs) = true) : okH st 40 xs = true := by
  unfold okH
  rw [hp, show (kindL xs == 0) = false by simpa using h]
  rfl
set_option maxRecDepth 100000 in
set_option maxHeartbeats 2000000 in
theorem hearTN_any (g : Nat) (sv av : Value) (T D : ByteArray) (fs : List Int) (st : Int) (dev : ByteArray) (ag : List Int) (w : World) (h : EndM w g sv av T D fs st dev ag) (hT : T.size ≤ 1000) (hD : D.size ≤ 1000) (hfl : fs.length ≤ 1000) (hf : ∀ x ∈ fs, 0 ≤ x ∧ x ≤ 4) (hst : 0 ≤ st ∧ st ≤ 4) (y : Option Addr) (n c : Nat) (xs : List Int) (hr : RdG w (.slice y n c) xs) (hn : n = xs.length) (hl : n ≤ 1000) (hg : g ∉ blkV (.slice y n c)) : Calls Try.prog 64 #[.pointer (some ⟨g, 0, none⟩), .slice y n c] w (HDone g sv T D fs (stH fs st 40 xs) (devH dev st 40 xs) (agH fs ag st 40 xs) (ansH T D fs st 40 xs) (erH st 40 xs) w) := by
  have HP := hid (parse_any y n c xs hn hl w hr)
  have hgl := h.lt
  have hR := hr.from' hn 2
  have hnd2 : n - 2 = (xs.drop 2).length := by rw [List.length_drop, hn]
  have HKR := hid (kindL_range xs)
  by_cases hk0 : kindL xs = 0
  · have hok := okH_none (st := st) (o := 40) hk0
    have e1 : stH fs st 40 xs = st := if_neg (by rw [hok]; decide)
    have e2 : devH dev st 40 xs = dev := if_neg (by rw [hok]; decide)
    have e3 : agH fs ag st 40 xs = ag := if_neg (by rw [hok]; decide)
    have e4 : ansH T D fs st 40 xs = [] := by unfold ansH; rw [if_neg (by decide), hok, if_neg (by decide)]
    have e5 : erH st 40 xs = 4 := by unfold erH; rw [if_neg (by decide), if_pos rfl, if_pos hk0]
    rw [e1, e2, e3, e4, e5]
    rw [hk0] at HP
    have HH := hid h
    clear h hr hn hk0 hok e1 e2 e3 e4 e5 hR hnd2 HKR
    go_enter Try.func64, Try.ntmps64
    go_wp2_with fail
    with_reducible refine HP.out.mono ?_
    rintro e w1 ⟨v, d', rfl, hb, hd, hv, x', n', c', rfl⟩
    have HX := hid (fun o => show HDone g sv T D fs st dev ag [] 4 w (.returned (.tuple #[.slice none 0 0, .int .i64 4])) (w1.alloc o) from ⟨_, _, rfl, OwnB.nil _, HH.out.step (bal hb _), Moved.below (bal hb _) _, (fun k q => by cases q), .inl HH.out.c5⟩)
    clear hb hd hv HP
    go_wp2
    go_ret2
    exact HX.out _
  · have HPM := hid (fun (W : World) (hb : Below w.heap.size w W) (k : Int) (hk : 0 ≤ k ∧ k ≤ 5) => permits_any g sv av T D fs st dev ag W (h.step hb) k hk hst)
    have hkb : 0 ≤ kindL xs ∧ kindL xs ≤ 5 := by
      rcases HKR.out with q | q | q | q | ⟨q | q, _⟩ <;> omega
    have hk0' : (kindL xs == 0) = false := by simpa using hk0
    cases hp : permB st (kindL xs)
    · have hok := okH_perm (o := 40) hp
      have e1 : stH fs st 40 xs = st := if_neg (by rw [hok]; decide)
      have e2 : devH dev st 40 xs = dev := if_neg (by rw [hok]; decide)
      have e3 : agH fs ag st 40 xs = ag := if_neg (by rw [hok]; decide)
      have e4 : ansH T D fs st 40 xs = [] := by unfold ansH; rw [if_neg (by decide), hok, if_neg (by decide)]
      have e5 : erH st 40 xs = 6 := by unfold erH; rw [if_neg (by decide), if_pos rfl, if_neg hk0, hp, if_neg (by decide)]
      rw [e1, e2, e3, e4, e5]
      have HH := hid h
      have HPK := hid (fun W hb => HPM.out W hb (kindL xs) hkb)
      rw [hp] at HPK
      clear h hr hn hk0 hok e1 e2 e3 e4 e5 hR hnd2 HKR hp HPM
      generalize kindL xs = k at *
      go_enter Try.func64, Try.ntmps64
      go_wp2_with fail
      with_reducible refine HP.out.mono ?_
      rintro e w1 ⟨v, d', rfl, hb, hd, hv, x', n', c', rfl⟩
      have HX := hid (fun o => show HDone g sv T D fs st dev ag [] 6 w (.returned (.tuple #[.slice none 0 0, .int .i64 6])) (w1.alloc o) from ⟨_, _, rfl, OwnB.nil _, HH.out.step (bal hb _), Moved.below (bal hb _) _, (fun k q => by cases q), .inl HH.out.c5⟩)
      have HPW := hid (fun o => HPK.out (w1.alloc o) (bal hb _))
      clear hb hd hv HP HPK
      go_wp2_with fail
      with_reducible refine (HPW.out _).mono ?_
      rintro e w2 ⟨rfl, rfl⟩
      go_wp2
      go_ret2
      exact HX.out _
    · have hok := okH_yes hk0 hp
      have e1 : stH fs st 40 xs = stK fs (kindL xs) (xs.drop 2) := if_pos hok
      have e2 : devH dev st 40 xs = devK dev (kindL xs) (secondN (xs.drop 2)) := if_pos hok
      have e3 : agH fs ag st 40 xs = agK fs ag (kindL xs) (xs.drop 2) := if_pos hok
      have e4 : ansH T D fs st 40 xs = ansK T D fs (kindL xs) (xs.drop 2) := by unfold ansH; rw [if_neg (by decide), if_pos hok]
      have e5 : erH st 40 xs = 0 := by unfold erH; rw [if_neg (by decide), if_pos rfl, if_neg hk0, if_pos hp]
      rw [e1, e2, e3, e4, e5]
      have HPK := hid (fun W hb => HPM.out W hb (kindL xs) hkb)
      rw [hp] at HPK
      have hk15 : kindL xs = 1 ∨ kindL xs = 2 ∨ kindL xs = 3 ∨ kindL xs = 4 ∨ kindL xs = 5 := by
        rcases HKR.out with q | q | q | q | ⟨q | q, _⟩
        · exact absurd q hk0
        all_goals simp [q]
      have hlen2 : kindL xs ≠ 0 → 2 ≤ n := fun q => by
        apply Classical.byContradiction
        intro hh
        apply q
        unfold kindL
        rw [if_pos (by omega)]
      have hn2 := hlen2 hk0
      have HTK := hid (fun (W : World) (hb : Below w.heap.size w W) (d' : ByteArray) (x' : Option Addr) (n' c' : Nat) (hd : kindL xs = 2 → d' = secondN (xs.drop 2)) (hv : kindL xs = 4 ∨ kindL xs = 5 → Value.slice x' n' c' = .slice (fromA y c 2) (n - 2) (c - 2)) =>
        take_any g sv av T D fs st dev ag W (h.step hb) hT hD hfl hf (kindL xs) hk15 (secondN (xs.drop 2)) d' hd x' n' c' (xs.drop 2) (fun q => by
          have e := hv q
          injection e with q1 q2 q3
          subst q1 q2 q3
          refine ⟨(hR hn2).step hb, hnd2, by omega, fun qq => hg (blk_from g qq), ?_⟩
          rcases HKR.out with z | z | z | z | ⟨_, z⟩
          · omega
          · omega
          · omega
          · omega
          · exact z))
      clear h hr hn hk0 hok e1 e2 e3 e4 e5 hR hnd2 HKR hp HPM hlen2 hg
      generalize kindL xs = k at *
      generalize secondN (xs.drop 2) = d at *
      generalize xs.drop 2 = r at *
      go_enter Try.func64, Try.ntmps64
      go_wp2_with fail
      with_reducible refine HP.out.mono ?_
      rintro e w1 ⟨v, d', rfl, hb, hd, hv, x', n', c', rfl⟩
      have HPW := hid (fun o => HPK.out (w1.alloc o) (bal hb _))
      have HTW := hid (fun o => HTK.out (w1.alloc o) (bal hb _) d' x' n' c' hd hv)
      have HBW := hid (fun o => bal hb o)
      clear hb hd hv HP HPK HTK
      go_wp2_with fail
      with_reducible refine (HPW.out _).mono ?_
      rintro e w2 ⟨rfl, rfl⟩
      go_wp2_with fail
      with_reducible refine (HTW.out _).mono ?_
      rintro e w3 ⟨v3, av', rfl, ho, hE, hM, hk, hnw⟩
      have HX := hid (show HDone g sv T D fs (stK fs k r) (devK dev k d) (agK fs ag k r) (ansK T D fs k r) 0 w (.returned (.tuple #[v3, .int .i64 0])) w3 from ⟨_, _, rfl, ho, hE, (Moved.below (HBW.out _) _).trans hM, (fun k q => ⟨Nat.le_trans (HBW.out _).size (hk k q).1, (hk k q).2⟩), hnw.since (HBW.out _) hgl⟩)
      obtain ⟨x3, n3, c3, rfl⟩ := own_slice ho
      clear ho hE hM hk hnw HTW HPW HBW
      go_wp2
      go_ret2
      exact HX.out
end Go.Proofs.Ytdpfjbpfafekfaa
