/-
  nego: an end hears, and is made.
-/
import Derived.Test.YtaanpnmgibcemaaGreatDoorNb
import Derived.Test.YtaanpnmgibcemaaGreatDoorNc
import Derived.Deep.RegionHeld3
namespace Go.Proofs.YtaanpnmgibcemaaGreatDoor.Ng
/-! XNp -/
section
open Go.RowKit Go.Lib
/-- What is answered to a message that is taken, and what the end is then. -/
def ansK (T D : ByteArray) (fs : List Int) (k : Int) (r : List Int) : List Int := if k = 1 then 2 :: 7 :: (strL T ++ devT D) else if k = 2 then 3 :: 7 :: fs else if k = 5 then (if allF fs r = true then 3 :: 4 :: r else 3 :: 7 :: keepL fs r) else []
def stK (fs : List Int) (k : Int) (r : List Int) : Int := if k = 1 then 1 else if k = 2 then 2 else if k = 3 then 4 else if k = 4 then (if allF fs r = true then 3 else 4) else (if allF fs r = true then 3 else 2)
def devK (dev : ByteArray) (k : Int) (d : ByteArray) : ByteArray := if k = 1 then ⟨#[]⟩ else if k = 2 then d else dev
def agK (fs ag : List Int) (k : Int) (r : List Int) : List Int := if k = 1 ∨ k = 2 then [] else if k = 3 then ag else if k = 4 then (if allF fs r = true then sortL r else ag) else (if allF fs r = true then sortL r else [])
theorem kindS_range (b : Int) (r : List Int) : kindS b r = 0 ∨ kindS b r = 1 := by unfold kindS; split <;> simp
theorem kindD_range (b : Int) (r : List Int) : kindD b r = 0 ∨ kindD b r = 2 ∨ kindD b r = 3 := by
  unfold kindD
  split
  · split <;> simp
  · split
    · split <;> simp
    · simp
theorem kindF_range (b : Int) (r : List Int) : kindF b r = 0 ∨ ((kindF b r = 4 ∨ kindF b r = 5) ∧ r.Nodup) := by
  unfold kindF
  split
  · rename_i h
    have hn : r.Nodup := by unfold onceL at h; exact of_decide_eq_true h
    split
    · exact .inr ⟨.inl rfl, hn⟩
    · split
      · exact .inr ⟨.inr rfl, hn⟩
      · exact .inl rfl
  · exact .inl rfl
theorem kindL_range (xs : List Int) : kindL xs = 0 ∨ kindL xs = 1 ∨ kindL xs = 2 ∨ kindL xs = 3 ∨ ((kindL xs = 4 ∨ kindL xs = 5) ∧ (xs.drop 2).Nodup) := by
  unfold kindL kind2
  split
  · exact .inl rfl
  · split
    · rcases kindS_range (xs.getD 1 0) (xs.drop 2) with h | h
      · exact .inl h
      · exact .inr (.inl h)
    · split
      · rcases kindD_range (xs.getD 1 0) (xs.drop 2) with h | h | h
        · exact .inl h
        · exact .inr (.inr (.inl h))
        · exact .inr (.inr (.inr (.inl h)))
      · split
        · rcases kindF_range (xs.getD 1 0) (xs.drop 2) with h | ⟨h, hn⟩
          · exact .inl h
          · exact .inr (.inr (.inr (.inr ⟨h, hn⟩)))
        · exact .inl rfl
set_option maxRecDepth 100000 in
set_option maxHeartbeats 2000000 in
theorem take_1 (g : Nat) (sv av : Value) (T D : ByteArray) (fs : List Int) (st : Int) (dev : ByteArray) (ag : List Int) (w : World) (h : EndM w g sv av T D fs st dev ag) (hT : T.size ≤ 1000) (hD : D.size ≤ 1000) (_hfl : fs.length ≤ 1000) (_hf : ∀ x ∈ fs, 0 ≤ x ∧ x ≤ 4) (d : ByteArray) (x : Option Addr) (n c : Nat) (r : List Int) : Calls Tryz.prog 132 #[.pointer (some ⟨g, 0, none⟩), .agg #[.int .i64 1, .string d, .slice x n c]] w (EDone g sv T D fs (stK fs 1 r) (devK dev 1 d) (agK fs ag 1 r) (ansK T D fs 1 r) w) := by
  have hgl := h.lt
  have HBX := hid (bal (Below.refl w.heap.size w) (.cells #[.int .i64 1, .string d, .slice x n c] 206))
  have HH := hid (h.step HBX.out)
  have HA := hid (show Calls Tryz.prog 143 #[.pointer (some ⟨g, 0, none⟩)] (w.alloc (.cells #[.int .i64 1, .string d, .slice x n c] 206)) (EDone g sv T D fs 1 ⟨#[]⟩ [] (2 :: 7 :: (strL T ++ devT D)) _) by
    by_cases hd : D.size = 0
    · exact askDevice_none g sv av T D fs st dev ag _ HH.out hT hD hd
    · exact askDevice_some g sv av T D fs st dev ag _ HH.out hT hD hd)
  rw [show stK fs 1 r = 1 from rfl, show devK dev 1 d = ⟨#[]⟩ from rfl, show agK fs ag 1 r = [] from rfl, show ansK T D fs 1 r = 2 :: 7 :: (strL T ++ devT D) from rfl]
  clear h HH
  go_enter Tryz.func132, Tryz.ntmps132
  go_wp2_with fail
  with_reducible refine HA.out.mono ?_
  rintro e w2 ⟨v2, av', rfl, h2⟩
  have HX := hid (EDone.since HBX.out hgl ⟨v2, av', rfl, h2⟩)
  obtain ⟨x2, n2, c2, rfl⟩ := own_slice h2.1
  clear h2
  go_wp2
  go_ret
  exact HX.out
set_option maxRecDepth 100000 in
set_option maxHeartbeats 2000000 in
theorem take_2 (g : Nat) (sv av : Value) (T D : ByteArray) (fs : List Int) (st : Int) (dev : ByteArray) (ag : List Int) (w : World) (h : EndM w g sv av T D fs st dev ag) (_hT : T.size ≤ 1000) (_hD : D.size ≤ 1000) (hfl : fs.length ≤ 1000) (_hf : ∀ x ∈ fs, 0 ≤ x ∧ x ≤ 4) (d : ByteArray) (x : Option Addr) (n c : Nat) (r : List Int) : Calls Tryz.prog 132 #[.pointer (some ⟨g, 0, none⟩), .agg #[.int .i64 2, .string d, .slice x n c]] w (EDone g sv T D fs (stK fs 2 r) (devK dev 2 d) (agK fs ag 2 r) (ansK T D fs 2 r) w) := by
  obtain ⟨sx, sc, rfl⟩ := own_len h.rs _ rfl
  have c4 := h.c4
  have f4 := h.fr 4 (by omega)
  have hgl := h.lt
  have HBX := hid (bal (Below.refl (w.setCell ⟨g, 4, none⟩ (.string d)).heap.size (w.setCell ⟨g, 4, none⟩ (.string d))) (.cells #[.int .i64 2, .string d, .slice x n c] 206))
  have hE := (h.set4 d).step HBX.out
  have c2 := (h.set4 d).c2
  have HC5 := hid (And.intro h.c5 hE.c5)
  have HM := hid ((set_moved w g 4 (.string d)).trans (Moved.below HBX.out [g]))
  have HA := hid (askFunctions_any g _ av T D fs st d ag _ hE sx _ sc fs hE.rs.reads hE.ns hfl)
  rw [show stK fs 2 r = 2 from rfl, show devK dev 2 d = d from rfl, show agK fs ag 2 r = [] from rfl, show ansK T D fs 2 r = 3 :: 7 :: fs from rfl]
  clear h hE
  go_enter Tryz.func132, Tryz.ntmps132
  go_wp2_with fail
  with_reducible refine HA.out.mono ?_
  rintro e w2 ⟨v2, av', rfl, ho, hE2, hM2, hk, hnw⟩
  have HX := hid (show EDone g _ T D fs 2 d [] (3 :: 7 :: fs) w (.returned v2) w2 from ⟨v2, av', rfl, ho, hE2, HM.out.trans hM2, (fun k q => ⟨Nat.le_trans HM.out.size (hk k q).1, (hk k q).2⟩), hnw.elim (fun q => .inl (HC5.out.1.trans (HC5.out.2.symm.trans q))) (fun q => .inr (fun k hk => Nat.le_trans HM.out.size (q k hk)))⟩)
  obtain ⟨x2, n2, c2, rfl⟩ := own_slice ho
  clear ho hE2 hM2 hk HM HA hnw HC5
  go_wp2
  go_ret
  exact HX.out
set_option maxRecDepth 100000 in
set_option maxHeartbeats 2000000 in
theorem take_3 (g : Nat) (sv av : Value) (T D : ByteArray) (fs : List Int) (st : Int) (dev : ByteArray) (ag : List Int) (w : World) (h : EndM w g sv av T D fs st dev ag) (_hT : T.size ≤ 1000) (_hD : D.size ≤ 1000) (_hfl : fs.length ≤ 1000) (_hf : ∀ x ∈ fs, 0 ≤ x ∧ x ≤ 4) (d : ByteArray) (x : Option Addr) (n c : Nat) (r : List Int) : Calls Tryz.prog 132 #[.pointer (some ⟨g, 0, none⟩), .agg #[.int .i64 3, .string d, .slice x n c]] w (EDone g sv T D fs (stK fs 3 r) (devK dev 3 d) (agK fs ag 3 r) (ansK T D fs 3 r) w) := by
  have c3 := h.c3
  have f3 := h.fr 3 (by omega)
  have hgl := h.lt
  have HBX := hid (bal (Below.refl (w.setCell ⟨g, 3, none⟩ (.int .i64 4)).heap.size (w.setCell ⟨g, 3, none⟩ (.int .i64 4))) (.cells #[.int .i64 3, .string d, .slice x n c] 206))
  have HX := hid (show EDone g sv T D fs 4 dev ag [] w (.returned (.slice none 0 0)) ((w.setCell ⟨g, 3, none⟩ (.int .i64 4)).alloc (.cells #[.int .i64 3, .string d, .slice x n c] 206)) from ⟨_, _, rfl, OwnB.nil _, (h.set3 4).step HBX.out, (set_moved w g 3 _).trans (Moved.below HBX.out [g]), (fun k q => by cases q), .inl h.c5⟩)
  rw [show stK fs 3 r = 4 from rfl, show devK dev 3 d = dev from rfl, show agK fs ag 3 r = ag from rfl, show ansK T D fs 3 r = [] from rfl]
  clear h HBX
  go_enter Tryz.func132, Tryz.ntmps132
  go_wp2
  go_ret
  exact HX.out
set_option maxRecDepth 100000 in
set_option maxHeartbeats 2000000 in
theorem take_4 (g : Nat) (sv av : Value) (T D : ByteArray) (fs : List Int) (st : Int) (dev : ByteArray) (ag : List Int) (w : World) (h : EndM w g sv av T D fs st dev ag) (_hT : T.size ≤ 1000) (_hD : D.size ≤ 1000) (hfl : fs.length ≤ 1000) (hf : ∀ x ∈ fs, 0 ≤ x ∧ x ≤ 4) (d : ByteArray) (x : Option Addr) (n c : Nat) (r : List Int) (hr : RdG w (.slice x n c) r) (hn : n = r.length) (hl : n ≤ 1000) (hg : g ∉ blkV (.slice x n c)) (hnd : r.Nodup) : Calls Tryz.prog 132 #[.pointer (some ⟨g, 0, none⟩), .agg #[.int .i64 4, .string d, .slice x n c]] w (EDone g sv T D fs (stK fs 4 r) (devK dev 4 d) (agK fs ag 4 r) (ansK T D fs 4 r) w) := by
  have hgl := h.lt
  have HBX := hid (bal (Below.refl w.heap.size w) (.cells #[.int .i64 4, .string d, .slice x n c] 206))
  have HH := hid (h.step HBX.out)
  have HA := hid (show Calls Tryz.prog 145 #[.pointer (some ⟨g, 0, none⟩), .slice x n c] (w.alloc (.cells #[.int .i64 4, .string d, .slice x n c] 206)) (VDone g sv T D fs (stK fs 4 r) dev (agK fs ag 4 r) _) by
    cases ha : allF fs r
    · rw [show stK fs 4 r = 4 by simp [stK, ha], show agK fs ag 4 r = ag by simp [agK, ha]]
      exact acceptOrRefuse_no g sv av T D fs st dev ag _ HH.out x n c r (hr.step HBX.out) hn hl hfl hg ha
    · rw [show stK fs 4 r = 3 by simp [stK, ha], show agK fs ag 4 r = sortL r by simp [agK, ha]]
      exact acceptOrRefuse_yes g sv av T D fs st dev ag _ HH.out x n c r (hr.step HBX.out) hn hl hfl hg ha hf hnd)
  rw [show devK dev 4 d = dev from rfl, show ansK T D fs 4 r = [] from rfl]
  clear h HH hr hn hg hnd
  generalize stK fs 4 r = S' at *
  generalize agK fs ag 4 r = A' at *
  go_enter Tryz.func132, Tryz.ntmps132
  go_wp2_with fail
  with_reducible refine HA.out.mono ?_
  rintro e w2 ⟨rfl, av', hE, hM, hnw⟩
  have HX := hid (show EDone g sv T D fs S' dev A' [] w (.returned (.slice none 0 0)) w2 from ⟨_, _, rfl, OwnB.nil _, hE, (Moved.below HBX.out [g]).trans hM, (fun k q => by cases q), hnw.since HBX.out hgl⟩)
  clear hE hM HA hnw
  go_wp2
  go_ret
  exact HX.out
set_option maxRecDepth 100000 in
set_option maxHeartbeats 2000000 in
theorem take_5 (g : Nat) (sv av : Value) (T D : ByteArray) (fs : List Int) (st : Int) (dev : ByteArray) (ag : List Int) (w : World) (h : EndM w g sv av T D fs st dev ag) (_hT : T.size ≤ 1000) (_hD : D.size ≤ 1000) (hfl : fs.length ≤ 1000) (hf : ∀ x ∈ fs, 0 ≤ x ∧ x ≤ 4) (d : ByteArray) (x : Option Addr) (n c : Nat) (r : List Int) (hr : RdG w (.slice x n c) r) (hn : n = r.length) (hl : n ≤ 1000) (hg : g ∉ blkV (.slice x n c)) (hnd : r.Nodup) : Calls Tryz.prog 132 #[.pointer (some ⟨g, 0, none⟩), .agg #[.int .i64 5, .string d, .slice x n c]] w (EDone g sv T D fs (stK fs 5 r) (devK dev 5 d) (agK fs ag 5 r) (ansK T D fs 5 r) w) := by
  have hgl := h.lt
  have HBX := hid (bal (Below.refl w.heap.size w) (.cells #[.int .i64 5, .string d, .slice x n c] 206))
  have HH := hid (h.step HBX.out)
  have HA := hid (show Calls Tryz.prog 146 #[.pointer (some ⟨g, 0, none⟩), .slice x n c] (w.alloc (.cells #[.int .i64 5, .string d, .slice x n c] 206)) (EDone g sv T D fs (stK fs 5 r) dev (agK fs ag 5 r) (ansK T D fs 5 r) _) by
    cases ha : allF fs r
    · rw [show stK fs 5 r = 2 by simp [stK, ha], show agK fs ag 5 r = [] by simp [agK, ha], show ansK T D fs 5 r = 3 :: 7 :: keepL fs r by simp [ansK, ha]]
      exact acceptOrAsk_no g sv av T D fs st dev ag _ HH.out x n c r (hr.step HBX.out) hn hl hfl hg ha
    · rw [show stK fs 5 r = 3 by simp [stK, ha], show agK fs ag 5 r = sortL r by simp [agK, ha], show ansK T D fs 5 r = 3 :: 4 :: r by simp [ansK, ha]]
      exact acceptOrAsk_yes g sv av T D fs st dev ag _ HH.out x n c r (hr.step HBX.out) hn hl hfl hg ha hf hnd)
  rw [show devK dev 5 d = dev from rfl]
  clear h HH hr hn hg hnd
  generalize stK fs 5 r = S' at *
  generalize agK fs ag 5 r = A' at *
  generalize ansK T D fs 5 r = R' at *
  go_enter Tryz.func132, Tryz.ntmps132
  go_wp2_with fail
  with_reducible refine HA.out.mono ?_
  rintro e w2 ⟨v2, av', rfl, h2⟩
  have HX := hid (EDone.since HBX.out hgl ⟨v2, av', rfl, h2⟩)
  obtain ⟨x2, n2, c2, rfl⟩ := own_slice h2.1
  clear h2
  go_wp2
  go_ret
  exact HX.out
/-- A message is taken. -/
theorem take_any (g : Nat) (sv av : Value) (T D : ByteArray) (fs : List Int) (st : Int) (dev : ByteArray) (ag : List Int) (w : World) (h : EndM w g sv av T D fs st dev ag) (hT : T.size ≤ 1000) (hD : D.size ≤ 1000) (hfl : fs.length ≤ 1000) (hf : ∀ x ∈ fs, 0 ≤ x ∧ x ≤ 4) (k : Int) (hk : k = 1 ∨ k = 2 ∨ k = 3 ∨ k = 4 ∨ k = 5) (d d' : ByteArray) (hd : k = 2 → d' = d) (x : Option Addr) (n c : Nat) (r : List Int) (hr : k = 4 ∨ k = 5 → RdG w (.slice x n c) r ∧ n = r.length ∧ n ≤ 1000 ∧ g ∉ blkV (.slice x n c) ∧ r.Nodup) : Calls Tryz.prog 132 #[.pointer (some ⟨g, 0, none⟩), .agg #[.int .i64 k, .string d', .slice x n c]] w (EDone g sv T D fs (stK fs k r) (devK dev k d) (agK fs ag k r) (ansK T D fs k r) w) := by
  rcases hk with rfl | rfl | rfl | rfl | rfl
  · exact take_1 g sv av T D fs st dev ag w h hT hD hfl hf d' x n c r
  · obtain rfl := hd rfl
    exact take_2 g sv av T D fs st dev ag w h hT hD hfl hf d' x n c r
  · exact take_3 g sv av T D fs st dev ag w h hT hD hfl hf d' x n c r
  · obtain ⟨h1, h2, h3, h4, h5⟩ := hr (.inl rfl)
    exact take_4 g sv av T D fs st dev ag w h hT hD hfl hf d' x n c r h1 h2 h3 h4 h5
  · obtain ⟨h1, h2, h3, h4, h5⟩ := hr (.inr rfl)
    exact take_5 g sv av T D fs st dev ag w h hT hD hfl hf d' x n c r h1 h2 h3 h4 h5
end
/-! XNq -/
section
open Go.RowKit Go.Lib
/-- Something was heard: an answer, an error, an end that has moved. -/
def HDone (g : Nat) (sv : Value) (T D : ByteArray) (fs : List Int) (st : Int) (dev : ByteArray) (ag : List Int) (ans : List Int) (er : Int) (w : World) (e : Ending) (w' : World) : Prop :=
  ∃ v av', e = .returned (.tuple #[v, .int .i64 er]) ∧ OwnB w' v ans ∧ EndM w' g sv av' T D fs st dev ag ∧ Moved w w' [g] [g] ∧ (∀ k ∈ blkV v, w.heap.size ≤ k ∧ k ∉ blkV av') ∧ OldNew w g av'
/-- A message that is one, and that is permitted. -/
def okH (st o : Int) (xs : List Int) : Bool := (o == 40) && !(kindL xs == 0) && permB st (kindL xs)
def ansH (T D : ByteArray) (fs : List Int) (st o : Int) (xs : List Int) : List Int := if o = 24 then (if xs = [1] then 0 :: strL T else []) else if okH st o xs = true then ansK T D fs (kindL xs) (xs.drop 2) else []
def erH (st o : Int) (xs : List Int) : Int := if o = 24 then (if xs = [1] then 0 else 4) else if o = 40 then (if kindL xs = 0 then 4 else if permB st (kindL xs) = true then 0 else 6) else 5
def stH (fs : List Int) (st o : Int) (xs : List Int) : Int := if okH st o xs = true then stK fs (kindL xs) (xs.drop 2) else st
def devH (dev : ByteArray) (st o : Int) (xs : List Int) : ByteArray := if okH st o xs = true then devK dev (kindL xs) (secondN (xs.drop 2)) else dev
def agH (fs ag : List Int) (st o : Int) (xs : List Int) : List Int := if okH st o xs = true then agK fs ag (kindL xs) (xs.drop 2) else ag
theorem okH_no {st o : Int} {xs : List Int} (h : o ≠ 40) : okH st o xs = false := by
  unfold okH
  rw [show (o == 40) = false by simpa using h]
  rfl
theorem okH_none {st o : Int} {xs : List Int} (h : kindL xs = 0) : okH st o xs = false := by
  unfold okH
  rw [h]
  simp
theorem okH_perm {st o : Int} {xs : List Int} (h : permB st (kindL xs) = false) : okH st o xs = false := by
  unfold okH
  rw [h]
  simp
theorem okH_yes {st : Int} {xs : List Int} (h : kindL xs ≠ 0) (hp : permB st (kindL xs) = true) : okH st 40 xs = true := by
  unfold okH
  rw [hp, show (kindL xs == 0) = false by simpa using h]
  rfl
set_option maxRecDepth 100000 in
set_option maxHeartbeats 2000000 in
theorem hearTN_any (g : Nat) (sv av : Value) (T D : ByteArray) (fs : List Int) (st : Int) (dev : ByteArray) (ag : List Int) (w : World) (h : EndM w g sv av T D fs st dev ag) (hT : T.size ≤ 1000) (hD : D.size ≤ 1000) (hfl : fs.length ≤ 1000) (hf : ∀ x ∈ fs, 0 ≤ x ∧ x ≤ 4) (hst : 0 ≤ st ∧ st ≤ 4) (y : Option Addr) (n c : Nat) (xs : List Int) (hr : RdG w (.slice y n c) xs) (hn : n = xs.length) (hl : n ≤ 1000) (hg : g ∉ blkV (.slice y n c)) : Calls Tryz.prog 115 #[.pointer (some ⟨g, 0, none⟩), .slice y n c] w (HDone g sv T D fs (stH fs st 40 xs) (devH dev st 40 xs) (agH fs ag st 40 xs) (ansH T D fs st 40 xs) (erH st 40 xs) w) := by
  have HP := hid (parse_any y n c xs hn hl w hr)
  have hgl := h.lt
  have hR := hr.from' hn 2
  have hnd2 : n - 2 = (xs.drop 2).length := by rw [List.length_drop, hn]
  have HKR := hid (kindL_range xs)
  by_cases hk0 : kindL xs = 0
  · have hok := okH_none (st := st) (o := 40) hk0
    have e1 : stH fs st 40 xs = st := if_neg (by rw [hok]; decide)
    have e2 : devH dev st 40 xs = dev := if_neg (by rw [hok]; decide)
    have e3 : agH fs ag st 40 xs = ag := if_neg (by rw [hok]; decide)
    have e4 : ansH T D fs st 40 xs = [] := by unfold ansH; rw [if_neg (by decide), hok, if_neg (by decide)]
    have e5 : erH st 40 xs = 4 := by unfold erH; rw [if_neg (by decide), if_pos rfl, if_pos hk0]
    rw [e1, e2, e3, e4, e5]
    rw [hk0] at HP
    have HH := hid h
    clear h hr hn hk0 hok e1 e2 e3 e4 e5 hR hnd2 HKR
    go_enter Tryz.func115, Tryz.ntmps115
    go_wp2_with fail
    with_reducible refine HP.out.mono ?_
    rintro e w1 ⟨v, d', rfl, hb, hd, hv, x', n', c', rfl⟩
    have HX := hid (fun o => show HDone g sv T D fs st dev ag [] 4 w (.returned (.tuple #[.slice none 0 0, .int .i64 4])) (w1.alloc o) from ⟨_, _, rfl, OwnB.nil _, HH.out.step (bal hb _), Moved.below (bal hb _) _, (fun k q => by cases q), .inl HH.out.c5⟩)
    clear hb hd hv HP
    go_wp2
    go_ret2
    exact HX.out _
  · have HPM := hid (fun (W : World) (hb : Below w.heap.size w W) (k : Int) (hk : 0 ≤ k ∧ k ≤ 5) => permits_any g sv av T D fs st dev ag W (h.step hb) k hk hst)
    have hkb : 0 ≤ kindL xs ∧ kindL xs ≤ 5 := by
      rcases HKR.out with q | q | q | q | ⟨q | q, _⟩ <;> omega
    have hk0' : (kindL xs == 0) = false := by simpa using hk0
    cases hp : permB st (kindL xs)
    · have hok := okH_perm (o := 40) hp
      have e1 : stH fs st 40 xs = st := if_neg (by rw [hok]; decide)
      have e2 : devH dev st 40 xs = dev := if_neg (by rw [hok]; decide)
      have e3 : agH fs ag st 40 xs = ag := if_neg (by rw [hok]; decide)
      have e4 : ansH T D fs st 40 xs = [] := by unfold ansH; rw [if_neg (by decide), hok, if_neg (by decide)]
      have e5 : erH st 40 xs = 6 := by unfold erH; rw [if_neg (by decide), if_pos rfl, if_neg hk0, hp, if_neg (by decide)]
      rw [e1, e2, e3, e4, e5]
      have HH := hid h
      have HPK := hid (fun W hb => HPM.out W hb (kindL xs) hkb)
      rw [hp] at HPK
      clear h hr hn hk0 hok e1 e2 e3 e4 e5 hR hnd2 HKR hp HPM
      generalize kindL xs = k at *
      go_enter Tryz.func115, Tryz.ntmps115
      go_wp2_with fail
      with_reducible refine HP.out.mono ?_
      rintro e w1 ⟨v, d', rfl, hb, hd, hv, x', n', c', rfl⟩
      have HX := hid (fun o => show HDone g sv T D fs st dev ag [] 6 w (.returned (.tuple #[.slice none 0 0, .int .i64 6])) (w1.alloc o) from ⟨_, _, rfl, OwnB.nil _, HH.out.step (bal hb _), Moved.below (bal hb _) _, (fun k q => by cases q), .inl HH.out.c5⟩)
      have HPW := hid (fun o => HPK.out (w1.alloc o) (bal hb _))
      clear hb hd hv HP HPK
      go_wp2_with fail
      with_reducible refine (HPW.out _).mono ?_
      rintro e w2 ⟨rfl, rfl⟩
      go_wp2
      go_ret2
      exact HX.out _
    · have hok := okH_yes hk0 hp
      have e1 : stH fs st 40 xs = stK fs (kindL xs) (xs.drop 2) := if_pos hok
      have e2 : devH dev st 40 xs = devK dev (kindL xs) (secondN (xs.drop 2)) := if_pos hok
      have e3 : agH fs ag st 40 xs = agK fs ag (kindL xs) (xs.drop 2) := if_pos hok
      have e4 : ansH T D fs st 40 xs = ansK T D fs (kindL xs) (xs.drop 2) := by unfold ansH; rw [if_neg (by decide), if_pos hok]
      have e5 : erH st 40 xs = 0 := by unfold erH; rw [if_neg (by decide), if_pos rfl, if_neg hk0, if_pos hp]
      rw [e1, e2, e3, e4, e5]
      have HPK := hid (fun W hb => HPM.out W hb (kindL xs) hkb)
      rw [hp] at HPK
      have hk15 : kindL xs = 1 ∨ kindL xs = 2 ∨ kindL xs = 3 ∨ kindL xs = 4 ∨ kindL xs = 5 := by
        rcases HKR.out with q | q | q | q | ⟨q | q, _⟩
        · exact absurd q hk0
        all_goals simp [q]
      have hlen2 : kindL xs ≠ 0 → 2 ≤ n := fun q => by
        apply Classical.byContradiction
        intro hh
        apply q
        unfold kindL
        rw [if_pos (by omega)]
      have hn2 := hlen2 hk0
      have HTK := hid (fun (W : World) (hb : Below w.heap.size w W) (d' : ByteArray) (x' : Option Addr) (n' c' : Nat) (hd : kindL xs = 2 → d' = secondN (xs.drop 2)) (hv : kindL xs = 4 ∨ kindL xs = 5 → Value.slice x' n' c' = .slice (fromA y c 2) (n - 2) (c - 2)) =>
        take_any g sv av T D fs st dev ag W (h.step hb) hT hD hfl hf (kindL xs) hk15 (secondN (xs.drop 2)) d' hd x' n' c' (xs.drop 2) (fun q => by
          have e := hv q
          injection e with q1 q2 q3
          subst q1 q2 q3
          refine ⟨(hR hn2).step hb, hnd2, by omega, fun qq => hg (blk_from g qq), ?_⟩
          rcases HKR.out with z | z | z | z | ⟨_, z⟩
          · omega
          · omega
          · omega
          · omega
          · exact z))
      clear h hr hn hk0 hok e1 e2 e3 e4 e5 hR hnd2 HKR hp HPM hlen2 hg
      generalize kindL xs = k at *
      generalize secondN (xs.drop 2) = d at *
      generalize xs.drop 2 = r at *
      go_enter Tryz.func115, Tryz.ntmps115
      go_wp2_with fail
      with_reducible refine HP.out.mono ?_
      rintro e w1 ⟨v, d', rfl, hb, hd, hv, x', n', c', rfl⟩
      have HPW := hid (fun o => HPK.out (w1.alloc o) (bal hb _))
      have HTW := hid (fun o => HTK.out (w1.alloc o) (bal hb _) d' x' n' c' hd hv)
      have HBW := hid (fun o => bal hb o)
      clear hb hd hv HP HPK HTK
      go_wp2_with fail
      with_reducible refine (HPW.out _).mono ?_
      rintro e w2 ⟨rfl, rfl⟩
      go_wp2_with fail
      with_reducible refine (HTW.out _).mono ?_
      rintro e w3 ⟨v3, av', rfl, ho, hE, hM, hk, hnw⟩
      have HX := hid (show HDone g sv T D fs (stK fs k r) (devK dev k d) (agK fs ag k r) (ansK T D fs k r) 0 w (.returned (.tuple #[v3, .int .i64 0])) w3 from ⟨_, _, rfl, ho, hE, (Moved.below (HBW.out _) _).trans hM, (fun k q => ⟨Nat.le_trans (HBW.out _).size (hk k q).1, (hk k q).2⟩), hnw.since (HBW.out _) hgl⟩)
      obtain ⟨x3, n3, c3, rfl⟩ := own_slice ho
      clear ho hE hM hk hnw HTW HPW HBW
      go_wp2
      go_ret2
      exact HX.out
end
/-! XNr -/
section
open Go.RowKit Go.Lib
set_option maxRecDepth 100000 in
set_option maxHeartbeats 2000000 in
theorem hearType_yes (g : Nat) (sv av : Value) (T D : ByteArray) (fs : List Int) (st : Int) (dev : ByteArray) (ag : List Int) (w : World) (h : EndM w g sv av T D fs st dev ag) (hT : T.size ≤ 1000) (y : Option Addr) (c : Nat) (hr : RdG w (.slice y 1 c) [1]) : Calls Tryz.prog 114 #[.pointer (some ⟨g, 0, none⟩), .slice y 1 c] w (HDone g sv T D fs st dev ag (0 :: strL T) 0 w) := by
  obtain ⟨g2, off, cap, e, h1, h2, h3⟩ := hr.row (by simp)
  cases e
  have c0 := h3 0 (by simp)
  rw [Nat.add_zero, show ([1] : List Int).getD 0 0 = 1 from rfl] at c0
  have t0 := h.c0
  have hgl := h.lt
  have hg2 : g2 < w.heap.size := World.block_lt_of_cell? w _ c0
  have HH := hid h
  have HF := hid (Fresh.lit w #[.int .u8 0] 1 [0] (fun q hq => by simp at hq; omega) rfl rfl (by omega) w.heap.size rfl)
  clear h hr h3 h1 h2
  go_enter Tryz.func114, Tryz.ntmps114
  go_wp2_with (first
    | (at_builtin; refine wpList_append_str rfl _ _ rfl rfl HF.out T rfl (by simp; omega) ?_; intro x' c' w' hF'; have HF' := hid hF'; clear hF'))
  go_ret2
  have hF := HF'.out
  exact ⟨_, _, rfl, hF.1, HH.out.step hF.2.1, Moved.below hF.2.1 _, (fun k hk => ⟨hF.2.2 k hk, fun q => by have h1 := HH.out.ra.lt k q; have h2 := hF.2.2 k hk; omega⟩), .inl HH.out.c5⟩
set_option maxRecDepth 100000 in
set_option maxHeartbeats 2000000 in
theorem hearType_no (g : Nat) (sv av : Value) (T D : ByteArray) (fs : List Int) (st : Int) (dev : ByteArray) (ag : List Int) (w : World) (h : EndM w g sv av T D fs st dev ag) (y : Option Addr) (n c : Nat) (xs : List Int) (hr : RdG w (.slice y n c) xs) (hn : n = xs.length) (hx : xs ≠ [1]) : Calls Tryz.prog 114 #[.pointer (some ⟨g, 0, none⟩), .slice y n c] w (HDone g sv T D fs st dev ag [] 4 w) := by
  have HX := hid (show HDone g sv T D fs st dev ag [] 4 w (.returned (.tuple #[.slice none 0 0, .int .i64 4])) w from ⟨_, _, rfl, OwnB.nil _, h, Moved.refl _ _, (fun k q => by cases q), .inl h.c5⟩)
  by_cases h1 : n = 1
  · subst h1
    obtain ⟨z, rfl⟩ := List.length_eq_one_iff.1 hn.symm
    obtain ⟨g2, off, cap, e, h1, h2, h3⟩ := hr.row (by simp)
    cases e
    have c0 := h3 0 (by simp)
    rw [Nat.add_zero, show ([z] : List Int).getD 0 0 = z from rfl] at c0
    have hz : (z != 1) = true := by
      simp
      intro q
      exact hx (by rw [q])
    clear h hr h3 h1 h2 hx hn
    go_enter Tryz.func114, Tryz.ntmps114
    go_wp2
    go_ret2
    exact HX.out
  · have hn1 : ((n : Int) != 1) = true := by simp; omega
    clear h hr hx hn h1
    go_enter Tryz.func114, Tryz.ntmps114
    go_wp2
    go_ret2
    exact HX.out
set_option maxRecDepth 100000 in
set_option maxHeartbeats 2000000 in
theorem hear_any (g : Nat) (sv av : Value) (T D : ByteArray) (fs : List Int) (st : Int) (dev : ByteArray) (ag : List Int) (w : World) (h : EndM w g sv av T D fs st dev ag) (hT : T.size ≤ 1000) (hD : D.size ≤ 1000) (hfl : fs.length ≤ 1000) (hf : ∀ x ∈ fs, 0 ≤ x ∧ x ≤ 4) (hst : 0 ≤ st ∧ st ≤ 4) (y : Option Addr) (n c : Nat) (xs : List Int) (hr : RdG w (.slice y n c) xs) (hn : n = xs.length) (hl : n ≤ 1000) (hg : g ∉ blkV (.slice y n c)) (o : Int) : Calls Tryz.prog 100 #[.pointer (some ⟨g, 0, none⟩), .int .u8 o, .slice y n c] w (HDone g sv T D fs (stH fs st o xs) (devH dev st o xs) (agH fs ag st o xs) (ansH T D fs st o xs) (erH st o xs) w) := by
  by_cases h24 : o = 24
  · subst h24
    have hok : okH st 24 xs = false := okH_no (by decide)
    have e1 : stH fs st 24 xs = st := if_neg (by rw [hok]; decide)
    have e2 : devH dev st 24 xs = dev := if_neg (by rw [hok]; decide)
    have e3 : agH fs ag st 24 xs = ag := if_neg (by rw [hok]; decide)
    have H := hid (show Calls Tryz.prog 114 #[.pointer (some ⟨g, 0, none⟩), .slice y n c] w (HDone g sv T D fs st dev ag (ansH T D fs st 24 xs) (erH st 24 xs) w) by
      by_cases hx : xs = [1]
      · subst hx
        obtain rfl : n = 1 := hn
        exact hearType_yes g sv av T D fs st dev ag w h hT y c hr
      · rw [show ansH T D fs st 24 xs = [] by unfold ansH; rw [if_pos rfl, if_neg hx], show erH st 24 xs = 4 by unfold erH; rw [if_pos rfl, if_neg hx]]
        exact hearType_no g sv av T D fs st dev ag w h y n c xs hr hn hx)
    rw [e1, e2, e3]
    clear h hr hn hok e1 e2 e3 hg
    generalize ansH T D fs st 24 xs = A' at *
    generalize erH st 24 xs = E' at *
    go_enter Tryz.func100, Tryz.ntmps100
    go_wp2_with fail
    with_reducible refine H.out.mono ?_
    rintro e w1 ⟨v, av', rfl, ho, hrest⟩
    have HX := hid (show HDone g sv T D fs st dev ag A' E' w (.returned (.tuple #[v, .int .i64 E'])) w1 from ⟨_, _, rfl, ho, hrest⟩)
    obtain ⟨x3, n3, c3, rfl⟩ := own_slice ho
    clear ho hrest H
    go_wp2
    go_ret2
    exact HX.out
  · by_cases h40 : o = 40
    · subst h40
      have H := hid (hearTN_any g sv av T D fs st dev ag w h hT hD hfl hf hst y n c xs hr hn hl hg)
      clear h hr hn hg h24
      generalize ansH T D fs st 40 xs = A' at *
      generalize erH st 40 xs = E' at *
      generalize stH fs st 40 xs = S' at *
      generalize devH dev st 40 xs = D' at *
      generalize agH fs ag st 40 xs = G' at *
      go_enter Tryz.func100, Tryz.ntmps100
      go_wp2_with fail
      with_reducible refine H.out.mono ?_
      rintro e w1 ⟨v, av', rfl, ho, hrest⟩
      have HX := hid (show HDone g sv T D fs S' D' G' A' E' w (.returned (.tuple #[v, .int .i64 E'])) w1 from ⟨_, _, rfl, ho, hrest⟩)
      obtain ⟨x3, n3, c3, rfl⟩ := own_slice ho
      clear ho hrest H
      go_wp2
      go_ret2
      exact HX.out
    · have hok : okH st o xs = false := okH_no h40
      have e1 : stH fs st o xs = st := if_neg (by rw [hok]; decide)
      have e2 : devH dev st o xs = dev := if_neg (by rw [hok]; decide)
      have e3 : agH fs ag st o xs = ag := if_neg (by rw [hok]; decide)
      have e4 : ansH T D fs st o xs = [] := by unfold ansH; rw [if_neg h24, hok, if_neg (by decide)]
      have e5 : erH st o xs = 5 := by unfold erH; rw [if_neg h24, if_neg h40]
      rw [e1, e2, e3, e4, e5]
      have b24 : (o == 24) = false := by simpa using h24
      have b40 : (o == 40) = false := by simpa using h40
      have HX := hid (show HDone g sv T D fs st dev ag [] 5 w (.returned (.tuple #[.slice none 0 0, .int .i64 5])) w from ⟨_, _, rfl, OwnB.nil _, h, Moved.refl _ _, (fun k q => by cases q), .inl h.c5⟩)
      clear h hr hn hok e1 e2 e3 e4 e5 h24 h40 hg
      go_enter Tryz.func100, Tryz.ntmps100
      go_wp2
      go_ret2
      exact HX.out
end
/-! XNs -/
section
open Go.RowKit Go.Lib
/-- May there be such an end? -/
def nameOk (T D : ByteArray) : Bool := nameB T && (decide (D.size = 0) || nameB D)
/-- An end was made. -/
def NewD (T D : ByteArray) (fs : List Int) (w : World) (e : Ending) (w' : World) : Prop :=
  ∃ g sv, e = .returned (.tuple #[.pointer (some ⟨g, 0, none⟩), .int .i64 0]) ∧ EndM w' g sv (.slice none 0 0) T D fs 0 ⟨#[]⟩ [] ∧ Below w.heap.size w w' ∧ w.heap.size ≤ g ∧ ∀ k ∈ blkV sv, w.heap.size ≤ k
/-- None was made. -/
def NoD (er : Int) (w : World) (e : Ending) (w' : World) : Prop := e = .returned (.tuple #[.pointer none, .int .i64 er]) ∧ Below w.heap.size w w'
theorem empty_size : (⟨#[]⟩ : ByteArray).size = 0 := rfl
theorem not_empty {D : ByteArray} (hd : D.size ≠ 0) : D.toList.isEmpty = false := by
  rw [Lib.toList_data, List.isEmpty_eq_false_iff]
  intro q
  refine hd ?_
  show D.data.size = 0
  rw [← Array.length_toList, q]
  rfl
theorem cfg_kept {w0 w w' : World} {b : Nat} {u0 u1 u2 : Value} (h : w.cell? ⟨b, 0, none⟩ = some u0 ∧ w.cell? ⟨b, 1, none⟩ = some u1 ∧ w.cell? ⟨b, 2, none⟩ = some u2 ∧ Below w0.heap.size w0 w) (hb : Below w.heap.size w w') : w'.cell? ⟨b, 0, none⟩ = some u0 ∧ w'.cell? ⟨b, 1, none⟩ = some u1 ∧ w'.cell? ⟨b, 2, none⟩ = some u2 ∧ Below w0.heap.size w0 w' := ⟨keepc hb h.1, keepc hb h.2.1, keepc hb h.2.2.1, below_t h.2.2.2 hb⟩
theorem cfg_alloc {w0 w : World} {b : Nat} {u0 u1 u2 : Value} {o : Obj} (h : w.cell? ⟨b, 0, none⟩ = some u0 ∧ w.cell? ⟨b, 1, none⟩ = some u1 ∧ w.cell? ⟨b, 2, none⟩ = some u2 ∧ Below w0.heap.size w0 w) : (w.alloc o).cell? ⟨b, 0, none⟩ = some u0 ∧ (w.alloc o).cell? ⟨b, 1, none⟩ = some u1 ∧ (w.alloc o).cell? ⟨b, 2, none⟩ = some u2 ∧ Below w0.heap.size w0 (w.alloc o) := cfg_kept h (bal (Below.refl _ _) _)
theorem newEnd {w w1 : World} {T D : ByteArray} {v : Value} {fs : List Int} (ho : OwnB w1 v fs) (hb : Below w.heap.size w w1) (hk : ∀ k ∈ blkV v, w.heap.size ≤ k) (t : TypeId) : NewD T D fs w (.returned (.tuple #[.pointer (some ⟨w1.heap.size, 0, none⟩), .int .i64 0])) (w1.alloc (.cells #[.string T, .string D, v, .int .i64 0, .string ⟨#[]⟩, .slice none 0 0] t)) := by
  refine ⟨w1.heap.size, v, rfl, ⟨?_, ?_, ?_, ?_, ?_, ?_, ?_, ho.step (bal (Below.refl _ _) _), OwnB.nil _, fun q => ?_, fun q => by cases q⟩, bal hb _, hb.size, hk⟩
  · simp [go_sem]
  · simp [go_sem]
  · simp [go_sem]
  · simp [go_sem]
  · simp [go_sem]
  · simp [go_sem]
  · intro i hi
    simp [go_sem]
  · have := ho.lt _ q
    omega
set_option maxRecDepth 100000 in
set_option maxHeartbeats 2000000 in
theorem new_bad (T D : ByteArray) (x : Option Addr) (n c : Nat) (fs : List Int) (w : World) (_hr : RdG w (.slice x n c) fs) (_hn : n = fs.length) (_hl : n ≤ 1000) (hT : T.size ≤ 1000) (hD : D.size ≤ 1000) (h : nameOk T D = false) : Calls Tryz.prog 56 #[.agg #[.string T, .string D, .slice x n c]] w (NoD 4 w) := by
  have HNT := hid (fun W => name_any T W (by unfold maxLen; omega))
  have HND := hid (fun W => name_any D W (by unfold maxLen; omega))
  cases h1 : nameB T
  · rw [h1] at HNT
    clear h h1
    go_enter Tryz.func56, Tryz.ntmps56
    go_wp2_with fail
    with_reducible refine (HNT.out _).mono ?_
    rintro e w1 ⟨rfl, rfl⟩
    go_wp2
    go_ret2
    exact ⟨rfl, bal (Below.refl _ _) _⟩
  · rw [h1] at HNT
    cases h2 : nameB D
    · rw [h2] at HND
      have hd : D.size ≠ 0 := fun q => by
        unfold nameOk at h
        rw [h1, show decide (D.size = 0) = true from decide_eq_true q] at h
        cases h
      have hd1 := not_empty hd
      clear h h1 h2 hd
      go_enter Tryz.func56, Tryz.ntmps56
      go_wp2_with fail
      with_reducible refine (HNT.out _).mono ?_
      rintro e w1 ⟨rfl, rfl⟩
      go_wp2_with fail
      with_reducible refine (HND.out _).mono ?_
      rintro e w1 ⟨rfl, rfl⟩
      go_wp2
      go_ret2
      exact ⟨rfl, bal (Below.refl _ _) _⟩
    · unfold nameOk at h
      rw [h1, h2] at h
      simp at h
set_option maxRecDepth 100000 in
set_option maxHeartbeats 2000000 in
theorem new_arg_none (T D : ByteArray) (x : Option Addr) (n c : Nat) (fs : List Int) (w : World) (hr : RdG w (.slice x n c) fs) (hn : n = fs.length) (hl : n ≤ 1000) (hT : T.size ≤ 1000) (hD : D.size ≤ 1000) (hd : D.size = 0) (h : nameOk T D = true) (hf : risesL fs = false) : Calls Tryz.prog 56 #[.agg #[.string T, .string D, .slice x n c]] w (NoD 1 w) := by
  have HNT := hid (fun W => name_any T W (by unfold maxLen; omega))
  have HND := hid (fun W => name_any D W (by unfold maxLen; omega))
  have h1 : nameB T = true := by
    unfold nameOk at h
    cases q : nameB T
    · rw [q] at h
      cases h
    · rfl
  rw [h1] at HNT
  obtain rfl := eq_empty hd
  have HAR := hid (areFunctions_any _ fs _ (hr.step (bal (Below.refl w.heap.size w) (.cells #[.string T, .string ⟨#[]⟩, .slice x n c] 110))) (by omega))
  rw [hf] at HAR
  clear h h1 hr hn hf hd
  go_enter Tryz.func56, Tryz.ntmps56
  go_wp2_with fail
  with_reducible refine (HNT.out _).mono ?_
  rintro e w1 ⟨rfl, rfl⟩
  go_wp2_with fail
  with_reducible refine HAR.out.mono ?_
  rintro e w1 ⟨rfl, rfl⟩
  go_wp2
  go_ret2
  exact ⟨rfl, bal (Below.refl _ _) _⟩
set_option maxRecDepth 100000 in
set_option maxHeartbeats 2000000 in
theorem new_ok_none (T D : ByteArray) (x : Option Addr) (n c : Nat) (fs : List Int) (w : World) (hr : RdG w (.slice x n c) fs) (hn : n = fs.length) (hl : n ≤ 1000) (hT : T.size ≤ 1000) (hD : D.size ≤ 1000) (hd : D.size = 0) (h : nameOk T D = true) (hf : risesL fs = true) : Calls Tryz.prog 56 #[.agg #[.string T, .string D, .slice x n c]] w (NewD T D fs w) := by
  have HNT := hid (fun W => name_any T W (by unfold maxLen; omega))
  have HND := hid (fun W => name_any D W (by unfold maxLen; omega))
  have h1 : nameB T = true := by
    unfold nameOk at h
    cases q : nameB T
    · rw [q] at h
      cases h
    · rfl
  rw [h1] at HNT
  obtain rfl := eq_empty hd
  have HAR := hid (areFunctions_any _ fs _ (hr.step (bal (Below.refl w.heap.size w) (.cells #[.string T, .string ⟨#[]⟩, .slice x n c] 110))) (by omega))
  rw [hf] at HAR
  have HCL := hid (fun (W : World) (hb : Below w.heap.size w W) => clone_any _ fs W (hr.step hb).reads (by omega))
  have HS0 := hid (show (w.alloc (.cells #[.string T, .string ⟨#[]⟩, .slice x n c] 110)).cell? ⟨w.heap.size, 0, none⟩ = some (.string T) ∧ (w.alloc (.cells #[.string T, .string ⟨#[]⟩, .slice x n c] 110)).cell? ⟨w.heap.size, 1, none⟩ = some (.string ⟨#[]⟩) ∧ (w.alloc (.cells #[.string T, .string ⟨#[]⟩, .slice x n c] 110)).cell? ⟨w.heap.size, 2, none⟩ = some (.slice x n c) ∧ Below w.heap.size w (w.alloc (.cells #[.string T, .string ⟨#[]⟩, .slice x n c] 110)) from ⟨by simp [go_sem], by simp [go_sem], by simp [go_sem], bal (Below.refl _ _) _⟩)
  clear h h1 hr hn hf hd
  go_enter Tryz.func56, Tryz.ntmps56
  go_wp2_with fail
  with_reducible refine (HNT.out _).mono ?_
  rintro e w1 ⟨rfl, rfl⟩
  go_wp2_with fail
  with_reducible refine HAR.out.mono ?_
  rintro e w1 ⟨rfl, rfl⟩
  go_wp2
  go_region_held3 (fun w' => w'.cell? ⟨w.heap.size, 0, none⟩ = some (.string T) ∧ w'.cell? ⟨w.heap.size, 1, none⟩ = some (.string ⟨#[]⟩) ∧ w'.cell? ⟨w.heap.size, 2, none⟩ = some (.slice x n c) ∧ Below w.heap.size w w') (first | exact cfg_kept HS0.out (Below.refl _ _).drew | assumption | exact cfg_kept (by assumption) (by assumption) | exact cfg_alloc (by assumption) | fail) (first | (go_at_call 63; (with_reducible refine (HCL.out _ (show _ ∧ _ ∧ _ ∧ _ from (by first | assumption | exact cfg_kept HS0.out (Below.refl _ _).drew)).2.2.2).mono ?_); rintro e w2 ⟨v2, rfl, ho2, hb2, hk2⟩; obtain ⟨x2, n2, c2, rfl⟩ := own_slice ho2) | fail)
  rename_i hH
  have hbw : Below w.heap.size w w2 := below_t ((bal (Below.refl w.heap.size w) (.cells #[.string T, .string ⟨#[]⟩, .slice x n c] 110)).drew) hb2
  have HX := hid (newEnd (T := T) (D := ⟨#[]⟩) ho2 hbw (fun k hk => by have := hk2 k hk; simp at this; omega) 89)
  clear ho2 hb2 hk2 hH hbw
  go_wp2
  go_ret2
  exact HX.out
set_option maxRecDepth 100000 in
set_option maxHeartbeats 2000000 in
theorem new_arg_some (T D : ByteArray) (x : Option Addr) (n c : Nat) (fs : List Int) (w : World) (hr : RdG w (.slice x n c) fs) (hn : n = fs.length) (hl : n ≤ 1000) (hT : T.size ≤ 1000) (hD : D.size ≤ 1000) (hd : D.size ≠ 0) (h : nameOk T D = true) (hf : risesL fs = false) : Calls Tryz.prog 56 #[.agg #[.string T, .string D, .slice x n c]] w (NoD 1 w) := by
  have HNT := hid (fun W => name_any T W (by unfold maxLen; omega))
  have HND := hid (fun W => name_any D W (by unfold maxLen; omega))
  have h1 : nameB T = true := by
    unfold nameOk at h
    cases q : nameB T
    · rw [q] at h
      cases h
    · rfl
  rw [h1] at HNT
  have h2 : nameB D = true := by
    unfold nameOk at h
    rw [h1, show decide (D.size = 0) = false from decide_eq_false hd] at h
    simpa using h
  rw [h2] at HND
  clear h2
  have hd1 := not_empty hd
  have HAR := hid (areFunctions_any _ fs _ (hr.step (bal (Below.refl w.heap.size w) (.cells #[.string T, .string D, .slice x n c] 110))) (by omega))
  rw [hf] at HAR
  clear h h1 hr hn hf hd
  go_enter Tryz.func56, Tryz.ntmps56
  go_wp2_with fail
  with_reducible refine (HNT.out _).mono ?_
  rintro e w1 ⟨rfl, rfl⟩
  go_wp2_with fail
  with_reducible refine (HND.out _).mono ?_
  rintro e w1 ⟨rfl, rfl⟩
  go_wp2_with fail
  with_reducible refine HAR.out.mono ?_
  rintro e w1 ⟨rfl, rfl⟩
  go_wp2
  go_ret2
  exact ⟨rfl, bal (Below.refl _ _) _⟩
set_option maxRecDepth 100000 in
set_option maxHeartbeats 2000000 in
theorem new_ok_some (T D : ByteArray) (x : Option Addr) (n c : Nat) (fs : List Int) (w : World) (hr : RdG w (.slice x n c) fs) (hn : n = fs.length) (hl : n ≤ 1000) (hT : T.size ≤ 1000) (hD : D.size ≤ 1000) (hd : D.size ≠ 0) (h : nameOk T D = true) (hf : risesL fs = true) : Calls Tryz.prog 56 #[.agg #[.string T, .string D, .slice x n c]] w (NewD T D fs w) := by
  have HNT := hid (fun W => name_any T W (by unfold maxLen; omega))
  have HND := hid (fun W => name_any D W (by unfold maxLen; omega))
  have h1 : nameB T = true := by
    unfold nameOk at h
    cases q : nameB T
    · rw [q] at h
      cases h
    · rfl
  rw [h1] at HNT
  have h2 : nameB D = true := by
    unfold nameOk at h
    rw [h1, show decide (D.size = 0) = false from decide_eq_false hd] at h
    simpa using h
  rw [h2] at HND
  clear h2
  have hd1 := not_empty hd
  have HAR := hid (areFunctions_any _ fs _ (hr.step (bal (Below.refl w.heap.size w) (.cells #[.string T, .string D, .slice x n c] 110))) (by omega))
  rw [hf] at HAR
  have HCL := hid (fun (W : World) (hb : Below w.heap.size w W) => clone_any _ fs W (hr.step hb).reads (by omega))
  have HS0 := hid (show (w.alloc (.cells #[.string T, .string D, .slice x n c] 110)).cell? ⟨w.heap.size, 0, none⟩ = some (.string T) ∧ (w.alloc (.cells #[.string T, .string D, .slice x n c] 110)).cell? ⟨w.heap.size, 1, none⟩ = some (.string D) ∧ (w.alloc (.cells #[.string T, .string D, .slice x n c] 110)).cell? ⟨w.heap.size, 2, none⟩ = some (.slice x n c) ∧ Below w.heap.size w (w.alloc (.cells #[.string T, .string D, .slice x n c] 110)) from ⟨by simp [go_sem], by simp [go_sem], by simp [go_sem], bal (Below.refl _ _) _⟩)
  clear h h1 hr hn hf hd
  go_enter Tryz.func56, Tryz.ntmps56
  go_wp2_with fail
  with_reducible refine (HNT.out _).mono ?_
  rintro e w1 ⟨rfl, rfl⟩
  go_wp2_with fail
  with_reducible refine (HND.out _).mono ?_
  rintro e w1 ⟨rfl, rfl⟩
  go_wp2_with fail
  with_reducible refine HAR.out.mono ?_
  rintro e w1 ⟨rfl, rfl⟩
  go_wp2
  go_region_held3 (fun w' => w'.cell? ⟨w.heap.size, 0, none⟩ = some (.string T) ∧ w'.cell? ⟨w.heap.size, 1, none⟩ = some (.string D) ∧ w'.cell? ⟨w.heap.size, 2, none⟩ = some (.slice x n c) ∧ Below w.heap.size w w') (first | exact cfg_kept HS0.out (Below.refl _ _).drew | assumption | exact cfg_kept (by assumption) (by assumption) | exact cfg_alloc (by assumption) | fail) (first | (go_at_call 63; (with_reducible refine (HCL.out _ (show _ ∧ _ ∧ _ ∧ _ from (by first | assumption | exact cfg_kept HS0.out (Below.refl _ _).drew)).2.2.2).mono ?_); rintro e w2 ⟨v2, rfl, ho2, hb2, hk2⟩; obtain ⟨x2, n2, c2, rfl⟩ := own_slice ho2) | fail)
  rename_i hH
  have hbw : Below w.heap.size w w2 := below_t ((bal (Below.refl w.heap.size w) (.cells #[.string T, .string D, .slice x n c] 110)).drew) hb2
  have HX := hid (newEnd (T := T) (D := D) ho2 hbw (fun k hk => by have := hk2 k hk; simp at this; omega) 89)
  clear ho2 hb2 hk2 hH hbw
  go_wp2
  go_ret2
  exact HX.out
end
end Go.Proofs.YtaanpnmgibcemaaGreatDoor.Ng
