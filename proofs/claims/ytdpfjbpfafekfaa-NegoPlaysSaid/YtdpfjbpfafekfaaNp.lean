/-
  A terminal's end hears.
-/
import Derived.Test.YtdpfjbpfafekfaaNo
import Derived.Test.YtdpfjbpfafekfaaNh
namespace Go.Proofs.Ytdpfjbpfafekfaa
open Go.RowKit Go.Lib

/-- What is answered to a message that is taken, and what the end is then. -/
def ansK (T D : ByteArray) (fs : List Int) (k : Int) (r : List Int) : List Int := if k = 1 then 2 :: 7 :: (strL T ++ devT D) else if k = 2 then 3 :: 7 :: fs else if k = 5 then (if allF fs r = true then 3 :: 4 :: r else 3 :: 7 :: keepL fs r) else []
def stK (fs : List Int) (k : Int) (r : List Int) : Int := if k = 1 then 1 else if k = 2 then 2 else if k = 3 then 4 else if k = 4 then (if allF fs r = true then 3 else 4) else (if allF fs r = true then 3 else 2)
def devK (dev : ByteArray) (k : Int) (d : ByteArray) : ByteArray := if k = 1 then ⟨#[]⟩ else if k = 2 then d else dev
def agK (fs ag : List Int) (k : Int) (r : List Int) : List Int := if k = 1 ∨ k = 2 then [] else if k = 3 then ag else if k = 4 then (if allF fs r = true then sortL r else ag) else (if allF fs r = true then sortL r else [])
theorem kindS_range (b : Int) (r : List Int) : kindS b r = 0 ∨ kindS b r = 1 := by unfold kindS; split <;> simp
theorem kindD_range (b : Int) (r : List Int) : kindD b r = 0 ∨ kindD b r = 2 ∨ kindD b r = 3 := by
  unfold kindD
  split
  · split <;> simp
  · split
    · split <;> simp
    · simp
theorem kindF_range (b : Int) (r : List Int) : kindF b r = 0 ∨ ((kindF b r = 4 ∨ kindF b r = 5) ∧ r.Nodup) := by
  unfold kindF
  split
  · rename_i h
    have hn : r.Nodup := by unfold onceL at h; exact of_decide_eq_true h
    split
    · exact .inr ⟨.inl rfl, hn⟩
    · split
      · exact .inr ⟨.inr rfl, hn⟩
      · exact .inl rfl
  · exact .inl rfl
theorem kindL_range (xs : List Int) : kindL xs = 0 ∨ kindL xs = 1 ∨ kindL xs = 2 ∨ kindL xs = 3 ∨ ((kindL xs = 4 ∨ kindL xs = 5) ∧ (xs.drop 2).Nodup) := by
  unfold kindL kind2
  split
  · exact .inl rfl
  · split
    · rcases kindS_range (xs.getD 1 0) (xs.drop 2) with h | h
      · exact .inl h
      · exact .inr (.inl h)
    · split
      · rcases kindD_range (xs.getD 1 0) (xs.drop 2) with h | h | h
        · exact .inl h
        · exact .inr (.inr (.inl h))
        · exact .inr (.inr (.inr (.inl h)))
      · split
        · rcases kindF_range (xs.getD 1 0) (xs.drop 2) with h | ⟨h, hn⟩
          · exact .inl h
          · exact .inr (.inr (.inr (.inr ⟨h, hn⟩)))
        · exact .inl rfl
set_option maxRecDepth 100000 in
set_option maxHeartbeats 2000000 in
theorem take_1 (g : Nat) (sv av : Value) (T D : ByteArray) (fs : List Int) (st : Int) (dev : ByteArray) (ag : List Int) (w : World) (h : EndM w g sv av T D fs st dev ag) (hT : T.size ≤ 1000) (hD : D.size ≤ 1000) (hfl : fs.length ≤ 1000) (hf : ∀ x ∈ fs, 0 ≤ x ∧ x ≤ 4) (d : ByteArray) (x : Option Addr) (n c : Nat) (r : List Int) : Calls Try.prog 77 #[.pointer (some ⟨g, 0, none⟩), .agg #[.int .i64 1, .string d, .slice x n c]] w (EDone g sv T D fs (stK fs 1 r) (devK dev 1 d) (agK fs ag 1 r) (ansK T D fs 1 r) w) := by
  have hgl := h.lt
  have HBX := hid (bal (Below.refl w.heap.size w) (.cells #[.int .i64 1, .string d, .slice x n c] 138))
  have HH := hid (h.step HBX.out)
  have HA := hid (show Calls Try.prog 82 #[.pointer (some ⟨g, 0, none⟩)] (w.alloc (.cells #[.int .i64 1, .string d, .slice x n c] 138)) (EDone g sv T D fs 1 ⟨#[]⟩ [] (2 :: 7 :: (strL T ++ devT D)) _) by
    by_cases hd : D.size = 0
    · exact askDevice_none g sv av T D fs st dev ag _ HH.out hT hD hd
    · exact askDevice_some g sv av T D fs st dev ag _ HH.out hT hD hd)
  rw [show stK fs 1 r = 1 from rfl, show devK dev 1 d = ⟨#[]⟩ from rfl, show agK fs ag 1 r = [] from rfl, show ansK T D fs 1 r = 2 :: 7 :: (strL T ++ devT D) from rfl]
  clear h HH
  go_enter Try.func77, Try.ntmps77
  go_wp2_with fail
  with_reducible refine HA.out.mono ?_
  rintro e w2 ⟨v2, av', rfl, h2⟩
  have HX := hid (EDone.since HBX.out hgl ⟨v2, av', rfl, h2⟩)
  obtain ⟨x2, n2, c2, rfl⟩ := own_slice h2.1
  clear h2
  go_wp2
  go_ret
  exact HX.out
set_option maxRecDepth 100000 in
set_option maxHeartbeats 2000000 in
theorem take_2 (g : Nat) (sv av : Value) (T D : ByteArray) (fs : List Int) (st : Int) (dev : ByteArray) (ag : List Int) (w : World) (h : EndM w g sv av T D fs st dev ag) (hT : T.size ≤ 1000) (hD : D.size ≤ 1000) (hfl : fs.length ≤ 1000) (hf : ∀ x ∈ fs, 0 ≤ x ∧ x ≤ 4) (d : ByteArray) (x : Option Addr) (n c : Nat) (r : List Int) : Calls Try.prog 77 #[.pointer (some ⟨g, 0, none⟩), .agg #[.int .i64 2, .string d, .slice x n c]] w (EDone g sv T D fs (stK fs 2 r) (devK dev 2 d) (agK fs ag 2 r) (ansK T D fs 2 r) w) := by
  obtain ⟨sx, sc, rfl⟩ := own_len h.rs _ rfl
  have c4 := h.c4
  have f4 := h.fr 4 (by omega)
  have hgl := h.lt
  have HBX := hid (bal (Below.refl (w.setCell ⟨g, 4, none⟩ (.string d)).heap.size (w.setCell ⟨g, 4, none⟩ (.string d))) (.cells #[.int .i64 2, .string d, .slice x n c] 138))
  have hE := (h.set4 d).step HBX.out
  have c2 := (h.set4 d).c2
  have HC5 := hid (And.intro h.c5 hE.c5)
  have HM := hid ((set_moved w g 4 (.string d)).trans (Moved.below HBX.out [g]))
  have HA := hid (askFunctions_any g _ av T D fs st d ag _ hE sx _ sc fs hE.rs.reads hE.ns hfl)
  rw [show stK fs 2 r = 2 from rfl, show devK dev 2 d = d from rfl, show agK fs ag 2 r = [] from rfl, show ansK T D fs 2 r = 3 :: 7 :: fs from rfl]
  clear h hE
  go_enter Try.func77, Try.ntmps77
  go_wp2_with fail
  with_reducible refine HA.out.mono ?_
  rintro e w2 ⟨v2, av', rfl, ho, hE2, hM2, hk, hnw⟩
  have HX := hid (show EDone g _ T D fs 2 d [] (3 :: 7 :: fs) w (.returned v2) w2 from ⟨v2, av', rfl, ho, hE2, HM.out.trans hM2, (fun k q => ⟨Nat.le_trans HM.out.size (hk k q).1, (hk k q).2⟩), hnw.elim (fun q => .inl (HC5.out.1.trans (HC5.out.2.symm.trans q))) (fun q => .inr (fun k hk => Nat.le_trans HM.out.size (q k hk)))⟩)
  obtain ⟨x2, n2, c2, rfl⟩ := own_slice ho
  clear ho hE2 hM2 hk HM HA hnw HC5
  go_wp2
  go_ret
  exact HX.out
set_option maxRecDepth 100000 in
set_option maxHeartbeats 2000000 in
theorem take_3 (g : Nat) (sv av : Value) (T D : ByteArray) (fs : List Int) (st : Int) (dev : ByteArray) (ag : List Int) (w : World) (h : EndM w g sv av T D fs st dev ag) (hT : T.size ≤ 1000) (hD : D.size ≤ 1000) (hfl : fs.length ≤ 1000) (hf : ∀ x ∈ fs, 0 ≤ x ∧ x ≤ 4) (d : ByteArray) (x : Option Addr) (n c : Nat) (r : List Int) : Calls Try.prog 77 #[.pointer (some ⟨g, 0, none⟩), .agg #[.int .i64 3, .string d, .slice x n c]] w (EDone g sv T D fs (stK fs 3 r) (devK dev 3 d) (agK fs ag 3 r) (ansK T D fs 3 r) w) := by
  have c3 := h.c3
  have f3 := h.fr 3 (by omega)
  have hgl := h.lt
  have HBX := hid (bal (Below.refl (w.setCell ⟨g, 3, none⟩ (.int .i64 4)).heap.size (w.setCell ⟨g, 3, none⟩ (.int .i64 4))) (.cells #[.int .i64 3, .string d, .slice x n c] 138))
  have HX := hid (show EDone g sv T D fs 4 dev ag [] w (.returned (.slice none 0 0)) ((w.setCell ⟨g, 3, none⟩ (.int .i64 4)).alloc (.cells #[.int .i64 3, .string d, .slice x n c] 138)) from ⟨_, _, rfl, OwnB.nil _, (h.set3 4).step HBX.out, (set_moved w g 3 _).trans (Moved.below HBX.out [g]), (fun k q => by cases q), .inl h.c5⟩)
  rw [show stK fs 3 r = 4 from rfl, show devK dev 3 d = dev from rfl, show agK fs ag 3 r = ag from rfl, show ansK T D fs 3 r = [] from rfl]
  clear h HBX
  go_enter Try.func77, Try.ntmps77
  go_wp2
  go_ret
  exact HX.out
set_option maxRecDepth 100000 in
set_option maxHeartbeats 2000000 in
theorem take_4 (g : Nat) (sv av : Value) (T D : ByteArray) (fs : List Int) (st : Int) (dev : ByteArray) (ag : List Int) (w : World) (h : EndM w g sv av T D fs st dev ag) (hT : T.size ≤ 1000) (hD : D.size ≤ 1000) (hfl : fs.length ≤ 1000) (hf : ∀ x ∈ fs, 0 ≤ x ∧ x ≤ 4) (d : ByteArray) (x : Option Addr) (n c : Nat) (r : List Int) (hr : RdG w (.slice x n c) r) (hn : n = r.length) (hl : n ≤ 1000) (hg : g ∉ blkV (.slice x n c)) (hnd : r.Nodup) : Calls Try.prog 77 #[.pointer (some ⟨g, 0, none⟩), .agg #[.int .i64 4, .string d, .slice x n c]] w (EDone g sv T D fs (stK fs 4 r) (devK dev 4 d) (agK fs ag 4 r) (ansK T D fs 4 r) w) := by
  have hgl := h.lt
  have HBX := hid (bal (Below.refl w.heap.size w) (.cells #[.int .i64 4, .string d, .slice x n c] 138))
  have HH := hid (h.step HBX.out)
  have HA := hid (show Calls Try.prog 84 #[.pointer (some ⟨g, 0, none⟩), .slice x n c] (w.alloc (.cells #[.int .i64 4, .string d, .slice x n c] 138)) (VDone g sv T D fs (stK fs 4 r) dev (agK fs ag 4 r) _) by
    cases ha : allF fs r
    · rw [show stK fs 4 r = 4 by simp [stK, ha], show agK fs ag 4 r = ag by simp [agK, ha]]
      exact acceptOrRefuse_no g sv av T D fs st dev ag _ HH.out x n c r (hr.step HBX.out) hn hl hfl hg ha
    · rw [show stK fs 4 r = 3 by simp [stK, ha], show agK fs ag 4 r = sortL r by simp [agK, ha]]
      exact acceptOrRefuse_yes g sv av T D fs st dev ag _ HH.out x n c r (hr.step HBX.out) hn hl hfl hg ha hf hnd)
  rw [show devK dev 4 d = dev from rfl, show ansK T D fs 4 r = [] from rfl]
  clear h HH hr hn hg hnd
  generalize stK fs 4 r = S' at *
  generalize agK fs ag 4 r = A' at *
  go_enter Try.func77, Try.ntmps77
  go_wp2_with fail
  with_reducible refine HA.out.mono ?_
  rintro e w2 ⟨rfl, av', hE, hM, hnw⟩
  have HX := hid (show EDone g sv T D fs S' dev A' [] w (.returned (.slice none 0 0)) w2 from ⟨_, _, rfl, OwnB.nil _, hE, (Moved.below HBX.out [g]).trans hM, (fun k q => by cases q), hnw.since HBX.out hgl⟩)
  clear hE hM HA hnw
  go_wp2
  go_ret
  exact HX.out
set_option maxRecDepth 100000 in
set_option maxHeartbeats 2000000 in
theorem take_5 (g : Nat) (sv av : Value) (T D : ByteArray) (fs : List Int) (st : Int) (dev : ByteArray) (ag : List Int) (w : World) (h : EndM w g sv av T D fs st dev ag) (hT : T.size ≤ 1000) (hD : D.size ≤ 1000) (hfl : fs.length ≤ 1000) (hf : ∀ x ∈ fs, 0 ≤ x ∧ x ≤ 4) (d : ByteArray) (x : Option Addr) (n c : Nat) (r : List Int) (hr : RdG w (.slice x n c) r) (hn : n = r.length) (hl : n ≤ 1000) (hg : g ∉ blkV (.slice x n c)) (hnd : r.Nodup) : Calls Try.prog 77 #[.pointer (some ⟨g, 0, none⟩), .agg #[.int .i64 5, .string d, .slice x n c]] w (EDone g sv T D fs (stK fs 5 r) (devK dev 5 d) (agK fs ag 5 r) (ansK T D fs 5 r) w) := by
  have hgl := h.lt
  have HBX := hid (bal (Below.refl w.heap.size w) (.cells #[.int .i64 5, .string d, .slice x n c] 138))
  have HH := hid (h.step HBX.out)
  have HA := hid (show Calls Try.prog 85 #[.pointer (some ⟨g, 0, none⟩), .slice x n c] (w.alloc (.cells #[.int .i64 5, .string d, .slice x n c] 138)) (EDone g sv T D fs (stK fs 5 r) dev (agK fs ag 5 r) (ansK T D fs 5 r) _) by
    cases ha : allF fs r
    · rw [show stK fs 5 r = 2 by simp [stK, ha], show agK fs ag 5 r = [] by simp [agK, ha], show ansK T D fs 5 r = 3 :: 7 :: keepL fs r by simp [ansK, ha]]
      exact acceptOrAsk_no g sv av T D fs st dev ag _ HH.out x n c r (hr.step HBX.out) hn hl hfl hg ha
    · rw [show stK fs 5 r = 3 by simp [stK, ha], show agK fs ag 5 r = sortL r by simp [agK, ha], show ansK T D fs 5 r = 3 :: 4 :: r by simp [ansK, ha]]
      exact acceptOrAsk_yes g sv av T D fs st dev ag _ HH.out x n c r (hr.step HBX.out) hn hl hfl hg ha hf hnd)
  rw [show devK dev 5 d = dev from rfl]
  clear h HH hr hn hg hnd
  generalize stK fs 5 r = S' at *
  generalize agK fs ag 5 r = A' at *
  generalize ansK T D fs 5 r = R' at *
  go_enter Try.func77, Try.ntmps77
  go_wp2_with fail
  with_reducible refine HA.out.mono ?_
  rintro e w2 ⟨v2, av', rfl, h2⟩
  have HX := hid (EDone.since HBX.out hgl ⟨v2, av', rfl, h2⟩)
  obtain ⟨x2, n2, c2, rfl⟩ := own_slice h2.1
  clear h2
  go_wp2
  go_ret
  exact HX.out
/-- A message is taken. -/
theorem take_any (g : Nat) (sv av : Value) (T D : ByteArray) (fs : List Int) (st : Int) (dev : ByteArray) (ag : List Int) (w : World) (h : EndM w g sv av T D fs st dev ag) (hT : T.size ≤ 1000) (hD : D.size ≤ 1000) (hfl : fs.length ≤ 1000) (hf : ∀ x ∈ fs, 0 ≤ x ∧ x ≤ 4) (k : Int) (hk : k = 1 ∨ k = 2 ∨ k = 3 ∨ k = 4 ∨ k = 5) (d d' : ByteArray) (hd : k = 2 → d' = d) (x : Option Addr) (n c : Nat) (r : List Int) (hr : k = 4 ∨ k = 5 → RdG w (.slice x n c) r ∧ n = r.length ∧ n ≤ 1000 ∧ g ∉ blkV (.slice x n c) ∧ r.Nodup) : Calls Try.prog 77 #[.pointer (some ⟨g, 0, none⟩), .agg #[.int .i64 k, .string d', .slice x n c]] w (EDone g sv T D fs (stK fs k r) (devK dev k d) (agK fs ag k r) (ansK T D fs k r) w) := by
  rcases hk with rfl | rfl | rfl | rfl | rfl
  · exact take_1 g sv av T D fs st dev ag w h hT hD hfl hf d' x n c r
  · obtain rfl := hd rfl
    exact take_2 g sv av T D fs st dev ag w h hT hD hfl hf d' x n c r
  · exact take_3 g sv av T D fs st dev ag w h hT hD hfl hf d' x n c r
  · obtain ⟨h1, h2, h3, h4, h5⟩ := hr (.inl rfl)
    exact take_4 g sv av T D fs st dev ag w h hT hD hfl hf d' x n c r h1 h2 h3 h4 h5
  · obtain ⟨h1, h2, h3, h4, h5⟩ := hr (.inr rfl)
    exact take_5 g sv av T D fs st dev ag w h hT hD hfl hf d' x n c r h1 h2 h3 h4 h5
end Go.Proofs.Ytdpfjbpfafekfaa
