/-
  One order executed.
-/
import Derived.Test.YtdampfngdnicoaaDoorMd
namespace Go.Proofs.YtdampfngdnicoaaDoor
open Go.RowKit Go.Lib Go.Deep

/-- A text, written. -/
def textW (x : Wst) (l : List Int) : Wst := l.foldl (fun y c => putW y (charC y.lk c false)) x
/-- An attribute with nothing else. -/
def atC0 : Cel := ⟨0, true, 0, 0, 0, 0⟩
theorem atC0_ok : atC0.OK := ⟨u8_zero, u8_zero, u8_zero, u8_zero, u8_zero⟩
def bodyW (x : Wst) (d : OpD) : Wst :=
  if d.kind = 0 then textW x d.text
  else if d.kind = 8 then putW x (charC x.lk d.code true)
  else if d.kind = 17 then { x with n := d.addr.toNat }
  else if d.kind = 18 then { x with s := rngS x.s x.n d.addr, n := d.addr.toNat }
  else if d.kind = 60 then { x with s := repS x.s x.n d.addr (charC x.lk d.code d.graph), n := d.addr.toNat }
  else if d.kind = 29 then putW x { atC0 with fa := d.fa }
  else if d.kind = 41 then putW x (apply_all atC0 d.pairs)
  else if d.kind = 44 then putW x (apply_all (x.s.cel x.n) d.pairs)
  else if d.kind = 40 then { x with lk := apply_all x.lk d.pairs }
  else if d.kind = 19 then { x with s := x.s.place x.n }
  else if d.kind = 5 then tabW x
  else x
def execW (x : Wst) (d : OpD) : Wst := { bodyW x d with wr := decide (d.kind = 0) || decide (d.kind = 8) }
/-- It can be executed. -/
structure ExOK (x : Wst) (d : OpD) : Prop where
  a1 : 0 ≤ d.addr
  a2 : d.addr < x.s.L.length
  cd : U8 d.code
  fa : U8 d.fa
  ps : ∀ p ∈ d.pairs, knownB p.1 p.2 = true ∧ p.2 < 256
  pl : d.pairs.length ≤ 1000
  tx : ∀ c ∈ d.text, U8 c
  t0 : d.kind = 0 → d.text ≠ []
  tl : d.text.length ≤ 100000
abbrev opV (d : OpD) (pv tv : Value) : Value := .agg #[.int .i64 d.kind, .int .i64 d.addr, .int .u8 d.code, .bool d.graph, .int .u8 d.fa, pv, tv]
theorem textW_take (x : Wst) (l : List Int) (k : Nat) (h : k < l.length) : textW x (l.take (k + 1)) = putW (textW x (l.take k)) (charC (textW x (l.take k)).lk (l.getD k 0) false) := by
  unfold textW
  rw [List.take_succ_eq_append_getElem h, List.foldl_append, List.getD, List.getElem?_eq_getElem h]
  rfl
/-- The look has changed. -/
theorem WrM.lk_ {w : World} {q b g : Nat} {x : Wst} (h : WrM w q b g x) {d : Cel} (hd : d.OK) : WrM ((((((w.setCell ⟨q, 2, none⟩ (.int .u8 d.ch)).setCell ⟨q, 3, none⟩ (.bool d.at_)).setCell ⟨q, 4, none⟩ (.int .u8 d.fa)).setCell ⟨q, 5, none⟩ (.int .u8 d.hi)).setCell ⟨q, 6, none⟩ (.int .u8 d.co)).setCell ⟨q, 7, none⟩ (.int .u8 d.se)) q b g { x with lk := d } := by
  obtain ⟨w', hw'⟩ : ∃ w', (((((w.setCell ⟨q, 2, none⟩ (.int .u8 d.ch)).setCell ⟨q, 3, none⟩ (.bool d.at_)).setCell ⟨q, 4, none⟩ (.int .u8 d.fa)).setCell ⟨q, 5, none⟩ (.int .u8 d.hi)).setCell ⟨q, 6, none⟩ (.int .u8 d.co)).setCell ⟨q, 7, none⟩ (.int .u8 d.se) = w' := ⟨_, rfl⟩
  have m : Moved w w' [q] [q] := by
    rw [← hw']
    have s := fun (A : World) (i : Nat) (u : Value) => Moved.set (a := A) (S := [q]) (g := q) (List.mem_cons_self ..) i u
    exact (((((s _ _ _).trans (s _ _ _)).trans (s _ _ _)).trans (s _ _ _)).trans (s _ _ _)).trans (s _ _ _)
  have o := fun (i : Nat) (hi : i ≠ 2) (hj : i ≠ 3) (hk : i ≠ 4) (hl : i ≠ 5) (hm : i ≠ 6) (hn : i ≠ 7) => (show w'.cell? ⟨q, i, none⟩ = w.cell? ⟨q, i, none⟩ from by
    rw [← hw', sc_other (Ne.symm hn), sc_other (Ne.symm hm), sc_other (Ne.symm hl), sc_other (Ne.symm hk), sc_other (Ne.symm hj), sc_other (Ne.symm hi)])
  rw [hw']
  refine ⟨(o 0 (by decide) (by decide) (by decide) (by decide) (by decide) (by decide)).trans h.c0, (o 1 (by decide) (by decide) (by decide) (by decide) (by decide) (by decide)).trans h.c1, ?_, ?_, ?_, ?_, ?_, ?_, (o 8 (by decide) (by decide) (by decide) (by decide) (by decide) (by decide)).trans h.c8,
    fun j => ?_, h.sp.moved m (fun k => h.ne.1 (List.mem_singleton.1 k).symm) (fun k => h.ne.2 (List.mem_singleton.1 k).symm), h.ne, h.lt, hd⟩
  · rw [← hw', sc_other (by decide), sc_other (by decide), sc_other (by decide), sc_other (by decide), sc_other (by decide)]
    exact sc_same h.c2
  · rw [← hw', sc_other (by decide), sc_other (by decide), sc_other (by decide), sc_other (by decide)]
    exact sc_same ((sc_other (by decide)).trans h.c3)
  · rw [← hw', sc_other (by decide), sc_other (by decide), sc_other (by decide)]
    exact sc_same ((sc_other (by decide)).trans ((sc_other (by decide)).trans h.c4))
  · rw [← hw', sc_other (by decide), sc_other (by decide)]
    exact sc_same ((sc_other (by decide)).trans ((sc_other (by decide)).trans ((sc_other (by decide)).trans h.c5)))
  · rw [← hw', sc_other (by decide)]
    exact sc_same ((sc_other (by decide)).trans ((sc_other (by decide)).trans ((sc_other (by decide)).trans ((sc_other (by decide)).trans h.c6))))
  · rw [← hw']
    exact sc_same ((sc_other (by decide)).trans ((sc_other (by decide)).trans ((sc_other (by decide)).trans ((sc_other (by decide)).trans ((sc_other (by decide)).trans h.c7)))))
  · rw [← hw']
    simp only [World.frozen?_setCell]
    exact h.fr j
theorem rngR_len (s : Spc) (l : List Nat) (f : Bool) (k : Nat) : (rngR s l f k).L.length = s.L.length := (rngR_alike s l f k).len
theorem rngS_len (s : Spc) (p q : Int) : (rngS s p q).L.length = s.L.length := rngR_len _ _ _ _
theorem repS_len (s : Spc) (p q : Int) (c : Cel) : (repS s p q c).L.length = s.L.length := (repR_sz _ _ _ _).len
theorem place_len (s : Spc) (n : Int) : (s.place n).L.length = s.L.length := rfl
section
variable {q b g : Nat} {x : Wst}
set_option maxRecDepth 100000 in
set_option maxHeartbeats 4000000 in
theorem exec_8 (d : OpD) (hk : d.kind = 8) (hx : ExOK x d) (pv tv : Value) (w : World) (h : WrM w q b g x) (hp : PairsIn w pv d.pairs) (ht : OwnB w tv d.text) (hd : ∀ k ∈ blkV tv, k ∉ [q, b, g]) : Calls Tryd.prog 45 #[.pointer (some ⟨q, 0, none⟩), opV d pv tv] w (WrD q b g (execW x d) w) := by
  obtain ⟨kd, ad, cd, gr, fa, ps, tx⟩ := d
  dsimp only at hk hp ht
  subst hk
  have hbw : w.heap.size ∉ [q, b, g] := fun k => by
    have := h.lts _ k
    omega
  obtain ⟨px, pc, rfl, -⟩ := pairs_at hp
  obtain ⟨tx0, tn, tc, rfl⟩ := own_slice ht
  have HCH := hid (fun W (hW : WrM W q b g x) => char_any cd true W hW)
  have HPU := hid (fun W (hW : WrM W q b g x) => putw_any (charC x.lk cd true) (charC_ok hW.lk hx.cd true) W hW)
  have HX := hid h
  have HPI := hid hp
  have HT := hid ht
  have HD := hid hd
  have hql := h.qlt
  have hqn1 : ¬ q = w.heap.size := by omega
  have hqn2 : ¬ w.heap.size = q := by omega
  clear h hp ht hd
  go_enter Tryd.func45, Tryd.ntmps45
  go_wp2_with fail
  obtain ⟨a0, ha0⟩ : ∃ a0, w.alloc (.cells #[.int .i64 8, .int .i64 ad, .int .u8 cd, .bool gr, .int .u8 fa, .slice px ps.length pc, .slice tx0 tn tc] 93) = a0 := ⟨_, rfl⟩
  have hba : Below w.heap.size w a0 := by rw [← ha0]; exact (Below.refl _ _).alloc (Nat.le_refl _) _
  have z0 : a0.cell? ⟨w.heap.size, 0, none⟩ = some (.int .i64 8) := by rw [← ha0]; simp [go_sem]
  have z1 : a0.cell? ⟨w.heap.size, 1, none⟩ = some (.int .i64 ad) := by rw [← ha0]; simp [go_sem]
  have z2 : a0.cell? ⟨w.heap.size, 2, none⟩ = some (.int .u8 cd) := by rw [← ha0]; simp [go_sem]
  have z3 : a0.cell? ⟨w.heap.size, 3, none⟩ = some (.bool gr) := by rw [← ha0]; simp [go_sem]
  have z4 : a0.cell? ⟨w.heap.size, 4, none⟩ = some (.int .u8 fa) := by rw [← ha0]; simp [go_sem]
  have z5 : a0.cell? ⟨w.heap.size, 5, none⟩ = some (.slice px ps.length pc) := by rw [← ha0]; simp [go_sem]
  have z6 : a0.cell? ⟨w.heap.size, 6, none⟩ = some (.slice tx0 tn tc) := by rw [← ha0]; simp [go_sem]
  simp only [ha0]
  have hsz : a0.heap.size = w.heap.size + 1 := by rw [← ha0]; simp
  have HBA := hid hba
  have HX0 := hid (HX.out.below hba)
  have hdr : Below a0.heap.size a0 a0.drew := (Below.refl _ _).drew
  have c0 := HX0.out.c0
  have c1 := HX0.out.c1
  have f1 := HX0.out.fr 1
  have f8 := HX0.out.fr 8
  clear ha0 hba HX
  go_wp2_with fail
  with_reducible refine (HCH.out _ HX0.out).mono ?_
  rintro e w1 ⟨rfl, hb1⟩
  have HB1 := hid hb1
  clear hb1
  go_wp2_with fail
  with_reducible refine (HPU.out _ (HX0.out.below HB1.out)).mono ?_
  rintro e w2 ⟨⟨v2, rfl⟩, hw, hm⟩
  have y0 := cell_moved hm (keepc HB1.out z0) hbw
  have HW := hid hw
  have HM := hid (((Moved.below HBA.out [q, b, g]).trans (Moved.below HB1.out _)).trans hm)
  clear hw hm
  have c8 := HW.out.c8
  have f8' := HW.out.fr 8
  go_wp2
  go_end0
  exact ⟨⟨_, rfl⟩, HW.out.wr_ true, HM.out.trans (Moved.set (by simp) 8 _)⟩
set_option maxRecDepth 100000 in
set_option maxHeartbeats 4000000 in
theorem exec_17 (d : OpD) (hk : d.kind = 17) (hx : ExOK x d) (pv tv : Value) (w : World) (h : WrM w q b g x) (hp : PairsIn w pv d.pairs) (ht : OwnB w tv d.text) : Calls Tryd.prog 45 #[.pointer (some ⟨q, 0, none⟩), opV d pv tv] w (WrD q b g (execW x d) w) := by
  obtain ⟨kd, ad, cd, gr, fa, ps, tx⟩ := d
  dsimp only at hk hp ht
  subst hk
  obtain ⟨px, pc, rfl, -⟩ := pairs_at hp
  obtain ⟨tx0, tn, tc, rfl⟩ := own_slice ht
  have ha1 : 0 ≤ ad := hx.a1
  have ha2 : ad < x.s.L.length := hx.a2
  obtain ⟨m, rfl⟩ : ∃ m : Nat, ad = (m : Int) := ⟨ad.toNat, by omega⟩
  have HX := hid h
  have hql := h.qlt
  have hqn1 : ¬ q = w.heap.size := by omega
  have hqn2 : ¬ w.heap.size = q := by omega
  have c1 := h.c1
  have c8 := h.c8
  have f1 := h.fr 1
  have f8 := h.fr 8
  clear h hp ht
  have HF := hid ((HX.out.at_ m (by omega)).wr_ false)
  go_enter Tryd.func45, Tryd.ntmps45
  go_wp2
  go_end0
  refine ⟨⟨_, rfl⟩, HF.out.below ((Below.refl _ _).alloc (Nat.le_refl _) _), ?_⟩
  exact ((Moved.set (by simp) 1 _).trans (Moved.set (by simp) 8 _)).trans (Moved.alloc _ _ _)
set_option maxRecDepth 100000 in
set_option maxHeartbeats 4000000 in
theorem exec_18 (d : OpD) (hk : d.kind = 18) (hx : ExOK x d) (pv tv : Value) (w : World) (h : WrM w q b g x) (hp : PairsIn w pv d.pairs) (ht : OwnB w tv d.text) (hd : ∀ k ∈ blkV tv, k ∉ [q, b, g]) : Calls Tryd.prog 45 #[.pointer (some ⟨q, 0, none⟩), opV d pv tv] w (WrD q b g (execW x d) w) := by
  obtain ⟨kd, ad, cd, gr, fa, ps, tx⟩ := d
  dsimp only at hk hp ht
  subst hk
  have hbw : w.heap.size ∉ [q, b, g] := fun k => by
    have := h.lts _ k
    omega
  obtain ⟨px, pc, rfl, -⟩ := pairs_at hp
  obtain ⟨tx0, tn, tc, rfl⟩ := own_slice ht
  have ha1 : 0 ≤ ad := hx.a1
  have ha2 : ad < x.s.L.length := hx.a2
  have hpos := h.sp.ok.pos
  have hxn := h.lt
  obtain ⟨m, rfl⟩ : ∃ m : Nat, ad = (m : Int) := ⟨ad.toNat, by omega⟩
  have him : I64 (m : Int) := i64_small (by omega) (by omega)
  have hin : I64 (x.n : Int) := i64_small (by omega) (by omega)
  have HRG := hid (fun W hW => (callsIn_wide (n := 10)).1 (range_in (b := b) (g := g) (s := x.s) 10 (by decide) (x.n : Int) (m : Int) hin him W hW))
  have HX := hid h
  have HPI := hid hp
  have HT := hid ht
  have HD := hid hd
  have hql := h.qlt
  have hqn1 : ¬ q = w.heap.size := by omega
  have hqn2 : ¬ w.heap.size = q := by omega
  clear h hp ht hd
  go_enter Tryd.func45, Tryd.ntmps45
  go_wp2_with fail
  obtain ⟨a0, ha0⟩ : ∃ a0, w.alloc (.cells #[.int .i64 18, .int .i64 m, .int .u8 cd, .bool gr, .int .u8 fa, .slice px ps.length pc, .slice tx0 tn tc] 93) = a0 := ⟨_, rfl⟩
  have hba : Below w.heap.size w a0 := by rw [← ha0]; exact (Below.refl _ _).alloc (Nat.le_refl _) _
  have z0 : a0.cell? ⟨w.heap.size, 0, none⟩ = some (.int .i64 18) := by rw [← ha0]; simp [go_sem]
  have z1 : a0.cell? ⟨w.heap.size, 1, none⟩ = some (.int .i64 m) := by rw [← ha0]; simp [go_sem]
  have z2 : a0.cell? ⟨w.heap.size, 2, none⟩ = some (.int .u8 cd) := by rw [← ha0]; simp [go_sem]
  have z3 : a0.cell? ⟨w.heap.size, 3, none⟩ = some (.bool gr) := by rw [← ha0]; simp [go_sem]
  have z4 : a0.cell? ⟨w.heap.size, 4, none⟩ = some (.int .u8 fa) := by rw [← ha0]; simp [go_sem]
  have z5 : a0.cell? ⟨w.heap.size, 5, none⟩ = some (.slice px ps.length pc) := by rw [← ha0]; simp [go_sem]
  have z6 : a0.cell? ⟨w.heap.size, 6, none⟩ = some (.slice tx0 tn tc) := by rw [← ha0]; simp [go_sem]
  simp only [ha0]
  have hsz : a0.heap.size = w.heap.size + 1 := by rw [← ha0]; simp
  have HBA := hid hba
  have HX0 := hid (HX.out.below hba)
  have hdr : Below a0.heap.size a0 a0.drew := (Below.refl _ _).drew
  have c0 := HX0.out.c0
  have c1 := HX0.out.c1
  have f1 := HX0.out.fr 1
  have f8 := HX0.out.fr 8
  clear ha0 hba HX
  have hqn : q ∉ [b, g] := by
    have := HX0.out.ne
    simp only [List.mem_cons, List.not_mem_nil, or_false]
    omega
  have hwn : w.heap.size ∉ [b, g] := fun k => hbw (List.mem_cons_of_mem _ k)
  go_wp2
  refine wp_region_held_drew (S := fun V => V.cell? ⟨q, 0, none⟩ = some (.pointer (some ⟨b, 0, none⟩)) ∧ V.cell? ⟨q, 1, none⟩ = some (.int .i64 x.n) ∧ V.cell? ⟨w.heap.size, 1, none⟩ = some (.int .i64 m)) (by kernel_rfl) ?_ (fun hHeld => ?_)
  · exact ⟨keepc hdr c0, keepc hdr c1, keepc hdr z1⟩
  refine takeD (i := 0) (v := ?_) 40 rfl rfl (by kernel_rfl) (by kernel_rfl) (by kernel_rfl) (fun _ _ _ h => h) (by assumption) (Or.inl ⟨by rfl, ?_⟩) ?_
  rotate_left
  · intro w hSw
    (try dsimp only at hSw)
    go_simp
    try with_reducible rfl
  simp only [List.setIfInBounds_toArray, List.set_cons_zero, List.set_cons_succ]
  refine takeD (i := 1) (v := ?_) 41 rfl rfl (by kernel_rfl) (by kernel_rfl) (by kernel_rfl) (fun _ _ _ h => h) (by assumption) (Or.inl ⟨by rfl, ?_⟩) ?_
  rotate_left
  · intro w hSw
    (try dsimp only at hSw)
    go_simp
    try with_reducible rfl
  simp only [List.setIfInBounds_toArray, List.set_cons_zero, List.set_cons_succ]
  refine takeD (i := 2) (v := ?_) 42 rfl rfl (by kernel_rfl) (by kernel_rfl) (by kernel_rfl) (fun _ _ _ h => h) (by assumption) (Or.inl ⟨by rfl, ?_⟩) ?_
  rotate_left
  · intro w hSw
    (try dsimp only at hSw)
    go_simp
    try with_reducible rfl
  simp only [List.setIfInBounds_toArray, List.set_cons_zero, List.set_cons_succ]
  refine takeD (i := 3) (v := ?_) 43 rfl rfl (by kernel_rfl) (by kernel_rfl) (by kernel_rfl) (fun _ _ _ h => h) (by assumption) (Or.inl ⟨by rfl, ?_⟩) ?_
  rotate_left
  · intro w hSw
    (try dsimp only at hSw)
    go_simp
    try with_reducible rfl
  simp only [List.setIfInBounds_toArray, List.set_cons_zero, List.set_cons_succ]
  refine takeD (i := 4) (v := ?_) 44 rfl rfl (by kernel_rfl) (by kernel_rfl) (by kernel_rfl) (fun _ _ _ h => h) (by assumption) (Or.inl ⟨by rfl, ?_⟩) ?_
  rotate_left
  · intro w hSw
    (try dsimp only at hSw)
    go_simp
    try with_reducible rfl
  simp only [List.setIfInBounds_toArray, List.set_cons_zero, List.set_cons_succ]
  refine takeD (i := 5) (v := ?_) 45 rfl rfl (by kernel_rfl) (by kernel_rfl) (by kernel_rfl) (fun _ _ _ h => h) (by assumption) (Or.inl ⟨by rfl, ?_⟩) ?_
  rotate_left
  · intro w hSw
    (try dsimp only at hSw)
    go_simp
    try with_reducible rfl
  simp only [List.setIfInBounds_toArray, List.set_cons_zero, List.set_cons_succ]
  refine takeD (i := 6) (v := ?_) 46 rfl rfl (by kernel_rfl) (by kernel_rfl) (by kernel_rfl) (fun _ _ _ h => h) (by assumption) (Or.inl ⟨by rfl, ?_⟩) ?_
  rotate_left
  · intro w hSw
    (try dsimp only at hSw)
    go_simp
    try with_reducible rfl
  simp only [List.setIfInBounds_toArray, List.set_cons_zero, List.set_cons_succ]
  refine takeD (i := 7) (v := ?_) 47 rfl rfl (by kernel_rfl) (by kernel_rfl) (by kernel_rfl) (fun _ _ _ h => h) (by assumption) (Or.inl ⟨by rfl, ?_⟩) ?_
  rotate_left
  · intro w hSw
    (try dsimp only at hSw)
    go_simp
    try with_reducible rfl
  simp only [List.setIfInBounds_toArray, List.set_cons_zero, List.set_cons_succ]
  refine takeD (i := 8) (v := ?_) 48 rfl rfl (by kernel_rfl) (by kernel_rfl) (by kernel_rfl) (fun _ _ _ h => h) (by assumption) (Or.inl ⟨by rfl, ?_⟩) ?_
  rotate_left
  · intro w hSw
    (try dsimp only at hSw)
    go_simp
    try with_reducible rfl
  simp only [List.setIfInBounds_toArray, List.set_cons_zero, List.set_cons_succ]
  refine takeD (i := 9) (v := ?_) 49 rfl rfl (by kernel_rfl) (by kernel_rfl) (by kernel_rfl) (fun _ _ _ h => h) (by assumption) (Or.inl ⟨by rfl, ?_⟩) ?_
  rotate_left
  · intro w hSw
    (try dsimp only at hSw)
    go_simp
    try with_reducible rfl
  simp only [List.setIfInBounds_toArray, List.set_cons_zero, List.set_cons_succ]
  refine wpAnyH_ready (rs := [10]) (by kernel_rfl) (by simp) ?_
  refine AllReadyH.cons (by simp only [List.getElem?_toArray, List.getElem?_cons_succ, List.getElem?_cons_zero]; rfl) (fun K hK => ?_) AllReadyH.nil
  go_simp
  go_at_call 55; (with_reducible refine (HRG.out _ (HX0.out.sp.below hdr)).mono ?_); rintro e w2 ⟨⟨v2, rfl⟩, hs2, hm2⟩
  refine hK.out _ _ ?_ (fun hHeldN => ?_)
  · exact ⟨cell_moved hm2 hHeld.1 hqn, cell_moved hm2 hHeld.2.1 hqn, cell_moved hm2 hHeld.2.2 hwn⟩
  have HS2 := hid hs2
  have HM2 := hid hm2
  clear hs2 hm2
  clear hK K hHeld
  have hHeld := hHeldN
  clear hHeldN
  (try simp only [Act.put, List.setIfInBounds_toArray, List.set_cons_zero, List.set_cons_succ])
  refine wpAnyH_done (by kernel_rfl) ?_ _
  clear hHeld
  have HW0 := hid ((HX0.out.below hdr).space HS2.out HM2.out (rngS_len _ _ _))
  have HM0 := hid (((Moved.below HBA.out [q, b, g]).trans (Moved.below hdr _)).trans (moved_bg (q := q) HM2.out))
  have y0 := cell_moved HM2.out (keepc hdr z0) hwn
  have y1 := cell_moved HM2.out (keepc hdr z1) hwn
  have d1 := HW0.out.c1
  have e1 := HW0.out.fr 1
  have d8 := HW0.out.c8
  have e8 := HW0.out.fr 8
  have HF := hid ((HW0.out.at_ m (Nat.lt_of_lt_of_eq (show m < x.s.L.length by omega) (rngS_len _ _ _).symm)).wr_ false)
  have HMF := hid ((HM0.out.trans (Moved.set (g := q) (by simp) 1 (.int .i64 m))).trans (Moved.set (g := q) (by simp) 8 (.bool false)))
  clear HW0 HM0
  go_wp2
  go_end0
  exact ⟨⟨_, rfl⟩, HF.out, HMF.out⟩
set_option maxRecDepth 100000 in
set_option maxHeartbeats 4000000 in
theorem exec_60 (d : OpD) (hk : d.kind = 60) (hx : ExOK x d) (pv tv : Value) (w : World) (h : WrM w q b g x) (hp : PairsIn w pv d.pairs) (ht : OwnB w tv d.text) (hd : ∀ k ∈ blkV tv, k ∉ [q, b, g]) : Calls Tryd.prog 45 #[.pointer (some ⟨q, 0, none⟩), opV d pv tv] w (WrD q b g (execW x d) w) := by
  obtain ⟨kd, ad, cd, gr, fa, ps, tx⟩ := d
  dsimp only at hk hp ht
  subst hk
  have hbw : w.heap.size ∉ [q, b, g] := fun k => by
    have := h.lts _ k
    omega
  obtain ⟨px, pc, rfl, -⟩ := pairs_at hp
  obtain ⟨tx0, tn, tc, rfl⟩ := own_slice ht
  have ha1 : 0 ≤ ad := hx.a1
  have ha2 : ad < x.s.L.length := hx.a2
  have hpos := h.sp.ok.pos
  have hxn := h.lt
  obtain ⟨m, rfl⟩ : ∃ m : Nat, ad = (m : Int) := ⟨ad.toNat, by omega⟩
  have him : I64 (m : Int) := i64_small (by omega) (by omega)
  have hin : I64 (x.n : Int) := i64_small (by omega) (by omega)
  have HCH := hid (fun W (hW : WrM W q b g x) => char_any cd gr W hW)
  have hco := charC_ok h.lk hx.cd gr
  have HRP := hid (fun W hW => (callsIn_wide (n := 10)).1 (repeat_in (b := b) (g := g) (s := x.s) 10 (by decide) (x.n : Int) (m : Int) hin him (charC x.lk cd gr) hco W hW))
  clear hco
  have HX := hid h
  have HPI := hid hp
  have HT := hid ht
  have HD := hid hd
  have hql := h.qlt
  have hqn1 : ¬ q = w.heap.size := by omega
  have hqn2 : ¬ w.heap.size = q := by omega
  clear h hp ht hd
  go_enter Tryd.func45, Tryd.ntmps45
  go_wp2_with fail
  obtain ⟨a0, ha0⟩ : ∃ a0, w.alloc (.cells #[.int .i64 60, .int .i64 m, .int .u8 cd, .bool gr, .int .u8 fa, .slice px ps.length pc, .slice tx0 tn tc] 93) = a0 := ⟨_, rfl⟩
  have hba : Below w.heap.size w a0 := by rw [← ha0]; exact (Below.refl _ _).alloc (Nat.le_refl _) _
  have z0 : a0.cell? ⟨w.heap.size, 0, none⟩ = some (.int .i64 60) := by rw [← ha0]; simp [go_sem]
  have z1 : a0.cell? ⟨w.heap.size, 1, none⟩ = some (.int .i64 m) := by rw [← ha0]; simp [go_sem]
  have z2 : a0.cell? ⟨w.heap.size, 2, none⟩ = some (.int .u8 cd) := by rw [← ha0]; simp [go_sem]
  have z3 : a0.cell? ⟨w.heap.size, 3, none⟩ = some (.bool gr) := by rw [← ha0]; simp [go_sem]
  have z4 : a0.cell? ⟨w.heap.size, 4, none⟩ = some (.int .u8 fa) := by rw [← ha0]; simp [go_sem]
  have z5 : a0.cell? ⟨w.heap.size, 5, none⟩ = some (.slice px ps.length pc) := by rw [← ha0]; simp [go_sem]
  have z6 : a0.cell? ⟨w.heap.size, 6, none⟩ = some (.slice tx0 tn tc) := by rw [← ha0]; simp [go_sem]
  simp only [ha0]
  have hsz : a0.heap.size = w.heap.size + 1 := by rw [← ha0]; simp
  have HBA := hid hba
  have HX0 := hid (HX.out.below hba)
  have hdr : Below a0.heap.size a0 a0.drew := (Below.refl _ _).drew
  have c0 := HX0.out.c0
  have c1 := HX0.out.c1
  have f1 := HX0.out.fr 1
  have f8 := HX0.out.fr 8
  clear ha0 hba HX
  have hqn : q ∉ [b, g] := by
    have := HX0.out.ne
    simp only [List.mem_cons, List.not_mem_nil, or_false]
    omega
  have hwn : w.heap.size ∉ [b, g] := fun k => hbw (List.mem_cons_of_mem _ k)
  go_wp2
  refine wp_region_held_drew (S := fun V => V.cell? ⟨q, 0, none⟩ = some (.pointer (some ⟨b, 0, none⟩)) ∧ V.cell? ⟨q, 1, none⟩ = some (.int .i64 x.n) ∧ V.cell? ⟨w.heap.size, 1, none⟩ = some (.int .i64 m) ∧ V.cell? ⟨w.heap.size, 2, none⟩ = some (.int .u8 cd) ∧ V.cell? ⟨w.heap.size, 3, none⟩ = some (.bool gr)) (by kernel_rfl) ?_ (fun hHeld => ?_)
  · exact ⟨keepc hdr c0, keepc hdr c1, keepc hdr z1, keepc hdr z2, keepc hdr z3⟩
  refine takeD (i := 0) (v := ?_) 58 rfl rfl (by kernel_rfl) (by kernel_rfl) (by kernel_rfl) (fun _ _ _ h => h) (by assumption) (Or.inl ⟨by rfl, ?_⟩) ?_
  rotate_left
  · intro w hSw
    (try dsimp only at hSw)
    go_simp
    try with_reducible rfl
  simp only [List.setIfInBounds_toArray, List.set_cons_zero, List.set_cons_succ]
  refine takeD (i := 1) (v := ?_) 59 rfl rfl (by kernel_rfl) (by kernel_rfl) (by kernel_rfl) (fun _ _ _ h => h) (by assumption) (Or.inl ⟨by rfl, ?_⟩) ?_
  rotate_left
  · intro w hSw
    (try dsimp only at hSw)
    go_simp
    try with_reducible rfl
  simp only [List.setIfInBounds_toArray, List.set_cons_zero, List.set_cons_succ]
  refine takeD (i := 2) (v := ?_) 60 rfl rfl (by kernel_rfl) (by kernel_rfl) (by kernel_rfl) (fun _ _ _ h => h) (by assumption) (Or.inl ⟨by rfl, ?_⟩) ?_
  rotate_left
  · intro w hSw
    (try dsimp only at hSw)
    go_simp
    try with_reducible rfl
  simp only [List.setIfInBounds_toArray, List.set_cons_zero, List.set_cons_succ]
  refine takeD (i := 3) (v := ?_) 61 rfl rfl (by kernel_rfl) (by kernel_rfl) (by kernel_rfl) (fun _ _ _ h => h) (by assumption) (Or.inl ⟨by rfl, ?_⟩) ?_
  rotate_left
  · intro w hSw
    (try dsimp only at hSw)
    go_simp
    try with_reducible rfl
  simp only [List.setIfInBounds_toArray, List.set_cons_zero, List.set_cons_succ]
  refine takeD (i := 4) (v := ?_) 62 rfl rfl (by kernel_rfl) (by kernel_rfl) (by kernel_rfl) (fun _ _ _ h => h) (by assumption) (Or.inl ⟨by rfl, ?_⟩) ?_
  rotate_left
  · intro w hSw
    (try dsimp only at hSw)
    go_simp
    try with_reducible rfl
  simp only [List.setIfInBounds_toArray, List.set_cons_zero, List.set_cons_succ]
  refine takeD (i := 5) (v := ?_) 63 rfl rfl (by kernel_rfl) (by kernel_rfl) (by kernel_rfl) (fun _ _ _ h => h) (by assumption) (Or.inl ⟨by rfl, ?_⟩) ?_
  rotate_left
  · intro w hSw
    (try dsimp only at hSw)
    go_simp
    try with_reducible rfl
  simp only [List.setIfInBounds_toArray, List.set_cons_zero, List.set_cons_succ]
  refine takeD (i := 6) (v := ?_) 64 rfl rfl (by kernel_rfl) (by kernel_rfl) (by kernel_rfl) (fun _ _ _ h => h) (by assumption) (Or.inl ⟨by rfl, ?_⟩) ?_
  rotate_left
  · intro w hSw
    (try dsimp only at hSw)
    go_simp
    try with_reducible rfl
  simp only [List.setIfInBounds_toArray, List.set_cons_zero, List.set_cons_succ]
  refine takeD (i := 7) (v := ?_) 65 rfl rfl (by kernel_rfl) (by kernel_rfl) (by kernel_rfl) (fun _ _ _ h => h) (by assumption) (Or.inl ⟨by rfl, ?_⟩) ?_
  rotate_left
  · intro w hSw
    (try dsimp only at hSw)
    go_simp
    try with_reducible rfl
  simp only [List.setIfInBounds_toArray, List.set_cons_zero, List.set_cons_succ]
  refine takeD (i := 8) (v := ?_) 66 rfl rfl (by kernel_rfl) (by kernel_rfl) (by kernel_rfl) (fun _ _ _ h => h) (by assumption) (Or.inl ⟨by rfl, ?_⟩) ?_
  rotate_left
  · intro w hSw
    (try dsimp only at hSw)
    go_simp
    try with_reducible rfl
  simp only [List.setIfInBounds_toArray, List.set_cons_zero, List.set_cons_succ]
  refine takeD (i := 9) (v := ?_) 67 rfl rfl (by kernel_rfl) (by kernel_rfl) (by kernel_rfl) (fun _ _ _ h => h) (by assumption) (Or.inl ⟨by rfl, ?_⟩) ?_
  rotate_left
  · intro w hSw
    (try dsimp only at hSw)
    go_simp
    try with_reducible rfl
  simp only [List.setIfInBounds_toArray, List.set_cons_zero, List.set_cons_succ]
  refine takeD (i := 10) (v := ?_) 68 rfl rfl (by kernel_rfl) (by kernel_rfl) (by kernel_rfl) (fun _ _ _ h => h) (by assumption) (Or.inl ⟨by rfl, ?_⟩) ?_
  rotate_left
  · intro w hSw
    (try dsimp only at hSw)
    go_simp
    try with_reducible rfl
  simp only [List.setIfInBounds_toArray, List.set_cons_zero, List.set_cons_succ]
  refine takeD (i := 11) (v := ?_) 69 rfl rfl (by kernel_rfl) (by kernel_rfl) (by kernel_rfl) (fun _ _ _ h => h) (by assumption) (Or.inl ⟨by rfl, ?_⟩) ?_
  rotate_left
  · intro w hSw
    (try dsimp only at hSw)
    go_simp
    try with_reducible rfl
  simp only [List.setIfInBounds_toArray, List.set_cons_zero, List.set_cons_succ]
  refine takeD (i := 12) (v := ?_) 70 rfl rfl (by kernel_rfl) (by kernel_rfl) (by kernel_rfl) (fun _ _ _ h => h) (by assumption) (Or.inl ⟨by rfl, ?_⟩) ?_
  rotate_left
  · intro w hSw
    (try dsimp only at hSw)
    go_simp
    try with_reducible rfl
  simp only [List.setIfInBounds_toArray, List.set_cons_zero, List.set_cons_succ]
  refine takeD (i := 13) (v := ?_) 71 rfl rfl (by kernel_rfl) (by kernel_rfl) (by kernel_rfl) (fun _ _ _ h => h) (by assumption) (Or.inl ⟨by rfl, ?_⟩) ?_
  rotate_left
  · intro w hSw
    (try dsimp only at hSw)
    go_simp
    try with_reducible rfl
  simp only [List.setIfInBounds_toArray, List.set_cons_zero, List.set_cons_succ]
  refine takeD (i := 14) (v := ?_) 72 rfl rfl (by kernel_rfl) (by kernel_rfl) (by kernel_rfl) (fun _ _ _ h => h) (by assumption) (Or.inl ⟨by rfl, ?_⟩) ?_
  rotate_left
  · intro w hSw
    (try dsimp only at hSw)
    go_simp
    try with_reducible rfl
  simp only [List.setIfInBounds_toArray, List.set_cons_zero, List.set_cons_succ]
  refine wpAnyH_ready (rs := [15]) (by kernel_rfl) (by simp) ?_
  refine AllReadyH.cons (by simp only [List.getElem?_toArray, List.getElem?_cons_succ, List.getElem?_cons_zero]; rfl) (fun K hK => ?_) AllReadyH.nil
  go_simp
  go_at_call 63; (with_reducible refine (HCH.out _ (HX0.out.below hdr)).mono ?_); rintro e w1 ⟨rfl, hb1⟩
  refine hK.out _ _ ?_ (fun hHeldN => ?_)
  · exact ⟨keepc hb1 hHeld.1, keepc hb1 hHeld.2.1, keepc hb1 hHeld.2.2.1, keepc hb1 hHeld.2.2.2.1, keepc hb1 hHeld.2.2.2.2⟩
  have HB1 := hid (below_t hdr hb1)
  clear hb1
  clear hK K hHeld
  have hHeld := hHeldN
  clear hHeldN
  (try simp only [Act.put, List.setIfInBounds_toArray, List.set_cons_zero, List.set_cons_succ])
  refine wpAnyH_ready (rs := [16]) (by kernel_rfl) (by simp) ?_
  refine AllReadyH.cons (by simp only [List.getElem?_toArray, List.getElem?_cons_succ, List.getElem?_cons_zero]; rfl) (fun K hK => ?_) AllReadyH.nil
  go_simp
  go_at_call 64; (with_reducible refine (HRP.out _ (HX0.out.sp.below HB1.out)).mono ?_); rintro e w2 ⟨rfl, hs2, hm2⟩
  refine hK.out _ _ ?_ (fun hHeldN => ?_)
  · exact ⟨cell_moved hm2 hHeld.1 hqn, cell_moved hm2 hHeld.2.1 hqn, cell_moved hm2 hHeld.2.2.1 hwn, cell_moved hm2 hHeld.2.2.2.1 hwn, cell_moved hm2 hHeld.2.2.2.2 hwn⟩
  have HS2 := hid hs2
  have HM2 := hid hm2
  clear hs2 hm2
  clear hK K hHeld
  have hHeld := hHeldN
  clear hHeldN
  (try simp only [Act.put, List.setIfInBounds_toArray, List.set_cons_zero, List.set_cons_succ])
  refine wpAnyH_done (by kernel_rfl) ?_ _
  clear hHeld
  have HW0 := hid ((HX0.out.below HB1.out).space HS2.out HM2.out (repS_len _ _ _ _))
  have HM0 := hid (((Moved.below HBA.out [q, b, g]).trans (Moved.below HB1.out _)).trans (moved_bg (q := q) HM2.out))
  have y0 := cell_moved HM2.out (keepc HB1.out z0) hwn
  have y1 := cell_moved HM2.out (keepc HB1.out z1) hwn
  have d1 := HW0.out.c1
  have e1 := HW0.out.fr 1
  have d8 := HW0.out.c8
  have e8 := HW0.out.fr 8
  have HF := hid ((HW0.out.at_ m (Nat.lt_of_lt_of_eq (show m < x.s.L.length by omega) (repS_len _ _ _ _).symm)).wr_ false)
  have HMF := hid ((HM0.out.trans (Moved.set (g := q) (by simp) 1 (.int .i64 m))).trans (Moved.set (g := q) (by simp) 8 (.bool false)))
  clear HW0 HM0
  go_wp2
  go_end0
  exact ⟨⟨_, rfl⟩, HF.out, HMF.out⟩
set_option maxRecDepth 100000 in
set_option maxHeartbeats 4000000 in
theorem exec_19 (d : OpD) (hk : d.kind = 19) (hx : ExOK x d) (pv tv : Value) (w : World) (h : WrM w q b g x) (hp : PairsIn w pv d.pairs) (ht : OwnB w tv d.text) (hd : ∀ k ∈ blkV tv, k ∉ [q, b, g]) : Calls Tryd.prog 45 #[.pointer (some ⟨q, 0, none⟩), opV d pv tv] w (WrD q b g (execW x d) w) := by
  obtain ⟨kd, ad, cd, gr, fa, ps, tx⟩ := d
  dsimp only at hk hp ht
  subst hk
  have hbw : w.heap.size ∉ [q, b, g] := fun k => by
    have := h.lts _ k
    omega
  obtain ⟨px, pc, rfl, -⟩ := pairs_at hp
  obtain ⟨tx0, tn, tc, rfl⟩ := own_slice ht
  have hpos := h.sp.ok.pos
  have hxn := h.lt
  have hin : I64 (x.n : Int) := i64_small (by omega) (by omega)
  have HPC := hid (fun W hW => place_any (b := b) (g := g) (s := x.s) (x.n : Int) hin W hW)
  have HX := hid h
  have HPI := hid hp
  have HT := hid ht
  have HD := hid hd
  have hql := h.qlt
  have hqn1 : ¬ q = w.heap.size := by omega
  have hqn2 : ¬ w.heap.size = q := by omega
  clear h hp ht hd
  go_enter Tryd.func45, Tryd.ntmps45
  go_wp2_with fail
  obtain ⟨a0, ha0⟩ : ∃ a0, w.alloc (.cells #[.int .i64 19, .int .i64 ad, .int .u8 cd, .bool gr, .int .u8 fa, .slice px ps.length pc, .slice tx0 tn tc] 93) = a0 := ⟨_, rfl⟩
  have hba : Below w.heap.size w a0 := by rw [← ha0]; exact (Below.refl _ _).alloc (Nat.le_refl _) _
  have z0 : a0.cell? ⟨w.heap.size, 0, none⟩ = some (.int .i64 19) := by rw [← ha0]; simp [go_sem]
  have z1 : a0.cell? ⟨w.heap.size, 1, none⟩ = some (.int .i64 ad) := by rw [← ha0]; simp [go_sem]
  have z2 : a0.cell? ⟨w.heap.size, 2, none⟩ = some (.int .u8 cd) := by rw [← ha0]; simp [go_sem]
  have z3 : a0.cell? ⟨w.heap.size, 3, none⟩ = some (.bool gr) := by rw [← ha0]; simp [go_sem]
  have z4 : a0.cell? ⟨w.heap.size, 4, none⟩ = some (.int .u8 fa) := by rw [← ha0]; simp [go_sem]
  have z5 : a0.cell? ⟨w.heap.size, 5, none⟩ = some (.slice px ps.length pc) := by rw [← ha0]; simp [go_sem]
  have z6 : a0.cell? ⟨w.heap.size, 6, none⟩ = some (.slice tx0 tn tc) := by rw [← ha0]; simp [go_sem]
  simp only [ha0]
  have hsz : a0.heap.size = w.heap.size + 1 := by rw [← ha0]; simp
  have HBA := hid hba
  have HX0 := hid (HX.out.below hba)
  have hdr : Below a0.heap.size a0 a0.drew := (Below.refl _ _).drew
  have c0 := HX0.out.c0
  have c1 := HX0.out.c1
  have f1 := HX0.out.fr 1
  have f8 := HX0.out.fr 8
  clear ha0 hba HX
  have hqn : q ∉ [b, g] := by
    have := HX0.out.ne
    simp only [List.mem_cons, List.not_mem_nil, or_false]
    omega
  have hwn : w.heap.size ∉ [b, g] := fun k => hbw (List.mem_cons_of_mem _ k)
  go_wp2
  refine wp_region_held_drew (S := fun V => V.cell? ⟨q, 0, none⟩ = some (.pointer (some ⟨b, 0, none⟩)) ∧ V.cell? ⟨q, 1, none⟩ = some (.int .i64 x.n)) (by kernel_rfl) ?_ (fun hHeld => ?_)
  · exact ⟨keepc hdr c0, keepc hdr c1⟩
  refine takeD (i := 0) (v := ?_) 125 rfl rfl (by kernel_rfl) (by kernel_rfl) (by kernel_rfl) (fun _ _ _ h => h) (by assumption) (Or.inl ⟨by rfl, ?_⟩) ?_
  rotate_left
  · intro w hSw
    (try dsimp only at hSw)
    go_simp
    try with_reducible rfl
  simp only [List.setIfInBounds_toArray, List.set_cons_zero, List.set_cons_succ]
  refine takeD (i := 1) (v := ?_) 126 rfl rfl (by kernel_rfl) (by kernel_rfl) (by kernel_rfl) (fun _ _ _ h => h) (by assumption) (Or.inl ⟨by rfl, ?_⟩) ?_
  rotate_left
  · intro w hSw
    (try dsimp only at hSw)
    go_simp
    try with_reducible rfl
  simp only [List.setIfInBounds_toArray, List.set_cons_zero, List.set_cons_succ]
  refine takeD (i := 2) (v := ?_) 127 rfl rfl (by kernel_rfl) (by kernel_rfl) (by kernel_rfl) (fun _ _ _ h => h) (by assumption) (Or.inl ⟨by rfl, ?_⟩) ?_
  rotate_left
  · intro w hSw
    (try dsimp only at hSw)
    go_simp
    try with_reducible rfl
  simp only [List.setIfInBounds_toArray, List.set_cons_zero, List.set_cons_succ]
  refine takeD (i := 3) (v := ?_) 128 rfl rfl (by kernel_rfl) (by kernel_rfl) (by kernel_rfl) (fun _ _ _ h => h) (by assumption) (Or.inl ⟨by rfl, ?_⟩) ?_
  rotate_left
  · intro w hSw
    (try dsimp only at hSw)
    go_simp
    try with_reducible rfl
  simp only [List.setIfInBounds_toArray, List.set_cons_zero, List.set_cons_succ]
  refine takeD (i := 4) (v := ?_) 129 rfl rfl (by kernel_rfl) (by kernel_rfl) (by kernel_rfl) (fun _ _ _ h => h) (by assumption) (Or.inl ⟨by rfl, ?_⟩) ?_
  rotate_left
  · intro w hSw
    (try dsimp only at hSw)
    go_simp
    try with_reducible rfl
  simp only [List.setIfInBounds_toArray, List.set_cons_zero, List.set_cons_succ]
  refine takeD (i := 5) (v := ?_) 130 rfl rfl (by kernel_rfl) (by kernel_rfl) (by kernel_rfl) (fun _ _ _ h => h) (by assumption) (Or.inl ⟨by rfl, ?_⟩) ?_
  rotate_left
  · intro w hSw
    (try dsimp only at hSw)
    go_simp
    try with_reducible rfl
  simp only [List.setIfInBounds_toArray, List.set_cons_zero, List.set_cons_succ]
  refine takeD (i := 6) (v := ?_) 131 rfl rfl (by kernel_rfl) (by kernel_rfl) (by kernel_rfl) (fun _ _ _ h => h) (by assumption) (Or.inl ⟨by rfl, ?_⟩) ?_
  rotate_left
  · intro w hSw
    (try dsimp only at hSw)
    go_simp
    try with_reducible rfl
  simp only [List.setIfInBounds_toArray, List.set_cons_zero, List.set_cons_succ]
  refine takeD (i := 7) (v := ?_) 132 rfl rfl (by kernel_rfl) (by kernel_rfl) (by kernel_rfl) (fun _ _ _ h => h) (by assumption) (Or.inl ⟨by rfl, ?_⟩) ?_
  rotate_left
  · intro w hSw
    (try dsimp only at hSw)
    go_simp
    try with_reducible rfl
  simp only [List.setIfInBounds_toArray, List.set_cons_zero, List.set_cons_succ]
  refine wpAnyH_ready (rs := [8]) (by kernel_rfl) (by simp) ?_
  refine AllReadyH.cons (by simp only [List.getElem?_toArray, List.getElem?_cons_succ, List.getElem?_cons_zero]; rfl) (fun K hK => ?_) AllReadyH.nil
  go_simp
  go_at_call 30; (with_reducible refine (HPC.out _ (HX0.out.sp.below hdr)).mono ?_); rintro e w2 ⟨⟨v2, rfl⟩, hs2, hm2⟩
  refine hK.out _ _ ?_ (fun hHeldN => ?_)
  · exact ⟨cell_moved hm2 hHeld.1 hqn, cell_moved hm2 hHeld.2 hqn⟩
  have HS2 := hid hs2
  have HM2 := hid hm2
  clear hs2 hm2
  clear hK K hHeld
  have hHeld := hHeldN
  clear hHeldN
  (try simp only [Act.put, List.setIfInBounds_toArray, List.set_cons_zero, List.set_cons_succ])
  refine wpAnyH_done (by kernel_rfl) ?_ _
  clear hHeld
  have HW0 := hid ((HX0.out.below hdr).space HS2.out HM2.out (place_len _ _))
  have HM0 := hid (((Moved.below HBA.out [q, b, g]).trans (Moved.below hdr _)).trans (moved_bg (q := q) HM2.out))
  have y0 := cell_moved HM2.out (keepc hdr z0) hwn
  have y1 := cell_moved HM2.out (keepc hdr z1) hwn
  have d1 := HW0.out.c1
  have e1 := HW0.out.fr 1
  have d8 := HW0.out.c8
  have e8 := HW0.out.fr 8
  have HF := hid (HW0.out.wr_ false)
  have HMF := hid (HM0.out.trans (Moved.set (g := q) (by simp) 8 (.bool false)))
  clear HW0 HM0
  go_wp2
  go_end0
  exact ⟨⟨_, rfl⟩, HF.out, HMF.out⟩
set_option maxRecDepth 100000 in
set_option maxHeartbeats 4000000 in
theorem exec_29 (d : OpD) (hk : d.kind = 29) (hx : ExOK x d) (pv tv : Value) (w : World) (h : WrM w q b g x) (hp : PairsIn w pv d.pairs) (ht : OwnB w tv d.text) (hd : ∀ k ∈ blkV tv, k ∉ [q, b, g]) : Calls Tryd.prog 45 #[.pointer (some ⟨q, 0, none⟩), opV d pv tv] w (WrD q b g (execW x d) w) := by
  obtain ⟨kd, ad, cd, gr, fa, ps, tx⟩ := d
  dsimp only at hk hp ht
  subst hk
  have hbw : w.heap.size ∉ [q, b, g] := fun k => by
    have := h.lts _ k
    omega
  obtain ⟨px, pc, rfl, -⟩ := pairs_at hp
  obtain ⟨tx0, tn, tc, rfl⟩ := own_slice ht
  have HPU := hid (fun W (hW : WrM W q b g x) => (show Calls Tryd.prog 62 #[.pointer (some ⟨q, 0, none⟩), .agg #[.int .u8 0, .bool true, .int .u8 fa, .int .u8 0, .int .u8 0, .int .u8 0]] W (WrD q b g (putW x { atC0 with fa := fa }) W) from putw_any { atC0 with fa := fa } ⟨u8_zero, hx.fa, u8_zero, u8_zero, u8_zero⟩ W hW))
  have HX := hid h
  have HPI := hid hp
  have HT := hid ht
  have HD := hid hd
  have hql := h.qlt
  have hqn1 : ¬ q = w.heap.size := by omega
  have hqn2 : ¬ w.heap.size = q := by omega
  clear h hp ht hd
  go_enter Tryd.func45, Tryd.ntmps45
  go_wp2_with fail
  obtain ⟨a0, ha0⟩ : ∃ a0, w.alloc (.cells #[.int .i64 29, .int .i64 ad, .int .u8 cd, .bool gr, .int .u8 fa, .slice px ps.length pc, .slice tx0 tn tc] 93) = a0 := ⟨_, rfl⟩
  have hba : Below w.heap.size w a0 := by rw [← ha0]; exact (Below.refl _ _).alloc (Nat.le_refl _) _
  have z0 : a0.cell? ⟨w.heap.size, 0, none⟩ = some (.int .i64 29) := by rw [← ha0]; simp [go_sem]
  have z1 : a0.cell? ⟨w.heap.size, 1, none⟩ = some (.int .i64 ad) := by rw [← ha0]; simp [go_sem]
  have z2 : a0.cell? ⟨w.heap.size, 2, none⟩ = some (.int .u8 cd) := by rw [← ha0]; simp [go_sem]
  have z3 : a0.cell? ⟨w.heap.size, 3, none⟩ = some (.bool gr) := by rw [← ha0]; simp [go_sem]
  have z4 : a0.cell? ⟨w.heap.size, 4, none⟩ = some (.int .u8 fa) := by rw [← ha0]; simp [go_sem]
  have z5 : a0.cell? ⟨w.heap.size, 5, none⟩ = some (.slice px ps.length pc) := by rw [← ha0]; simp [go_sem]
  have z6 : a0.cell? ⟨w.heap.size, 6, none⟩ = some (.slice tx0 tn tc) := by rw [← ha0]; simp [go_sem]
  simp only [ha0]
  have hsz : a0.heap.size = w.heap.size + 1 := by rw [← ha0]; simp
  have HBA := hid hba
  have HX0 := hid (HX.out.below hba)
  have hdr : Below a0.heap.size a0 a0.drew := (Below.refl _ _).drew
  have c0 := HX0.out.c0
  have c1 := HX0.out.c1
  have f1 := HX0.out.fr 1
  have f8 := HX0.out.fr 8
  clear ha0 hba HX
  go_wp2_with fail
  with_reducible refine (HPU.out _ HX0.out).mono ?_
  rintro e w2 ⟨⟨v2, rfl⟩, hw, hm⟩
  have y0 := cell_moved hm z0 hbw
  have HW := hid hw
  have HM := hid ((Moved.below HBA.out [q, b, g]).trans hm)
  clear hw hm
  have c8 := HW.out.c8
  have f8' := HW.out.fr 8
  go_wp2
  go_end0
  exact ⟨⟨_, rfl⟩, HW.out.wr_ false, HM.out.trans (Moved.set (by simp) 8 _)⟩
set_option maxRecDepth 100000 in
set_option maxHeartbeats 4000000 in
theorem exec_41 (d : OpD) (hk : d.kind = 41) (hx : ExOK x d) (pv tv : Value) (w : World) (h : WrM w q b g x) (hp : PairsIn w pv d.pairs) (ht : OwnB w tv d.text) (hd : ∀ k ∈ blkV tv, k ∉ [q, b, g]) : Calls Tryd.prog 45 #[.pointer (some ⟨q, 0, none⟩), opV d pv tv] w (WrD q b g (execW x d) w) := by
  obtain ⟨kd, ad, cd, gr, fa, ps, tx⟩ := d
  dsimp only at hk hp ht
  subst hk
  have hbw : w.heap.size ∉ [q, b, g] := fun k => by
    have := h.lts _ k
    omega
  obtain ⟨px, pc, rfl, -⟩ := pairs_at hp
  obtain ⟨tx0, tn, tc, rfl⟩ := own_slice ht
  have HAP := hid (fun W (hW : PairsIn W (.slice px ps.length pc) ps) => (show Calls Tryd.prog 65 #[.agg #[.int .u8 0, .bool true, .int .u8 0, .int .u8 0, .int .u8 0, .int .u8 0], .slice px ps.length pc] W fun e w' => e = .returned (apply_all atC0 ps).v ∧ Below W.heap.size W w' from applied_any atC0 ps hx.ps hx.pl (.slice px ps.length pc) W hW))
  have HPU := hid (fun W (hW : WrM W q b g x) => putw_any (apply_all atC0 ps) (applyAll_ok (fun p hp => (hx.ps p hp).2) atC0_ok) W hW)
  have HX := hid h
  have HPI := hid hp
  have HT := hid ht
  have HD := hid hd
  have hql := h.qlt
  have hqn1 : ¬ q = w.heap.size := by omega
  have hqn2 : ¬ w.heap.size = q := by omega
  clear h hp ht hd
  go_enter Tryd.func45, Tryd.ntmps45
  go_wp2_with fail
  obtain ⟨a0, ha0⟩ : ∃ a0, w.alloc (.cells #[.int .i64 41, .int .i64 ad, .int .u8 cd, .bool gr, .int .u8 fa, .slice px ps.length pc, .slice tx0 tn tc] 93) = a0 := ⟨_, rfl⟩
  have hba : Below w.heap.size w a0 := by rw [← ha0]; exact (Below.refl _ _).alloc (Nat.le_refl _) _
  have z0 : a0.cell? ⟨w.heap.size, 0, none⟩ = some (.int .i64 41) := by rw [← ha0]; simp [go_sem]
  have z1 : a0.cell? ⟨w.heap.size, 1, none⟩ = some (.int .i64 ad) := by rw [← ha0]; simp [go_sem]
  have z2 : a0.cell? ⟨w.heap.size, 2, none⟩ = some (.int .u8 cd) := by rw [← ha0]; simp [go_sem]
  have z3 : a0.cell? ⟨w.heap.size, 3, none⟩ = some (.bool gr) := by rw [← ha0]; simp [go_sem]
  have z4 : a0.cell? ⟨w.heap.size, 4, none⟩ = some (.int .u8 fa) := by rw [← ha0]; simp [go_sem]
  have z5 : a0.cell? ⟨w.heap.size, 5, none⟩ = some (.slice px ps.length pc) := by rw [← ha0]; simp [go_sem]
  have z6 : a0.cell? ⟨w.heap.size, 6, none⟩ = some (.slice tx0 tn tc) := by rw [← ha0]; simp [go_sem]
  simp only [ha0]
  have hsz : a0.heap.size = w.heap.size + 1 := by rw [← ha0]; simp
  have HBA := hid hba
  have HX0 := hid (HX.out.below hba)
  have hdr : Below a0.heap.size a0 a0.drew := (Below.refl _ _).drew
  have c0 := HX0.out.c0
  have c1 := HX0.out.c1
  have f1 := HX0.out.fr 1
  have f8 := HX0.out.fr 8
  clear ha0 hba HX
  have HEX : Hid (execW x ⟨41, ad, cd, gr, fa, ps, tx⟩ = { putW x (apply_all atC0 ps) with wr := false }) := rfl
  generalize apply_all atC0 ps = ca at HAP HPU HEX
  have HPI0 := hid (pairs_below HPI.out HBA.out)
  go_wp2_with fail
  with_reducible refine (HAP.out _ HPI0.out).mono ?_
  rintro e w1 ⟨rfl, hb1⟩
  have HB1 := hid hb1
  clear hb1
  go_wp2_with fail
  with_reducible refine (HPU.out _ (HX0.out.below HB1.out)).mono ?_
  rintro e w2 ⟨⟨v2, rfl⟩, hw, hm⟩
  have y0 := cell_moved hm (keepc HB1.out z0) hbw
  have HW := hid hw
  have HM := hid (((Moved.below HBA.out [q, b, g]).trans (Moved.below HB1.out _)).trans hm)
  clear hw hm
  have c8 := HW.out.c8
  have f8' := HW.out.fr 8
  go_wp2
  go_end0
  exact ⟨⟨_, rfl⟩, by rw [HEX.out]; exact HW.out.wr_ false, HM.out.trans (Moved.set (by simp) 8 _)⟩
set_option maxRecDepth 100000 in
set_option maxHeartbeats 4000000 in
theorem exec_5 (d : OpD) (hk : d.kind = 5) (hx : ExOK x d) (pv tv : Value) (w : World) (h : WrM w q b g x) (hp : PairsIn w pv d.pairs) (ht : OwnB w tv d.text) (hd : ∀ k ∈ blkV tv, k ∉ [q, b, g]) : Calls Tryd.prog 45 #[.pointer (some ⟨q, 0, none⟩), opV d pv tv] w (WrD q b g (execW x d) w) := by
  obtain ⟨kd, ad, cd, gr, fa, ps, tx⟩ := d
  dsimp only at hk hp ht
  subst hk
  have hbw : w.heap.size ∉ [q, b, g] := fun k => by
    have := h.lts _ k
    omega
  obtain ⟨px, pc, rfl, -⟩ := pairs_at hp
  obtain ⟨tx0, tn, tc, rfl⟩ := own_slice ht
  have HTB := hid (fun W (hW : WrM W q b g x) => ptab_any W hW)
  have HX := hid h
  have HPI := hid hp
  have HT := hid ht
  have HD := hid hd
  have hql := h.qlt
  have hqn1 : ¬ q = w.heap.size := by omega
  have hqn2 : ¬ w.heap.size = q := by omega
  clear h hp ht hd
  go_enter Tryd.func45, Tryd.ntmps45
  go_wp2_with fail
  obtain ⟨a0, ha0⟩ : ∃ a0, w.alloc (.cells #[.int .i64 5, .int .i64 ad, .int .u8 cd, .bool gr, .int .u8 fa, .slice px ps.length pc, .slice tx0 tn tc] 93) = a0 := ⟨_, rfl⟩
  have hba : Below w.heap.size w a0 := by rw [← ha0]; exact (Below.refl _ _).alloc (Nat.le_refl _) _
  have z0 : a0.cell? ⟨w.heap.size, 0, none⟩ = some (.int .i64 5) := by rw [← ha0]; simp [go_sem]
  have z1 : a0.cell? ⟨w.heap.size, 1, none⟩ = some (.int .i64 ad) := by rw [← ha0]; simp [go_sem]
  have z2 : a0.cell? ⟨w.heap.size, 2, none⟩ = some (.int .u8 cd) := by rw [← ha0]; simp [go_sem]
  have z3 : a0.cell? ⟨w.heap.size, 3, none⟩ = some (.bool gr) := by rw [← ha0]; simp [go_sem]
  have z4 : a0.cell? ⟨w.heap.size, 4, none⟩ = some (.int .u8 fa) := by rw [← ha0]; simp [go_sem]
  have z5 : a0.cell? ⟨w.heap.size, 5, none⟩ = some (.slice px ps.length pc) := by rw [← ha0]; simp [go_sem]
  have z6 : a0.cell? ⟨w.heap.size, 6, none⟩ = some (.slice tx0 tn tc) := by rw [← ha0]; simp [go_sem]
  simp only [ha0]
  have hsz : a0.heap.size = w.heap.size + 1 := by rw [← ha0]; simp
  have HBA := hid hba
  have HX0 := hid (HX.out.below hba)
  have hdr : Below a0.heap.size a0 a0.drew := (Below.refl _ _).drew
  have c0 := HX0.out.c0
  have c1 := HX0.out.c1
  have f1 := HX0.out.fr 1
  have f8 := HX0.out.fr 8
  clear ha0 hba HX
  go_wp2_with fail
  with_reducible refine (HTB.out _ HX0.out).mono ?_
  rintro e w2 ⟨⟨v2, rfl⟩, hw, hm⟩
  have y0 := cell_moved hm z0 hbw
  have HW := hid hw
  have HM := hid ((Moved.below HBA.out [q, b, g]).trans hm)
  clear hw hm
  have c8 := HW.out.c8
  have f8' := HW.out.fr 8
  go_wp2
  go_end0
  exact ⟨⟨_, rfl⟩, HW.out.wr_ false, HM.out.trans (Moved.set (by simp) 8 _)⟩
end
end Go.Proofs.YtdampfngdnicoaaDoor
