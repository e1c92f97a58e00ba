/-
  LinkPlain: what comes of bytes is told as it may be.
-/
import Derived.Test.YtaanpnmgibcemaaGreatDoorVB
namespace Go.Proofs.YtaanpnmgibcemaaGreatDoor
open Go.RowKit Go.Lib Go.Deep Go.Shelf
attribute [local go_sem] Oper.semAt_some

/-- An event's box. -/
structure EvB (W : World) (b : Nat) (x : Evt) (dv : Value) : Prop where
  c0 : W.cell? ⟨b, 0, none⟩ = some (.int .i64 x.kind)
  c1 : W.cell? ⟨b, 1, none⟩ = some dv
  c2 : W.cell? ⟨b, 2, none⟩ = some (.int .u8 x.hdr.t)
  c3 : W.cell? ⟨b, 3, none⟩ = some (.int .u8 x.hdr.r)
  c4 : W.cell? ⟨b, 4, none⟩ = some (.int .u8 x.hdr.s)
  c5 : W.cell? ⟨b, 5, none⟩ = some (.int .u16 x.hdr.q)
  c6 : W.cell? ⟨b, 6, none⟩ = some (.bool x.headed)
theorem EvB.moved {W V : World} {b : Nat} {x : Evt} {dv : Value} {S S' : List Nat} (h : EvB W b x dv) (m : Moved W V S S') (hb : b ∉ S) : EvB V b x dv :=
  ⟨cell_moved m h.c0 hb, cell_moved m h.c1 hb, cell_moved m h.c2 hb, cell_moved m h.c3 hb, cell_moved m h.c4 hb, cell_moved m h.c5 hb, cell_moved m h.c6 hb⟩
theorem EvB.below {W V : World} {b : Nat} {x : Evt} {dv : Value} (h : EvB W b x dv) (hb : Below W.heap.size W V) : EvB V b x dv := h.moved (Moved.below hb []) (fun q => by cases q)
theorem EvB.put {W : World} {l : Nat} {o o' : Obj} (ho : W.heap[l]? = some o) (hc : o.isCells = false) {b : Nat} {x : Evt} {dv : Value} (h : EvB W b x dv) : EvB (W.putObj l o') b x dv :=
  ⟨cell_put ho hc h.c0, cell_put ho hc h.c1, cell_put ho hc h.c2, cell_put ho hc h.c3, cell_put ho hc h.c4, cell_put ho hc h.c5, cell_put ho hc h.c6⟩
theorem EvB.lt {W : World} {b : Nat} {x : Evt} {dv : Value} (h : EvB W b x dv) : b < W.heap.size := World.block_lt_of_cell? W _ h.c0
theorem evB_new (W : World) (x : Evt) (dv : Value) : EvB (W.alloc (.cells #[.int .i64 x.kind, dv, .int .u8 x.hdr.t, .int .u8 x.hdr.r, .int .u8 x.hdr.s, .int .u16 x.hdr.q, .bool x.headed] 56)) W.heap.size x dv :=
  ⟨by simp [go_sem], by simp [go_sem], by simp [go_sem], by simp [go_sem], by simp [go_sem], by simp [go_sem], by simp [go_sem]⟩
theorem Moved.latePut {w w1 : World} {S S' : List Nat} (m : Moved w w1 S S') {b : Nat} (hb : w.heap.size ≤ b) {o : Obj} : Moved w (w1.putObj b o) S S' :=
  ⟨m.os, m.tape, m.output, by have := m.size; simpa using this, fun k hk hs => (World.putObj_heap_other (by omega)).trans (m.block k hk hs), m.from'⟩
section
variable {σ : Type} {O : Own σ} {L : Nat} {c : Cf}
theorem pre_below {x : Yl σ} {W W' : World} (h : PreY O L c x W) (hb : Below W.heap.size W W') : PreY O L c x W' :=
  ⟨h.1.below hb, reads_below h.2.1 hb, h.2.2.1, h.2.2.2.1, Nat.le_trans h.2.2.2.2.1 hb.size, held_below h.2.2.2.2.2.1 hb, held_below h.2.2.2.2.2.2.1 hb, h.2.2.2.2.2.2.2⟩
/-- What a round begins with: the event lies in its box. -/
def AxY (O : Own σ) (L : Nat) (c : Cf) (B : Nat) (fr : Value → Value → Array Value) (x : Yl σ) (a : Act) (W : World) : Prop :=
  ∃ eb, PreY O L c x W ∧ EvB W eb x.x x.dv ∧ B ≤ eb ∧ eb ∉ x.y.foot L ∧ eb ∉ O.wr x.s ∧ eb ∉ O.rd x.s ∧ a = { tmps := fr (.pointer (some ⟨eb, 0, none⟩)) (evV x.x x.dv), defers := [] }
theorem ax_booked {B m : Nat} (hO : Ofree O B) (hB : B ≤ m) {B' : Nat} (fr : Value → Value → Array Value) (x : Yl σ) (a : Act) : Booked m (AxY O L c B' fr x a) := fun W l o o' hl ho hc ⟨eb, h1, h2, h3⟩ => ⟨eb, pre_booked hO hB x W l o o' hl ho hc h1, h2.put ho hc, h3⟩
theorem ax_new {x : Yl σ} {W : World} (h : PreY O L c x W) {B : Nat} (hB : B ≤ W.heap.size) (fr : Value → Value → Array Value) : AxY O L c B fr x { tmps := fr (.pointer (some ⟨W.heap.size, 0, none⟩)) (evV x.x x.dv), defers := [] } (W.alloc (.cells #[.int .i64 x.x.kind, x.dv, .int .u8 x.x.hdr.t, .int .u8 x.x.hdr.r, .int .u8 x.x.hdr.s, .int .u16 x.x.hdr.q, .bool x.x.headed] 56)) :=
  ⟨W.heap.size, pre_below h (bal (Below.refl _ _) _), evB_new W x.x x.dv, hB, fun q => by have := h.1.lk.lt h.1.ok _ q; omega, fun q => by have := O.lt h.1.u _ q; omega, fun q => by have := O.rlt h.1.u _ q; omega, rfl⟩
end
/-- What is told is told in a mode that has it. -/
theorem told_mode {c : Cf} {k0 k : Lk} {e : Tn.Ev} {x : Evt} (h : procE c k0 e = (k, some x)) : (k.mode = 0 ∧ x.kind = 2 ∧ x.headed = false) ∨ (k.mode = 1 ∧ x.kind ≠ 2 ∧ x.headed = false) ∨ (k.mode = 2 ∧ (x.kind ≠ 2 ∨ x.headed = true)) := by
  unfold procE at h
  split at h
  · split at h
    · rename_i hm
      simp only [Prod.mk.injEq, Option.some.injEq] at h
      obtain ⟨rfl, rfl⟩ := h
      exact .inl ⟨hm, rfl, rfl⟩
    · simp at h
  · split at h
    · split at h
      · rename_i hm
        simp only [Prod.mk.injEq, Option.some.injEq] at h
        obtain ⟨rfl, rfl⟩ := h
        have e0 : k0.drop.mode = k0.mode := rfl
        rw [e0]
        unfold evtOf
        rcases mode_cases k0.ms k0.es with e | e | e
        · exact absurd e hm.2
        · have e1 : k0.mode = 1 := e
          rw [e1, if_pos rfl]
          right; left
          split <;> exact ⟨rfl, (by simp), rfl⟩
        · have e1 : k0.mode = 2 := e
          rw [e1, if_neg (by decide)]
          right; right
          refine ⟨rfl, ?_⟩
          split
          · split
            · exact .inr rfl
            · exact .inr rfl
          · split
            · exact .inl (by simp)
            · exact .inl (by simp)
      · simp at h
    · split at h
      · simp at h
      · simp at h
section
variable {L : Nat} {c : Cf} {y : Ly} {k : Lk} {w : World}
set_option maxRecDepth 100000 in
theorem agreedOn_any (B : Nat) (side : Int) (hs : side = 0 ∨ side = 1) (o : Nat) (ho : o < 256) (h : LkM w L c y k) (hB : w.cell? ⟨B, 0, none⟩ = some (.pointer (some ⟨y.M, 0, none⟩))) : Calls Tryz.prog 42 #[.int .i64 side, .int .u8 o, .pointer (some ⟨B, 0, none⟩)] w fun e w' => e = .returned (.bool (k.ms (Op.idx side o) == 1)) ∧ w = w' := by
  have H := hid (Op.on_any y.M c.A k.ms side hs o ho w h.mac)
  have hlt : B < w.heap.size := World.block_lt_of_cell? w _ hB
  generalize (k.ms (Op.idx side o) == 1) = b at H ⊢
  clear h hs ho
  go_enter Tryz.func42, Tryz.ntmps42
  go_wp2_with fail
  with_reducible refine H.out.mono ?_
  rintro e w1 ⟨rfl, rfl⟩
  go_wp2
  go_ret
  exact ⟨rfl, rfl⟩
def BdP : Unit → Lk → Evt → Value → Unit → Lk → Prop := fun _ k _ _ _ k' => k' = k
set_option maxRecDepth 100000 in
set_option maxHeartbeats 4000000 in
theorem agreed_in (n : Nat) (hn : 6 ≤ n) (p : Value) (ps : List Int) (hl : ps.length ≤ 400) (h : LkM w L c y k) (hk : LkOK c k) (hp : Reads w p ps) (ho : k.out.length + 11000 * ps.length ≤ 80000000) :
    CallsIn Fence.wide n Tryz.prog 19 #[.pointer (some ⟨L, 0, none⟩), p] w fun e w' => e = .returned (.bool true) ∧ ∃ k' y', LkM w' L c y' k' ∧ LkOK c k' ∧ Moved w w' (y.foot L) (y'.foot L) ∧ k'.out.length ≤ k.out.length + 11000 * ps.length := by
  have h1n : 1 ≤ n := by omega
  obtain ⟨x0, n0, c0, rfl⟩ := Tn.reads_any_slice hp
  have HL := hid h
  have HK := hid hk
  have HP := hid hp
  have HO := hid ho
  have HFL := hid (h.lt hk)
  clear h hk hp ho
  refine callsIn_of_wp_marks Tryz.func19 rfl trivial ?_ rfl
  simp only [Tryz.ntmps19, List.size_toArray, List.length_cons, List.length_nil, Nat.reduceAdd, Nat.reduceSub, Array.replicate_succ, Array.replicate_zero, List.push_toArray, List.append_toArray, List.nil_append, List.cons_append]
  gi_wp2
  refine ⟨trivial, ?_⟩
  obtain ⟨W0, hW0⟩ : ∃ W0, (w.alloc (.cells #[.pointer (some ⟨L, 0, none⟩)] 27)).alloc (.cells #[.bool false] 4) = W0 := ⟨_, rfl⟩
  rw [hW0]
  have hb0 : Below w.heap.size w W0 := by rw [← hW0]; exact bal (bal (Below.refl _ _) _) _
  have k0 : W0.cell? ⟨w.heap.size, 0, none⟩ = some (.pointer (some ⟨L, 0, none⟩)) := by rw [← hW0]; simp [go_sem]
  have o0 : W0.heap[w.heap.size + 1]? = some (.cells #[.bool false] 4 (0, 0)) := by
    rw [← hW0]
    have := World.alloc_heap_new (w.alloc (.cells #[.pointer (some ⟨L, 0, none⟩)] 27)) (.cells #[.bool false] 4)
    rwa [World.size_alloc] at this
  have z0 : W0.heap.size = w.heap.size + 2 := by rw [← hW0]; simp
  refine (callsIn_wide.2 (takeSeq_any (some ⟨L, 0, none⟩) _ ps W0 (reads_below HP.out hb0) (by omega))).mono ?_
  rintro e w2 ⟨b1, b2, xx, nn, dd, rfl, c1, c2, ho2, hb2, hl1, hl2, hl3⟩
  have HB2 := hid (below_t hb0 hb2)
  have k2 := keepc hb2 k0
  have o2 := (hb2.block (w.heap.size + 1) (by omega)).trans o0
  have HBO := hid (plain_both (HL.out.step HB2.out) HK.out)
  have HS2 := hid (show w.heap.size + 2 ≤ w2.heap.size by have := hb2.size; omega)
  have HAP := hid (show ∀ b ∈ b1 :: b2 :: blkV (.slice xx nn dd), b ∉ y.foot L ∧ b ∉ (plainO w2 (y.foot L)).wr () from fun b q => by
    refine ⟨fun f => ?_, fun f => by cases f⟩
    have := HFL.out b f
    rcases List.mem_cons.1 q with rfl | q
    · omega
    · rcases List.mem_cons.1 q with rfl | q
      · omega
      · have := hl3 b q
        omega)
  have HC1 := hid c1
  have HC2 := hid c2
  have HO2 := hid ho2
  have HKB := hid k2
  have HOB := hid o2
  clear hb0 k0 o0 z0 hb2 k2 o2 c1 c2 ho2 hl1 hl2 hl3 hW0
  gi_wp2
  refine rangeFunc_jointB (n := n) (w := w2) rfl h1n (gf := 64) (lb := #[.pointer (some ⟨b1, 0, none⟩), .pointer (some ⟨b2, 0, none⟩)]) rfl trivial (enters_of Tryz.func64 (by kernel_rfl) rfl)
    (encs := encY) (fun _ => rfl) (Pre := PreY (plainO w2 (y.foot L)) L c) (J := JY (plainO w2 (y.foot L)) L c BdP 0) (Jx := fun _ _ _ => False)
    (Dn := DnY (plainO w2 (y.foot L)) L c BdP () k ps) (St := fun _ _ => False)
    ?hJ ?hJx ?hDn ?hSt (AxY (plainO w2 (y.foot L)) L c w2.heap.size (fun eb e9 => #[.pointer (some ⟨L, 0, none⟩), .slice x0 n0 c0, .pointer (some ⟨w.heap.size, 0, none⟩), undef, .pointer (some ⟨w.heap.size + 1, 0, none⟩), eb, undef, undef, undef, undef, .pointer (some ⟨L, 0, none⟩), .slice x0 n0 c0, .func (.func 64) #[] #[.pointer (some ⟨b1, 0, none⟩), .pointer (some ⟨b2, 0, none⟩)], e9, undef, undef, undef, undef, undef, undef, undef, undef, undef, undef, undef, undef, undef, undef, undef, undef, undef, undef, undef, undef, undef, undef, undef, undef, undef, undef, undef, undef, undef, undef, undef, undef, undef, undef, undef, undef, undef, undef, undef, undef, undef, undef, undef, undef, undef, undef, undef, undef, undef, undef, undef, undef, undef, undef, undef, undef, undef, undef, undef, undef])) ?hAx ?assign ?body ?iter ?done ?stop
  case hJ => exact jy_booked (plain_free _ _) (Nat.le_refl _)
  case hJx => exact fun _ _ _ _ _ _ _ _ _ h => h
  case hDn => exact dn_booked (plain_free _ _) (Nat.le_refl _) _ _ _
  case hSt => exact fun _ _ _ _ _ _ _ _ h => h
  case hAx => exact fun x a => ax_booked (plain_free _ _) (Nat.le_refl _) _ x a
  case iter =>
    intro o1 o2 hc1 hc2
    have hbb : Below w2.heap.size w2 ((w2.alloc o1).alloc o2) := bal (bal (Below.refl _ _) _) _
    exact take_tells _ L c BdP 0 (by omega) (n - 1) (by omega) () k y b1 b2 xx nn dd ps _ (HBO.out.below hbb) (by omega) HO.out (fun _ _ _ _ _ _ _ => Nat.zero_le _) (show 0 + 2 * ps.length ≤ 20000 by omega) (keepc hbb HC1.out) (keepc hbb HC2.out) (HO2.out.step hbb) HAP.out
  case assign =>
    rintro l ⟨s, kx, ⟨xk, xd, ⟨ht, hr, hs, hq⟩, xh⟩, dv, yx, kp, hsz⟩ W KK hp hK
    obtain ⟨xa, xn, xc, hde⟩ := hp.2.2.1
    dsimp only at hde
    subst hde
    have HK := hid hK
    have HPP := hid hp
    clear hK hp
    unfold encY evV
    gi_wp2
    refine HK.out _ _ (KeepsOthers.alloc _ _) ?_
    exact ax_new HPP.out (Nat.le_trans HPP.out.1.u.size (Nat.le_refl _)) _
  case body =>
    rintro l ⟨s, kx, ⟨xk, xd, ⟨ht, hr, hs, hq⟩, xh⟩, dv, yx, kp, hsz⟩ a' W ⟨eb, hp, hev, hB, hfe, -, -, rfl⟩
    obtain ⟨xa, xn, xc, hde⟩ := hp.2.2.1
    obtain ⟨q0, qe, hq0, -⟩ := hp.2.2.2.2.2.2.2.1
    dsimp only at hde hq0
    subst hde
    have HM := hid (told_mode hq0)
    have HPP := hid hp
    have HLK := hid (show LkM W L c yx kx from hp.1.lk)
    have kb : W.cell? ⟨w.heap.size, 0, none⟩ = some (.pointer (some ⟨L, 0, none⟩)) := cell_moved hp.1.u HKB.out (show w.heap.size ∉ y.foot L from fun f => by have := HFL.out _ f; omega)
    have e0 := hev.c0
    have e6 := hev.c6
    have hel := hev.lt
    have hwl := World.block_lt_of_cell? W _ kb
    clear hp hev hq0
    unfold evV
    dsimp only at e0 e6
    gi_wp2_with fail
    refine ⟨trivial, fun _ => (by omega), ?_⟩
    gi_at_call 28
    refine (CallsIn.inRound l (callsIn_wide.2 (options_any HLK.out))).mono ?_
    rintro e w9 ⟨rfl, rfl⟩
    obtain ⟨W1, hW1⟩ : ∃ W1, W.alloc (.cells #[.pointer (some ⟨yx.M, 0, none⟩)] 63) = W1 := ⟨_, rfl⟩
    have hb1 : Below W.heap.size W W1 := by rw [← hW1]; exact bal (Below.refl _ _) _
    have hB1 : W1.cell? ⟨W.heap.size, 0, none⟩ = some (.pointer (some ⟨yx.M, 0, none⟩)) := by rw [← hW1]; simp [go_sem]
    have HLK1 := hid (HLK.out.step hb1)
    have HBW := hid hb1
    have kb1 := keepc hb1 kb
    have hwl1 := World.block_lt_of_cell? W1 _ kb1
    replace e0 := keepc hb1 e0
    replace e6 := keepc hb1 e6
    have hel1 := World.block_lt_of_cell? W1 _ e0
    have H1 := hid (show Calls Tryz.prog 42 #[.int .i64 0, .int .u8 0, .pointer (some ⟨W.heap.size, 0, none⟩)] W1 fun e w' => e = .returned (.bool (kx.ms 0 == 1)) ∧ W1 = w' from agreedOn_any W.heap.size 0 (by decide) 0 (by decide) HLK1.out hB1)
    have H2 := hid (show Calls Tryz.prog 42 #[.int .i64 1, .int .u8 0, .pointer (some ⟨W.heap.size, 0, none⟩)] W1 fun e w' => e = .returned (.bool (kx.ms 256 == 1)) ∧ W1 = w' from agreedOn_any W.heap.size 1 (by decide) 0 (by decide) HLK1.out hB1)
    have H3 := hid (show Calls Tryz.prog 42 #[.int .i64 0, .int .u8 25, .pointer (some ⟨W.heap.size, 0, none⟩)] W1 fun e w' => e = .returned (.bool (kx.ms 25 == 1)) ∧ W1 = w' from agreedOn_any W.heap.size 0 (by decide) 25 (by decide) HLK1.out hB1)
    have H4 := hid (show Calls Tryz.prog 42 #[.int .i64 1, .int .u8 25, .pointer (some ⟨W.heap.size, 0, none⟩)] W1 fun e w' => e = .returned (.bool (kx.ms 281 == 1)) ∧ W1 = w' from agreedOn_any W.heap.size 1 (by decide) 25 (by decide) HLK1.out hB1)
    have H5 := hid (show Calls Tryz.prog 42 #[.int .i64 0, .int .u8 24, .pointer (some ⟨W.heap.size, 0, none⟩)] W1 fun e w' => e = .returned (.bool (kx.ms 24 == 1)) ∧ W1 = w' from agreedOn_any W.heap.size 0 (by decide) 24 (by decide) HLK1.out hB1)
    have H6 := hid (show Calls Tryz.prog 42 #[.int .i64 0, .int .u8 40, .pointer (some ⟨W.heap.size, 0, none⟩)] W1 fun e w' => e = .returned (.bool (kx.ms 40 == 1)) ∧ W1 = w' from agreedOn_any W.heap.size 0 (by decide) 40 (by decide) HLK1.out hB1)
    have HEN := hid (end_link HLK1.out)
    have HRD := hid (Ng.ready_any yx.E yx.sv yx.av c.T c.D c.fs kx.es kx.dev kx.ag _ HLK1.out.en)
    have hcase : (xk = 2 ∧ xh = false ∧ (((kx.ms 40 == 1) = true ∧ (kx.es == 3) = false) ∨ ((kx.ms 40 == 1) = false ∧ ((kx.ms 0 == 1) && ((kx.ms 256 == 1) && ((kx.ms 25 == 1) && ((kx.ms 281 == 1) && (kx.ms 24 == 1))))) = false))) ∨ (xk ≠ 2 ∧ (kx.ms 40 == 1) = false ∧ (kx.ms 0 == 1) = true ∧ (kx.ms 256 == 1) = true ∧ (kx.ms 25 == 1) = true ∧ (kx.ms 281 == 1) = true ∧ (kx.ms 24 == 1) = true) ∨ ((kx.ms 40 == 1) = true ∧ (kx.es == 3) = true ∧ (xk ≠ 2 ∨ xh = true)) := by
      have h := HM.out
      try dsimp only at h
      unfold Lk.mode modeF at h
      by_cases e40 : kx.ms 40 = 1
      · rw [if_pos e40] at h
        by_cases e3 : kx.es = 3
        · rw [if_pos e3] at h
          simp at h
          right; right
          exact ⟨by simpa using e40, by simpa using e3, h⟩
        · rw [if_neg e3] at h
          simp at h
          left
          exact ⟨h.1, h.2, .inl ⟨by simpa using e40, by simpa using e3⟩⟩
      · rw [if_neg e40] at h
        by_cases e5 : kx.ms 0 = 1 ∧ kx.ms 256 = 1 ∧ kx.ms 25 = 1 ∧ kx.ms 281 = 1 ∧ kx.ms 24 = 1
        · rw [if_pos e5] at h
          simp at h
          right; left
          obtain ⟨g0, g1, g2, g3, g4⟩ := e5
          exact ⟨h.1, by simpa using e40, by simpa using g0, by simpa using g1, by simpa using g2, by simpa using g3, by simpa using g4⟩
        · rw [if_neg e5] at h
          simp at h
          left
          refine ⟨h.1, h.2, .inr ⟨by simpa using e40, ?_⟩⟩
          cases hb : ((kx.ms 0 == 1) && ((kx.ms 256 == 1) && ((kx.ms 25 == 1) && ((kx.ms 281 == 1) && (kx.ms 24 == 1)))))
          · rfl
          · simp at hb
            exact absurd hb e5
    have HJ := hid (fun (W' : World) (hb : Below W1.heap.size W1 W') => (show JY (plainO w2 (y.foot L)) L c BdP 0 ⟨s, kx, ⟨xk, xd, ⟨ht, hr, hs, hq⟩, xh⟩, .slice xa xn xc, yx, kp, hsz⟩ W' ∧ KeepsOthers W W' from ⟨jy_same rfl HPP.out (below_t HBW.out hb), keeps_below (below_t HBW.out hb)⟩))
    clear hb1 hB1 HM HPP hel1
    generalize (kx.ms 0 == 1) = q1 at H1 hcase
    generalize (kx.ms 256 == 1) = q2 at H2 hcase
    generalize (kx.ms 25 == 1) = q3 at H3 hcase
    generalize (kx.ms 281 == 1) = q4 at H4 hcase
    generalize (kx.ms 24 == 1) = q5 at H5 hcase
    generalize (kx.ms 40 == 1) = q6 at H6 hcase
    generalize (kx.es == 3) = q7 at HRD hcase
    dsimp only
    iterate 40 (first | (show Code.wpIn _ _ _ (Code.seq (Code.region 5 _ _) _) _ _ _) | gi_step | gi_guarded | go_values)
    refine wpIn_seq ?_
    refine wpIn_mono (Q := fun e a' w' => e = .normal ∧ w' = W1 ∧ ∃ v17 v18 v19 v20 v21 v22 v23 v24 v25 v26 v27 v28 v29 v30 v31 v32 v33 v34 v35 v36 v37 v38 v39 : Value, a' = { tmps := #[.pointer (some ⟨L, 0, none⟩), .slice x0 n0 c0, .pointer (some ⟨w.heap.size, 0, none⟩), undef, .pointer (some ⟨w.heap.size + 1, 0, none⟩), .pointer (some ⟨eb, 0, none⟩), .pointer (some ⟨W.heap.size, 0, none⟩), .func (.func 42) #[] #[.pointer (some ⟨W.heap.size, 0, none⟩)], .bool (q1 && (q2 && (q3 && (q4 && (q5 && !q6))))), undef, .pointer (some ⟨L, 0, none⟩), .slice x0 n0 c0, .func (.func 64) #[] #[.pointer (some ⟨b1, 0, none⟩), .pointer (some ⟨b2, 0, none⟩)], .agg #[.int .i64 xk, .slice xa xn xc, .int .u8 ht, .int .u8 hr, .int .u8 hs, .int .u16 hq, .bool xh], .pointer (some ⟨L, 0, none⟩), .pointer (some ⟨yx.M, 0, none⟩), .func (.func 42) #[] #[.pointer (some ⟨W.heap.size, 0, none⟩)], v17, v18, v19, v20, v21, v22, v23, v24, v25, v26, v27, v28, v29, v30, v31, v32, v33, v34, v35, v36, v37, v38, v39, undef, undef, undef, undef, undef, undef, undef, undef, undef, undef, undef, undef, undef, undef, undef, undef, undef, undef, undef, undef, undef, undef, undef, undef, undef, undef, undef, undef, undef, undef, undef, undef, undef, undef], defers := [] }) ?reg ?rest
    case reg =>
      gi_wp2_with fail
      refine ⟨trivial, fun _ => (by omega), ?_⟩
      gi_at_call 42
      refine (CallsIn.inRound l (callsIn_wide.2 H1.out)).mono ?_
      rintro e w9 ⟨rfl, rfl⟩
      cases q1
      · gi_wp2_with fail
        refine ⟨fun _ f => (by cases f), ?_⟩
        first | (rename_i aK; refine aK _ _ ?_) | (rename_i aK _; refine aK _ _ ?_) | (rename_i aK _ _; refine aK _ _ ?_) | (rename_i aK _ _ _; refine aK _ _ ?_) | (rename_i aK _ _ _ _; refine aK _ _ ?_) | (rename_i aK _ _ _ _ _; refine aK _ _ ?_)
        clear aK
        gi_wp2_with fail
        refine ⟨fun _ f => (by cases f), ?_⟩
        first | (rename_i aK; refine aK _ _ ?_) | (rename_i aK _; refine aK _ _ ?_) | (rename_i aK _ _; refine aK _ _ ?_) | (rename_i aK _ _ _; refine aK _ _ ?_) | (rename_i aK _ _ _ _; refine aK _ _ ?_) | (rename_i aK _ _ _ _ _; refine aK _ _ ?_)
        clear aK
        gi_wp2_with fail
        refine ⟨fun _ f => (by cases f), ?_⟩
        first | (rename_i aK; refine aK _ _ ?_) | (rename_i aK _; refine aK _ _ ?_) | (rename_i aK _ _; refine aK _ _ ?_) | (rename_i aK _ _ _; refine aK _ _ ?_) | (rename_i aK _ _ _ _; refine aK _ _ ?_) | (rename_i aK _ _ _ _ _; refine aK _ _ ?_)
        clear aK
        gi_wp2_with fail
        refine ⟨fun _ f => (by cases f), ?_⟩
        first | (rename_i aK; refine aK _ _ ?_) | (rename_i aK _; refine aK _ _ ?_) | (rename_i aK _ _; refine aK _ _ ?_) | (rename_i aK _ _ _; refine aK _ _ ?_) | (rename_i aK _ _ _ _; refine aK _ _ ?_) | (rename_i aK _ _ _ _ _; refine aK _ _ ?_)
        clear aK
        gi_wp2_with fail
        refine ⟨fun _ f => (by cases f), ?_⟩
        first | (rename_i aK; refine aK _ _ ?_) | (rename_i aK _; refine aK _ _ ?_) | (rename_i aK _ _; refine aK _ _ ?_) | (rename_i aK _ _ _; refine aK _ _ ?_) | (rename_i aK _ _ _ _; refine aK _ _ ?_) | (rename_i aK _ _ _ _ _; refine aK _ _ ?_)
        clear aK
        gi_wp2_with fail
      · gi_wp2_with fail
        refine ⟨trivial, fun _ => (by omega), ?_⟩
        gi_at_call 42
        refine (CallsIn.inRound l (callsIn_wide.2 H2.out)).mono ?_
        rintro e w9 ⟨rfl, rfl⟩
        cases q2
        · gi_wp2_with fail
          refine ⟨fun _ f => (by cases f), ?_⟩
          first | (rename_i aK; refine aK _ _ ?_) | (rename_i aK _; refine aK _ _ ?_) | (rename_i aK _ _; refine aK _ _ ?_) | (rename_i aK _ _ _; refine aK _ _ ?_) | (rename_i aK _ _ _ _; refine aK _ _ ?_) | (rename_i aK _ _ _ _ _; refine aK _ _ ?_)
          clear aK
          gi_wp2_with fail
          refine ⟨fun _ f => (by cases f), ?_⟩
          first | (rename_i aK; refine aK _ _ ?_) | (rename_i aK _; refine aK _ _ ?_) | (rename_i aK _ _; refine aK _ _ ?_) | (rename_i aK _ _ _; refine aK _ _ ?_) | (rename_i aK _ _ _ _; refine aK _ _ ?_) | (rename_i aK _ _ _ _ _; refine aK _ _ ?_)
          clear aK
          gi_wp2_with fail
          refine ⟨fun _ f => (by cases f), ?_⟩
          first | (rename_i aK; refine aK _ _ ?_) | (rename_i aK _; refine aK _ _ ?_) | (rename_i aK _ _; refine aK _ _ ?_) | (rename_i aK _ _ _; refine aK _ _ ?_) | (rename_i aK _ _ _ _; refine aK _ _ ?_) | (rename_i aK _ _ _ _ _; refine aK _ _ ?_)
          clear aK
          gi_wp2_with fail
          refine ⟨fun _ f => (by cases f), ?_⟩
          first | (rename_i aK; refine aK _ _ ?_) | (rename_i aK _; refine aK _ _ ?_) | (rename_i aK _ _; refine aK _ _ ?_) | (rename_i aK _ _ _; refine aK _ _ ?_) | (rename_i aK _ _ _ _; refine aK _ _ ?_) | (rename_i aK _ _ _ _ _; refine aK _ _ ?_)
          clear aK
          gi_wp2_with fail
        · gi_wp2_with fail
          refine ⟨trivial, fun _ => (by omega), ?_⟩
          gi_at_call 42
          refine (CallsIn.inRound l (callsIn_wide.2 H3.out)).mono ?_
          rintro e w9 ⟨rfl, rfl⟩
          cases q3
          · gi_wp2_with fail
            refine ⟨fun _ f => (by cases f), ?_⟩
            first | (rename_i aK; refine aK _ _ ?_) | (rename_i aK _; refine aK _ _ ?_) | (rename_i aK _ _; refine aK _ _ ?_) | (rename_i aK _ _ _; refine aK _ _ ?_) | (rename_i aK _ _ _ _; refine aK _ _ ?_) | (rename_i aK _ _ _ _ _; refine aK _ _ ?_)
            clear aK
            gi_wp2_with fail
            refine ⟨fun _ f => (by cases f), ?_⟩
            first | (rename_i aK; refine aK _ _ ?_) | (rename_i aK _; refine aK _ _ ?_) | (rename_i aK _ _; refine aK _ _ ?_) | (rename_i aK _ _ _; refine aK _ _ ?_) | (rename_i aK _ _ _ _; refine aK _ _ ?_) | (rename_i aK _ _ _ _ _; refine aK _ _ ?_)
            clear aK
            gi_wp2_with fail
            refine ⟨fun _ f => (by cases f), ?_⟩
            first | (rename_i aK; refine aK _ _ ?_) | (rename_i aK _; refine aK _ _ ?_) | (rename_i aK _ _; refine aK _ _ ?_) | (rename_i aK _ _ _; refine aK _ _ ?_) | (rename_i aK _ _ _ _; refine aK _ _ ?_) | (rename_i aK _ _ _ _ _; refine aK _ _ ?_)
            clear aK
            gi_wp2_with fail
          · gi_wp2_with fail
            refine ⟨trivial, fun _ => (by omega), ?_⟩
            gi_at_call 42
            refine (CallsIn.inRound l (callsIn_wide.2 H4.out)).mono ?_
            rintro e w9 ⟨rfl, rfl⟩
            cases q4
            · gi_wp2_with fail
              refine ⟨fun _ f => (by cases f), ?_⟩
              first | (rename_i aK; refine aK _ _ ?_) | (rename_i aK _; refine aK _ _ ?_) | (rename_i aK _ _; refine aK _ _ ?_) | (rename_i aK _ _ _; refine aK _ _ ?_) | (rename_i aK _ _ _ _; refine aK _ _ ?_) | (rename_i aK _ _ _ _ _; refine aK _ _ ?_)
              clear aK
              gi_wp2_with fail
              refine ⟨fun _ f => (by cases f), ?_⟩
              first | (rename_i aK; refine aK _ _ ?_) | (rename_i aK _; refine aK _ _ ?_) | (rename_i aK _ _; refine aK _ _ ?_) | (rename_i aK _ _ _; refine aK _ _ ?_) | (rename_i aK _ _ _ _; refine aK _ _ ?_) | (rename_i aK _ _ _ _ _; refine aK _ _ ?_)
              clear aK
              gi_wp2_with fail
            · gi_wp2_with fail
              refine ⟨trivial, fun _ => (by omega), ?_⟩
              gi_at_call 42
              refine (CallsIn.inRound l (callsIn_wide.2 H5.out)).mono ?_
              rintro e w9 ⟨rfl, rfl⟩
              cases q5
              · gi_wp2_with fail
                refine ⟨fun _ f => (by cases f), ?_⟩
                first | (rename_i aK; refine aK _ _ ?_) | (rename_i aK _; refine aK _ _ ?_) | (rename_i aK _ _; refine aK _ _ ?_) | (rename_i aK _ _ _; refine aK _ _ ?_) | (rename_i aK _ _ _ _; refine aK _ _ ?_) | (rename_i aK _ _ _ _ _; refine aK _ _ ?_)
                clear aK
                gi_wp2_with fail
              · gi_wp2_with fail
                refine ⟨trivial, fun _ => (by omega), ?_⟩
                gi_at_call 42
                refine (CallsIn.inRound l (callsIn_wide.2 H6.out)).mono ?_
                rintro e w9 ⟨rfl, rfl⟩
                cases q6
                · gi_wp2_with fail
                · gi_wp2_with fail
    case rest =>
      rintro e a' w' ⟨rfl, rfl, v17, v18, v19, v20, v21, v22, v23, v24, v25, v26, v27, v28, v29, v30, v31, v32, v33, v34, v35, v36, v37, v38, v39, rfl⟩
      show Code.wpIn _ _ _ _ _ _ _
      have hc2 : (xk = 2 ∧ xh = false ∧ (q1 && (q2 && (q3 && (q4 && (q5 && !q6))))) = false ∧ ((q6 = true ∧ q7 = false) ∨ q6 = false)) ∨ (xk ≠ 2 ∧ q6 = false ∧ (q1 && (q2 && (q3 && (q4 && (q5 && !q6))))) = true) ∨ (q6 = true ∧ q7 = true ∧ (q1 && (q2 && (q3 && (q4 && (q5 && !q6))))) = false ∧ (xk ≠ 2 ∨ xh = true)) := by
        rcases hcase with ⟨h1, h2, ⟨rfl, rfl⟩ | ⟨rfl, h3⟩⟩ | ⟨h1, rfl, rfl, rfl, rfl, rfl, rfl⟩ | ⟨rfl, rfl, h1⟩
        · exact .inl ⟨h1, h2, by simp, .inl ⟨rfl, rfl⟩⟩
        · exact .inl ⟨h1, h2, by simpa using h3, .inr rfl⟩
        · exact .inr (.inl ⟨h1, rfl, rfl⟩)
        · exact .inr (.inr ⟨rfl, rfl, by simp, h1⟩)
      generalize (q1 && (q2 && (q3 && (q4 && (q5 && !q6))))) = bas at hc2 ⊢
      clear hcase H1 H2 H3 H4 H5
      rcases hc2 with ⟨rfl, rfl, rfl, ⟨rfl, rfl⟩ | rfl⟩ | ⟨hk2, rfl, rfl⟩ | ⟨rfl, rfl, rfl, hkh⟩
      · gi_wp2_with fail
        refine ⟨trivial, fun _ => (by omega), ?_⟩
        gi_at_call 42
        refine (CallsIn.inRound l (callsIn_wide.2 H6.out)).mono ?_
        rintro e w9 ⟨rfl, rfl⟩
        gi_wp2_with fail
        refine ⟨trivial, fun _ => (by omega), ?_⟩
        gi_at_call 17
        refine (CallsIn.inRound l (callsIn_wide.2 HEN.out)).mono ?_
        rintro e w9 ⟨rfl, rfl⟩
        gi_wp2_with fail
        refine ⟨trivial, fun _ => (by omega), ?_⟩
        gi_at_call 37
        refine (CallsIn.inRound l (callsIn_wide.2 HRD.out)).mono ?_
        rintro e w9 ⟨rfl, rfl⟩
        gi_wp2_with fail
        exact ⟨(HJ.out _ (Below.refl _ _)).2, (HJ.out _ (Below.refl _ _)).1⟩
      · gi_wp2_with fail
        refine ⟨trivial, fun _ => (by omega), ?_⟩
        gi_at_call 42
        refine (CallsIn.inRound l (callsIn_wide.2 H6.out)).mono ?_
        rintro e w9 ⟨rfl, rfl⟩
        gi_wp2_with fail
        refine ⟨trivial, ?_⟩
        first | (rename_i aK; refine aK _ _ ?_) | (rename_i aK _; refine aK _ _ ?_) | (rename_i aK _ _; refine aK _ _ ?_) | (rename_i aK _ _ _; refine aK _ _ ?_) | (rename_i aK _ _ _ _; refine aK _ _ ?_) | (rename_i aK _ _ _ _ _; refine aK _ _ ?_)
        clear aK
        gi_wp2_with fail
        refine ⟨trivial, ?_⟩
        first | (rename_i aK; refine aK _ _ ?_) | (rename_i aK _; refine aK _ _ ?_) | (rename_i aK _ _; refine aK _ _ ?_) | (rename_i aK _ _ _; refine aK _ _ ?_) | (rename_i aK _ _ _ _; refine aK _ _ ?_) | (rename_i aK _ _ _ _ _; refine aK _ _ ?_)
        clear aK
        gi_wp2_with fail
        exact ⟨(HJ.out _ (Below.refl _ _)).2, (HJ.out _ (Below.refl _ _)).1⟩
      · have hk3 : (xk == 2) = false := by simpa using hk2
        gi_wp2_with fail
        refine ⟨trivial, fun _ => (by omega), ?_⟩
        gi_at_call 42
        refine (CallsIn.inRound l (callsIn_wide.2 H6.out)).mono ?_
        rintro e w9 ⟨rfl, rfl⟩
        gi_wp2_with fail
        refine ⟨trivial, ?_⟩
        first | (rename_i aK; refine aK _ _ ?_) | (rename_i aK _; refine aK _ _ ?_) | (rename_i aK _ _; refine aK _ _ ?_) | (rename_i aK _ _ _; refine aK _ _ ?_) | (rename_i aK _ _ _ _; refine aK _ _ ?_) | (rename_i aK _ _ _ _ _; refine aK _ _ ?_)
        clear aK
        gi_wp2_with fail
        refine ⟨trivial, ?_⟩
        first | (rename_i aK; refine aK _ _ ?_) | (rename_i aK _; refine aK _ _ ?_) | (rename_i aK _ _; refine aK _ _ ?_) | (rename_i aK _ _ _; refine aK _ _ ?_) | (rename_i aK _ _ _ _; refine aK _ _ ?_) | (rename_i aK _ _ _ _ _; refine aK _ _ ?_)
        clear aK
        gi_wp2_with fail
        exact ⟨(HJ.out _ (Below.refl _ _)).2, (HJ.out _ (Below.refl _ _)).1⟩
      · by_cases hk2 : xk = 2
        · subst hk2
          obtain rfl : xh = true := by rcases hkh with f | f <;> first | exact f | exact absurd rfl f
          gi_wp2_with fail
          refine ⟨trivial, fun _ => (by omega), ?_⟩
          gi_at_call 42
          refine (CallsIn.inRound l (callsIn_wide.2 H6.out)).mono ?_
          rintro e w9 ⟨rfl, rfl⟩
          gi_wp2_with fail
          refine ⟨trivial, fun _ => (by omega), ?_⟩
          gi_at_call 17
          refine (CallsIn.inRound l (callsIn_wide.2 HEN.out)).mono ?_
          rintro e w9 ⟨rfl, rfl⟩
          gi_wp2_with fail
          refine ⟨trivial, fun _ => (by omega), ?_⟩
          gi_at_call 37
          refine (CallsIn.inRound l (callsIn_wide.2 HRD.out)).mono ?_
          rintro e w9 ⟨rfl, rfl⟩
          gi_wp2_with fail
          exact ⟨(HJ.out _ (Below.refl _ _)).2, (HJ.out _ (Below.refl _ _)).1⟩
        · have hk3 : (xk == 2) = false := by simpa using hk2
          clear hkh
          gi_wp2_with fail
          refine ⟨trivial, fun _ => (by omega), ?_⟩
          gi_at_call 42
          refine (CallsIn.inRound l (callsIn_wide.2 H6.out)).mono ?_
          rintro e w9 ⟨rfl, rfl⟩
          gi_wp2_with fail
          refine ⟨trivial, fun _ => (by omega), ?_⟩
          gi_at_call 17
          refine (CallsIn.inRound l (callsIn_wide.2 HEN.out)).mono ?_
          rintro e w9 ⟨rfl, rfl⟩
          gi_wp2_with fail
          refine ⟨trivial, fun _ => (by omega), ?_⟩
          gi_at_call 37
          refine (CallsIn.inRound l (callsIn_wide.2 HRD.out)).mono ?_
          rintro e w9 ⟨rfl, rfl⟩
          gi_wp2_with fail
          exact ⟨(HJ.out _ (Below.refl _ _)).2, (HJ.out _ (Below.refl _ _)).1⟩
  case done =>
    rintro D W hD ⟨s', k', y', es, -, -, -, hbo, hout⟩ hK
    have hmv : Moved w2 W (y.foot L) (y'.foot L) := kept_foot hbo.u hbo.ar
    have ho1 : W.heap[w.heap.size + 1]? = some (.cells #[.bool false] 4 (0, 0)) := (hmv.block _ (by have := HS2.out; omega) (fun f => by have := HFL.out _ f; omega)).trans HOB.out
    have HMV := hid hmv
    have HBX := hid hbo
    have HOUT := hid hout
    have HK1 := hid hK
    have HO1 := hid ho1
    have hc1 : W.cell? ⟨w.heap.size + 1, 0, none⟩ = some (.bool false) := by simp [World.cell?, ho1]
    have hf1 : W.frozen? ⟨w.heap.size + 1, 0, none⟩ = false := by simp [World.frozen?, ho1]
    have hl1 := World.block_lt_of_cell? W _ hc1
    clear hmv hbo hout hK ho1
    have hD2 : w.heap.size + 2 ≤ D := Nat.le_trans HS2.out hD
    have HCT := hid (show (W.setCell ⟨w.heap.size + 1, 0, none⟩ (.bool true)).heap[D]? = some (.deferred (some [])) from (Go.heap_setCell_other W ⟨w.heap.size + 1, 0, none⟩ D _ (by simp; omega)).trans HK1.out)
    have hrf : w.heap.size + 1 ∉ y'.foot L := HBX.out.ar _ (mem_kept.2 ⟨by have := HS2.out; omega, fun f => by have := HFL.out _ f; omega⟩)
    have hL1 : LkM (W.setCell ⟨w.heap.size + 1, 0, none⟩ (.bool true)) L c y' k' := HBX.out.lk.moved (Moved.set (S := [w.heap.size + 1]) (by simp) 0 _) (fun b q f => hrf (by simp at f; exact f ▸ q))
    have HFIN := hid (show LkM ((W.setCell ⟨w.heap.size + 1, 0, none⟩ (.bool true)).putObj D (.deferred none)) L c y' k' ∧ LkOK c k' ∧ Moved w ((W.setCell ⟨w.heap.size + 1, 0, none⟩ (.bool true)).putObj D (.deferred none)) (y.foot L) (y'.foot L) from
      ⟨hL1.moved (moved_put _ D _) (fun b q f => noncell HCT.out rfl (hL1.cel HBX.out.ok b q) (by simpa using f)), HBX.out.ok, (((Moved.below HB2.out _).trans HMV.out).late (by omega) 0 _).latePut (by omega)⟩)
    have HRES := hid (show ((W.setCell ⟨w.heap.size + 1, 0, none⟩ (.bool true)).putObj D (.deferred none)).cell? ⟨w.heap.size + 1, 0, none⟩ = some (.bool true) from cell_put HCT.out rfl (World.cell?_setCell_same _ _ _ hc1))
    clear hL1 hrf
    gi_wp2
    refine ⟨by simp, .inl ⟨_, _, rfl, run_takeDeferred HCT.out, ?_⟩⟩
    have hres := HRES.out
    exact ⟨.bool true, by simp [results, Tryz.f19, go_sem, hres], rfl, k', y', HFIN.out.1, HFIN.out.2.1, HFIN.out.2.2, HOUT.out⟩
  case stop => exact fun _ _ _ _ f => f.elim
end
end Go.Proofs.YtaanpnmgibcemaaGreatDoor
