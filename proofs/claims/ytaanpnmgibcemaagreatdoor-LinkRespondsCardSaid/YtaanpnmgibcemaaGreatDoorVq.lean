/-
  The iterator of Take: what it tells, with a loop's body that may change the link.
-/
import Derived.Test.YtaanpnmgibcemaaGreatDoorVp
namespace Go.Proofs.YtaanpnmgibcemaaGreatDoor
open Go.RowKit Go.Lib Go.Deep Go.Shelf
attribute [local go_sem] Oper.semAt_some

section
variable {σ : Type} {O : Own σ} {L : Nat} {c : Cf} {s : σ} {k k' : Lk} {y y' : Ly} {w w0 w' : World}
theorem Both.link (h : Both O L c s k y w) (h' : LkM w' L c y' k') (ok : LkOK c k') (m : Moved w w' (y.foot L) (y'.foot L)) : Both O L c s k' y' w' :=
  ⟨h', ok, O.moved h.u m h.aw h.ar, fun b q => foot_new m (O.lt h.u b q) (h.aw b q), fun b q => foot_new m (O.rlt h.u b q) (h.ar b q)⟩
theorem Both.below (h : Both O L c s k y w) (hb : Below w.heap.size w w') : Both O L c s k y w' := h.link (h.lk.step hb) h.ok (Moved.below hb _)
/-- Blocks that lie as they lay, and are no part of the link, nor of what the loop writes. -/
def Kp (O : Own σ) (L : Nat) (w0 : World) (bs : List Nat) (s : σ) (y : Ly) (w : World) : Prop := ∀ b ∈ bs, b < w0.heap.size ∧ w.heap[b]? = w0.heap[b]? ∧ b ∉ y.foot L ∧ b ∉ O.wr s
theorem Kp.link {bs : List Nat} (h : Kp O L w0 bs s y w) (hs : w0.heap.size ≤ w.heap.size) (m : Moved w w' (y.foot L) (y'.foot L)) : Kp O L w0 bs s y' w' := fun b q => by
  obtain ⟨h1, h2, h3, h4⟩ := h b q
  exact ⟨h1, (m.block b (by omega) h3).trans h2, foot_new m (by omega) h3, h4⟩
theorem Kp.below {bs : List Nat} (h : Kp O L w0 bs s y w) (hs : w0.heap.size ≤ w.heap.size) (hb : Below w.heap.size w w') : Kp O L w0 bs s y w' := h.link hs (Moved.below hb _)
/-- The blocks with what lies there. -/
def keepOf (w : World) (bs : List Nat) : List (Nat × Obj) := bs.filterMap fun b => (w.heap[b]?).map fun o => (b, o)
theorem held_of {bs : List Nat} (hc : ∀ b ∈ bs, ∃ cs t fz, w0.heap[b]? = some (.cells cs t fz)) (h : Kp O L w0 bs s y w) : Held (keepOf w0 bs) w (y.foot L) ∧ Held (keepOf w0 bs) w (O.wr s) := by
  have key : ∀ p ∈ keepOf w0 bs, p.1 ∈ bs ∧ w0.heap[p.1]? = some p.2 ∧ p.2.isCells = true := fun p hp => by
    obtain ⟨b, hb, e⟩ := List.mem_filterMap.1 hp
    obtain ⟨o, ho, rfl⟩ := Option.map_eq_some_iff.1 e
    obtain ⟨cs, t, fz, q⟩ := hc b hb
    refine ⟨hb, ho, ?_⟩
    rw [ho] at q
    cases q
    rfl
  exact ⟨fun p hp => ⟨(h p.1 (key p hp).1).2.1.trans (key p hp).2.1, (h p.1 (key p hp).1).2.2.1, (key p hp).2.2⟩, fun p hp => ⟨(h p.1 (key p hp).1).2.1.trans (key p hp).2.1, (h p.1 (key p hp).1).2.2.2, (key p hp).2.2⟩⟩
theorem of_held {bs : List Nat} {s' : σ} (hlt : ∀ b ∈ bs, b < w0.heap.size) (h1 : Held (keepOf w0 bs) w (y.foot L)) (h2 : Held (keepOf w0 bs) w (O.wr s')) : Kp O L w0 bs s' y w := fun b hb => by
  have hl := hlt b hb
  obtain ⟨o, ho⟩ : ∃ o, w0.heap[b]? = some o := ⟨_, Array.getElem?_eq_getElem hl⟩
  have hm : (b, o) ∈ keepOf w0 bs := List.mem_filterMap.2 ⟨b, hb, by rw [ho]; rfl⟩
  exact ⟨hl, (h1 _ hm).1.trans ho.symm, (h1 _ hm).2.1, (h2 _ hm).2.1⟩
theorem Held.left {a b : List (Nat × Obj)} {S : List Nat} (h : Held (a ++ b) w S) : Held a w S := fun p q => h p (List.mem_append.2 (.inl q))
theorem Held.right {a b : List (Nat × Obj)} {S : List Nat} (h : Held (a ++ b) w S) : Held b w S := fun p q => h p (List.mem_append.2 (.inr q))
theorem Held.both {a b : List (Nat × Obj)} {S : List Nat} (h : Held a w S) (g : Held b w S) : Held (a ++ b) w S := fun p q => (List.mem_append.1 q).elim (h p) (g p)
theorem rdg_same {v : Value} {xs : List Int} (h : Ng.RdG w v xs) (hs : ∀ b ∈ blkV v, w'.heap[b]? = w.heap[b]?) : Ng.RdG w' v xs := by
  refine ⟨h.1, ?_⟩
  rcases h.2 with q | ⟨g, off, cap, rfl, h1, h2, h3⟩
  · exact .inl q
  · exact .inr ⟨g, off, cap, rfl, h1, h2, fun i hi => (World.cell?_of_block (hs g (by simp [mem_blkV, Value.ownBlock]))).trans (h3 i hi)⟩
theorem row_same {B : Nat} {t : TypeId} {sz n : Nat} {v : Value} {cs : List Value} (h : w.ownsRow B t sz v n cs) (hs : ∀ b ∈ blkV v, w'.heap[b]? = w.heap[b]?) : w'.ownsRow B t sz v n cs := by
  refine ⟨h.1, ?_⟩
  rcases h.2 with hn | ⟨g, cap, cur, rfl, hb, hgg, rest⟩
  · exact .inl hn
  · exact .inr ⟨g, cap, cur, rfl, hb, (hs g (by simp [blkV, Value.ownBlock])).trans hgg, rest⟩
theorem ownL_same {v : Value} {xs : List (Tn.Ev × Value)} (h : Tn.OwnL w v xs) (hs : ∀ b ∈ Tn.blks v xs, w'.heap[b]? = w.heap[b]?) : Tn.OwnL w' v xs :=
  ⟨row_same h.row (fun b q => hs b (Tn.mem_blks.2 (.inl q))), fun x hx => ⟨(h.data x hx).1, row_same (h.data x hx).2 (fun b q => hs b (Tn.mem_blks.2 (.inr ⟨x, hx, q⟩)))⟩, h.apart⟩
end
theorem runU_sz {σ : Type} {O : Own σ} {c : Cf} {Bd : σ → Lk → Evt → Value → σ → Lk → Prop} (hbz : ∀ s k x dv s' k', Bd s k x dv s' k' → O.sz s' ≤ O.sz s + 1) {s s' : σ} {k k' : Lk} {es : List Tn.Ev} (h : RunU c Bd s k es s' k') : O.sz s' ≤ O.sz s + es.length := by
  induction h with
  | nil => exact Nat.le_refl _
  | quiet _ _ ih => rw [List.length_cons]; omega
  | told _ b _ ih => have := hbz _ _ _ _ _ _ b; rw [List.length_cons]; omega
theorem grps_next {st : Tn.St} {ps : List Int} {st0 : Tn.St} {ps0 : List Int} {es : List Tn.Ev} {m : Nat} (h1 : 1 ≤ m) (h2 : m ≤ ps.length) (h : ∀ Xs, Grps st ps Xs → Grps st0 ps0 (es ++ Xs)) : ∀ Xs, Grps (Tn.runS st (ps.take m)) (ps.drop m) Xs → Grps st0 ps0 ((es ++ Tn.mergeL (Tn.emit st (ps.take m))) ++ Xs) := fun Xs q => by
  rw [List.append_assoc]
  exact h _ (.part h1 h2 q)
section
variable {σ : Type} (O : Own σ) (L : Nat) (c : Cf) (Bd : σ → Lk → Evt → Value → σ → Lk → Prop) (mx : Nat)
set_option maxRecDepth 100000 in
set_option maxHeartbeats 8000000 in
theorem take_tells (hmx : mx ≤ 500) (n : Nat) (hn : 1 ≤ n) (s0 : σ) (k0 : Lk) (y0 : Ly) (b1 b2 : Nat) (xu : Option Addr) (nu cu : Nat) (ps : List Int) (W0 : World) (h0 : Both O L c s0 k0 y0 W0) (hl : ps.length ≤ 7000) (hout : k0.out.length + 11000 * ps.length ≤ 80000000)
    (hbz : ∀ s k x dv s' k', Bd s k x dv s' k' → O.sz s' ≤ O.sz s + 1) (hlim : O.sz s0 + 2 * ps.length ≤ O.lim)
    (c1 : W0.cell? ⟨b1, 0, none⟩ = some (.pointer (some ⟨L, 0, none⟩))) (c2 : W0.cell? ⟨b2, 0, none⟩ = some (.slice xu nu cu)) (hu : OwnB W0 (.slice xu nu cu) ps) (ap : ∀ b ∈ b1 :: b2 :: blkV (.slice xu nu cu), b ∉ y0.foot L ∧ b ∉ O.wr s0) :
    Tells Fence.wide n Tryz.prog 64 #[.pointer (some ⟨b1, 0, none⟩), .pointer (some ⟨b2, 0, none⟩)] encY (PreY O L c) (JY O L c Bd mx) (fun _ _ _ => False) (DnY O L c Bd s0 k0 ps) (fun _ _ => False) W0 := by
  intro l Bk Bx hSt hStx hB0 hY
  have hbase : ∀ b ∈ b1 :: b2 :: blkV (.slice xu nu cu), b < W0.heap.size := fun b q => by
    rcases List.mem_cons.1 q with rfl | q
    · exact World.block_lt_of_cell? W0 _ c1
    · rcases List.mem_cons.1 q with rfl | q
      · exact World.block_lt_of_cell? W0 _ c2
      · exact hu.lt b q
  have hk0 : Kp O L W0 (b1 :: b2 :: blkV (.slice xu nu cu)) s0 y0 W0 := fun b q => ⟨hbase b q, rfl, (ap b q).1, (ap b q).2⟩
  have HC1 := hid (fun s y W (h : Kp O L W0 (b1 :: b2 :: blkV (.slice xu nu cu)) s y W) => show W.cell? ⟨b1, 0, none⟩ = some (.pointer (some ⟨L, 0, none⟩)) from (World.cell?_of_block (h b1 (by simp)).2.1).trans c1)
  have hub : ∀ b ∈ blkV (.slice xu nu cu), b ∈ b1 :: b2 :: blkV (.slice xu nu cu) := fun b q => List.mem_cons_of_mem _ (List.mem_cons_of_mem _ q)
  have HUB := hid hub
  have HBS := hid hbase
  have HCB := hid (show ∀ b ∈ b1 :: b2 :: blkV (.slice xu nu cu), ∃ cs t fz, W0.heap[b]? = some (.cells cs t fz) from fun b q => by
    rcases List.mem_cons.1 q with rfl | q
    · exact cells_of c1
    · rcases List.mem_cons.1 q with rfl | q
      · exact cells_of c2
      · exact cells_own hu b q)
  have hnu : nu = ps.length := reads_len hu.reads
  obtain ⟨N, hN⟩ : ∃ N, N = ps.length := ⟨_, rfl⟩
  rw [← hN] at hnu hl hout hlim
  subst hnu
  have HNN := hid hN
  obtain ⟨base, hbs⟩ : ∃ base, base = b1 :: b2 :: blkV (.slice xu nu cu) := ⟨_, rfl⟩
  rw [← hbs] at HC1 HUB HBS HCB hk0
  have HY := hid hY
  have HST := hid hSt
  have HSX := hid hStx
  have HU := hid hu
  have HRD0 := hid (OwnB.rdg hu)
  have HK0 := hid hk0
  have HB0 := hid hB0
  have HH0 := hid h0
  have HOUT := hid hout
  have HLIM := hid hlim
  have HBZ := hid hbz
  have HBE := hid hbs
  clear hbase hk0 hub hN hbs hY hSt hStx hu h0 hB0 ap hout hlim hbz
  refine callsIn_of_wp Tryz.func64 rfl trivial ?_ rfl
  simp only [Tryz.ntmps64, List.size_toArray, List.length_cons, List.length_nil, Nat.reduceAdd, Nat.reduceSub, Array.replicate_succ, Array.replicate_zero, List.push_toArray, List.append_toArray, List.nil_append, List.cons_append]
  gi_wp2
  gi_loopw [4] (fun rest W => ∃ (j : Nat) (s : σ) (k : Lk) (y : Ly) (es : List Tn.Ev) (rx : Option Addr) (rc' : Nat), j ≤ nu ∧ rest = .slice rx (nu - j) rc' ∧ Hid (Ng.RdG W0 (.slice rx (nu - j) rc') (ps.drop j)) ∧ Hid (∀ b ∈ blkV (.slice rx (nu - j) rc'), b ∈ blkV (.slice xu nu cu)) ∧ Hid (Bk W) ∧ Hid (Both O L c s k y W) ∧ Hid (∀ Xs, Grps k.st (ps.drop j) Xs → Grps k0.st ps (es ++ Xs)) ∧ Hid (RunU c Bd s0 k0.z es s k.z) ∧ Hid (k.st = Tn.runS k0.st (ps.take j)) ∧ Hid (k.out.length + 11000 * (nu - j) ≤ k0.out.length + 11000 * nu) ∧ Hid (Kp O L W0 base s y W) ∧ Hid (W0.heap.size ≤ W.heap.size) ∧ Hid (es.length ≤ 2 * j)) (fun rest _ => lenV rest)
  case atStart =>
    exact ⟨0, s0, k0, y0, [], xu, cu, Nat.zero_le _, rfl, HRD0.out, fun _ q => q, HB0.out, HH0.out, fun Xs q => q, .nil _ _, rfl, (show k0.out.length + 11000 * (nu - 0) ≤ k0.out.length + 11000 * nu by omega), HK0.out, Nat.le_refl _, Nat.le_refl _⟩
  case round =>
    obtain ⟨j, s, k, y, es, rx, rcc, hj, rfl, HR, HRB, HBK, HBO, HG, HRU, HSTT, HOU, HKP, HSZ, HESL⟩ := hrel
    by_cases hlt : j < nu
    · have hpos : (0 : Int) < ((nu - j : Nat) : Int) := by omega
      have hpl : nu - j = (ps.drop j).length := by rw [List.length_drop, ← HNN.out]
      have hrr : Ng.RdG wr (.slice rx (nu - j) rcc) (ps.drop j) := rdg_same HR.out (fun b q => (HKP.out b (HUB.out b (HRB.out b q))).2.1)
      have HREAD := hid (read_any rx (nu - j) rcc (ps.drop j) HBO.out.lk HBO.out.ok hrr (fun q => by rw [q] at hpl; simp at hpl; omega) (fun b q => (HKP.out b (HUB.out b (HRB.out b q))).2.2.1) (fun b q => Nat.lt_of_lt_of_le (HKP.out b (HUB.out b (HRB.out b q))).1 HSZ.out) (by rw [← hpl]; omega))
      have cb1 := HC1.out s y wr HKP.out
      have HPL := hid hpl
      generalize hrest : nu - j = rest at *
      have HREST := hid hrest
      clear hrr hpl hrest
      gi_wp2_with fail
      refine ⟨trivial, (callsIn_wide.2 HREAD.out).mono ?_⟩
      rintro e w1 ⟨m, vx, vc, xs, rx2, rc2, d1, hm1, hm2, rfl, ho, hx, h1, m1, hap, hfr, hrd, hrb⟩
      have hby : ∀ b ∈ (ps.drop j).take m, 0 ≤ b ∧ b < 256 := fun b q => HR.out.1 b (List.mem_of_mem_take q)
      have ok1 : LkOK c { k with st := Tn.runS k.st ((ps.drop j).take m) } := HBO.out.ok.stt (runS_ok HBO.out.ok.st _ hby)
      have HB1 := hid (HBO.out.link h1 ok1 m1)
      have HBK1 := hid (HST.out _ _ (keeps_link HBO.out.lk HBO.out.ok m1) HBK.out)
      have HKP1 := hid (HKP.out.link HSZ.out m1)
      have HSZ1 := hid (Nat.le_trans HSZ.out m1.size)
      have HKE1 := hid (show Kp O L w1 (Tn.blks (.slice vx xs.length vc) xs) s { y with d := d1 } w1 from fun b q => ⟨ho.lt b q, rfl, hap b q, fun f => by
        rcases hfr b q with r | r
        · exact HBO.out.aw b f r
        · have := O.lt HBO.out.u b f; omega⟩)
      have HEV := hid (show ∀ x ∈ xs, EvOK x.1 from fun x hxm => by
        refine merge_ok _ (Tn.emit k.st ((ps.drop j).take m)) rfl (emit_ok HBO.out.ok.st _ hby) x.1 ?_
        rw [← hx]
        exact List.mem_map.2 ⟨x, hxm, rfl⟩)
      have hML : xs.length ≤ 2 * m := by
        have h1 := merge_le (Tn.emit k.st ((ps.drop j).take m))
        have h2 := emit_le k.st ((ps.drop j).take m)
        rw [← hx, List.length_map] at h1
        rw [List.length_take] at h2
        omega
      have HML := hid hML
      have HCE := hid (show ∀ b ∈ Tn.blks (.slice vx xs.length vc) xs, ∃ cs t fz, w1.heap[b]? = some (.cells cs t fz) from fun b q => by
        rcases Tn.mem_blks.1 q with r | ⟨x, hxm, r⟩
        · obtain ⟨c, fz, q⟩ := ownsRow_kind ho.row b (mem_blkV.1 r)
          exact ⟨c, _, fz, q⟩
        · exact cells_own (ho.data x hxm) b r)
      have HO := hid ho
      have HXE := hid hx
      have HRD := hid hrd
      have HRB2 := hid hrb
      have hlr : (ps.drop j).length - m = nu - (j + m) := by have := HPL.out; have := HREST.out; omega
      rw [hlr] at HRD HRB2 ⊢
      have hmr : m ≤ rest := by have := HPL.out; omega
      have hmb : xs.length ≤ 20000 := by have := HREST.out; omega
      have HHR := hid (And.intro hm1 (And.intro hm2 hmr))
      obtain ⟨M, hM⟩ : ∃ M, M = xs.length := ⟨_, rfl⟩
      have HMM := hid hM
      rw [← hM] at hmb ⊢
      clear hby ok1 h1 m1 hap hfr hrd hrb ho hx hML hlr hM hm1 hm2 hmr cb1
      gi_wp2
      gi_loopw [24] (fun i W => ∃ (q : Nat) (s2 : σ) (k2 : Lk) (y2 : Ly), q ≤ M ∧ i = .int .i64 q ∧ Hid (Bk W) ∧ Hid (Both O L c s2 k2 y2 W) ∧ Hid (RunU c Bd s k.z ((xs.map (·.1)).take q) s2 k2.z) ∧ Hid (k2.st = Tn.runS k.st ((ps.drop j).take m)) ∧ Hid (k2.out.length ≤ k.out.length + 5500 * q) ∧ Hid (Kp O L W0 base s2 y2 W) ∧ Hid (Kp O L w1 (Tn.blks (.slice vx xs.length vc) xs) s2 y2 W) ∧ Hid (w1.heap.size ≤ W.heap.size)) (fun i _ => M - (Lib.intOf i).toNat)
      case atStart =>
        exact ⟨0, s, _, _, Nat.zero_le _, rfl, HBK1.out, HB1.out, .nil _ _, rfl, Nat.le_refl _, HKP1.out, HKE1.out, Nat.le_refl _⟩
      case round =>
        obtain ⟨q, s2, k2, y2, hq, rfl, HBKI, HBI, HRI, HSI, HOI, HKI, HEI, HZI⟩ := hrel
        by_cases hqM : q < M
        · have hqx : q < xs.length := by rw [← HMM.out]; exact hqM
          have hoW : Tn.OwnL wr (.slice vx xs.length vc) xs := ownL_same HO.out (fun b f => (HEI.out b f).2.1)
          obtain ⟨x', cap', he, hc⟩ := hoW.evsX
          obtain ⟨g, off, hxg, h6, -⟩ := hc q hqx
          simp only [Value.slice.injEq] at he
          obtain ⟨rfl, -, rfl⟩ := he
          subst hxg
          have HE6 := hid (Tn.six_of h6)
          have hd0 := hoW.data xs[q] (List.getElem_mem hqx)
          have hev0 := HEV.out xs[q] (List.getElem_mem hqx)
          have hdn : ∀ b ∈ blkV xs[q].2, b ∈ Tn.blks (.slice (some ⟨g, off, none⟩) xs.length vc) xs := fun b f => Tn.mem_blks.2 (.inr ⟨_, List.getElem_mem hqx, f⟩)
          have HTK := hid (show (xs.map (·.1)).take (q + 1) = (xs.map (·.1)).take q ++ [xs[q].1] from by rw [← List.map_take, Tn.map_take xs q hqx, List.map_take])
          have cb1i := HC1.out s2 y2 wr HKI.out
          have hb1l : b1 < wr.heap.size := World.block_lt_of_cell? wr _ cb1i
          clear hoW hc h6
          generalize xs[q] = xq at HE6 hd0 hev0 hdn HTK
          obtain ⟨⟨ek, ev, eo, ed, el, eb⟩, dv0⟩ := xq
          obtain ⟨xd, nd, cd, hde⟩ := own_slice hd0
          dsimp only at hde hd0 hev0 hdn
          subst hde
          have z0 := HE6.out.c0
          have z1 := HE6.out.c1
          have z2 := HE6.out.c2
          have z3 := HE6.out.c3
          have z4 := HE6.out.c4
          have z5 := HE6.out.c5
          dsimp only at z0 z1 z2 z3 z4 z5
          have hba : Below wr.heap.size wr (wr.alloc (.cells #[.int .i64 ek, .int .u8 ev, .int .u8 eo, .slice xd nd cd, .bool el, .bool eb] 123)) := bal (Below.refl _ _) _
          have hBB := HBI.out.below hba
          have hol : k2.out.length ≤ 80000000 := by
            have h7 := HOUT.out
            have h1 := HOI.out
            have h2 := HOU.out
            have h3 := HML.out
            have h4 := HMM.out
            have h5 := HREST.out
            have h6 := HHR.out.2.2
            omega
          have HPR := hid (process_any ⟨ek, ev, eo, ed, el, eb⟩ hev0 xd nd cd hBB.lk hBB.ok (hd0.step hba) (fun b f => (HEI.out b (hdn b f)).2.2.1) hol)
          have HOUT2 := hid (proc_out hBB.ok ⟨ek, ev, eo, ed, el, eb⟩ hev0)
          have HPST := hid (procE_st c k2 ⟨ek, ev, eo, ed, el, eb⟩)
          have HPZ := hid (procE_z c k2 ⟨ek, ev, eo, ed, el, eb⟩)
          have HPOK := hid (hBB.ok.proc ⟨ek, ev, eo, ed, el, eb⟩)
          have HEVO := hid hev0
          obtain ⟨PR, hPR⟩ : ∃ PR, PR = procE c k2 ⟨ek, ev, eo, ed, el, eb⟩ := ⟨_, rfl⟩
          have HPRE := hid hPR.symm
          rw [← hPR] at HPR HOUT2 HPST HPZ HPOK
          have HBB := hid hBB
          have HBA := hid hba
          have HDN := hid hdn
          have hsz0 : W0.heap.size ≤ wr.heap.size := Nat.le_trans HSZ1.out HZI.out
          clear hd0 hev0 hdn hBB hba hol hPR
          gi_wp2_with fail
          refine ⟨trivial, (callsIn_wide.2 HPR.out).mono ?_⟩
          rintro e w3 ⟨X, dv, y3, rfl, h3, m3, ⟨da, dn', dc', rfl⟩, hsome, hsrc⟩
          unfold evV
          have HB3 := hid (HBB.out.link h3 HPOK.out m3)
          have HBK3 := hid (HST.out _ _ ((keeps_below HBA.out).trans (keeps_link HBB.out.lk HBB.out.ok m3)) HBKI.out)
          have HK3 := hid ((HKI.out.below hsz0 HBA.out).link (Nat.le_trans hsz0 HBA.out.size) m3)
          have HE3 := hid ((HEI.out.below HZI.out HBA.out).link (Nat.le_trans HZI.out HBA.out.size) m3)
          have HZ3 := hid (Nat.le_trans HZI.out (Nat.le_trans HBA.out.size m3.size))
          have HSS := hid (Nat.le_trans hsz0 (Nat.le_trans HBA.out.size m3.size))
          have HDV := hid (show ∀ b ∈ blkV (.slice da dn' dc'), b ∉ O.wr s2 from fun b f r => by
            rcases hsrc b f with t | t | t
            · exact (HEI.out b (HDN.out b t)).2.2.2 r
            · exact HBB.out.aw b r t
            · have := O.lt HBB.out.u b r; omega)
          have HSOME := hid hsome
          clear h3 m3 hsome hsrc
          cases hpo : PR.2 with
          | none =>
            have HNO := hid hpo
            clear hpo
            simp only [Option.isSome_none]
            gi_wp2
            rename_i aK _ _ _ _
            refine ⟨fun _ f => (by cases f), aK _ _ ?_⟩
            clear aK
            gi_wp2
            go_roundw
            case rel =>
              refine ⟨q + 1, s2, PR.1, y3, by omega, by go_num, HST.out _ _ (keeps_below (bal (Below.refl _ _) _)) HBK3.out, HB3.out.below (bal (Below.refl _ _) _), ?_, HPST.out.trans HSI.out, ?_, HK3.out.below HSS.out (bal (Below.refl _ _) _), HE3.out.below HZ3.out (bal (Below.refl _ _) _), Nat.le_trans HZ3.out (by simp)⟩
              · show RunU _ _ _ _ _ _ _
                rw [HTK.out]
                refine HRI.out.append (.quiet (by rw [HPZ.out]; exact HNO.out) ?_)
                rw [HPZ.out]
                exact .nil _ _
              · show PR.1.out.length ≤ _
                have h1 := HOUT2.out
                have h2 := HOI.out
                omega
            case measure => simp [Lib.intOf]; omega
          | some x' =>
            obtain ⟨hXx, hrx, hdf3⟩ := HSOME.out x' hpo
            subst hXx
            have HPO := hid hpo
            have hb4 : Below w3.heap.size w3 (w3.alloc (.cells #[.int .i64 X.kind, .slice da dn' dc', .int .u8 X.hdr.t, .int .u8 X.hdr.r, .int .u8 X.hdr.s, .int .u16 X.hdr.q, .bool X.headed] 56)) := bal (Below.refl _ _) _
            have hk4 := held_of HCB.out (HK3.out.below HSS.out hb4)
            have he4 := held_of HCE.out (HE3.out.below HZ3.out hb4)
            have hpre : PreY O L c ⟨s2, PR.1, X, .slice da dn' dc', y3, keepOf W0 base ++ keepOf w1 (Tn.blks (.slice (some ⟨g, off, none⟩) xs.length vc) xs), w3.heap.size + 1⟩ (w3.alloc (.cells #[.int .i64 X.kind, .slice da dn' dc', .int .u8 X.hdr.t, .int .u8 X.hdr.r, .int .u8 X.hdr.s, .int .u16 X.hdr.q, .bool X.headed] 56)) :=
              ⟨HB3.out.below hb4, reads_below hrx hb4, ⟨_, _, _, rfl⟩, fun b f => ⟨hdf3 b f, HDV.out b f⟩, by simp, hk4.1.both he4.1, hk4.2.both he4.2, ⟨k2, ⟨ek, ev, eo, ed, el, eb⟩, by rw [HPRE.out]; exact Prod.ext rfl HPO.out, HEVO.out, HBB.out.ok, HBB.out.lk.mr.reads.1⟩, by
                have g1 := runU_sz HBZ.out HRI.out
                have g2 := runU_sz HBZ.out HRU.out
                have g3 := HESL.out
                have g4 := HML.out
                have g5 := HMM.out
                have g6 := HREST.out
                have g7 := HHR.out.2.2
                have g8 := HLIM.out
                rw [List.length_take] at g1
                show O.sz s2 ≤ O.lim
                omega⟩
            obtain ⟨f1, t1, a1, bb1, hy, hRR⟩ := HY.out _ (w3.alloc (.cells #[.int .i64 X.kind, .slice da dn' dc', .int .u8 X.hdr.t, .int .u8 X.hdr.r, .int .u8 X.hdr.s, .int .u16 X.hdr.q, .bool X.headed] 56)) (HST.out _ _ (keeps_below hb4) HBK3.out) hpre
            have hen : encY (σ := σ) ⟨s2, PR.1, X, .slice da dn' dc', y3, keepOf W0 base ++ keepOf w1 (Tn.blks (.slice (some ⟨g, off, none⟩) xs.length vc) xs), w3.heap.size + 1⟩ = #[.agg #[.int .i64 X.kind, .slice da dn' dc', .int .u8 X.hdr.t, .int .u8 X.hdr.r, .int .u8 X.hdr.s, .int .u16 X.hdr.q, .bool X.headed]] := rfl
            rw [hen] at hy
            have HRR := hid hRR
            clear hRR hpre hen hk4 he4 hrx hdf3 hb4 hpo
            simp only [Option.isSome_some]
            gi_wp2
            refine HRR.out.mono ?_
            rintro e W5 (⟨rfl, hB5, s4, k4, y4, hbd, hst4, hout4, hb5, hsz5, hh1, hh2⟩ | ⟨_, _, _, f⟩)
            · have HBK5 := hid hB5
              have HB5 := hid hb5
              have hsz5' : w3.heap.size ≤ W5.heap.size := by have : w3.heap.size + 1 ≤ W5.heap.size := hsz5; omega
              have HK5 := hid (of_held HBS.out hh1.left hh2.left)
              have HE5 := hid (of_held (fun b f => (HE3.out b f).1) hh1.right hh2.right)
              have HZ5 := hid (Nat.le_trans HZ3.out hsz5')
              have HBD := hid hbd
              have HST4 := hid hst4
              have HOUT4 := hid hout4
              clear hB5 hb5 hsz5 hsz5' hh1 hh2 hbd hst4 hout4
              gi_wp2
              go_roundw
              case rel =>
                refine ⟨q + 1, s4, k4, y4, by omega, by go_num, HBK5.out, HB5.out, ?_, HST4.out.trans (HPST.out.trans HSI.out), ?_, HK5.out, HE5.out, HZ5.out⟩
                · show RunU _ _ _ _ _ _ _
                  rw [HTK.out]
                  refine HRI.out.append (.told (x := X) (dv := .slice da dn' dc') (by rw [HPZ.out]; exact HPO.out) (k1 := k4.z) ?_ (.nil _ _))
                  rw [HPZ.out]
                  exact HBD.out
                · show k4.out.length ≤ _
                  have h1 := HOUT2.out
                  have h2 := HOI.out
                  have h3 : k4.out.length ≤ PR.1.out.length + mx := HOUT4.out
                  omega
              case measure => simp [Lib.intOf]; omega
            · exact f.elim
        · have hqe : q = M := by omega
          subst hqe
          have HLT := hid hlt
          gi_wp2
          go_roundw
          case rel =>
            refine ⟨j + m, s2, k2, y2, es ++ Tn.mergeL (Tn.emit k.st ((ps.drop j).take m)), rx2, rc2, by have := HHR.out; have := HREST.out; omega, rfl, ?_, fun b f => HRB.out b (HRB2.out b f), HBKI.out, HBI.out, ?_, ?_, ?_, ?_, HKI.out, Nat.le_trans HSZ1.out HZI.out, ?_⟩
            · have h := HRD.out
              rw [List.drop_drop] at h
              exact rdg_same h (fun b f => (HKP1.out b (HUB.out b (HRB.out b (HRB2.out b f)))).2.1.symm)
            · have h := grps_next HHR.out.1 HHR.out.2.1 HG.out
              rw [List.drop_drop] at h
              show ∀ Xs, _
              rw [show k2.st = _ from HSI.out]
              exact h
            · have h := HRI.out
              rw [List.take_of_length_le (by rw [List.length_map]; have := HMM.out; omega), HXE.out] at h
              exact HRU.out.append h
            · show k2.st = _
              rw [show k2.st = _ from HSI.out, show k.st = _ from HSTT.out, ← Tn.runS_append, ← List.take_add]
            · show k2.out.length + 11000 * (nu - (j + m)) ≤ _
              have h1 := HOI.out
              have h2 := HOU.out
              have h3 := HML.out
              have h4 := HMM.out
              have h5 := HREST.out
              have h6 := HHR.out.2.2
              omega
            · show (es ++ Tn.mergeL (Tn.emit k.st ((ps.drop j).take m))).length ≤ 2 * (j + m)
              have g1 := HESL.out
              have g2 := HML.out
              rw [List.length_append, ← HXE.out, List.length_map]
              omega
          case measure =>
            have h1 := HHR.out
            have h2 := HREST.out
            simp [lenV]
            omega
    · have hje : j = nu := by omega
      subst hje
      have HDN := hid (show DnY O L c Bd s0 k0 ps wr from ⟨s, k, y, es, by
        have h := HG.out [] (by rw [HNN.out, List.drop_length]; exact .nil _)
        rwa [List.append_nil] at h, HRU.out, by
        have h := HSTT.out
        rwa [HNN.out, List.take_length] at h, HBO.out, by
        have h : k.out.length + 11000 * (j - j) ≤ k0.out.length + 11000 * j := HOU.out
        have h2 := HNN.out
        omega⟩)
      have HBKD := hid HBK.out
      have hz : ((j - j : Nat) : Int) = 0 := by omega
      have hz2 : j - j = 0 := Nat.sub_self j
      rw [hz2]
      gi_wp2
      go_end0
      exact ⟨⟨_, rfl⟩, .inl ⟨HBKD.out, HDN.out⟩⟩
end
end Go.Proofs.YtaanpnmgibcemaaGreatDoor
