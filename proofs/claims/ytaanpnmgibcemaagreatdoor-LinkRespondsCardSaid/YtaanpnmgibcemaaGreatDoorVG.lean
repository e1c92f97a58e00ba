/-
  take: what comes of bytes, gathered.
-/
import Derived.Test.YtaanpnmgibcemaaGreatDoorVF
namespace Go.Proofs.YtaanpnmgibcemaaGreatDoor
open Go.RowKit Go.Lib Go.Deep Go.Shelf
attribute [local go_sem] Oper.semAt_some

section
variable {F : Fence} {n l : Nat} {P : Program} {ops : Array Oper} {Q : Exit → Act → World → Prop} {md : Region.Mode}
/-- No operation of these is a defer. -/
def noDefer (ops : Array Oper) : Bool := ops.all (fun o => match o.op with | .defer _ => false | _ => true)
theorem noDefer_at (h : noDefer ops = true) {i : Nat} {o : Oper} (ho : ops[i]? = some o) (c) : o.op ≠ .defer c := fun e => by
  unfold noDefer at h
  rw [Array.all_eq_true] at h
  obtain ⟨hi, rfl⟩ := Array.getElem?_eq_some_iff.1 ho
  have := h i hi
  rw [e] at this
  cases this
theorem wpOpIn_round (h : noDefer ops = true) {i : Nat} {K : Act → World → Prop} {a : Act} {w : World} (hh : wpOpIn F n P ops Q i K a w) : wpOpIn (F.inRound l) n P ops Q i K a w := by
  unfold wpOpIn at *
  split
  · rename_i ho
    simpa only [ho] using hh
  · rename_i o ho
    simp only [ho] at hh
    split
    · rename_i hw
      rw [if_pos hw] at hh
      unfold Oper.wpIn at *
      refine ⟨hh.1, ?_⟩
      have h2 := hh.2
      rw [Oper.semAt_plain F a.eval o (noDefer_at h ho)] at h2
      rw [Oper.semAt_plain (F.inRound l) a.eval o (noDefer_at h ho)]
      generalize (execOp a.eval o).run P w = r at *
      cases r with
      | ok x w' => cases x <;> exact h2
      | halt x w' => cases x <;> exact h2
    · rename_i hw
      rw [if_neg hw] at hh
      exact hh
theorem wpAnyIn_round (h : noDefer ops = true) : ∀ (fuel : Nat) (listed : Array Bool) (a : Act) (w : World), wpAnyIn F n P md ops Q fuel listed a w → wpAnyIn (F.inRound l) n P md ops Q fuel listed a w
  | 0, _, _, _, hh => hh
  | fuel + 1, _, _, _, hh => ⟨hh.1, fun i hi => wpOpIn_mono (fun a w q => wpAnyIn_round h fuel _ a w q) (wpOpIn_round h (hh.2 i hi))⟩
/-- A region that draws its order, inside a round. -/
theorem wpIn_region_round {id : Nat} {a : Act} {w : World} (hm : P.follows .mixedOrders = true) (hd : noDefer ops = true)
    (h : wpAnyIn F n P .any ops Q ops.size (Array.replicate ops.size false) a w.drew) : (Code.region id ops true).wpIn (F.inRound l) n P Q a w :=
  wpIn_region_any hm (wpAnyIn_round hd _ _ _ _ h)
end
theorem operIn_append_blk {F : Fence} {n : Nat} {P : Program} {w : World} {o : Oper} {a : Act} {K : Act → World → Prop} {Q : Exit → Act → World → Prop}
    (s x : Operand) (t : TypeId) (hop : o.op = Op.call { callee := Callee.builtin Builtin.append, args := #[s, x], argTypes := #[t, t] })
    (e : TypeId) (i : TypeInfo) (z : Value) (size bytes : Nat) (h1 : P.underlying t = some (.slice e)) (h2 : P.info? e = some i) (h3 : i.zero = some z) (h4 : i.size = size) (h5 : i.bytes = bytes) (h6 : z.cells.size = size) (h7 : 0 < size)
    (v : Value) (k : Nat) (xs : List Value) (hs : a.eval s = v) (hown : w.ownsRow 0 e size v k xs) (ad : Addr) (m c : Nat) (news : List Value) (hx : a.eval x = .slice (some ad) m c) (hn : news.length = m * size)
    (hc : ∀ j u, news[j]? = some u → w.cell? (ad.add j) = some u) (h1c : ∀ u ∈ news, u.oneCell' = true) (b1 : k + m ≤ maxLen) (b2 : (k + m) * bytes ≤ 140737488355328)
    (hK : ∀ v' w', w'.ownsRow 0 e size v' (k + m) (xs ++ news) → w.grownBy w' v.ownBlock → (∀ k ∈ blkV v', k ∈ blkV v ∨ w.heap.size ≤ k) → K (a.put o.dst v') w') :
    Oper.wpIn F n P o a w K Q := by
  obtain ⟨v', w', hrun, r1, r2, _, r4⟩ := run_append_blk (P := P) w t o.type e i z size bytes h1 h2 h3 h4 h5 h6 h7 v k xs hown ad m c news hn hc h1c b1 b2
  unfold Oper.wpIn
  refine ⟨?_, ?_⟩
  · simp [Oper.about, hop, resolve, Target.leads, Sem.run_pure]
  · rw [Oper.semAt_plain F _ _ (by rw [hop]; intro c hc'; cases hc')]
    simp [execOp, hop, resolve, invoke, builtin, hs, hx, hrun, Result.andThen]
    exact hK v' w' r1 r2 r4
theorem infoE : (Tryz.prog.info? 38).map (fun i => (i.zero, i.size, i.bytes)) = some (some (.agg #[.int .i64 0, .slice none 0 0, .int .u8 0, .int .u8 0, .int .u8 0, .int .u16 0, .bool false]), 7, 40) := by kernel_rfl
theorem news7 (W : World) (x0 x1 x2 x3 x4 x5 x6 : Value) (t : TypeId) : ∀ j u, [x0, x1, x2, x3, x4, x5, x6][j]? = some u → (W.alloc (.cells #[x0, x1, x2, x3, x4, x5, x6] t)).cell? ((⟨W.heap.size, 0, none⟩ : Addr).add j) = some u := by
  intro j u hu
  match j, hu with
  | 0, hu => simp at hu; subst hu; rw [show (⟨W.heap.size, 0, none⟩ : Addr).add 0 = ⟨W.heap.size, 0, none⟩ from rfl]; simp [go_sem]
  | 1, hu => simp at hu; subst hu; rw [show (⟨W.heap.size, 0, none⟩ : Addr).add 1 = ⟨W.heap.size, 1, none⟩ from rfl]; simp [go_sem]
  | 2, hu => simp at hu; subst hu; rw [show (⟨W.heap.size, 0, none⟩ : Addr).add 2 = ⟨W.heap.size, 2, none⟩ from rfl]; simp [go_sem]
  | 3, hu => simp at hu; subst hu; rw [show (⟨W.heap.size, 0, none⟩ : Addr).add 3 = ⟨W.heap.size, 3, none⟩ from rfl]; simp [go_sem]
  | 4, hu => simp at hu; subst hu; rw [show (⟨W.heap.size, 0, none⟩ : Addr).add 4 = ⟨W.heap.size, 4, none⟩ from rfl]; simp [go_sem]
  | 5, hu => simp at hu; subst hu; rw [show (⟨W.heap.size, 0, none⟩ : Addr).add 5 = ⟨W.heap.size, 5, none⟩ from rfl]; simp [go_sem]
  | 6, hu => simp at hu; subst hu; rw [show (⟨W.heap.size, 0, none⟩ : Addr).add 6 = ⟨W.heap.size, 6, none⟩ from rfl]; simp [go_sem]
  | j + 7, hu => simp at hu
theorem box_cell {W : World} {b : Nat} {v : Value} {t : TypeId} (h : W.heap[b]? = some (.cells #[v] t (0, 0))) : W.cell? ⟨b, 0, none⟩ = some v ∧ W.frozen? ⟨b, 0, none⟩ = false := ⟨by simp [World.cell?, h], by simp [World.frozen?, h]⟩
theorem runC_n {c : Cf} : ∀ (es : List Tn.Ev) (n : Nat) (k : Lk) {m : Nat} {k' : Lk} {l : List Evt}, runC c (fun n k _ => (n, k)) n k es = (m, k', l) → m = n
  | [], n, k, m, k', l, h => by
    simp only [runC, Prod.mk.injEq] at h
    exact h.1.symm
  | e :: es, n, k, m, k', l, h => by
    have h1 : (oneC c (fun n k _ => (n, k)) n k e).1 = n := by
      unfold oneC
      split <;> rfl
    simp only [runC, Prod.mk.injEq] at h
    have := runC_n es _ _ (m := (runC c (fun n k _ => (n, k)) (oneC c (fun n k _ => (n, k)) n k e).1 (oneC c (fun n k _ => (n, k)) n k e).2.1 es).1) rfl
    rw [h1] at this
    rw [h1] at h
    rw [← h.1, this]
/-- Events were gathered. -/
def TakenD (L : Nat) (c : Cf) (y : Ly) (k : Lk) (ps : List Int) (w : World) (e : Ending) (w' : World) : Prop := ∃ v xs k' y' es, e = .returned v ∧ Grps k.st ps es ∧ runC c (fun n k _ => (n, k)) 0 k.z es = (0, k'.z, xs.map (·.1)) ∧ k'.st = Tn.runS k.st ps ∧ LkM w' L c y' k' ∧ LkOK c k' ∧ Moved w w' (y.foot L) (y'.foot L) ∧ k'.out.length ≤ k.out.length + 11000 * ps.length
  ∧ w'.ownsRow 0 38 7 v xs.length (cellsV xs) ∧ (∀ b ∈ blkV v, w.heap.size ≤ b ∧ b ∉ y'.foot L) ∧ (∀ x ∈ xs, Reads w' x.2 x.1.data ∧ (∃ a n d, x.2 = .slice a n d) ∧ ∀ b ∈ datB x, b ∉ y'.foot L ∧ b ∉ blkV v)
def f0 : Rsp := fun n k _ => (n, k)
section
variable {L : Nat} {c : Cf} {y : Ly} {k : Lk} {w : World}
set_option maxRecDepth 100000 in
set_option maxHeartbeats 4000000 in
theorem take_in (n : Nat) (hn : 6 ≤ n) (p : Value) (ps : List Int) (hl : ps.length ≤ 7000) (h : LkM w L c y k) (hk : LkOK c k) (hp : Reads w p ps) (ho : k.out.length + 11000 * ps.length ≤ 80000000) :
    CallsIn Fence.wide n Tryz.prog 20 #[.pointer (some ⟨L, 0, none⟩), p] w (TakenD L c y k ps w) := by
  have h1n : 1 ≤ n := by omega
  obtain ⟨i0, hi, hz0, hz1, hz2⟩ := info_parts infoE
  obtain ⟨x0, n0, c0, rfl⟩ := Tn.reads_any_slice hp
  have HL := hid h
  have HK := hid hk
  have HP := hid hp
  have HO := hid ho
  have HFL := hid (h.lt hk)
  clear h hk hp ho
  refine callsIn_of_wp_marks Tryz.func20 rfl trivial ?_ rfl
  simp only [Tryz.ntmps20, List.size_toArray, List.length_cons, List.length_nil, Nat.reduceAdd, Nat.reduceSub, Array.replicate_succ, Array.replicate_zero, List.push_toArray, List.append_toArray, List.nil_append, List.cons_append]
  gi_wp2
  refine ⟨trivial, ?_⟩
  obtain ⟨W0, hW0⟩ : ∃ W0, w.alloc (.cells #[.slice none 0 0] 31) = W0 := ⟨_, rfl⟩
  rw [hW0]
  have hb0 : Below w.heap.size w W0 := by rw [← hW0]; exact bal (Below.refl _ _) _
  have o0 : W0.heap[w.heap.size]? = some (.cells #[.slice none 0 0] 31 (0, 0)) := by rw [← hW0]; exact World.alloc_heap_new w _
  have z0 : W0.heap.size = w.heap.size + 1 := by rw [← hW0]; simp
  refine (callsIn_wide.2 (takeSeq_any (some ⟨L, 0, none⟩) _ ps W0 (reads_below HP.out hb0) (by omega))).mono ?_
  rintro e w2 ⟨b1, b2, xx, nn, dd, rfl, c1, c2, ho2, hb2, hl1, hl2, hl3⟩
  have HB2 := hid (below_t hb0 hb2)
  have o2 := (hb2.block w.heap.size (by omega)).trans o0
  have HS2 := hid (show w.heap.size + 1 ≤ w2.heap.size by have := hb2.size; omega)
  obtain ⟨SS, hSS⟩ : ∃ SS, SS = w.heap.size :: y.foot L := ⟨_, rfl⟩
  have HSS := hid hSS
  have hu2 : TkU w2 SS w.heap.size ⟨0, .slice none 0 0, []⟩ w2 := ⟨⟨rfl, rfl, rfl, Nat.le_refl _, fun _ _ _ => rfl, fun _ q => (by cases q)⟩, o2, World.ownsRow_nil _ _ _ _, fun _ q => (by cases q), fun _ q => (by cases q), fun _ q => (by cases q)⟩
  have HBO := hid (show Both (takeO w2 SS w.heap.size) L c ⟨0, .slice none 0 0, []⟩ k y w2 from ⟨HL.out.step HB2.out, HK.out, hu2, (fun b q f => by
    have := HFL.out b f
    rcases List.mem_cons.1 q with rfl | q
    · omega
    · cases q), (fun b q f => by
    rcases List.mem_append.1 q with q | q
    · exact (mem_kept.1 q).2 (by rw [hSS]; exact List.mem_cons_of_mem _ f)
    · cases q)⟩)
  have HAP := hid (show ∀ b ∈ b1 :: b2 :: blkV (.slice xx nn dd), b ∉ y.foot L ∧ b ∉ (takeO w2 SS w.heap.size).wr ⟨0, .slice none 0 0, []⟩ from fun b q => by
    have hge : W0.heap.size ≤ b := by
      rcases List.mem_cons.1 q with rfl | q
      · exact hl1
      · rcases List.mem_cons.1 q with rfl | q
        · exact hl2
        · exact hl3 b q
    refine ⟨fun f => ?_, fun f => ?_⟩
    · have := HFL.out b f
      omega
    · rcases List.mem_cons.1 f with rfl | f
      · omega
      · cases f)
  have HC1 := hid c1
  have HC2 := hid c2
  have HO2 := hid ho2
  clear hb0 o0 z0 hb2 o2 c1 c2 ho2 hl1 hl2 hl3 hW0 hu2 hSS
  gi_wp2
  refine rangeFunc_jointB (n := n) (w := w2) rfl h1n (gf := 64) (lb := #[.pointer (some ⟨b1, 0, none⟩), .pointer (some ⟨b2, 0, none⟩)]) rfl trivial (enters_of Tryz.func64 (by kernel_rfl) rfl)
    (encs := encY) (fun _ => rfl) (Pre := PreY (takeO w2 SS w.heap.size) L c) (J := JY (takeO w2 SS w.heap.size) L c (BdF f0) 0) (Jx := fun _ _ _ => False)
    (Dn := DnY (takeO w2 SS w.heap.size) L c (BdF f0) ⟨0, .slice none 0 0, []⟩ k ps) (St := fun _ _ => False)
    ?hJ ?hJx ?hDn ?hSt (AxY (takeO w2 SS w.heap.size) L c w2.heap.size (fun eb e9 => #[.pointer (some ⟨L, 0, none⟩), .slice x0 n0 c0, undef, undef, .slice none 0 0, .pointer (some ⟨w.heap.size, 0, none⟩), eb, .pointer (some ⟨L, 0, none⟩), .slice x0 n0 c0, .func (.func 64) #[] #[.pointer (some ⟨b1, 0, none⟩), .pointer (some ⟨b2, 0, none⟩)], e9, undef, undef, undef, undef, undef, undef])) ?hAx ?assign ?body ?iter ?done ?stop
  case hJ => exact jy_booked (take_free _ _ _) (Nat.le_refl _)
  case hJx => exact fun _ _ _ _ _ _ _ _ _ h => h
  case hDn => exact dn_booked (take_free _ _ _) (Nat.le_refl _) _ _ _
  case hSt => exact fun _ _ _ _ _ _ _ _ h => h
  case hAx => exact fun x a => ax_booked (take_free _ _ _) (Nat.le_refl _) _ x a
  case iter =>
    intro o1 o2 hc1 hc2
    have hbb : Below w2.heap.size w2 ((w2.alloc o1).alloc o2) := bal (bal (Below.refl _ _) _) _
    exact take_tells _ L c (BdF f0) 0 (by omega) (n - 1) (by omega) ⟨0, .slice none 0 0, []⟩ k y b1 b2 xx nn dd ps _ (HBO.out.below hbb) (by omega) HO.out (fun s _ x dv s' _ q => by show s'.xs.length ≤ s.xs.length + 1; rw [q.2]; simp) (show 0 + 2 * ps.length ≤ 20000 by omega) (keepc hbb HC1.out) (keepc hbb HC2.out) (HO2.out.step hbb) HAP.out
  case assign =>
    rintro l ⟨s, kx, ⟨xk, xd, ⟨ht, hr, hs, hq⟩, xh⟩, dv, yx, kp, hsz⟩ W KK hp hK
    obtain ⟨xa, xn, xc, hde⟩ := hp.2.2.1
    dsimp only at hde
    subst hde
    have HK := hid hK
    have HPP := hid hp
    clear hK hp
    unfold encY evV
    gi_wp2
    refine HK.out _ _ (KeepsOthers.alloc _ _) ?_
    exact ax_new HPP.out HPP.out.1.u.mv.size _
  case body =>
    rintro l ⟨⟨sn, v, xs0⟩, kx, ⟨xk, xd, ⟨ht, hr, hs, hq⟩, xh⟩, dv, yx, kp, hsz⟩ a' W ⟨eb, hp, hev, hB, hfe, -, -, rfl⟩
    obtain ⟨xa, xn, xc, hde⟩ := hp.2.2.1
    dsimp only at hde
    subst hde
    have HPP := hid hp
    have HU := hid (show TkU w2 SS w.heap.size ⟨sn, v, xs0⟩ W from hp.1.u)
    have HRD := hid (show Reads W (.slice xa xn xc) xd from hp.2.1)
    have hlen : xs0.length ≤ 20000 := hp.2.2.2.2.2.2.2.2
    have hb0 := HU.out.box
    dsimp only at hb0
    have HOB := hid hb0
    obtain ⟨cv, fv⟩ := box_cell hb0
    have e0 := hev.c0
    have e1 := hev.c1
    have e2 := hev.c2
    have e3 := hev.c3
    have e4 := hev.c4
    have e5 := hev.c5
    have e6 := hev.c6
    dsimp only at e0 e1 e2 e3 e4 e5 e6
    have HBO3 := hid (World.block_lt_of_cell? W _ cv)
    have HBO4 := hid (show w.heap.size ∈ SS by rw [HSS.out]; simp)
    have HBO1 := hid (show w.heap.size ∉ keptL w2 SS from fun f => (mem_kept.1 f).2 HBO4.out)
    have HBO2 := hid (show w.heap.size ∉ blkV v from fun f => by
      have := HU.out.nw _ f
      have := HS2.out
      omega)
    have HDN := hid (show ∀ b ∈ datB ((⟨xk, xd, ⟨ht, hr, hs, hq⟩, xh⟩ : Evt), Value.slice xa xn xc), b ∉ yx.foot L ∧ b ≠ w.heap.size ∧ b ∉ blkV v from fun b q => by
      have q2 : b ∈ blkV (.slice xa xn xc) := by
        unfold datB at q
        split at q
        · cases q
        · exact q
      obtain ⟨g1, g2⟩ := hp.2.2.2.1 b q2
      exact ⟨g1, fun f => g2 (by rw [f]; simp [takeO]), fun f => g2 (List.mem_cons_of_mem _ f)⟩)
    have HJY := hid (fun (v' : Value) (W' : World) (hu : TkU w2 SS w.heap.size ⟨sn, v', xs0 ++ [(⟨xk, xd, ⟨ht, hr, hs, hq⟩, xh⟩, .slice xa xn xc)]⟩ W') (m : Moved W W' (w.heap.size :: blkV v) (w.heap.size :: blkV v')) => (show KeepsOthers W W' ∧ BH (takeO w2 SS w.heap.size) L c ⟨sn, v', xs0 ++ [(⟨xk, xd, ⟨ht, hr, hs, hq⟩, xh⟩, .slice xa xn xc)]⟩ kx yx kp hsz W' from by
      refine ⟨keeps_moved m (fun b q => ?_), (BH.of HPP.out).wrote hu m (fun b q f => ?_)⟩
      · rcases List.mem_cons.1 q with rfl | q
        · exact ⟨_, _, _, HOB.out⟩
        · obtain ⟨c, fz, e⟩ := ownsRow_kind HU.out.row b (mem_blkV.1 q)
          exact ⟨c, _, fz, e⟩
      · rcases List.mem_append.1 q with q | q
        · exact HPP.out.1.ar b (List.mem_append.2 (.inl q)) f
        · obtain ⟨z, hz, q⟩ := List.mem_flatMap.1 q
          rcases List.mem_append.1 hz with hz | hz
          · exact HPP.out.1.ar b (List.mem_append.2 (.inr (List.mem_flatMap.2 ⟨z, hz, q⟩))) f
          · rw [List.mem_singleton.1 hz] at q
            exact (HDN.out b q).1 f))
    obtain ⟨V0, hV0⟩ : ∃ V0, W.drew = V0 := ⟨_, rfl⟩
    have hb1 : Below W.heap.size W V0 := by rw [← hV0]; exact (Below.refl _ _).drew
    have HB0 := hid hb1
    have cv0 := keepc hb1 cv
    have d0 := keepc hb1 e0
    have d1 := keepc hb1 e1
    have d2 := keepc hb1 e2
    have d3 := keepc hb1 e3
    have d4 := keepc hb1 e4
    have d5 := keepc hb1 e5
    have d6 := keepc hb1 e6
    have l0 := World.block_lt_of_cell? V0 _ cv0
    have l1 := World.block_lt_of_cell? V0 _ d0
    have HR0 := hid (own_moved HU.out.row (Moved.below hb1 []) (fun _ _ q => by cases q))
    clear hp hev hb0 cv fv e0 e1 e2 e3 e4 e5 e6 hb1
    unfold evV
    dsimp only
    gi_wp2
    refine wpIn_region_round (by kernel_rfl) (by kernel_rfl) ?_
    rw [hV0]
    refine wpAnyIn_ready (rs := [0, 1]) (by kernel_rfl) (by simp) ?_
    refine AllReadyIn.cons (by simp only [List.getElem?_toArray, List.getElem?_cons_succ, List.getElem?_cons_zero]; rfl) (fun K hK => ?_) (AllReadyIn.cons (by simp only [List.getElem?_toArray, List.getElem?_cons_succ, List.getElem?_cons_zero]; rfl) (fun K hK => ?_) (AllReadyIn.nil))
    · go_simp
      refine hK _ _ ?_
      clear hK K
      (try simp only [Act.put, List.setIfInBounds_toArray, List.set_cons_zero, List.set_cons_succ])
      refine wpAnyIn_ready (rs := [1]) (by kernel_rfl) (by simp) ?_
      refine AllReadyIn.cons (by simp only [List.getElem?_toArray, List.getElem?_cons_succ, List.getElem?_cons_zero]; rfl) (fun K hK => ?_) (AllReadyIn.nil)
      · go_simp
        refine hK _ _ ?_
        clear hK K
        (try simp only [Act.put, List.setIfInBounds_toArray, List.set_cons_zero, List.set_cons_succ])
        refine wpAnyIn_ready (rs := [2]) (by kernel_rfl) (by simp) ?_
        refine AllReadyIn.cons (by simp only [List.getElem?_toArray, List.getElem?_cons_succ, List.getElem?_cons_zero]; rfl) (fun K hK => ?_) (AllReadyIn.nil)
        · go_simp
          refine ⟨trivial, fun _ => (by omega), ?_⟩
          refine (callsIn_wide.2 (back_any ⟨xk, xd, ⟨ht, hr, hs, hq⟩, xh⟩ xa xn xc)).mono ?_
          rintro e w4 ⟨rfl, hb4⟩
          refine hK _ _ ?_
          clear hK K
          have HB4 := hid (below_t HB0.out hb4)
          have cv4 := keepc hb4 cv0
          have lt4 := World.block_lt_of_cell? w4 _ cv4
          have HR4 := hid (own_moved HR0.out (Moved.below hb4 []) (fun _ _ q => by cases q))
          have cv5 := keepc (bal (Below.refl w4.heap.size w4) (.cells #[.int .i64 xk, .slice xa xn xc, .int .u8 ht, .int .u8 hr, .int .u8 hs, .int .u16 hq, .bool xh] 38)) cv4
          clear hb4
          unfold evV
          (try simp only [Act.put, List.setIfInBounds_toArray, List.set_cons_zero, List.set_cons_succ])
          refine wpAnyIn_ready (rs := [3]) (by kernel_rfl) (by simp) ?_
          refine AllReadyIn.cons (by simp only [List.getElem?_toArray, List.getElem?_cons_succ, List.getElem?_cons_zero]; rfl) (fun K hK => ?_) (AllReadyIn.nil)
          · go_simp
            refine hK _ _ ?_
            clear hK K
            (try simp only [Act.put, List.setIfInBounds_toArray, List.set_cons_zero, List.set_cons_succ])
            refine wpAnyIn_ready (rs := [4]) (by kernel_rfl) (by simp) ?_
            refine AllReadyIn.cons (by simp only [List.getElem?_toArray, List.getElem?_cons_succ, List.getElem?_cons_zero]; rfl) (fun K hK => ?_) (AllReadyIn.nil)
            · rw [if_pos (by rfl)]
              refine operIn_append_blk _ _ 31 rfl 38 i0 _ 7 40 Tryz.underlying31 hi hz0 hz1 hz2 rfl (by decide) v xs0.length (cellsV xs0) rfl (own_moved HR4.out (Moved.alloc _ _ []) (fun _ _ q => by cases q)) ⟨w4.heap.size, 0, none⟩ 1 1 [.int .i64 xk, .slice xa xn xc, .int .u8 ht, .int .u8 hr, .int .u8 hs, .int .u16 hq, .bool xh] rfl rfl (news7 w4 _ _ _ _ _ _ _ _) (by simp [Value.oneCell']) (by unfold maxLen; omega) (by omega) ?_
              intro v' W1 hown' hgrow hb'
              obtain ⟨S1, S2⟩ := TkU.snoc (n' := sn) HU.out (bal HB4.out _) hgrow hown' hb' HRD.out ⟨_, _, _, rfl⟩ HBO1.out HBO2.out (fun b q => (HDN.out b q).2) HBO3.out HBO4.out
              have ob1 := ((Moved.grown hgrow (S' := []) (fun k e => mem_blkV.2 e) (fun _ q => by cases q)).block w.heap.size (Nat.lt_of_lt_of_le HBO3.out (bal HB4.out _).size) HBO2.out).trans (((bal HB4.out _).block w.heap.size HBO3.out).trans HOB.out)
              obtain ⟨hbo1, hbof⟩ := box_cell ob1
              have hbol := World.block_lt_of_cell? W1 _ hbo1
              obtain ⟨g', cap', rfl⟩ := Tn.row_anyK hown'
              have S1 := hid S1
              have S2 := hid S2
              clear hown' hgrow hb' ob1
              refine hK _ _ ?_
              clear hK K
              (try simp only [Act.put, List.setIfInBounds_toArray, List.set_cons_zero, List.set_cons_succ])
              refine wpAnyIn_ready (rs := [5]) (by kernel_rfl) (by simp) ?_
              refine AllReadyIn.cons (by simp only [List.getElem?_toArray, List.getElem?_cons_succ, List.getElem?_cons_zero]; rfl) (fun K hK => ?_) (AllReadyIn.nil)
              · go_simp
                refine hK _ _ ?_
                clear hK K
                (try simp only [Act.put, List.setIfInBounds_toArray, List.set_cons_zero, List.set_cons_succ])
                refine wpAnyIn_done (by kernel_rfl) ?_ _
                gi_wp2
                obtain ⟨q1, q2⟩ := HJY.out _ _ S1.out S2.out
                exact ⟨q1, ⟨sn, _, xs0 ++ [_]⟩, kx, yx, ⟨rfl, rfl⟩, rfl, Nat.le_refl _, q2.b, q2.hs, q2.h1, q2.h2⟩
    · go_simp
      refine hK _ _ ?_
      clear hK K
      (try simp only [Act.put, List.setIfInBounds_toArray, List.set_cons_zero, List.set_cons_succ])
      refine wpAnyIn_ready (rs := [0, 2]) (by kernel_rfl) (by simp) ?_
      refine AllReadyIn.cons (by simp only [List.getElem?_toArray, List.getElem?_cons_succ, List.getElem?_cons_zero]; rfl) (fun K hK => ?_) (AllReadyIn.cons (by simp only [List.getElem?_toArray, List.getElem?_cons_succ, List.getElem?_cons_zero]; rfl) (fun K hK => ?_) (AllReadyIn.nil))
      · go_simp
        refine hK _ _ ?_
        clear hK K
        (try simp only [Act.put, List.setIfInBounds_toArray, List.set_cons_zero, List.set_cons_succ])
        refine wpAnyIn_ready (rs := [2]) (by kernel_rfl) (by simp) ?_
        refine AllReadyIn.cons (by simp only [List.getElem?_toArray, List.getElem?_cons_succ, List.getElem?_cons_zero]; rfl) (fun K hK => ?_) (AllReadyIn.nil)
        · go_simp
          refine ⟨trivial, fun _ => (by omega), ?_⟩
          refine (callsIn_wide.2 (back_any ⟨xk, xd, ⟨ht, hr, hs, hq⟩, xh⟩ xa xn xc)).mono ?_
          rintro e w4 ⟨rfl, hb4⟩
          refine hK _ _ ?_
          clear hK K
          have HB4 := hid (below_t HB0.out hb4)
          have cv4 := keepc hb4 cv0
          have lt4 := World.block_lt_of_cell? w4 _ cv4
          have HR4 := hid (own_moved HR0.out (Moved.below hb4 []) (fun _ _ q => by cases q))
          have cv5 := keepc (bal (Below.refl w4.heap.size w4) (.cells #[.int .i64 xk, .slice xa xn xc, .int .u8 ht, .int .u8 hr, .int .u8 hs, .int .u16 hq, .bool xh] 38)) cv4
          clear hb4
          unfold evV
          (try simp only [Act.put, List.setIfInBounds_toArray, List.set_cons_zero, List.set_cons_succ])
          refine wpAnyIn_ready (rs := [3]) (by kernel_rfl) (by simp) ?_
          refine AllReadyIn.cons (by simp only [List.getElem?_toArray, List.getElem?_cons_succ, List.getElem?_cons_zero]; rfl) (fun K hK => ?_) (AllReadyIn.nil)
          · go_simp
            refine hK _ _ ?_
            clear hK K
            (try simp only [Act.put, List.setIfInBounds_toArray, List.set_cons_zero, List.set_cons_succ])
            refine wpAnyIn_ready (rs := [4]) (by kernel_rfl) (by simp) ?_
            refine AllReadyIn.cons (by simp only [List.getElem?_toArray, List.getElem?_cons_succ, List.getElem?_cons_zero]; rfl) (fun K hK => ?_) (AllReadyIn.nil)
            · rw [if_pos (by rfl)]
              refine operIn_append_blk _ _ 31 rfl 38 i0 _ 7 40 Tryz.underlying31 hi hz0 hz1 hz2 rfl (by decide) v xs0.length (cellsV xs0) rfl (own_moved HR4.out (Moved.alloc _ _ []) (fun _ _ q => by cases q)) ⟨w4.heap.size, 0, none⟩ 1 1 [.int .i64 xk, .slice xa xn xc, .int .u8 ht, .int .u8 hr, .int .u8 hs, .int .u16 hq, .bool xh] rfl rfl (news7 w4 _ _ _ _ _ _ _ _) (by simp [Value.oneCell']) (by unfold maxLen; omega) (by omega) ?_
              intro v' W1 hown' hgrow hb'
              obtain ⟨S1, S2⟩ := TkU.snoc (n' := sn) HU.out (bal HB4.out _) hgrow hown' hb' HRD.out ⟨_, _, _, rfl⟩ HBO1.out HBO2.out (fun b q => (HDN.out b q).2) HBO3.out HBO4.out
              have ob1 := ((Moved.grown hgrow (S' := []) (fun k e => mem_blkV.2 e) (fun _ q => by cases q)).block w.heap.size (Nat.lt_of_lt_of_le HBO3.out (bal HB4.out _).size) HBO2.out).trans (((bal HB4.out _).block w.heap.size HBO3.out).trans HOB.out)
              obtain ⟨hbo1, hbof⟩ := box_cell ob1
              have hbol := World.block_lt_of_cell? W1 _ hbo1
              obtain ⟨g', cap', rfl⟩ := Tn.row_anyK hown'
              have S1 := hid S1
              have S2 := hid S2
              clear hown' hgrow hb' ob1
              refine hK _ _ ?_
              clear hK K
              (try simp only [Act.put, List.setIfInBounds_toArray, List.set_cons_zero, List.set_cons_succ])
              refine wpAnyIn_ready (rs := [5]) (by kernel_rfl) (by simp) ?_
              refine AllReadyIn.cons (by simp only [List.getElem?_toArray, List.getElem?_cons_succ, List.getElem?_cons_zero]; rfl) (fun K hK => ?_) (AllReadyIn.nil)
              · go_simp
                refine hK _ _ ?_
                clear hK K
                (try simp only [Act.put, List.setIfInBounds_toArray, List.set_cons_zero, List.set_cons_succ])
                refine wpAnyIn_done (by kernel_rfl) ?_ _
                gi_wp2
                obtain ⟨q1, q2⟩ := HJY.out _ _ S1.out S2.out
                exact ⟨q1, ⟨sn, _, xs0 ++ [_]⟩, kx, yx, ⟨rfl, rfl⟩, rfl, Nat.le_refl _, q2.b, q2.hs, q2.h1, q2.h2⟩
      · go_simp
        refine ⟨trivial, fun _ => (by omega), ?_⟩
        refine (callsIn_wide.2 (back_any ⟨xk, xd, ⟨ht, hr, hs, hq⟩, xh⟩ xa xn xc)).mono ?_
        rintro e w4 ⟨rfl, hb4⟩
        refine hK _ _ ?_
        clear hK K
        have HB4 := hid (below_t HB0.out hb4)
        have cv4 := keepc hb4 cv0
        have lt4 := World.block_lt_of_cell? w4 _ cv4
        have HR4 := hid (own_moved HR0.out (Moved.below hb4 []) (fun _ _ q => by cases q))
        have cv5 := keepc (bal (Below.refl w4.heap.size w4) (.cells #[.int .i64 xk, .slice xa xn xc, .int .u8 ht, .int .u8 hr, .int .u8 hs, .int .u16 hq, .bool xh] 38)) cv4
        clear hb4
        unfold evV
        (try simp only [Act.put, List.setIfInBounds_toArray, List.set_cons_zero, List.set_cons_succ])
        refine wpAnyIn_ready (rs := [0, 3]) (by kernel_rfl) (by simp) ?_
        refine AllReadyIn.cons (by simp only [List.getElem?_toArray, List.getElem?_cons_succ, List.getElem?_cons_zero]; rfl) (fun K hK => ?_) (AllReadyIn.cons (by simp only [List.getElem?_toArray, List.getElem?_cons_succ, List.getElem?_cons_zero]; rfl) (fun K hK => ?_) (AllReadyIn.nil))
        · go_simp
          refine hK _ _ ?_
          clear hK K
          (try simp only [Act.put, List.setIfInBounds_toArray, List.set_cons_zero, List.set_cons_succ])
          refine wpAnyIn_ready (rs := [3]) (by kernel_rfl) (by simp) ?_
          refine AllReadyIn.cons (by simp only [List.getElem?_toArray, List.getElem?_cons_succ, List.getElem?_cons_zero]; rfl) (fun K hK => ?_) (AllReadyIn.nil)
          · go_simp
            refine hK _ _ ?_
            clear hK K
            (try simp only [Act.put, List.setIfInBounds_toArray, List.set_cons_zero, List.set_cons_succ])
            refine wpAnyIn_ready (rs := [4]) (by kernel_rfl) (by simp) ?_
            refine AllReadyIn.cons (by simp only [List.getElem?_toArray, List.getElem?_cons_succ, List.getElem?_cons_zero]; rfl) (fun K hK => ?_) (AllReadyIn.nil)
            · rw [if_pos (by rfl)]
              refine operIn_append_blk _ _ 31 rfl 38 i0 _ 7 40 Tryz.underlying31 hi hz0 hz1 hz2 rfl (by decide) v xs0.length (cellsV xs0) rfl (own_moved HR4.out (Moved.alloc _ _ []) (fun _ _ q => by cases q)) ⟨w4.heap.size, 0, none⟩ 1 1 [.int .i64 xk, .slice xa xn xc, .int .u8 ht, .int .u8 hr, .int .u8 hs, .int .u16 hq, .bool xh] rfl rfl (news7 w4 _ _ _ _ _ _ _ _) (by simp [Value.oneCell']) (by unfold maxLen; omega) (by omega) ?_
              intro v' W1 hown' hgrow hb'
              obtain ⟨S1, S2⟩ := TkU.snoc (n' := sn) HU.out (bal HB4.out _) hgrow hown' hb' HRD.out ⟨_, _, _, rfl⟩ HBO1.out HBO2.out (fun b q => (HDN.out b q).2) HBO3.out HBO4.out
              have ob1 := ((Moved.grown hgrow (S' := []) (fun k e => mem_blkV.2 e) (fun _ q => by cases q)).block w.heap.size (Nat.lt_of_lt_of_le HBO3.out (bal HB4.out _).size) HBO2.out).trans (((bal HB4.out _).block w.heap.size HBO3.out).trans HOB.out)
              obtain ⟨hbo1, hbof⟩ := box_cell ob1
              have hbol := World.block_lt_of_cell? W1 _ hbo1
              obtain ⟨g', cap', rfl⟩ := Tn.row_anyK hown'
              have S1 := hid S1
              have S2 := hid S2
              clear hown' hgrow hb' ob1
              refine hK _ _ ?_
              clear hK K
              (try simp only [Act.put, List.setIfInBounds_toArray, List.set_cons_zero, List.set_cons_succ])
              refine wpAnyIn_ready (rs := [5]) (by kernel_rfl) (by simp) ?_
              refine AllReadyIn.cons (by simp only [List.getElem?_toArray, List.getElem?_cons_succ, List.getElem?_cons_zero]; rfl) (fun K hK => ?_) (AllReadyIn.nil)
              · go_simp
                refine hK _ _ ?_
                clear hK K
                (try simp only [Act.put, List.setIfInBounds_toArray, List.set_cons_zero, List.set_cons_succ])
                refine wpAnyIn_done (by kernel_rfl) ?_ _
                gi_wp2
                obtain ⟨q1, q2⟩ := HJY.out _ _ S1.out S2.out
                exact ⟨q1, ⟨sn, _, xs0 ++ [_]⟩, kx, yx, ⟨rfl, rfl⟩, rfl, Nat.le_refl _, q2.b, q2.hs, q2.h1, q2.h2⟩
        · go_simp
          refine hK _ _ ?_
          clear hK K
          (try simp only [Act.put, List.setIfInBounds_toArray, List.set_cons_zero, List.set_cons_succ])
          refine wpAnyIn_ready (rs := [0]) (by kernel_rfl) (by simp) ?_
          refine AllReadyIn.cons (by simp only [List.getElem?_toArray, List.getElem?_cons_succ, List.getElem?_cons_zero]; rfl) (fun K hK => ?_) (AllReadyIn.nil)
          · go_simp
            refine hK _ _ ?_
            clear hK K
            (try simp only [Act.put, List.setIfInBounds_toArray, List.set_cons_zero, List.set_cons_succ])
            refine wpAnyIn_ready (rs := [4]) (by kernel_rfl) (by simp) ?_
            refine AllReadyIn.cons (by simp only [List.getElem?_toArray, List.getElem?_cons_succ, List.getElem?_cons_zero]; rfl) (fun K hK => ?_) (AllReadyIn.nil)
            · rw [if_pos (by rfl)]
              refine operIn_append_blk _ _ 31 rfl 38 i0 _ 7 40 Tryz.underlying31 hi hz0 hz1 hz2 rfl (by decide) v xs0.length (cellsV xs0) rfl (own_moved HR4.out (Moved.alloc _ _ []) (fun _ _ q => by cases q)) ⟨w4.heap.size, 0, none⟩ 1 1 [.int .i64 xk, .slice xa xn xc, .int .u8 ht, .int .u8 hr, .int .u8 hs, .int .u16 hq, .bool xh] rfl rfl (news7 w4 _ _ _ _ _ _ _ _) (by simp [Value.oneCell']) (by unfold maxLen; omega) (by omega) ?_
              intro v' W1 hown' hgrow hb'
              obtain ⟨S1, S2⟩ := TkU.snoc (n' := sn) HU.out (bal HB4.out _) hgrow hown' hb' HRD.out ⟨_, _, _, rfl⟩ HBO1.out HBO2.out (fun b q => (HDN.out b q).2) HBO3.out HBO4.out
              have ob1 := ((Moved.grown hgrow (S' := []) (fun k e => mem_blkV.2 e) (fun _ q => by cases q)).block w.heap.size (Nat.lt_of_lt_of_le HBO3.out (bal HB4.out _).size) HBO2.out).trans (((bal HB4.out _).block w.heap.size HBO3.out).trans HOB.out)
              obtain ⟨hbo1, hbof⟩ := box_cell ob1
              have hbol := World.block_lt_of_cell? W1 _ hbo1
              obtain ⟨g', cap', rfl⟩ := Tn.row_anyK hown'
              have S1 := hid S1
              have S2 := hid S2
              clear hown' hgrow hb' ob1
              refine hK _ _ ?_
              clear hK K
              (try simp only [Act.put, List.setIfInBounds_toArray, List.set_cons_zero, List.set_cons_succ])
              refine wpAnyIn_ready (rs := [5]) (by kernel_rfl) (by simp) ?_
              refine AllReadyIn.cons (by simp only [List.getElem?_toArray, List.getElem?_cons_succ, List.getElem?_cons_zero]; rfl) (fun K hK => ?_) (AllReadyIn.nil)
              · go_simp
                refine hK _ _ ?_
                clear hK K
                (try simp only [Act.put, List.setIfInBounds_toArray, List.set_cons_zero, List.set_cons_succ])
                refine wpAnyIn_done (by kernel_rfl) ?_ _
                gi_wp2
                obtain ⟨q1, q2⟩ := HJY.out _ _ S1.out S2.out
                exact ⟨q1, ⟨sn, _, xs0 ++ [_]⟩, kx, yx, ⟨rfl, rfl⟩, rfl, Nat.le_refl _, q2.b, q2.hs, q2.h1, q2.h2⟩
  case done =>
    rintro D W hD ⟨⟨sn, v, xs⟩, k', y', es, hg, hru, hst, hbo, hout⟩ hK
    obtain ⟨ll, hrc, hxs⟩ := runU_runC hru
    dsimp only at hrc hxs
    rw [List.nil_append] at hxs
    subst hxs
    have HK1 := hid hK
    have hB2 := hbo.put hK rfl (take_free _ _ _ _ W D _ hbo.u hD hK rfl).1 (take_free _ _ _ _ W D _ hbo.u hD hK rfl).2 (o' := .deferred none)
    have HBX := hid hB2
    obtain ⟨hc1, hf1⟩ := box_cell hbo.u.box
    have hc2 := (box_cell hB2.u.box).1
    dsimp only at hc1 hc2
    have hl1 := World.block_lt_of_cell? W _ hc1
    have hrw := hbo.u.row
    dsimp only at hrw
    obtain ⟨vx, vc, hvx⟩ := Tn.row_anyK hrw
    clear hrw
    subst hvx
    have HG := hid hg
    have HRC := hid hrc
    have HST := hid hst
    have HOUT := hid hout
    clear hg hru hrc hst hbo hout hK hB2 hf1 hc2
    gi_wp2
    refine ⟨by simp, .inl ⟨_, _, rfl, run_takeDeferred HK1.out, ?_⟩⟩
    have hfm : Moved w2 (W.putObj D (.deferred none)) SS SS := ⟨HBX.out.u.mv.os, HBX.out.u.mv.tape, HBX.out.u.mv.output, HBX.out.u.mv.size, HBX.out.u.mv.block, fun k q => .inl q⟩
    have hnr : ∀ b ∈ y'.foot L, b ∈ SS ∨ w2.heap.size ≤ b := fun b q => by
      by_cases hs : b ∈ SS
      · exact .inl hs
      · right
        by_cases hlt : b < w2.heap.size
        · exact absurd q (HBX.out.ar b (List.mem_append.2 (.inl (mem_kept.2 ⟨hlt, hs⟩))))
        · omega
    have hnw : ∀ b ∈ y'.foot L, b ≠ w.heap.size := fun b q f => HBX.out.aw w.heap.size (by simp [takeO]) (f ▸ q)
    refine ⟨.slice vx _ vc, by simp [results, Tryz.f20, go_sem], _, xs, k', y', es, rfl, HG.out, ?_, HST.out, HBX.out.lk, HBX.out.ok, ?_, HOUT.out, HBX.out.u.row, fun b q => ⟨Nat.le_trans (by have := HS2.out; omega) (HBX.out.u.nw b q), HBX.out.aw b (List.mem_cons_of_mem _ q)⟩, fun x hx => ⟨(HBX.out.u.dat x hx).1, (HBX.out.u.dat x hx).2, fun b q => ⟨HBX.out.ar b (List.mem_append.2 (.inr (List.mem_flatMap.2 ⟨x, hx, q⟩))), (HBX.out.u.ap x hx b q).2⟩⟩⟩
    · have h := HRC.out
      have e0 : sn = 0 := runC_n _ _ _ h
      rw [e0] at h
      exact h
    · have hm := HBX.out.u.mv
      have hb := HB2.out
      have hss := HSS.out
      refine ⟨hm.os.trans hb.os, hm.tape.trans hb.tape, hm.output.trans hb.output, Nat.le_trans hb.size hm.size, fun b hb1 hb3 => ?_, fun b q => ?_⟩
      · refine (hm.block b (by have := hb.size; omega) (fun f => ?_)).trans (hb.block b hb1)
        rw [hss] at f
        rcases List.mem_cons.1 f with f | f
        · omega
        · exact hb3 f
      · rcases hnr b q with r | r
        · rw [hss] at r
          rcases List.mem_cons.1 r with r | r
          · exact absurd r (hnw b q)
          · exact .inl r
        · right
          have := hb.size
          omega
  case stop => exact fun _ _ _ _ f => f.elim
end
end Go.Proofs.YtaanpnmgibcemaaGreatDoor
