/-
  The document's list of fields.
-/
import Derived.Test.YtdpgmepblmlaaaaDoorRq
import Derived.IntWalk
namespace Go.Proofs.YtdpgmepblmlaaaaDoor
open Go.RowKit Go.Lib Go.Deep

section
variable {P : Program} {ops : Array Oper} {Q : Exit → Act → World → Prop} {md : Region.Mode} {S : World → Prop}
/-- An operation is taken first: its slot is written. -/
theorem takeD {i : Nat} {oi : Oper} {v : Value} (d : Tmp) {fuel : Nat} {listed : Array Bool} {ts : Array Value} {ds : List Deferred} {w : World} (hi : ops[i]? = some oi) (hd : oi.dst = some d)
    (hs : Region.noSelect ops = true) (hf : Region.free md ops listed i = true) (hr : (Region.ready md ops listed).contains i = true)
    (hQ : ∀ c a w, Q (.panic c) (a.put oi.dst v) w → Q (.panic c) a w) (hS : S w) (hy : YieldsIf P ops S oi v ⟨ts, ds⟩)
    (h : wpAnyH P md ops Q S fuel (listed.setIfInBounds i true) ⟨ts.setIfInBounds d v, ds⟩ w) : wpAnyH P md ops Q S (fuel + 1) listed ⟨ts, ds⟩ w :=
  wpAnyH_take hi hs hf hr hQ hy hS (by rw [hd]; exact h)
end
section
variable {P : Program} {ops : Array Oper} {o : Oper} {a : Act} {w : World} {K : Act → World → Prop} {Q : Exit → Act → World → Prop} {E : Prop}
theorem step_append_run (hgd : o.guard = none) (s x : Operand) (t : TypeId) (ho : o.op = .call { callee := .builtin .append, args := #[s, x], argTypes := #[t, t] }) (vs vx v' : Value) (w' : World) (hs : a.eval s = vs) (hx : a.eval x = vx)
    (hr : (Builtin.append_ #[t, t] o.type #[vs, vx]).run P w = .ok v' w') (h : K (a.put o.dst v') w') :
    if Region.wanted o (yielded ops a.tmps) = true then Oper.wp P o a w K Q else E := by
  have hw : Region.wanted o (yielded ops a.tmps) = true := by simp [Region.wanted, hgd]
  rw [if_pos hw]
  unfold Oper.wp execOp
  simp only [ho, resolve, invoke, builtin, Sem.run_bind, Sem.run_pure, Result.andThen_ok, List.map_toArray, List.map_cons, List.map_nil, hs, hx, hr]
  exact h
end
/-- Fields of one's own, from a block on. -/
structure RowS (t : TypeId) (B : Nat) (w : World) (v : Value) (xs : List SfV) : Prop where
  row : w.ownsRow 0 t 2 v xs.length (cellsS xs)
  dat : ∀ x ∈ xs, OwnB w x.tv x.d.data
  fr : ∀ k ∈ blkV v, B ≤ k
  fd : ∀ x ∈ xs, ∀ k ∈ blkV x.tv, B ≤ k
theorem RowS.nil (t : TypeId) (B : Nat) (w : World) : RowS t B w (.slice none 0 0) [] := ⟨World.ownsRow_nil _ _ _ _, fun _ h => (by cases h), fun _ h => (by cases h), fun _ h => (by cases h)⟩
theorem RowS.step {t : TypeId} {B : Nat} {w w' : World} {v : Value} {xs : List SfV} (h : RowS t B w v xs) (hb : Below w.heap.size w w') : RowS t B w' v xs :=
  ⟨own_moved h.row (Moved.below hb []) (fun _ _ q => by cases q), fun x hx => (h.dat x hx).step hb, h.fr, h.fd⟩
theorem RowS.snoc {t : TypeId} {B : Nat} {w w' : World} {v v' : Value} {xs : List SfV} {x : SfV} (ht : t ≠ 5) (h : RowS t B w v xs) (hB : B ≤ w.heap.size) (ho : OwnB w x.tv x.d.data) (hx : ∀ k ∈ blkV x.tv, B ≤ k) (hrow : w'.ownsRow 0 t 2 v' (xs.length + 1) (cellsS xs ++ sfC x)) (hg : w.grownBy w' v.ownBlock) (hb : ∀ k ∈ blkV v', k ∈ blkV v ∨ w.heap.size ≤ k) : RowS t B w' v' (xs ++ [x]) := by
  have hm : Moved w w' (blkV v) (blkV v') := Moved.grown hg (fun k hk => mem_blkV.2 hk) hb
  refine ⟨?_, fun y hy => ?_, fun k hk => ?_, fun y hy => ?_⟩
  · rw [cellsS_append, List.length_append]
    exact hrow
  · rcases List.mem_append.1 hy with hy | hy
    · exact (h.dat y hy).moved hm (own_apart (h.dat y hy).2 h.row (fun e => ht e.symm))
    · rw [List.mem_singleton.1 hy]; exact ho.moved hm (own_apart ho.2 h.row (fun e => ht e.symm))
  · rcases hb k hk with r | r
    · exact h.fr k r
    · omega
  · rcases List.mem_append.1 hy with hy | hy
    · exact h.fd y hy
    · rw [List.mem_singleton.1 hy]; exact hx
theorem PosS.step' {zs : List Int} {k m L : Nat} (h : PosS zs k m) (hm : m < zs.length) (h3 : ¬ (zs.drop m).length < 3) (hL : lenS (zs.drop m) = L) (hL3 : 3 ≤ L) (hLn : L ≤ (zs.drop m).length) : (sfA zs).1[k]? = some ⟨(zs.drop m).getD 2 0, ((zs.drop m).take L).drop 3⟩ ∧ PosS zs (k + 1) (m + L) := by
  have e := sF_ok (p := zs.drop m) h3 (by omega)
  rw [hL] at e
  have q := h.good hm (by rw [e])
  rw [e] at q
  exact ⟨q.2.1, q.2.2⟩
theorem PosS.bad' {zs : List Int} {k m : Nat} (h : PosS zs k m) (hm : m < zs.length) (hb : (zs.drop m).length < 3 ∨ lenS (zs.drop m) < 3 ∨ ((zs.drop m).length : Int) < lenS (zs.drop m)) : k = (sfA zs).1.length ∧ (sfA zs).2 = 2 := by
  have e : sF (zs.drop m) = (2, sfZ, 0) := by
    by_cases h3 : (zs.drop m).length < 3
    · exact sF_short h3
    · exact sF_bad h3 (hb.resolve_left h3)
  have q := h.bad hm (by rw [e]; exact (by decide : (2 : Int) ≠ 0))
  rw [e] at q
  exact q
theorem getD_drop (zs : List Int) (m j : Nat) : (zs.drop m).getD j 0 = zs.getD (m + j) 0 := by rw [List.getD, List.getD, List.getElem?_drop]
theorem map_take {xs : List SfV} {l : List SfD} {k : Nat} (h : xs.map SfV.d = l.take k) (hk : k ≤ l.length) : xs.length = k := by
  have := congrArg List.length h
  rw [List.length_map, List.length_take] at this
  omega
set_option maxRecDepth 100000 in
set_option maxHeartbeats 4000000 in
theorem rall_any (v : Value) (zs : List Int) (w : World) (h : Reads w v zs) (hlz : zs.length ≤ 1000000) : Calls Tryd.prog 13 #[v] w (AllSD 36 (sfA zs).1 (sfA zs).2 w) := by
  obtain ⟨i0, hi, hz0, hz1, hz2⟩ := info_parts infoFr
  have HBY := hid (show BytL zs from h.1)
  have HR := hid h
  have HPR := hid (fun W (hW : Below w.heap.size w W) => reads_below h hW)
  have HST0 := hid (fun k m (hp : PosS zs k m) (hm : m < zs.length) h3 L hL hL3 hLn => hp.step' (L := L) hm h3 hL hL3 hLn)
  have HBD := hid (fun k m (hp : PosS zs k m) (hm : m < zs.length) hb => hp.bad' hm hb)
  have HSP := hid (fun k (hp : PosS zs k zs.length) => hp.stop)
  have HS0 := hid (PosS.start zs)
  obtain ⟨x, c, rfl, hop⟩ := reads_open h
  have HOP := hid hop
  have HMID := hid (fun W (hW : Below w.heap.size w W) a b (hab : a ≤ b) (hb : b ≤ zs.length) => run_mid (reads_below h hW) a b hab hb)
  clear h hop
  obtain ⟨N, hN⟩ : ∃ N, zs.length = N := ⟨_, rfl⟩
  have HN := hid hN
  rw [hN] at HST0 HBD HSP HOP HMID hlz HR HPR ⊢
  clear hN
  go_enter Tryd.func13, Tryd.ntmps13
  go_wp2_with fail
  go_loopw [4, 5] (fun l i wr => ∃ (k m : Nat) (xs : List SfV), m ≤ N ∧ i = .int .i64 m ∧ Hid (RowS 36 w.heap.size wr l xs) ∧ Hid (xs.map SfV.d = (sfA zs).1.take k) ∧ Hid (PosS zs k m) ∧ Hid (Below w.heap.size w wr)) (fun _ i _ => N - (intOf i).toNat)
  case atStart => exact ⟨0, 0, [], Nat.zero_le _, rfl, hid (RowS.nil _ _ _), hid rfl, HS0, hid (Below.refl _ _)⟩
  case round =>
    obtain ⟨k, m, xs, hm, rfl, HM, HX, HP, HB⟩ := hrel
    obtain ⟨xl, cl, rfl⟩ := row_any HM.out.row
    by_cases hlt : m < N
    · have hki : (m : Int) < N := by omega
      obtain ⟨Lf, hLf⟩ : ∃ Lf : Nat, N = m + Lf := ⟨N - m, by omega⟩
      have hlf : IntKind.i64.wrap ((N : Int) - m) = Lf := by rw [hLf]; push_cast; rw [show (m : Int) + Lf - m = Lf by omega]; exact IntWalk.i64_in _ (by omega)
      have hdl : (zs.drop m).length = Lf := by rw [List.length_drop, HN.out]; omega
      have hkl := HP.out.2.1
      by_cases h3 : Lf < 3
      · have h3i : (Lf : Int) < 3 := by omega
        have HE := hid (HBD.out k m HP.out hlt (.inl (by rw [hdl]; exact h3)))
        have HF := hid (show AllSD 36 (sfA zs).1 (sfA zs).2 w (.returned (.tuple #[.slice xl xs.length cl, .int .i64 2])) wr from ⟨_, xs, by rw [HE.out.2], by rw [HX.out, HE.out.1, List.take_length], ⟨HM.out.row, HM.out.dat⟩, HB.out, HM.out.fr, HM.out.fd⟩)
        clear hdl hkl hLf
        go_wp2
        go_ret2
        exact HF.out
      obtain ⟨g, o, rfl, hg, hNc, hcm, hcell⟩ := HOP.out (by omega)
      have d0 := getD_drop zs m 0
      have d1 := getD_drop zs m 1
      have hd2 := getD_drop zs m 2
      have hnum : numS (zs.drop m) = 256 * (zs.drop m).getD 0 0 + (zs.drop m).getD 1 0 := rfl
      have hlen : lenS (zs.drop m) = if numS (zs.drop m) = 0 then ((zs.drop m).length : Int) else numS (zs.drop m) := rfl
      rw [hdl] at hlen
      rw [d0, d1] at hnum
      have c0 := (HB.out.cell (p := ⟨g, o + (m + 0), none⟩) hg).trans (hcell (m + 0) (by omega))
      have c1 := (HB.out.cell (p := ⟨g, o + (m + 1), none⟩) hg).trans (hcell (m + 1) (by omega))
      have c2 := (HB.out.cell (p := ⟨g, o + (m + 2), none⟩) hg).trans (hcell (m + 2) (by omega))
      have a01 := HBY.out.getD (m + 0)
      have a11 := HBY.out.getD (m + 1)
      have HNG := hid (show g ∉ blkV (.slice xl xs.length cl) from fun q => by have := HM.out.fr g q; omega)
      have HFL := hid (show xs.length ≤ 1000000 from by
        have := map_take HX.out hkl
        have q := sA_count zs.length zs
        have q2 : (sfA zs).1.length * 3 ≤ zs.length := q
        have := HN.out
        omega)
      generalize zs.getD (m + 0) 0 = a at hnum c0 a01
      generalize zs.getD (m + 1) 0 = b at hnum c1 a11
      generalize zs.getD (m + 2) 0 = d at hd2 c2
      rw [Nat.add_zero] at c0
      clear d0 d1 hcell hNc
      obtain ⟨a0, a1⟩ := a01
      obtain ⟨b0, b1⟩ := a11
      have e1 : IntKind.i64.wrap a = a := wraps_i64 a (by omega) (by omega)
      have e2 : IntKind.i64.wrap b = b := wraps_i64 b (by omega) (by omega)
      have e3 : IntKind.i64.wrap (256 * a) = 256 * a := wraps_i64 _ (by omega) (by omega)
      have s1 : IntKind.i64.wrap ((m : Int) + 1) = (m : Int) + 1 := IntWalk.i64_in _ (by omega)
      have u1 : ((m : Int) + 1).toNat = m + 1 := by omega
      have v1 : (0 : Int) ≤ (m : Int) + 1 := by omega
      have w1' : (m : Int) + 1 < N := by omega
      have h3i : ¬ (Lf : Int) < 3 := by omega
      have hdr0 : Below wr.heap.size wr wr.drew := (Below.refl _ _).drew
      by_cases hz : numS (zs.drop m) = 0
      · have e4 : IntKind.i64.wrap (256 * a + b) = 0 := by rw [← hnum, hz]; rfl
        obtain ⟨L, hL⟩ : ∃ L, L = Lf := ⟨_, rfl⟩
        have hLe : lenS (zs.drop m) = (L : Int) := by rw [hlen, if_pos hz]; omega
        have hL3 : 3 ≤ L := by omega
        have hLf3 : L ≤ Lf := by omega
        have HST := hid (HST0.out k m HP.out hlt (by rw [hdl]; omega) L hLe hL3 (by rw [hdl]; exact hLf3))
        rw [hd2] at HST
        have hmL : m + L ≤ N := by omega
        obtain ⟨xs3, cs3, hsl0, hrd3⟩ := HMID.out wr HB.out (m + 3) (m + L) (by omega) hmL
        have htk : (zs.take (m + L)).drop (m + 3) = ((zs.drop m).take L).drop 3 := by
          rw [List.drop_take, List.drop_take, List.drop_drop]
          congr 1
          omega
        rw [htk] at hrd3
        have hyl : (((zs.drop m).take L).drop 3).length ≤ 140737488355328 := by
          rw [List.length_drop, List.length_take]
          omega
        generalize ((zs.drop m).take L).drop 3 = ys at hrd3 HST hyl
        have hsl : ∀ w', (Instr.sliceAt 22 (.slice (some ⟨g, o, none⟩) N c) (some (.int .i64 ((m : Int) + 3))) (some (.int .i64 ((m : Int) + L))) none).run Tryd.prog w' = .ok (.slice xs3 (m + L - (m + 3)) cs3) w' := by
          intro w'
          have q := hsl0 w'
          push_cast at q
          exact q
        have hdr : Below wr.heap.size wr wr.drew.drew := (Below.refl _ _).drew.drew
        have HCP := hid (fun W (hW : Below wr.heap.size wr W) => rcopy_own _ ys W (hrd3 W (HPR.out W (below_t HB.out hW))) hyl)
        have hLi : ¬ (L : Int) < 3 := by omega
        have hLg : ¬ (Lf : Int) < L := by omega
        have s2 : IntKind.i64.wrap ((m : Int) + 2) = (m : Int) + 2 := IntWalk.i64_in _ (by omega)
        have s3 : IntKind.i64.wrap ((m : Int) + 3) = (m : Int) + 3 := IntWalk.i64_in _ (by omega)
        have s4 : IntKind.i64.wrap ((m : Int) + L) = (m : Int) + L := IntWalk.i64_in _ (by omega)
        have u2 : ((m : Int) + 2).toNat = m + 2 := by omega
        have v2 : (0 : Int) ≤ (m : Int) + 2 := by omega
        have v3 : (m : Int) + 2 < N := by omega
        clear hsl0 hrd3 htk hLe hyl hnum hlen hz hdl hd2 hLf
        subst hL
        go_wp2
        go_region_held3 (fun w' => w'.cell? ⟨g, o + m, none⟩ = some (.int .u8 a) ∧ w'.cell? ⟨g, o + (m + 1), none⟩ = some (.int .u8 b)) (first | exact ⟨keepc hdr0 c0, keepc hdr0 c1⟩ | fail) (first | fail)
        rename_i hH
        clear hH
        go_wp2
        refine wp_region_held_drew (S := fun V => V.cell? ⟨g, o + (m + 2), none⟩ = some (.int .u8 d)) (by kernel_rfl) ?_ (fun hHeld => ?_)
        · exact keepc hdr c2
        refine takeD (i := 0) (v := ?_) 43 rfl rfl (by kernel_rfl) (by kernel_rfl) (by kernel_rfl) (fun _ _ _ h => h) (by assumption) (Or.inl ⟨by rfl, ?_⟩) ?_
        rotate_left
        · intro w hSw
          (try dsimp only at hSw)
          go_simp
          try with_reducible rfl
        simp only [List.setIfInBounds_toArray, List.set_cons_zero, List.set_cons_succ]
        refine takeD (i := 1) (v := ?_) 44 rfl rfl (by kernel_rfl) (by kernel_rfl) (by kernel_rfl) (fun _ _ _ h => h) (by assumption) (Or.inl ⟨by rfl, ?_⟩) ?_
        rotate_left
        · intro w hSw
          (try dsimp only at hSw)
          go_simp
          try with_reducible rfl
        simp only [List.setIfInBounds_toArray, List.set_cons_zero, List.set_cons_succ]
        refine takeD (i := 2) (v := ?_) 45 rfl rfl (by kernel_rfl) (by kernel_rfl) (by kernel_rfl) (fun _ _ _ h => h) (by assumption) (Or.inl ⟨by rfl, ?_⟩) ?_
        rotate_left
        · intro w hSw
          (try dsimp only at hSw)
          go_simp
          try with_reducible rfl
        simp only [List.setIfInBounds_toArray, List.set_cons_zero, List.set_cons_succ]
        refine takeD (i := 3) (v := ?_) 46 rfl rfl (by kernel_rfl) (by kernel_rfl) (by kernel_rfl) (fun _ _ _ h => h) (by assumption) (Or.inl ⟨by rfl, ?_⟩) ?_
        rotate_left
        · intro w hSw
          (try dsimp only at hSw)
          go_simp
          try with_reducible rfl
        simp only [List.setIfInBounds_toArray, List.set_cons_zero, List.set_cons_succ]
        refine takeD (i := 4) (v := ?_) 47 rfl rfl (by kernel_rfl) (by kernel_rfl) (by kernel_rfl) (fun _ _ _ h => h) (by assumption) (Or.inl ⟨by rfl, ?_⟩) ?_
        rotate_left
        · intro w hSw
          (try dsimp only at hSw)
          go_simp
          try with_reducible rfl
        simp only [List.setIfInBounds_toArray, List.set_cons_zero, List.set_cons_succ]
        refine takeD (i := 6) (v := ?_) 49 rfl rfl (by kernel_rfl) (by kernel_rfl) (by kernel_rfl) (fun _ _ _ h => h) (by assumption) (Or.inl ⟨by rfl, ?_⟩) ?_
        rotate_left
        · intro w hSw
          (try dsimp only at hSw)
          go_simp
          try with_reducible rfl
        simp only [List.setIfInBounds_toArray, List.set_cons_zero, List.set_cons_succ]
        refine takeD (i := 7) (v := ?_) 50 rfl rfl (by kernel_rfl) (by kernel_rfl) (by kernel_rfl) (fun _ _ _ h => h) (by assumption) (Or.inl ⟨by rfl, ?_⟩) ?_
        rotate_left
        · intro w hSw
          (try dsimp only at hSw)
          go_simp
          try with_reducible rfl
        simp only [List.setIfInBounds_toArray, List.set_cons_zero, List.set_cons_succ]
        refine takeD (i := 8) (v := ?_) 51 rfl rfl (by kernel_rfl) (by kernel_rfl) (by kernel_rfl) (fun _ _ _ h => h) (by assumption) (Or.inl ⟨by rfl, ?_⟩) ?_
        rotate_left
        · intro w hSw
          (try dsimp only at hSw)
          go_simp
          try with_reducible rfl
        simp only [List.setIfInBounds_toArray, List.set_cons_zero, List.set_cons_succ]
        refine takeD (i := 9) (v := ?_) 52 rfl rfl (by kernel_rfl) (by kernel_rfl) (by kernel_rfl) (fun _ _ _ h => h) (by assumption) (Or.inl ⟨by rfl, ?_⟩) ?_
        rotate_left
        · intro w hSw
          (try dsimp only at hSw)
          go_simp
          try with_reducible rfl
        simp only [List.setIfInBounds_toArray, List.set_cons_zero, List.set_cons_succ]
        refine takeD (i := 10) (v := ?_) 53 rfl rfl (by kernel_rfl) (by kernel_rfl) (by kernel_rfl) (fun _ _ _ h => h) (by assumption) (Or.inl ⟨by rfl, ?_⟩) ?_
        rotate_left
        · intro w hSw
          (try dsimp only at hSw)
          go_simp
          try with_reducible rfl
        simp only [List.setIfInBounds_toArray, List.set_cons_zero, List.set_cons_succ]
        refine takeD (i := 11) (v := ?_) 54 rfl rfl (by kernel_rfl) (by kernel_rfl) (by kernel_rfl) (fun _ _ _ h => h) (by assumption) (Or.inl ⟨by rfl, ?_⟩) ?_
        rotate_left
        · intro w hSw
          (try dsimp only at hSw)
          go_simp
          try with_reducible rfl
        simp only [List.setIfInBounds_toArray, List.set_cons_zero, List.set_cons_succ]
        refine takeD (i := 12) (v := ?_) 55 rfl rfl (by kernel_rfl) (by kernel_rfl) (by kernel_rfl) (fun _ _ _ h => h) (by assumption) (Or.inl ⟨by rfl, ?_⟩) ?_
        rotate_left
        · intro w hSw
          (try dsimp only at hSw)
          go_simp
          try with_reducible rfl
        simp only [List.setIfInBounds_toArray, List.set_cons_zero, List.set_cons_succ]
        refine wpAnyH_ready (rs := [5, 13]) (by kernel_rfl) (by simp) ?_
        refine AllReadyH.cons (by simp only [List.getElem?_toArray, List.getElem?_cons_succ, List.getElem?_cons_zero]; rfl) (fun K hK => ?_) (AllReadyH.cons (by simp only [List.getElem?_toArray, List.getElem?_cons_succ, List.getElem?_cons_zero]; rfl) (fun K hK => ?_) AllReadyH.nil)
        · go_simp
          refine hK.out _ _ ?_ (fun hHeldN => ?_)
          · exact hHeld
          clear hK K hHeld
          have hHeld := hHeldN
          clear hHeldN
          (try simp only [Act.put, List.setIfInBounds_toArray, List.set_cons_zero, List.set_cons_succ])
          refine wpAnyH_ready (rs := [13]) (by kernel_rfl) (by simp) ?_
          refine AllReadyH.cons (by simp only [List.getElem?_toArray, List.getElem?_cons_succ, List.getElem?_cons_zero]; rfl) (fun K hK => ?_) AllReadyH.nil
          go_simp
          go_at_call 12; (with_reducible refine (HCP.out _ hdr).mono ?_); rintro e w4 ⟨v4, rfl, ho4, hb4, hk4⟩
          refine hK.out _ _ ?_ (fun hHeldN => ?_)
          · exact keepc hb4 hHeld
          obtain ⟨x4, n4, c4, rfl⟩ := own_slice ho4
          have hdw := below_t HB.out (below_t hdr hb4)
          have hb5 := bal (Below.refl w4.heap.size w4) (.cells #[.int .u8 d, .slice x4 n4 c4] 36)
          have HB4 := hid hdw
          have HM5 := hid ((HM.out.step (below_t hdr hb4)).step hb5)
          have HO5 := hid (ho4.step hb5)
          have HK4 := hid (show ∀ k ∈ blkV (.slice x4 n4 c4), w.heap.size ≤ k from fun k hk => by have := hk4 k hk; have := hdr.size; have := HB.out.size; omega)
          have HNS := hid (news_two w4 (.int .u8 d) (.slice x4 n4 c4) 36 w4.heap.size rfl)
          have HB5 := hid (below_t HB4.out hb5)
          have HX5 := hid (keepc hb5 (keepc hb4 (keepc hdr c2)))
          clear ho4 hk4 hdw hb5
          clear hK K hHeld
          have hHeld := hHeldN
          clear hHeldN
          (try simp only [Act.put, List.setIfInBounds_toArray, List.set_cons_zero, List.set_cons_succ])
          refine takeD (i := 14) (v := ?_) 57 rfl rfl (by kernel_rfl) (by kernel_rfl) (by kernel_rfl) (fun _ _ _ h => h) (by assumption) (Or.inl ⟨by rfl, ?_⟩) ?_
          rotate_left
          · intro w hSw
            (try dsimp only at hSw)
            go_simp
            try with_reducible rfl
          simp only [List.setIfInBounds_toArray, List.set_cons_zero, List.set_cons_succ]
          refine wpAnyH_ready (rs := [15]) (by kernel_rfl) (by simp) ?_
          refine AllReadyH.cons (by simp only [List.getElem?_toArray, List.getElem?_cons_succ, List.getElem?_cons_zero]; rfl) (fun K hK => ?_) AllReadyH.nil
          go_simp
          refine hK.out _ _ ?_ (fun hHeldN => ?_)
          · exact HX5.out
          clear hK K hHeld
          have hHeld := hHeldN
          clear hHeldN
          (try simp only [Act.put, List.setIfInBounds_toArray, List.set_cons_zero, List.set_cons_succ])
          refine wpAnyH_ready (rs := [16]) (by kernel_rfl) (by simp) ?_
          refine AllReadyH.cons (by simp only [List.getElem?_toArray, List.getElem?_cons_succ, List.getElem?_cons_zero]; rfl) (fun K hK => ?_) AllReadyH.nil
          obtain ⟨v', w9, hrun, hown, hgr, -, hk9⟩ := run_append_blk (P := Tryd.prog) (w4.alloc (.cells #[.int .u8 d, .slice x4 n4 c4] 36)) 26 26 36 i0 _ 2 32 Tryd.underlying26 hi hz0 hz1 hz2 rfl (by decide) _ xs.length _ HM5.out.row ⟨w4.heap.size, 0, none⟩ 1 1 (sfC ⟨⟨d, ys⟩, .slice x4 n4 c4⟩) rfl HNS.out (one_sfC _ rfl) (by have := HFL.out; unfold maxLen; omega) (by have := HFL.out; omega)
          refine step_append_run (by rfl) _ _ _ (by rfl) _ _ _ _ (by rfl) (by rfl) hrun ?_
          have hm9 := Moved.grown hgr (fun k hk => mem_blkV.2 hk) hk9
          have HX7 := hid (cell_moved hm9 HX5.out (fun q => HNG.out q))
          have HM9 := hid (RowS.snoc (by decide) HM5.out HB5.out.size HO5.out HK4.out hown hgr hk9)
          have HB9 := hid (HB5.out.grown hgr HB5.out.size (fun k hk => HM.out.fr k (mem_blkV.2 hk)))
          obtain ⟨xv', cv', rfl⟩ := row_any hown
          refine hK.out _ _ ?_ (fun hHeldN => ?_)
          · exact HX7.out
          clear hrun hown hgr hk9 hm9
          clear hK K hHeld
          have hHeld := hHeldN
          clear hHeldN
          (try simp only [Act.put, List.setIfInBounds_toArray, List.set_cons_zero, List.set_cons_succ])
          refine takeD (i := 17) (v := ?_) 4 rfl rfl (by kernel_rfl) (by kernel_rfl) (by kernel_rfl) (fun _ _ _ h => h) (by assumption) (Or.inl ⟨by rfl, ?_⟩) ?_
          rotate_left
          · intro w hSw
            (try dsimp only at hSw)
            go_simp
            try with_reducible rfl
          simp only [List.setIfInBounds_toArray, List.set_cons_zero, List.set_cons_succ]
          refine wpAnyH_done (by kernel_rfl) ?_ _
          clear hHeld
          go_wp2
          go_roundw
          case rel =>
            refine ⟨k + 1, m + L, xs ++ [⟨⟨d, ys⟩, .slice x4 n4 c4⟩], hmL, by push_cast; rfl, HM9, hid (by rw [List.map_append, HX.out, take_one _ _ _ HST.out.1]; rfl), hid HST.out.2, HB9⟩
          case measure => simp [intOf]; omega
        · go_simp
          go_at_call 12; (with_reducible refine (HCP.out _ hdr).mono ?_); rintro e w4 ⟨v4, rfl, ho4, hb4, hk4⟩
          refine hK.out _ _ ?_ (fun hHeldN => ?_)
          · exact keepc hb4 hHeld
          obtain ⟨x4, n4, c4, rfl⟩ := own_slice ho4
          have hdw := below_t HB.out (below_t hdr hb4)
          have hb5 := bal (Below.refl w4.heap.size w4) (.cells #[.int .u8 d, .slice x4 n4 c4] 36)
          have HB4 := hid hdw
          have HM5 := hid ((HM.out.step (below_t hdr hb4)).step hb5)
          have HO5 := hid (ho4.step hb5)
          have HK4 := hid (show ∀ k ∈ blkV (.slice x4 n4 c4), w.heap.size ≤ k from fun k hk => by have := hk4 k hk; have := hdr.size; have := HB.out.size; omega)
          have HNS := hid (news_two w4 (.int .u8 d) (.slice x4 n4 c4) 36 w4.heap.size rfl)
          have HB5 := hid (below_t HB4.out hb5)
          have HX5 := hid (keepc hb5 (keepc hb4 (keepc hdr c2)))
          clear ho4 hk4 hdw hb5
          clear hK K hHeld
          have hHeld := hHeldN
          clear hHeldN
          (try simp only [Act.put, List.setIfInBounds_toArray, List.set_cons_zero, List.set_cons_succ])
          refine wpAnyH_ready (rs := [5]) (by kernel_rfl) (by simp) ?_
          refine AllReadyH.cons (by simp only [List.getElem?_toArray, List.getElem?_cons_succ, List.getElem?_cons_zero]; rfl) (fun K hK => ?_) AllReadyH.nil
          go_simp
          refine hK.out _ _ ?_ (fun hHeldN => ?_)
          · exact hHeld
          clear hK K hHeld
          have hHeld := hHeldN
          clear hHeldN
          (try simp only [Act.put, List.setIfInBounds_toArray, List.set_cons_zero, List.set_cons_succ])
          refine takeD (i := 14) (v := ?_) 57 rfl rfl (by kernel_rfl) (by kernel_rfl) (by kernel_rfl) (fun _ _ _ h => h) (by assumption) (Or.inl ⟨by rfl, ?_⟩) ?_
          rotate_left
          · intro w hSw
            (try dsimp only at hSw)
            go_simp
            try with_reducible rfl
          simp only [List.setIfInBounds_toArray, List.set_cons_zero, List.set_cons_succ]
          refine wpAnyH_ready (rs := [15]) (by kernel_rfl) (by simp) ?_
          refine AllReadyH.cons (by simp only [List.getElem?_toArray, List.getElem?_cons_succ, List.getElem?_cons_zero]; rfl) (fun K hK => ?_) AllReadyH.nil
          go_simp
          refine hK.out _ _ ?_ (fun hHeldN => ?_)
          · exact HX5.out
          clear hK K hHeld
          have hHeld := hHeldN
          clear hHeldN
          (try simp only [Act.put, List.setIfInBounds_toArray, List.set_cons_zero, List.set_cons_succ])
          refine wpAnyH_ready (rs := [16]) (by kernel_rfl) (by simp) ?_
          refine AllReadyH.cons (by simp only [List.getElem?_toArray, List.getElem?_cons_succ, List.getElem?_cons_zero]; rfl) (fun K hK => ?_) AllReadyH.nil
          obtain ⟨v', w9, hrun, hown, hgr, -, hk9⟩ := run_append_blk (P := Tryd.prog) (w4.alloc (.cells #[.int .u8 d, .slice x4 n4 c4] 36)) 26 26 36 i0 _ 2 32 Tryd.underlying26 hi hz0 hz1 hz2 rfl (by decide) _ xs.length _ HM5.out.row ⟨w4.heap.size, 0, none⟩ 1 1 (sfC ⟨⟨d, ys⟩, .slice x4 n4 c4⟩) rfl HNS.out (one_sfC _ rfl) (by have := HFL.out; unfold maxLen; omega) (by have := HFL.out; omega)
          refine step_append_run (by rfl) _ _ _ (by rfl) _ _ _ _ (by rfl) (by rfl) hrun ?_
          have hm9 := Moved.grown hgr (fun k hk => mem_blkV.2 hk) hk9
          have HX7 := hid (cell_moved hm9 HX5.out (fun q => HNG.out q))
          have HM9 := hid (RowS.snoc (by decide) HM5.out HB5.out.size HO5.out HK4.out hown hgr hk9)
          have HB9 := hid (HB5.out.grown hgr HB5.out.size (fun k hk => HM.out.fr k (mem_blkV.2 hk)))
          obtain ⟨xv', cv', rfl⟩ := row_any hown
          refine hK.out _ _ ?_ (fun hHeldN => ?_)
          · exact HX7.out
          clear hrun hown hgr hk9 hm9
          clear hK K hHeld
          have hHeld := hHeldN
          clear hHeldN
          (try simp only [Act.put, List.setIfInBounds_toArray, List.set_cons_zero, List.set_cons_succ])
          refine takeD (i := 17) (v := ?_) 4 rfl rfl (by kernel_rfl) (by kernel_rfl) (by kernel_rfl) (fun _ _ _ h => h) (by assumption) (Or.inl ⟨by rfl, ?_⟩) ?_
          rotate_left
          · intro w hSw
            (try dsimp only at hSw)
            go_simp
            try with_reducible rfl
          simp only [List.setIfInBounds_toArray, List.set_cons_zero, List.set_cons_succ]
          refine wpAnyH_done (by kernel_rfl) ?_ _
          clear hHeld
          go_wp2
          go_roundw
          case rel =>
            refine ⟨k + 1, m + L, xs ++ [⟨⟨d, ys⟩, .slice x4 n4 c4⟩], hmL, by push_cast; rfl, HM9, hid (by rw [List.map_append, HX.out, take_one _ _ _ HST.out.1]; rfl), hid HST.out.2, HB9⟩
          case measure => simp [intOf]; omega
      · obtain ⟨L, hL⟩ : ∃ L : Nat, 256 * a + b = L := ⟨(256 * a + b).toNat, by omega⟩
        have hz2' : ¬ L = 0 := by omega
        have t1 : ((L : Int) == 0) = false := by simpa using hz2'
        have e4 : IntKind.i64.wrap (256 * a + b) = (L : Int) := by rw [hL]; exact IntWalk.i64_in _ (by omega)
        by_cases hb1 : L < 3
        · have HE := hid (HBD.out k m HP.out hlt (.inr (by rw [hdl, hlen, if_neg hz, hnum, hL]; exact .inl (by omega))))
          have HF := hid (fun W (hW : Below wr.heap.size wr W) => (show AllSD 36 (sfA zs).1 (sfA zs).2 w (.returned (.tuple #[.slice xl xs.length cl, .int .i64 2])) W from ⟨_, xs, by rw [HE.out.2], by rw [HX.out, HE.out.1, List.take_length], ⟨(HM.out.step hW).row, (HM.out.step hW).dat⟩, below_t HB.out hW, HM.out.fr, HM.out.fd⟩))
          have t3 : (L : Int) < 3 := by omega
          clear hnum hlen hz hdl hd2 hLf
          go_wp2
          go_region_held3 (fun w' => w'.cell? ⟨g, o + m, none⟩ = some (.int .u8 a) ∧ w'.cell? ⟨g, o + (m + 1), none⟩ = some (.int .u8 b)) (first | exact ⟨keepc hdr0 c0, keepc hdr0 c1⟩ | fail) (first | fail)
          rename_i hH
          clear hH
          go_wp2
          go_ret2
          exact HF.out _ hdr0
        · have hb1' : ¬ (L : Int) < 3 := by omega
          by_cases hb2 : Lf < L
          · have HE := hid (HBD.out k m HP.out hlt (.inr (by rw [hdl, hlen, if_neg hz, hnum, hL]; exact .inr (by omega))))
            have HF := hid (fun W (hW : Below wr.heap.size wr W) => (show AllSD 36 (sfA zs).1 (sfA zs).2 w (.returned (.tuple #[.slice xl xs.length cl, .int .i64 2])) W from ⟨_, xs, by rw [HE.out.2], by rw [HX.out, HE.out.1, List.take_length], ⟨(HM.out.step hW).row, (HM.out.step hW).dat⟩, below_t HB.out hW, HM.out.fr, HM.out.fd⟩))
            have t3 : (Lf : Int) < L := by omega
            clear hnum hlen hz hdl hd2 hLf
            go_wp2
            go_region_held3 (fun w' => w'.cell? ⟨g, o + m, none⟩ = some (.int .u8 a) ∧ w'.cell? ⟨g, o + (m + 1), none⟩ = some (.int .u8 b)) (first | exact ⟨keepc hdr0 c0, keepc hdr0 c1⟩ | fail) (first | fail)
            rename_i hH
            clear hH
            go_wp2
            go_ret2
            exact HF.out _ hdr0
          · have hLe : lenS (zs.drop m) = (L : Int) := by rw [hlen, if_neg hz, hnum]; exact hL
            have hL3 : 3 ≤ L := by omega
            have hLf3 : L ≤ Lf := by omega
            have HST := hid (HST0.out k m HP.out hlt (by rw [hdl]; omega) L hLe hL3 (by rw [hdl]; exact hLf3))
            rw [hd2] at HST
            have hmL : m + L ≤ N := by omega
            obtain ⟨xs3, cs3, hsl0, hrd3⟩ := HMID.out wr HB.out (m + 3) (m + L) (by omega) hmL
            have htk : (zs.take (m + L)).drop (m + 3) = ((zs.drop m).take L).drop 3 := by
              rw [List.drop_take, List.drop_take, List.drop_drop]
              congr 1
              omega
            rw [htk] at hrd3
            have hyl : (((zs.drop m).take L).drop 3).length ≤ 140737488355328 := by
              rw [List.length_drop, List.length_take]
              omega
            generalize ((zs.drop m).take L).drop 3 = ys at hrd3 HST hyl
            have hsl : ∀ w', (Instr.sliceAt 22 (.slice (some ⟨g, o, none⟩) N c) (some (.int .i64 ((m : Int) + 3))) (some (.int .i64 ((m : Int) + L))) none).run Tryd.prog w' = .ok (.slice xs3 (m + L - (m + 3)) cs3) w' := by
              intro w'
              have q := hsl0 w'
              push_cast at q
              exact q
            have hdr : Below wr.heap.size wr wr.drew.drew := (Below.refl _ _).drew.drew
            have HCP := hid (fun W (hW : Below wr.heap.size wr W) => rcopy_own _ ys W (hrd3 W (HPR.out W (below_t HB.out hW))) hyl)
            have hLi : ¬ (L : Int) < 3 := by omega
            have hLg : ¬ (Lf : Int) < L := by omega
            have s2 : IntKind.i64.wrap ((m : Int) + 2) = (m : Int) + 2 := IntWalk.i64_in _ (by omega)
            have s3 : IntKind.i64.wrap ((m : Int) + 3) = (m : Int) + 3 := IntWalk.i64_in _ (by omega)
            have s4 : IntKind.i64.wrap ((m : Int) + L) = (m : Int) + L := IntWalk.i64_in _ (by omega)
            have u2 : ((m : Int) + 2).toNat = m + 2 := by omega
            have v2 : (0 : Int) ≤ (m : Int) + 2 := by omega
            have v3 : (m : Int) + 2 < N := by omega
            clear hsl0 hrd3 htk hLe hyl hnum hlen hz hdl hd2 hLf
            go_wp2
            go_region_held3 (fun w' => w'.cell? ⟨g, o + m, none⟩ = some (.int .u8 a) ∧ w'.cell? ⟨g, o + (m + 1), none⟩ = some (.int .u8 b)) (first | exact ⟨keepc hdr0 c0, keepc hdr0 c1⟩ | fail) (first | fail)
            rename_i hH
            clear hH
            go_wp2
            refine wp_region_held_drew (S := fun V => V.cell? ⟨g, o + (m + 2), none⟩ = some (.int .u8 d)) (by kernel_rfl) ?_ (fun hHeld => ?_)
            · exact keepc hdr c2
            refine takeD (i := 0) (v := ?_) 43 rfl rfl (by kernel_rfl) (by kernel_rfl) (by kernel_rfl) (fun _ _ _ h => h) (by assumption) (Or.inl ⟨by rfl, ?_⟩) ?_
            rotate_left
            · intro w hSw
              (try dsimp only at hSw)
              go_simp
              try with_reducible rfl
            simp only [List.setIfInBounds_toArray, List.set_cons_zero, List.set_cons_succ]
            refine takeD (i := 1) (v := ?_) 44 rfl rfl (by kernel_rfl) (by kernel_rfl) (by kernel_rfl) (fun _ _ _ h => h) (by assumption) (Or.inl ⟨by rfl, ?_⟩) ?_
            rotate_left
            · intro w hSw
              (try dsimp only at hSw)
              go_simp
              try with_reducible rfl
            simp only [List.setIfInBounds_toArray, List.set_cons_zero, List.set_cons_succ]
            refine takeD (i := 2) (v := ?_) 45 rfl rfl (by kernel_rfl) (by kernel_rfl) (by kernel_rfl) (fun _ _ _ h => h) (by assumption) (Or.inl ⟨by rfl, ?_⟩) ?_
            rotate_left
            · intro w hSw
              (try dsimp only at hSw)
              go_simp
              try with_reducible rfl
            simp only [List.setIfInBounds_toArray, List.set_cons_zero, List.set_cons_succ]
            refine takeD (i := 3) (v := ?_) 46 rfl rfl (by kernel_rfl) (by kernel_rfl) (by kernel_rfl) (fun _ _ _ h => h) (by assumption) (Or.inl ⟨by rfl, ?_⟩) ?_
            rotate_left
            · intro w hSw
              (try dsimp only at hSw)
              go_simp
              try with_reducible rfl
            simp only [List.setIfInBounds_toArray, List.set_cons_zero, List.set_cons_succ]
            refine takeD (i := 4) (v := ?_) 47 rfl rfl (by kernel_rfl) (by kernel_rfl) (by kernel_rfl) (fun _ _ _ h => h) (by assumption) (Or.inl ⟨by rfl, ?_⟩) ?_
            rotate_left
            · intro w hSw
              (try dsimp only at hSw)
              go_simp
              try with_reducible rfl
            simp only [List.setIfInBounds_toArray, List.set_cons_zero, List.set_cons_succ]
            refine takeD (i := 6) (v := ?_) 49 rfl rfl (by kernel_rfl) (by kernel_rfl) (by kernel_rfl) (fun _ _ _ h => h) (by assumption) (Or.inl ⟨by rfl, ?_⟩) ?_
            rotate_left
            · intro w hSw
              (try dsimp only at hSw)
              go_simp
              try with_reducible rfl
            simp only [List.setIfInBounds_toArray, List.set_cons_zero, List.set_cons_succ]
            refine takeD (i := 7) (v := ?_) 50 rfl rfl (by kernel_rfl) (by kernel_rfl) (by kernel_rfl) (fun _ _ _ h => h) (by assumption) (Or.inl ⟨by rfl, ?_⟩) ?_
            rotate_left
            · intro w hSw
              (try dsimp only at hSw)
              go_simp
              try with_reducible rfl
            simp only [List.setIfInBounds_toArray, List.set_cons_zero, List.set_cons_succ]
            refine takeD (i := 8) (v := ?_) 51 rfl rfl (by kernel_rfl) (by kernel_rfl) (by kernel_rfl) (fun _ _ _ h => h) (by assumption) (Or.inl ⟨by rfl, ?_⟩) ?_
            rotate_left
            · intro w hSw
              (try dsimp only at hSw)
              go_simp
              try with_reducible rfl
            simp only [List.setIfInBounds_toArray, List.set_cons_zero, List.set_cons_succ]
            refine takeD (i := 9) (v := ?_) 52 rfl rfl (by kernel_rfl) (by kernel_rfl) (by kernel_rfl) (fun _ _ _ h => h) (by assumption) (Or.inl ⟨by rfl, ?_⟩) ?_
            rotate_left
            · intro w hSw
              (try dsimp only at hSw)
              go_simp
              try with_reducible rfl
            simp only [List.setIfInBounds_toArray, List.set_cons_zero, List.set_cons_succ]
            refine takeD (i := 10) (v := ?_) 53 rfl rfl (by kernel_rfl) (by kernel_rfl) (by kernel_rfl) (fun _ _ _ h => h) (by assumption) (Or.inl ⟨by rfl, ?_⟩) ?_
            rotate_left
            · intro w hSw
              (try dsimp only at hSw)
              go_simp
              try with_reducible rfl
            simp only [List.setIfInBounds_toArray, List.set_cons_zero, List.set_cons_succ]
            refine takeD (i := 11) (v := ?_) 54 rfl rfl (by kernel_rfl) (by kernel_rfl) (by kernel_rfl) (fun _ _ _ h => h) (by assumption) (Or.inl ⟨by rfl, ?_⟩) ?_
            rotate_left
            · intro w hSw
              (try dsimp only at hSw)
              go_simp
              try with_reducible rfl
            simp only [List.setIfInBounds_toArray, List.set_cons_zero, List.set_cons_succ]
            refine takeD (i := 12) (v := ?_) 55 rfl rfl (by kernel_rfl) (by kernel_rfl) (by kernel_rfl) (fun _ _ _ h => h) (by assumption) (Or.inl ⟨by rfl, ?_⟩) ?_
            rotate_left
            · intro w hSw
              (try dsimp only at hSw)
              go_simp
              try with_reducible rfl
            simp only [List.setIfInBounds_toArray, List.set_cons_zero, List.set_cons_succ]
            refine wpAnyH_ready (rs := [5, 13]) (by kernel_rfl) (by simp) ?_
            refine AllReadyH.cons (by simp only [List.getElem?_toArray, List.getElem?_cons_succ, List.getElem?_cons_zero]; rfl) (fun K hK => ?_) (AllReadyH.cons (by simp only [List.getElem?_toArray, List.getElem?_cons_succ, List.getElem?_cons_zero]; rfl) (fun K hK => ?_) AllReadyH.nil)
            · go_simp
              refine hK.out _ _ ?_ (fun hHeldN => ?_)
              · exact hHeld
              clear hK K hHeld
              have hHeld := hHeldN
              clear hHeldN
              (try simp only [Act.put, List.setIfInBounds_toArray, List.set_cons_zero, List.set_cons_succ])
              refine wpAnyH_ready (rs := [13]) (by kernel_rfl) (by simp) ?_
              refine AllReadyH.cons (by simp only [List.getElem?_toArray, List.getElem?_cons_succ, List.getElem?_cons_zero]; rfl) (fun K hK => ?_) AllReadyH.nil
              go_simp
              go_at_call 12; (with_reducible refine (HCP.out _ hdr).mono ?_); rintro e w4 ⟨v4, rfl, ho4, hb4, hk4⟩
              refine hK.out _ _ ?_ (fun hHeldN => ?_)
              · exact keepc hb4 hHeld
              obtain ⟨x4, n4, c4, rfl⟩ := own_slice ho4
              have hdw := below_t HB.out (below_t hdr hb4)
              have hb5 := bal (Below.refl w4.heap.size w4) (.cells #[.int .u8 d, .slice x4 n4 c4] 36)
              have HB4 := hid hdw
              have HM5 := hid ((HM.out.step (below_t hdr hb4)).step hb5)
              have HO5 := hid (ho4.step hb5)
              have HK4 := hid (show ∀ k ∈ blkV (.slice x4 n4 c4), w.heap.size ≤ k from fun k hk => by have := hk4 k hk; have := hdr.size; have := HB.out.size; omega)
              have HNS := hid (news_two w4 (.int .u8 d) (.slice x4 n4 c4) 36 w4.heap.size rfl)
              have HB5 := hid (below_t HB4.out hb5)
              have HX5 := hid (keepc hb5 (keepc hb4 (keepc hdr c2)))
              clear ho4 hk4 hdw hb5
              clear hK K hHeld
              have hHeld := hHeldN
              clear hHeldN
              (try simp only [Act.put, List.setIfInBounds_toArray, List.set_cons_zero, List.set_cons_succ])
              refine takeD (i := 14) (v := ?_) 57 rfl rfl (by kernel_rfl) (by kernel_rfl) (by kernel_rfl) (fun _ _ _ h => h) (by assumption) (Or.inl ⟨by rfl, ?_⟩) ?_
              rotate_left
              · intro w hSw
                (try dsimp only at hSw)
                go_simp
                try with_reducible rfl
              simp only [List.setIfInBounds_toArray, List.set_cons_zero, List.set_cons_succ]
              refine wpAnyH_ready (rs := [15]) (by kernel_rfl) (by simp) ?_
              refine AllReadyH.cons (by simp only [List.getElem?_toArray, List.getElem?_cons_succ, List.getElem?_cons_zero]; rfl) (fun K hK => ?_) AllReadyH.nil
              go_simp
              refine hK.out _ _ ?_ (fun hHeldN => ?_)
              · exact HX5.out
              clear hK K hHeld
              have hHeld := hHeldN
              clear hHeldN
              (try simp only [Act.put, List.setIfInBounds_toArray, List.set_cons_zero, List.set_cons_succ])
              refine wpAnyH_ready (rs := [16]) (by kernel_rfl) (by simp) ?_
              refine AllReadyH.cons (by simp only [List.getElem?_toArray, List.getElem?_cons_succ, List.getElem?_cons_zero]; rfl) (fun K hK => ?_) AllReadyH.nil
              obtain ⟨v', w9, hrun, hown, hgr, -, hk9⟩ := run_append_blk (P := Tryd.prog) (w4.alloc (.cells #[.int .u8 d, .slice x4 n4 c4] 36)) 26 26 36 i0 _ 2 32 Tryd.underlying26 hi hz0 hz1 hz2 rfl (by decide) _ xs.length _ HM5.out.row ⟨w4.heap.size, 0, none⟩ 1 1 (sfC ⟨⟨d, ys⟩, .slice x4 n4 c4⟩) rfl HNS.out (one_sfC _ rfl) (by have := HFL.out; unfold maxLen; omega) (by have := HFL.out; omega)
              refine step_append_run (by rfl) _ _ _ (by rfl) _ _ _ _ (by rfl) (by rfl) hrun ?_
              have hm9 := Moved.grown hgr (fun k hk => mem_blkV.2 hk) hk9
              have HX7 := hid (cell_moved hm9 HX5.out (fun q => HNG.out q))
              have HM9 := hid (RowS.snoc (by decide) HM5.out HB5.out.size HO5.out HK4.out hown hgr hk9)
              have HB9 := hid (HB5.out.grown hgr HB5.out.size (fun k hk => HM.out.fr k (mem_blkV.2 hk)))
              obtain ⟨xv', cv', rfl⟩ := row_any hown
              refine hK.out _ _ ?_ (fun hHeldN => ?_)
              · exact HX7.out
              clear hrun hown hgr hk9 hm9
              clear hK K hHeld
              have hHeld := hHeldN
              clear hHeldN
              (try simp only [Act.put, List.setIfInBounds_toArray, List.set_cons_zero, List.set_cons_succ])
              refine takeD (i := 17) (v := ?_) 4 rfl rfl (by kernel_rfl) (by kernel_rfl) (by kernel_rfl) (fun _ _ _ h => h) (by assumption) (Or.inl ⟨by rfl, ?_⟩) ?_
              rotate_left
              · intro w hSw
                (try dsimp only at hSw)
                go_simp
                try with_reducible rfl
              simp only [List.setIfInBounds_toArray, List.set_cons_zero, List.set_cons_succ]
              refine wpAnyH_done (by kernel_rfl) ?_ _
              clear hHeld
              go_wp2
              go_roundw
              case rel =>
                refine ⟨k + 1, m + L, xs ++ [⟨⟨d, ys⟩, .slice x4 n4 c4⟩], hmL, by push_cast; rfl, HM9, hid (by rw [List.map_append, HX.out, take_one _ _ _ HST.out.1]; rfl), hid HST.out.2, HB9⟩
              case measure => simp [intOf]; omega
            · go_simp
              go_at_call 12; (with_reducible refine (HCP.out _ hdr).mono ?_); rintro e w4 ⟨v4, rfl, ho4, hb4, hk4⟩
              refine hK.out _ _ ?_ (fun hHeldN => ?_)
              · exact keepc hb4 hHeld
              obtain ⟨x4, n4, c4, rfl⟩ := own_slice ho4
              have hdw := below_t HB.out (below_t hdr hb4)
              have hb5 := bal (Below.refl w4.heap.size w4) (.cells #[.int .u8 d, .slice x4 n4 c4] 36)
              have HB4 := hid hdw
              have HM5 := hid ((HM.out.step (below_t hdr hb4)).step hb5)
              have HO5 := hid (ho4.step hb5)
              have HK4 := hid (show ∀ k ∈ blkV (.slice x4 n4 c4), w.heap.size ≤ k from fun k hk => by have := hk4 k hk; have := hdr.size; have := HB.out.size; omega)
              have HNS := hid (news_two w4 (.int .u8 d) (.slice x4 n4 c4) 36 w4.heap.size rfl)
              have HB5 := hid (below_t HB4.out hb5)
              have HX5 := hid (keepc hb5 (keepc hb4 (keepc hdr c2)))
              clear ho4 hk4 hdw hb5
              clear hK K hHeld
              have hHeld := hHeldN
              clear hHeldN
              (try simp only [Act.put, List.setIfInBounds_toArray, List.set_cons_zero, List.set_cons_succ])
              refine wpAnyH_ready (rs := [5]) (by kernel_rfl) (by simp) ?_
              refine AllReadyH.cons (by simp only [List.getElem?_toArray, List.getElem?_cons_succ, List.getElem?_cons_zero]; rfl) (fun K hK => ?_) AllReadyH.nil
              go_simp
              refine hK.out _ _ ?_ (fun hHeldN => ?_)
              · exact hHeld
              clear hK K hHeld
              have hHeld := hHeldN
              clear hHeldN
              (try simp only [Act.put, List.setIfInBounds_toArray, List.set_cons_zero, List.set_cons_succ])
              refine takeD (i := 14) (v := ?_) 57 rfl rfl (by kernel_rfl) (by kernel_rfl) (by kernel_rfl) (fun _ _ _ h => h) (by assumption) (Or.inl ⟨by rfl, ?_⟩) ?_
              rotate_left
              · intro w hSw
                (try dsimp only at hSw)
                go_simp
                try with_reducible rfl
              simp only [List.setIfInBounds_toArray, List.set_cons_zero, List.set_cons_succ]
              refine wpAnyH_ready (rs := [15]) (by kernel_rfl) (by simp) ?_
              refine AllReadyH.cons (by simp only [List.getElem?_toArray, List.getElem?_cons_succ, List.getElem?_cons_zero]; rfl) (fun K hK => ?_) AllReadyH.nil
              go_simp
              refine hK.out _ _ ?_ (fun hHeldN => ?_)
              · exact HX5.out
              clear hK K hHeld
              have hHeld := hHeldN
              clear hHeldN
              (try simp only [Act.put, List.setIfInBounds_toArray, List.set_cons_zero, List.set_cons_succ])
              refine wpAnyH_ready (rs := [16]) (by kernel_rfl) (by simp) ?_
              refine AllReadyH.cons (by simp only [List.getElem?_toArray, List.getElem?_cons_succ, List.getElem?_cons_zero]; rfl) (fun K hK => ?_) AllReadyH.nil
              obtain ⟨v', w9, hrun, hown, hgr, -, hk9⟩ := run_append_blk (P := Tryd.prog) (w4.alloc (.cells #[.int .u8 d, .slice x4 n4 c4] 36)) 26 26 36 i0 _ 2 32 Tryd.underlying26 hi hz0 hz1 hz2 rfl (by decide) _ xs.length _ HM5.out.row ⟨w4.heap.size, 0, none⟩ 1 1 (sfC ⟨⟨d, ys⟩, .slice x4 n4 c4⟩) rfl HNS.out (one_sfC _ rfl) (by have := HFL.out; unfold maxLen; omega) (by have := HFL.out; omega)
              refine step_append_run (by rfl) _ _ _ (by rfl) _ _ _ _ (by rfl) (by rfl) hrun ?_
              have hm9 := Moved.grown hgr (fun k hk => mem_blkV.2 hk) hk9
              have HX7 := hid (cell_moved hm9 HX5.out (fun q => HNG.out q))
              have HM9 := hid (RowS.snoc (by decide) HM5.out HB5.out.size HO5.out HK4.out hown hgr hk9)
              have HB9 := hid (HB5.out.grown hgr HB5.out.size (fun k hk => HM.out.fr k (mem_blkV.2 hk)))
              obtain ⟨xv', cv', rfl⟩ := row_any hown
              refine hK.out _ _ ?_ (fun hHeldN => ?_)
              · exact HX7.out
              clear hrun hown hgr hk9 hm9
              clear hK K hHeld
              have hHeld := hHeldN
              clear hHeldN
              (try simp only [Act.put, List.setIfInBounds_toArray, List.set_cons_zero, List.set_cons_succ])
              refine takeD (i := 17) (v := ?_) 4 rfl rfl (by kernel_rfl) (by kernel_rfl) (by kernel_rfl) (fun _ _ _ h => h) (by assumption) (Or.inl ⟨by rfl, ?_⟩) ?_
              rotate_left
              · intro w hSw
                (try dsimp only at hSw)
                go_simp
                try with_reducible rfl
              simp only [List.setIfInBounds_toArray, List.set_cons_zero, List.set_cons_succ]
              refine wpAnyH_done (by kernel_rfl) ?_ _
              clear hHeld
              go_wp2
              go_roundw
              case rel =>
                refine ⟨k + 1, m + L, xs ++ [⟨⟨d, ys⟩, .slice x4 n4 c4⟩], hmL, by push_cast; rfl, HM9, hid (by rw [List.map_append, HX.out, take_one _ _ _ HST.out.1]; rfl), hid HST.out.2, HB9⟩
              case measure => simp [intOf]; omega

    · obtain rfl : m = N := by omega
      have HE := hid (HSP.out k HP.out)
      have HF := hid (show AllSD 36 (sfA zs).1 (sfA zs).2 w (.returned (.tuple #[.slice xl xs.length cl, .int .i64 0])) wr from ⟨_, xs, by rw [HE.out.2], by rw [HX.out, HE.out.1, List.take_length], ⟨HM.out.row, HM.out.dat⟩, HB.out, HM.out.fr, HM.out.fd⟩)
      go_wp2
      go_ret2
      exact HF.out
end Go.Proofs.YtdpgmepblmlaaaaDoor
