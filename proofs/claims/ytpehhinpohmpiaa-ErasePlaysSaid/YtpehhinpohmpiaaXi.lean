/-
  The reference's Span, Repeat, Range. | The reference's Repeat, Range.
-/
import Derived.Test.YtpehhinpohmpiaaXg
import Derived.Test.YtpehhinpohmpiaaCb
import Derived.Test.YtpehhinpohmpiaaFk
namespace Go.Proofs.Ytpehhinpohmpiaa
open Go.RowKit Go.Lib Go.Deep

theorem sp_below {A B : World} {base : Nat} {t : TypeId} {sz n : Nat} {v : Value} {cs : List Value} (h : A.ownsRow base t sz v n cs) (hb : Below A.heap.size A B) : B.ownsRow base t sz v n cs := by
  rcases h.2 with ⟨rfl, e⟩ | ⟨g, cap, cur, rfl, hg, hh, h1, h2, h3, h4⟩
  · exact ⟨h.1, .inl ⟨rfl, e⟩⟩
  · exact ⟨h.1, .inr ⟨g, cap, cur, rfl, hg, (hb.block g (Array.getElem?_eq_some_iff.1 hh).1).trans hh, h1, h2, h3, h4⟩⟩
theorem own_geS {w : World} {B : Nat} {t : TypeId} {n m : Nat} {v : Value} {xs : List Value} (h : w.ownsRow B t m v n xs) : ∀ k, v.ownBlock = some k → B ≤ k := fun k hk => (h.lt k hk).1
theorem snews_oneS (W : World) (x : Value) (t : TypeId) : ∀ j u, [x][j]? = some u → (W.alloc (.cells #[x] t)).cell? ((⟨W.heap.size, 0, none⟩ : Addr).add j) = some u := by
  intro j u hu
  match j, hu with
  | 0, hu => simp only [List.getElem?_cons_zero, Option.some.injEq] at hu; subst hu; rw [show (⟨W.heap.size, 0, none⟩ : Addr).add 0 = ⟨W.heap.size, 0, none⟩ from rfl]; simp [go_sem]
  | j + 1, hu => simp at hu
theorem sone_oneS (x : Int) : ∀ u ∈ [Value.int .i64 x], u.oneCell' = true := by
  intro u hu
  simp only [List.mem_cons, List.not_mem_nil, or_false] at hu
  subst hu
  rfl
theorem sowned_newS {w : World} {B : Nat} (hB : B ≤ w.heap.size) (x : Value) (t : TypeId) : (w.alloc (.cells #[x] t)).ownsRow B t 1 (.slice (some ⟨w.heap.size, 0, none⟩) 1 1) 1 [x] :=
  ⟨rfl, .inr ⟨w.heap.size, 1, #[x], rfl, hB, heap_alloc_new w _, Nat.le_refl _, by unfold maxLen; decide, rfl, rfl⟩⟩
/-- Ints are there, in memory that is new. -/
def SpnDone (xs : List Int) (w : World) (e : Ending) (w' : World) : Prop := ∃ v b, e = .returned v ∧ w.heap.size ≤ b ∧ w'.ownsRow b 3 1 v xs.length (xs.map (Value.int .i64)) ∧ Below w.heap.size w w'
theorem sp_done {xs : List Int} {w w' : World} {v : Value} {b n : Nat} (hn : n = xs.length) (hb : w.heap.size ≤ b) (h : w'.ownsRow b 3 1 v n (xs.map (Value.int .i64))) (hw : Below w.heap.size w w') : SpnDone xs w (.returned v) w' := by
  subst hn
  exact ⟨v, b, rfl, hb, h, hw⟩
/-- A slice's length. -/
def lenW : Value → Nat
  | .slice _ n _ => n
  | _ => 0
theorem lenW_own {w : World} {B : Nat} {t : TypeId} {m n : Nat} {v : Value} {xs : List Value} (h : w.ownsRow B t m v n xs) : lenW v = n := by
  rcases h.2 with ⟨rfl, rfl⟩ | ⟨g, cap, cur, rfl, _⟩ <;> rfl

set_option maxRecDepth 100000 in
set_option maxHeartbeats 2000000 in
theorem rspan_ok (r c p q : Int) (h : Ok r c) (hp : I64 p) (hq : I64 q) (w : World) : Calls Try.prog 120 #[.agg #[.int .i64 r, .int .i64 c], .int .i64 p, .int .i64 q] w (SpnDone (spanL (r * c) (p % (r * c)) (lenZ r c p q).toNat) w) := by
  obtain ⟨i0, hi, hz0, hz1, hz2⟩ := info_parts infoI
  rw [lenS_eq]
  have HV := hid (rvalid_ok r c h)
  have HCE := hid (rcells_ok r c h)
  have HP := hid (rwrap_ok r c p h hp)
  have HQ := hid (rwrap_ok r c q h hq)
  have hN := ok_pos h
  obtain ⟨a0, a1⟩ := mod_bd p hN.1
  obtain ⟨b0, b1⟩ := mod_bd q hN.1
  generalize p % (r * c) = A at HP a0 a1 ⊢
  generalize q % (r * c) = B at HQ b0 b1 ⊢
  have hL := lenS_bd (a := A) (b := B) hN.1
  have HMO := hid (fun k : Int => span_more (k := k) a0 a1 b0 b1)
  have HEN := hid (fun k : Int => span_end (k := k) a0 a1 b0 b1)
  have HON := hid (spanL_one a0 a1)
  obtain ⟨N, hNe⟩ : ∃ N, N = r * c := ⟨_, rfl⟩
  have HM := hid (fun n (h : I64 n) => mod_any n N h (by omega) (by omega))
  have HNX := hid (span_next N A)
  have HMB := hid (fun k : Int => mod_bd (A + k) (m := N) (by omega))
  rw [← hNe] at HCE hN a1 b1 hL HMO HEN HON ⊢
  have HCE := HCE
  obtain ⟨L, hLe⟩ : ∃ L : Nat, lenS N A B = L := ⟨(lenS N A B).toNat, by omega⟩
  rw [hLe] at hL HMO HEN ⊢
  rw [Int.toNat_natCast]
  clear hLe hNe h hp hq
  obtain ⟨hN1, hN2⟩ := hN
  go_enter Try.func120, Try.ntmps120
  go_wp2_with fail
  with_reducible refine (HV.out _).mono ?_
  rintro e w1 ⟨rfl, hb⟩
  have HX := hid (box_new hb)
  clear hb
  go_wp2
  go_region_held3 (fun w' => w'.cell? ⟨w.heap.size, 0, none⟩ = some (.int .i64 r) ∧ w'.cell? ⟨w.heap.size, 1, none⟩ = some (.int .i64 c) ∧ Below w.heap.size w w') (first | exact box_kept (by assumption) (by assumption) | assumption | exact box_drew HX.out)
    (first
      | (go_at_call 74; (with_reducible refine (HP.out _).mono ?_); rintro e w2 ⟨rfl, hb2⟩)
      | (go_at_call 74; (with_reducible refine (HQ.out _).mono ?_); rintro e w2 ⟨rfl, hb2⟩))
  all_goals
    rename_i hH
    obtain ⟨d0, d1, hH⟩ := hH
    have HY := hid hH
    clear hH
    have hlt := World.block_lt_of_cell? _ _ d0
    have s1 : IntKind.i64.wrap (A + 1) = A + 1 := IntWalk.i64_in _ (by omega)
    clear hb2
    go_wp2_with fail
    have HOA := hid (sowned_newS (w := w2) (Nat.le_refl _) (.int .i64 A) 3)
    have HBA := hid ((Below.refl w2.heap.size w2).alloc (Nat.le_refl _) (.cells #[.int .i64 A] 3))
    with_reducible refine (HCE.out _).mono ?_
    rintro e w3 ⟨rfl, hb3⟩
    have HO1 : Hid (w3.ownsRow w2.heap.size 3 1 (.slice (some ⟨w2.heap.size, 0, none⟩) 1 1) 1 ((spanL N A 1).map (Value.int .i64))) := by
      show World.ownsRow _ _ _ _ _ _ _
      rw [HON.out]
      exact sp_below HOA.out hb3
    have HB1 := hid (HBA.out.trans (hb3.mono HBA.out.size))
    clear hb3
    go_wp2_with fail
    with_reducible refine (HM.out _ (i64_small (by omega) (by omega)) _).mono ?_
    rintro e w4 ⟨rfl, rfl⟩
    go_wp2_with fail
    go_loopw [9, 10] (fun v n w' => ∃ k : Nat, 1 ≤ k ∧ k ≤ L ∧ n = .int .i64 ((A + (k : Int)) % N) ∧ Hid (w'.ownsRow w2.heap.size 3 1 v k ((spanL N A k).map (Value.int .i64))) ∧ Hid (Below w2.heap.size w2 w')) (fun v _ _ => L - lenW v)
    case atStart => exact ⟨1, Nat.le_refl _, by omega, rfl, HO1.out, HB1.out⟩
    case round =>
      obtain ⟨k, hk1, hk, rfl, HO, HB⟩ := hrel
      have HNK := hid (HNX.out k)
      obtain ⟨m0, m1⟩ := HMB.out k
      by_cases hlk : k < L
      · have HS := hid (spanL_succ N A k)
        obtain ⟨e1, e2⟩ := HMO.out k (by omega) (by omega)
        generalize (A + (k : Int)) % N = X at HNK m0 m1 e1 e2 HS ⊢
        have t1 : (X != B) = true := by simpa using e1
        have t2 : (X != A) = true := by simpa using e2
        have HOX := hid (HO.out.alloc (.cells #[.int .i64 X] 3))
        have HBX := hid (HB.out.alloc HB.out.size (.cells #[.int .i64 X] 3))
        have HNW := hid (snews_oneS wr (.int .i64 X) 3)
        have HML : Hid (k + 1 ≤ maxLen) := by show _ ≤ _; unfold maxLen; omega
        have HLL : Hid ((k + 1) * 8 ≤ 140737488355328) := by show _ ≤ _; omega
        have HSZ := hid (show w2.heap.size ≤ (wr.alloc (.cells #[.int .i64 X] 3)).heap.size by have := HB.out.size; simp; omega)
        have HD := hid (And.intro d0 d1)
        clear d0 d1
        have s2 : IntKind.i64.wrap (X + 1) = X + 1 := IntWalk.i64_in _ (by omega)
        go_wp2_with (first
          | (at_builtin; refine wpList_append_own _ rfl _ _ 37 rfl w2.heap.size 3 i0 (.int .i64 0) 1 8 Try.underlying37 hi hz0 hz1 hz2 rfl (by decide) _ k ((spanL N A k).map (Value.int .i64)) rfl HOX.out ⟨wr.heap.size, 0, none⟩ 1 1 [.int .i64 X] rfl rfl HNW.out (sone_oneS X) HML.out HLL.out HSZ.out ?_; intro v5 w5 ho hg hn; have HO5 := hid ho; have HB5 := hid (HBX.out.grown hg HSZ.out (own_geS HO.out)); clear ho hg hn; have d0 := keepc HB5.out HD.out.1; have d1 := keepc HB5.out HD.out.2))
        with_reducible refine (HCE.out _).mono ?_
        rintro e w6 ⟨rfl, hb6⟩
        have HO6 := hid (sp_below HO5.out hb6)
        have HB6 := hid (HB5.out.trans (hb6.mono HB5.out.size))
        clear hb6
        go_wp2_with fail
        with_reducible refine (HM.out _ (i64_small (by omega) (by omega)) _).mono ?_
        rintro e w7 ⟨rfl, rfl⟩
        go_wp2_with fail
        go_roundw
        case rel =>
          refine ⟨k + 1, by omega, by omega, by rw [HNK.out]; rfl, ?_, HB6.out⟩
          show World.ownsRow _ _ _ _ _ _ _
          rw [HS.out, List.map_append]
          exact HO6.out
        case measure =>
          rw [lenW_own HO6.out, lenW_own HO.out]
          omega
      · obtain rfl : k = L := by omega
        have e1 := HEN.out k rfl
        rw [e1] at HNK ⊢
        have HB9 := hid (HY.out.trans (HB.out.mono HY.out.size))
        go_wp2
        go_ret
        exact sp_done (spanL_len _ _ _).symm HY.out.size HO.out HB9.out

/-- A list of places that lies in memory. -/
theorem lst_cells {W : World} {v : Value} {pl : List Nat} {n B : Nat} (ho : W.ownsRow 0 3 1 v n (intsV (pl.map Int.ofNat))) (hn : pl.length = n) (hk : ∀ k ∈ blkV v, B ≤ k) : ∃ y c, v = .slice y n c ∧ ∀ k, k < n → ∃ gg, y = some ⟨gg, 0, none⟩ ∧ B ≤ gg ∧ W.cell? ⟨gg, k, none⟩ = some (.int .i64 (pl.getD k 0 : Nat)) := by
  subst hn
  have hl : (pl.map Int.ofNat).length = pl.length := List.length_map ..
  have hoc := ints_cells (xs := pl.map Int.ofNat) (by rw [hl]; exact ho)
  obtain ⟨y, c, rfl⟩ := row_any ho
  refine ⟨y, c, rfl, fun k hkN => ?_⟩
  rcases hoc with ⟨x, c', e, hx⟩ | ⟨gg, c', e, hc⟩
  · have : pl.length = 0 := by rw [← hl, hx]; rfl
    omega
  · injection e with e1
    subst e1
    refine ⟨gg, rfl, hk gg (by simp [blkV, Value.ownBlock]), ?_⟩
    have q := hc k (by rw [hl]; exact hkN)
    rw [Nat.zero_add] at q
    refine q.trans ?_
    rw [List.getD_eq_getElem?_getD, List.getElem?_map, List.getD_eq_getElem?_getD, List.getElem?_eq_getElem hkN]
    rfl
theorem spS_ints {s : Spc} (h : s.OK) (p q : Int) : spanL (s.r * s.c) (p % (s.r * s.c)) (lenZ s.r s.c p q).toNat = (spS s p q).map Int.ofNat := by
  unfold spanL spS spN
  rw [List.map_map, ← h.len, ← h.wr_eq]
  refine List.map_congr_left fun i _ => ?_
  show ((s.wr p : Int) + (i : Int)) % (s.L.length : Int) = (((s.wr p + i) % s.L.length : Nat) : Int)
  push_cast
  rfl
theorem spS_len {s : Spc} (h : s.OK) (p q : Int) : ((spS s p q).length : Int) = lenZ s.r s.c p q := by
  unfold spS
  rw [spN_len]
  have := (lenS_bd (N := s.r * s.c) (a := p % (s.r * s.c)) (b := q % (s.r * s.c)) (ok_pos h.sz).1).1
  rw [← lenS_eq] at this
  omega
theorem spS_le {s : Spc} (h : s.OK) (p q : Int) : (spS s p q).length ≤ 3564 := by
  unfold spS
  rw [spN_len]
  exact lenZ_le h.sz
theorem rspanN_any {s : Spc} (h : s.OK) (p q : Int) (hp : I64 p) (hq : I64 q) (w : World) : Calls Try.prog 120 #[.agg #[.int .i64 s.r, .int .i64 s.c], .int .i64 p, .int .i64 q] w (ListD 3 1 (intsV ((spS s p q).map Int.ofNat)) (spS s p q).length w) :=
  (rspan_ok s.r s.c p q h.sz hp hq w).mono fun e w' ⟨v, bb, he, hb, ho, hbel⟩ => by
    rw [spS_ints h, List.length_map] at ho
    exact ⟨v, he, ho.mono (Nat.zero_le _), fun k hk => Nat.le_trans hb (ho.lt k (mem_blkV.1 hk)).1, hbel⟩
section
variable {b g : Nat} {s : Spc}
set_option maxRecDepth 100000 in
set_option maxHeartbeats 8000000 in
theorem rrepeat_any (p q : Int) (hp : I64 p) (hq : I64 q) (c : Cel) (hc : c.OK) (w : World) (h : RfM w b g s) : Calls Try.prog 69 #[.pointer (some ⟨b, 0, none⟩), .int .i64 p, .int .i64 q, .agg #[.int .u8 c.ch, .bool c.at_, .int .u8 c.fa, .int .u8 c.hi, .int .u8 c.co, .int .u8 c.se]] w fun e w' => e = .returned (.int .i64 (lenZ s.r s.c p q)) ∧ RfM w' b g (repS s p q c) ∧ Moved w w' [b, g] [b, g] := by
  have hok := h.ok
  have hb := h.lt.1
  have hg := h.lt.2
  have h2 := h.h2
  have h3 := h.h3
  have HSP := hid (fun W => rspanN_any hok p q hp hq W)
  have HMB := hid (fun x (hx : x ∈ spS s p q) => spS_lt hok hx)
  have hle := spS_le hok p q
  have HN := hid hok.pos
  have HLN := hid (fun k => (repR_sz s (spS s p q) c k).len)
  rw [← spS_len hok p q]
  have HE := hid (show repS s p q c = repR s (spS s p q) c (spS s p q).length from rfl)
  rw [HE.out]
  generalize spS s p q = pl at HSP HMB hle HLN ⊢
  obtain ⟨NA, hNA⟩ : ∃ NA : Nat, pl.length = NA := ⟨_, rfl⟩
  have HPL := hid hNA
  rw [hNA] at HSP hle ⊢
  have HR0 := hid h
  obtain ⟨x0, x1, x2, x3, x4, x5⟩ := c
  dsimp only at HLN ⊢
  have HST := hid (fun (n : Int) (hn : I64 n) W (t : Spc) (ht : RfM W b g t) => (show Calls Try.prog 118 #[.pointer (some ⟨b, 0, none⟩), .int .i64 n, .agg #[.int .u8 x0, .bool x1, .int .u8 x2, .int .u8 x3, .int .u8 x4, .int .u8 x5]] W (RfD b g (t.setC n ⟨x0, x1, x2, x3, x4, x5⟩) W) from rset_any (b := b) (g := g) (s := t) n hn ⟨x0, x1, x2, x3, x4, x5⟩ hc W ht))
  obtain ⟨f, hf⟩ : ∃ f, (fun k => repR s pl ⟨x0, x1, x2, x3, x4, x5⟩ k) = f := ⟨_, rfl⟩
  have HF0 := hid (show f 0 = s by rw [← hf]; rfl)
  have HFS := hid (show ∀ k, f (k + 1) = (f k).setC (pl.getD k 0 : Nat) ⟨x0, x1, x2, x3, x4, x5⟩ from fun k => by rw [← hf]; rfl)
  have HFN : repR s pl ⟨x0, x1, x2, x3, x4, x5⟩ NA = f NA := by rw [← hf]
  rw [HFN]
  obtain ⟨W0, hW0⟩ : ∃ W0, w.alloc (.cells #[.int .u8 x0, .bool x1, .int .u8 x2, .int .u8 x3, .int .u8 x4, .int .u8 x5] 30) = W0 := ⟨_, rfl⟩
  have HB0 := hid (show Below w.heap.size w W0 by rw [← hW0]; exact bal (Below.refl _ _) _)
  have HC0 := hid (show CBx W0 w.heap.size ⟨x0, x1, x2, x3, x4, x5⟩ by rw [← hW0]; exact ⟨by simp [go_sem], by simp [go_sem], by simp [go_sem], by simp [go_sem], by simp [go_sem], by simp [go_sem]⟩)
  have HW0 := hid hW0
  have HZ0 := hid (show W0.heap.size = w.heap.size + 1 by rw [← hW0]; simp)
  clear h hW0 hc hp hq hok hf HFN HE hNA HLN
  go_enter Try.func69, Try.ntmps69
  go_wp2_with fail
  simp only [HW0.out]
  with_reducible refine (HSP.out _).mono ?_
  rintro e w1 ⟨v1, rfl, ho1, hk1, hb1⟩
  obtain ⟨y1, c1, rfl, hlc⟩ := lst_cells ho1 HPL.out hk1
  have HLC := hid hlc
  have HB1 := hid (below_t HB0.out hb1)
  have HC1 := hid (HC0.out.step hb1)
  clear ho1 hk1 hb1 hlc
  go_wp2_with fail
  go_loopw [21] (fun i W => ∃ k : Nat, k ≤ NA ∧ i = .int .i64 k ∧ Hid (RfM W b g (f k)) ∧ Hid (Moved w1 W [b, g] [b, g])) (fun i _ => NA - (RowKit.intOf i).toNat)
  case atStart => exact ⟨0, by omega, rfl, by show RfM _ _ _ _; rw [HF0.out]; exact HR0.out.below HB1.out, Moved.refl _ _⟩
  case round =>
    obtain ⟨k, hk, rfl, HR, HM⟩ := hrel
    by_cases hkN : k < NA
    · have hki : (k : Int) < NA := by omega
      obtain ⟨gg, rfl, hgg, hc0⟩ := HLC.out k hkN
      have hz0 := HZ0.out
      have hc := cell_moved HM.out hc0 (by simp; omega)
      have hlg := World.block_lt_of_cell? wr _ hc
      have HFK := hid (HFS.out k)
      have hxN := HMB.out (pl.getD k 0) (by rw [List.getD_eq_getElem?_getD, List.getElem?_eq_getElem (by rw [HPL.out]; exact hkN)]; exact List.getElem_mem _)
      generalize pl.getD k 0 = x at hc hxN HFK
      obtain ⟨z0, z1, z2, z3, z4, z5⟩ := HC1.out.moved HM.out (by simp; omega)
      dsimp only at z0 z1 z2 z3 z4 z5
      have lz := World.block_lt_of_cell? wr _ z0
      have HX := hid (i64_small (n := (x : Int)) (by have := HN.out; omega) (by have := HN.out; omega))
      clear hc0 hz0
      go_wp2_with fail
      with_reducible refine (HST.out _ HX.out _ _ HR.out).mono ?_
      rintro e w2 ⟨⟨v2, rfl⟩, hs, hm⟩
      have HS2 := hid hs
      have HM2 := hid (HM.out.trans hm)
      clear hs hm z0 z1 z2 z3 z4 z5 hc
      go_wp2
      go_roundw
      case rel => exact ⟨k + 1, by omega, by go_num, by show RfM _ _ _ _; rw [HFK.out]; exact HS2.out, HM2.out⟩
      case measure => simp [RowKit.intOf]; omega
    · obtain rfl : k = NA := by omega
      go_wp2
      go_ret
      exact ⟨rfl, HR.out, (Moved.below HB1.out [b, g]).trans HM.out⟩
end
theorem flR_is {s : Spc} (h : s.OK) (p q : Int) : ∀ k, k < (spS s p q).length → flR s (spS s p q) (fl0 s p) (k + 1) = protF s (stF s.P s.L.length ((spS s p q).getD k 0)) := fun k => by
  have hN := h.pos.1
  have hw := h.wr_lt p
  have hget : ∀ j, j < (spS s p q).length → (spS s p q).getD j 0 = (s.wr p + j) % s.L.length := fun j hj => by
    have hj2 : j < (lenZ s.r s.c p q).toNat := by unfold spS at hj; rwa [spN_len] at hj
    unfold spS
    rw [List.getD_eq_getElem?_getD, spN_get hj2]
    rfl
  have hself : ∀ x : Nat, s.P x = true → (s.cel x).prot = protF s (stF s.P s.L.length x) := fun x hx => by
    rw [stF_self hN hx]
    unfold protF
    rw [if_neg (by omega)]
    rfl
  induction k with
  | zero =>
    intro hk
    have e0 := hget 0 hk
    rw [Nat.add_zero, Nat.mod_eq_of_lt hw] at e0
    show (if s.P ((spS s p q).getD 0 0) then (s.cel ((spS s p q).getD 0 0)).prot else fl0 s p) = _
    rw [e0]
    split
    · rename_i hP
      exact hself _ hP
    · rfl
  | succ k ih =>
    intro hk
    have e1 := hget (k + 1) hk
    have e0 := hget k (by omega)
    have hx : (s.wr p + k) % s.L.length < s.L.length := Nat.mod_lt _ hN
    have e2 : ((s.wr p + k) % s.L.length + 1) % s.L.length = (s.wr p + (k + 1)) % s.L.length := by rw [Nat.mod_add_mod, Nat.add_assoc]
    show (if s.P ((spS s p q).getD (k + 1) 0) then (s.cel ((spS s p q).getD (k + 1) 0)).prot else flR s (spS s p q) (fl0 s p) (k + 1)) = _
    rw [ih (by omega), e1, e0]
    split
    · rename_i hP
      exact hself _ hP
    · rename_i hP
      have hP2 : s.P (((s.wr p + k) % s.L.length + 1) % s.L.length) = false := by rw [e2]; simpa using hP
      rw [← e2, stF_step hx hP2]
section
variable {b g : Nat} {s : Spc}
set_option maxRecDepth 100000 in
set_option maxHeartbeats 8000000 in
theorem rrange_any (p q : Int) (hp : I64 p) (hq : I64 q) (w : World) (h : RfM w b g s) : Calls Try.prog 68 #[.pointer (some ⟨b, 0, none⟩), .int .i64 p, .int .i64 q] w (RfD b g (rngS s p q) w) := by
  have hok := h.ok
  have hb := h.lt.1
  have hg := h.lt.2
  have HRS := hid (fun W h => rstarts_any (b := b) (g := g) (s := s) W h)
  have HSP := hid (fun W => rspanN_any hok p q hp hq W)
  have HMB := hid (fun x (hx : x ∈ spS s p q) => spS_lt hok hx)
  have hle := spS_le hok p q
  have HN := hid hok.pos
  have HFL := hid (flR_is hok p q)
  have HAL := hid (fun k => rngR_alike s (spS s p q) (fl0 s p) k)
  have HAT := hid (fun i (hi : s.P i = true) k => rngR_attr (spS s p q) (fl0 s p) hi k)
  have HFD := hid (fun a (ha : a < s.L.length) (hP : s.P a = true) k W (ht : RfM W b g (rngR s (spS s p q) (fl0 s p) k)) => (show Calls Try.prog 21 #[.pointer (some ⟨b, 0, none⟩), .int .i64 a] W fun e w' => e = .returned (s.cel a).fv ∧ Below W.heap.size W w' from by
    have z := rfield_any (b := b) (g := g) (s := rngR s (spS s p q) (fl0 s p) k) a (by rw [(rngR_alike s _ _ k).len]; exact ha) W ht
    rwa [rngR_attr _ _ hP k] at z))
  have HPU := hid (fun (n : Int) (hn : I64 n) W (t : Spc) (ht : RfM W b g t) => rput_any (b := b) (g := g) (s := t) n hn 0 u8_zero W ht)
  unfold rngS
  obtain ⟨f, hf⟩ : ∃ f, (fun k => rngR s (spS s p q) (fl0 s p) k) = f := ⟨_, rfl⟩
  have HF0 := hid (show f 0 = s by rw [← hf]; rfl)
  have HFS := hid (show ∀ k, k < (spS s p q).length → f (k + 1) = if protF s (stF s.P s.L.length ((spS s p q).getD k 0)) then f k else (f k).putC ((spS s p q).getD k 0 : Nat) 0 from fun k hk => by
    rw [← flR_is hok p q k hk, ← hf]
    rfl)
  have HFK := hid (fun k => (congrFun hf k))
  have HFE := hid (show rngR s (spS s p q) (fl0 s p) (spS s p q).length = f (spS s p q).length by rw [← hf])
  rw [HFE.out]
  replace HFD := hid (fun a (ha : a < s.L.length) (hP : s.P a = true) k W (ht : RfM W b g (f k)) => HFD.out a ha hP k W (by rw [← hf] at ht; exact ht))
  clear HFL HAL HAT HFK HFE hf
  generalize spS s p q = pl at HSP HMB hle HFS ⊢
  obtain ⟨NA, hNA⟩ : ∃ NA : Nat, pl.length = NA := ⟨_, rfl⟩
  have HPL := hid hNA
  rw [hNA] at HSP hle HFS ⊢
  have HR0 := hid h
  have HSB := hid (fun x (hx : x < s.L.length) => stF_bd s.P hx)
  have HW := hid (fun W (hW : RfM W b g s) => (show W.cell? ⟨b, 2, none⟩ = some (.int .i64 s.r) ∧ W.cell? ⟨b, 3, none⟩ = some (.int .i64 s.c) ∧ b < W.heap.size from ⟨hW.h2, hW.h3, hW.lt.1⟩))
  generalize s.r = R at HSP HW
  generalize s.c = C at HSP HW
  obtain ⟨N, hNe⟩ : ∃ N, s.L.length = N := ⟨_, rfl⟩
  rw [hNe] at HRS HMB HN HFS HFD HSB
  clear h hp hq hok hNA hNe
  have hf0 := rattf0
  go_enter Try.func68, Try.ntmps68
  go_wp2_with fail
  with_reducible refine (HRS.out _ HR0.out).mono ?_
  rintro e w1 ⟨hh, rfl, hhs, hO, hb1⟩
  have HO1 := hid hO
  have HB1 := hid hb1
  obtain ⟨h2, h3, hlb⟩ := HW.out _ (HR0.out.below hb1)
  clear hO hb1
  go_wp2_with fail
  with_reducible refine (HSP.out _).mono ?_
  rintro e w2 ⟨v1, rfl, ho1, hk1, hb2⟩
  obtain ⟨y1, c1, rfl, hlc⟩ := lst_cells ho1 HPL.out hk1
  have HLC := hid hlc
  have HO2 := hid (HO1.out.below hb2)
  have HB2 := hid (below_t HB1.out hb2)
  have HZ1 := hid (show w.heap.size ≤ w1.heap.size from HB1.out.size)
  clear ho1 hk1 hb2 hlc h2 h3 hlb
  go_wp2_with fail
  go_loopw [19] (fun i W => ∃ k : Nat, k ≤ NA ∧ i = .int .i64 k ∧ Hid (RfM W b g (f k)) ∧ Hid (Moved w2 W [b, g] [b, g])) (fun i _ => NA - (RowKit.intOf i).toNat)
  case atStart => exact ⟨0, by omega, rfl, by show RfM _ _ _ _; rw [HF0.out]; exact HR0.out.below HB2.out, Moved.refl _ _⟩
  case round =>
    obtain ⟨k, hk, rfl, HR, HM⟩ := hrel
    by_cases hkN : k < NA
    · have hki : (k : Int) < NA := by omega
      obtain ⟨gg, rfl, hgg, hc0⟩ := HLC.out k hkN
      have hz1 := HZ1.out
      have hc := cell_moved HM.out hc0 (by simp; omega)
      have hlg := World.block_lt_of_cell? wr _ hc
      have hfk := HFS.out k hkN
      have hxN := HMB.out (pl.getD k 0) (by rw [List.getD_eq_getElem?_getD, List.getElem?_eq_getElem (by rw [HPL.out]; exact hkN)]; exact List.getElem_mem _)
      generalize pl.getD k 0 = x at hc hxN hfk
      have hxi : (x : Int) < N := by omega
      obtain ⟨sv, hs0, hsv⟩ := HO2.out.at_ x hxN
      have esv := hsv hxN
      have hs1 := cell_moved HM.out hs0 (by simp; omega)
      have hlh := World.block_lt_of_cell? wr _ hs1
      have HX := hid (i64_small (n := (x : Int)) (by have := HN.out; omega) (by have := HN.out; omega))
      clear hc0 hz1 hs0 hsv
      rcases HSB.out x hxN with e | ⟨a, ha, hP, e⟩
      · rw [e] at esv hfk
        subst esv
        have HFK := hid (show f (k + 1) = (f k).putC (x : Nat) 0 from hfk)
        clear hfk e
        go_wp2_with fail
        with_reducible refine (HPU.out _ HX.out _ _ HR.out).mono ?_
        rintro e w3 ⟨⟨v2, rfl⟩, hs, hm⟩
        have HS2 := hid hs
        have HM2 := hid (HM.out.trans hm)
        clear hs hm hc hs1
        go_wp2
        go_roundw
        case rel => exact ⟨k + 1, by omega, by go_num, by show RfM _ _ _ _; rw [HFK.out]; exact HS2.out, HM2.out⟩
        case measure => simp [RowKit.intOf]; omega
      · rw [e] at esv hfk
        subst esv
        have ha0 : ¬ (a : Int) < 0 := by omega
        have e3 : protF s (a : Int) = (s.cel a).prot := by unfold protF; rw [if_neg ha0]; rfl
        rw [e3] at hfk
        have HF1 := hid (fun W ht => HFD.out a ha hP k W ht)
        unfold Cel.fv at HF1
        change f (k + 1) = if ofP (s.cel a).fa.toNat then f k else (f k).putC (x : Nat) 0 at hfk
        have HFK := hid hfk
        generalize ofP (s.cel a).fa.toNat = pr at HF1 HFK
        generalize ofN (s.cel a).fa.toNat = nr at HF1
        generalize ofD (s.cel a).fa.toNat = dr at HF1
        generalize ofM (s.cel a).fa.toNat = mr at HF1
        clear hfk e e3 hP
        cases pr
        · go_wp2_with fail
          with_reducible refine (HF1.out _ HR.out).mono ?_
          rintro e w3 ⟨rfl, hb3⟩
          have HR3 := hid (HR.out.below hb3)
          have HM3 := hid (HM.out.trans (Moved.below hb3 [b, g]))
          clear hb3 hc hs1
          go_wp2_with fail
          with_reducible refine (HPU.out _ HX.out _ _ HR3.out).mono ?_
          rintro e w4 ⟨⟨v2, rfl⟩, hs, hm⟩
          have HS2 := hid hs
          have HM2 := hid (HM3.out.trans hm)
          clear hs hm
          go_wp2
          go_roundw
          case rel => exact ⟨k + 1, by omega, by go_num, by show RfM _ _ _ _; rw [HFK.out]; exact HS2.out, HM2.out⟩
          case measure => simp [RowKit.intOf]; omega
        · go_wp2_with fail
          with_reducible refine (HF1.out _ HR.out).mono ?_
          rintro e w3 ⟨rfl, hb3⟩
          have HR3 := hid (HR.out.below hb3)
          have HM3 := hid (HM.out.trans (Moved.below hb3 [b, g]))
          clear hb3 hc hs1
          go_wp2
          go_roundw
          case rel => exact ⟨k + 1, by omega, by go_num, by show RfM _ _ _ _; rw [HFK.out]; exact HR3.out, HM3.out⟩
          case measure => simp [RowKit.intOf]; omega
    · obtain rfl : k = NA := by omega
      have HFI := hid (show RfD b g (f k) w (.returned (.tuple #[])) wr from ⟨⟨_, rfl⟩, HR.out, (Moved.below HB2.out [b, g]).trans HM.out⟩)
      go_wp2
      first
        | exact bodyPost_ret (results_none rfl _ _ _) rfl ⟨⟨_, rfl⟩, HFI.out.2.1, HFI.out.2.2⟩
        | (go_end0; exact ⟨⟨_, rfl⟩, HFI.out.2.1, HFI.out.2.2⟩)
end
end Go.Proofs.Ytpehhinpohmpiaa
