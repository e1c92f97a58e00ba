/-
  The reference's Span: its list of places.
-/
import Derived.Test.YtpnfdmfmdacjmaaSpa
import Derived.Test.YtpnfdmfmdacjmaaPrb
namespace Go.Proofs.Ytpnfdmfmdacjmaa
open Go.RowKit Go.Lib

theorem info3s : (Try.prog.info? 3).map (fun i => (i.zero, i.size, i.bytes)) = some (some (.int .i64 0), 1, 8) := by kernel_rfl
theorem snews_one (W : World) (x : Value) (t : TypeId) : ∀ j u, [x][j]? = some u → (W.alloc (.cells #[x] t)).cell? ((⟨W.heap.size, 0, none⟩ : Addr).add j) = some u := by
  intro j u hu
  match j, hu with
  | 0, hu => simp only [List.getElem?_cons_zero, Option.some.injEq] at hu; subst hu; rw [show (⟨W.heap.size, 0, none⟩ : Addr).add 0 = ⟨W.heap.size, 0, none⟩ from rfl]; simp [go_sem]
  | j + 1, hu => simp at hu
theorem sone_one (x : Int) : ∀ u ∈ [Value.int .i64 x], u.oneCell' = true := by
  intro u hu
  simp only [List.mem_cons, List.not_mem_nil, or_false] at hu
  subst hu
  rfl
theorem sowned_new {w : World} {B : Nat} (hB : B ≤ w.heap.size) (x : Value) (t : TypeId) : (w.alloc (.cells #[x] t)).ownsRow B t 1 (.slice (some ⟨w.heap.size, 0, none⟩) 1 1) 1 [x] :=
  ⟨rfl, .inr ⟨w.heap.size, 1, #[x], rfl, hB, heap_alloc_new w _, Nat.le_refl _, by unfold maxLen; decide, rfl, rfl⟩⟩
/-- Ints are there, in memory that is new. -/
def IntsDone (xs : List Int) (w : World) (e : Ending) (w' : World) : Prop := ∃ v b, e = .returned v ∧ w.heap.size ≤ b ∧ w'.ownsRow b 3 1 v xs.length (xs.map (Value.int .i64)) ∧ Below w.heap.size w w'
theorem ints_done {xs : List Int} {w w' : World} {v : Value} {b n : Nat} (hn : n = xs.length) (hb : w.heap.size ≤ b) (h : w'.ownsRow b 3 1 v n (xs.map (Value.int .i64))) (hw : Below w.heap.size w w') : IntsDone xs w (.returned v) w' := by
  subst hn
  exact ⟨v, b, rfl, hb, h, hw⟩
/-- A slice's length. -/
def lenV : Value → Nat
  | .slice _ n _ => n
  | _ => 0
theorem lenV_own {w : World} {B : Nat} {t : TypeId} {m n : Nat} {v : Value} {xs : List Value} (h : w.ownsRow B t m v n xs) : lenV v = n := by
  rcases h.2 with ⟨rfl, rfl⟩ | ⟨g, cap, cur, rfl, _⟩ <;> rfl

set_option maxRecDepth 100000 in
set_option maxHeartbeats 2000000 in
theorem rspan_ok (r c p q : Int) (h : Ok r c) (hp : I64 p) (hq : I64 q) (w : World) : Calls Try.prog 30 #[.agg #[.int .i64 r, .int .i64 c], .int .i64 p, .int .i64 q] w (IntsDone (spanL (r * c) (p % (r * c)) (lenZ r c p q).toNat) w) := by
  obtain ⟨i0, hi, hz0, hz1, hz2⟩ := info_parts info3s
  rw [lenS_eq]
  have HV := hid (rvalid_ok r c h)
  have HCE := hid (rcells_ok r c h)
  have HP := hid (rwrap_ok r c p h hp)
  have HQ := hid (rwrap_ok r c q h hq)
  have hN := ok_pos h
  obtain ⟨a0, a1⟩ := mod_bd p hN.1
  obtain ⟨b0, b1⟩ := mod_bd q hN.1
  generalize p % (r * c) = A at HP a0 a1 ⊢
  generalize q % (r * c) = B at HQ b0 b1 ⊢
  have hL := lenS_bd (a := A) (b := B) hN.1
  have HMO := hid (fun k : Int => span_more (k := k) a0 a1 b0 b1)
  have HEN := hid (fun k : Int => span_end (k := k) a0 a1 b0 b1)
  have HON := hid (spanL_one a0 a1)
  obtain ⟨N, hNe⟩ : ∃ N, N = r * c := ⟨_, rfl⟩
  have HM := hid (fun n (h : I64 n) => mod_any n N h (by omega) (by omega))
  have HNX := hid (span_next N A)
  have HMB := hid (fun k : Int => mod_bd (A + k) (m := N) (by omega))
  rw [← hNe] at HCE hN a1 b1 hL HMO HEN HON ⊢
  have HCE := HCE
  obtain ⟨L, hLe⟩ : ∃ L : Nat, lenS N A B = L := ⟨(lenS N A B).toNat, by omega⟩
  rw [hLe] at hL HMO HEN ⊢
  rw [Int.toNat_natCast]
  clear hLe hNe h hp hq
  obtain ⟨hN1, hN2⟩ := hN
  go_enter Try.func30, Try.ntmps30
  go_wp2_with fail
  with_reducible refine (HV.out _).mono ?_
  rintro e w1 ⟨rfl, hb⟩
  have HX := hid (box_new hb)
  clear hb
  go_wp2
  go_region_held3 (fun w' => w'.cell? ⟨w.heap.size, 0, none⟩ = some (.int .i64 r) ∧ w'.cell? ⟨w.heap.size, 1, none⟩ = some (.int .i64 c) ∧ Below w.heap.size w w') (first | exact box_kept (by assumption) (by assumption) | assumption | exact box_drew HX.out)
    (first
      | (go_at_call 20; (with_reducible refine (HP.out _).mono ?_); rintro e w2 ⟨rfl, hb2⟩)
      | (go_at_call 20; (with_reducible refine (HQ.out _).mono ?_); rintro e w2 ⟨rfl, hb2⟩))
  all_goals
    rename_i hH
    obtain ⟨d0, d1, hH⟩ := hH
    have HY := hid hH
    clear hH
    have hlt := World.block_lt_of_cell? _ _ d0
    have s1 : IntKind.i64.wrap (A + 1) = A + 1 := IntWalk.i64_in _ (by omega)
    clear hb2
    go_wp2_with fail
    have HOA := hid (sowned_new (w := w2) (Nat.le_refl _) (.int .i64 A) 3)
    have HBA := hid ((Below.refl w2.heap.size w2).alloc (Nat.le_refl _) (.cells #[.int .i64 A] 3))
    with_reducible refine (HCE.out _).mono ?_
    rintro e w3 ⟨rfl, hb3⟩
    have HO1 : Hid (w3.ownsRow w2.heap.size 3 1 (.slice (some ⟨w2.heap.size, 0, none⟩) 1 1) 1 ((spanL N A 1).map (Value.int .i64))) := by
      show World.ownsRow _ _ _ _ _ _ _
      rw [HON.out]
      exact own_below HOA.out hb3
    have HB1 := hid (HBA.out.trans (hb3.mono HBA.out.size))
    clear hb3
    go_wp2_with fail
    with_reducible refine (HM.out _ (i64_small (by omega) (by omega)) _).mono ?_
    rintro e w4 ⟨rfl, rfl⟩
    go_wp2_with fail
    go_loopw [9, 10] (fun v n w' => ∃ k : Nat, 1 ≤ k ∧ k ≤ L ∧ n = .int .i64 ((A + (k : Int)) % N) ∧ Hid (w'.ownsRow w2.heap.size 3 1 v k ((spanL N A k).map (Value.int .i64))) ∧ Hid (Below w2.heap.size w2 w')) (fun v _ _ => L - lenV v)
    case atStart => exact ⟨1, Nat.le_refl _, by omega, rfl, HO1.out, HB1.out⟩
    case round =>
      obtain ⟨k, hk1, hk, rfl, HO, HB⟩ := hrel
      have HNK := hid (HNX.out k)
      obtain ⟨m0, m1⟩ := HMB.out k
      by_cases hlk : k < L
      · have HS := hid (spanL_succ N A k)
        obtain ⟨e1, e2⟩ := HMO.out k (by omega) (by omega)
        generalize (A + (k : Int)) % N = X at HNK m0 m1 e1 e2 HS ⊢
        have t1 : (X != B) = true := by simpa using e1
        have t2 : (X != A) = true := by simpa using e2
        have HOX := hid (HO.out.alloc (.cells #[.int .i64 X] 3))
        have HBX := hid (HB.out.alloc HB.out.size (.cells #[.int .i64 X] 3))
        have HNW := hid (snews_one wr (.int .i64 X) 3)
        have HML : Hid (k + 1 ≤ maxLen) := by show _ ≤ _; unfold maxLen; omega
        have HLL : Hid ((k + 1) * 8 ≤ 140737488355328) := by show _ ≤ _; omega
        have HSZ := hid (show w2.heap.size ≤ (wr.alloc (.cells #[.int .i64 X] 3)).heap.size by have := HB.out.size; simp; omega)
        have HD := hid (And.intro d0 d1)
        clear d0 d1
        have s2 : IntKind.i64.wrap (X + 1) = X + 1 := IntWalk.i64_in _ (by omega)
        go_wp2_with (first
          | (at_builtin; refine wpList_append_own _ rfl _ _ 43 rfl w2.heap.size 3 i0 (.int .i64 0) 1 8 Try.underlying43 hi hz0 hz1 hz2 rfl (by decide) _ k ((spanL N A k).map (Value.int .i64)) rfl HOX.out ⟨wr.heap.size, 0, none⟩ 1 1 [.int .i64 X] rfl rfl HNW.out (sone_one X) HML.out HLL.out HSZ.out ?_; intro v5 w5 ho hg hn; have HO5 := hid ho; have HB5 := hid (HBX.out.grown hg HSZ.out (own_ge HO.out)); clear ho hg hn; have d0 := keepc HB5.out HD.out.1; have d1 := keepc HB5.out HD.out.2))
        with_reducible refine (HCE.out _).mono ?_
        rintro e w6 ⟨rfl, hb6⟩
        have HO6 := hid (own_below HO5.out hb6)
        have HB6 := hid (HB5.out.trans (hb6.mono HB5.out.size))
        clear hb6
        go_wp2_with fail
        with_reducible refine (HM.out _ (i64_small (by omega) (by omega)) _).mono ?_
        rintro e w7 ⟨rfl, rfl⟩
        go_wp2_with fail
        go_roundw
        case rel =>
          refine ⟨k + 1, by omega, by omega, by rw [HNK.out]; rfl, ?_, HB6.out⟩
          show World.ownsRow _ _ _ _ _ _ _
          rw [HS.out, List.map_append]
          exact HO6.out
        case measure =>
          rw [lenV_own HO6.out, lenV_own HO.out]
          omega
      · obtain rfl : k = L := by omega
        have e1 := HEN.out k rfl
        rw [e1] at HNK ⊢
        have HB9 := hid (HY.out.trans (HB.out.mono HY.out.size))
        go_wp2
        go_ret
        exact ints_done (spanL_len _ _ _).symm HY.out.size HO.out HB9.out
set_option maxRecDepth 100000 in
theorem rspan_no (r c p q : Int) (h : vB r c = false) (w : World) : Calls Try.prog 30 #[.agg #[.int .i64 r, .int .i64 c], .int .i64 p, .int .i64 q] w (fun e w' => e = .returned (.slice none 0 0) ∧ Below w.heap.size w w') := by
  have HV := hid (rvalid_no r c h)
  clear h
  go_enter Try.func30, Try.ntmps30
  go_wp2_with fail
  with_reducible refine (HV.out _).mono ?_
  rintro e w1 ⟨rfl, hb⟩
  have HX := hid (box_new hb)
  clear hb
  go_wp2
  go_ret
  exact ⟨rfl, HX.out.2.2⟩

end Go.Proofs.Ytpnfdmfmdacjmaa
