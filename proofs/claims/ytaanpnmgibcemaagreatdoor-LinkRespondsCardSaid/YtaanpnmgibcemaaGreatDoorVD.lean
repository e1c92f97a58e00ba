/-
  The law's lay: a link, and the reference's.
-/
import Derived.Test.YtaanpnmgibcemaaGreatDoorVB
namespace Go.Proofs.YtaanpnmgibcemaaGreatDoor
open Go.RowKit Go.Lib Go.Deep

/-- A pointer and an error. -/
def PtE (er : Int) (w : World) (e : Ending) (w' : World) : Prop := ∃ p, e = .returned (.tuple #[.pointer p, .int .i64 er]) ∧ Below w.heap.size w w'
section
variable {T D : ByteArray} {x : Option Addr} {n c : Nat} {fs : List Int} {w : World}
theorem r10new_any (ho : OwnB w (.slice x n c) fs) (hn : n = fs.length) (hl : n ≤ 1000) (hT : T.size ≤ 1000) (hD : D.size ≤ 1000) : Calls Tryz.prog 60 #[.agg #[.string T, .string D, .slice x n c]] w (PtE (cfErr T D fs) w) := by
  unfold cfErr
  cases h1 : Ng.nameOk T D
  · rw [if_pos rfl]
    exact (Ng.rnew_bad T D x n c fs w ho hn hl hT hD h1).mono fun e w' h => ⟨none, h.1, h.2⟩
  · rw [if_neg (by simp)]
    cases h2 : Ng.risesL fs
    · rw [if_pos rfl]
      by_cases hd : D.size = 0
      · exact (Ng.rnew_arg_none T D x n c fs w ho hn hl hT hD hd h1 h2).mono fun e w' h => ⟨none, h.1, h.2⟩
      · exact (Ng.rnew_arg_some T D x n c fs w ho hn hl hT hD hd h1 h2).mono fun e w' h => ⟨none, h.1, h.2⟩
    · rw [if_neg (by simp)]
      by_cases hd : D.size = 0
      · exact (Ng.rnew_ok_none T D x n c fs w ho hn hl hT hD hd h1 h2).mono fun e w' ⟨g, h, _, hb, _⟩ => ⟨some ⟨g, 0, none⟩, h, hb⟩
      · exact (Ng.rnew_ok_some T D x n c fs w ho hn hl hT hD hd h1 h2).mono fun e w' ⟨g, h, _, hb, _⟩ => ⟨some ⟨g, 0, none⟩, h, hb⟩
set_option maxRecDepth 100000 in
set_option maxHeartbeats 4000000 in
theorem rf11new_any (ho : OwnB w (.slice x n c) fs) (hn : n = fs.length) (hl : n ≤ 1000) (hT : T.size ≤ 1000) (hD : D.size ≤ 1000) (b : Bool) : Calls Tryz.prog 33 #[.agg #[.string T, .string D, .slice x n c], .bool b] w (PtE (cfErr T D fs) w) := by
  have HN := hid (fun W (hb : Below w.heap.size w W) => r10new_any (T := T) (D := D) (ho.step hb) hn hl hT hD)
  obtain ⟨er, her⟩ : ∃ er, cfErr T D fs = er := ⟨_, rfl⟩
  rw [her] at HN ⊢
  have HM := hid (fun W u v us hs hu hv l1 l2 => Op.rnew_any u v us hs W hu hv l1 l2)
  clear ho her
  subst hn
  by_cases h0 : er = 0
  · subst h0
    cases b
    · go_enter Tryz.func33, Tryz.ntmps33
      go_wp2_with fail
      with_reducible refine (HN.out _ (bal (Below.refl _ _) _)).mono ?_
      rintro e w1 ⟨p, rfl, hb1⟩
      have HB := hid (below_t (bal (Below.refl w.heap.size w) _) hb1)
      clear hb1
      have hlit : OwnB (w1.alloc (.cells #[.int .u8 0, .int .u8 24, .int .u8 25] 5)) (.slice (some ⟨w1.heap.size, 0, none⟩) 3 3) [0, 24, 25] := own_lit w1 #[.int .u8 0, .int .u8 24, .int .u8 25] 3 [0, 24, 25] (by simp) rfl rfl (by omega) w1.heap.size rfl
      have hlit2 : OwnB ((w1.alloc (.cells #[.int .u8 0, .int .u8 24, .int .u8 25] 5)).alloc (.cells #[.int .u8 0, .int .u8 25] 5)) (.slice (some ⟨w1.heap.size + 1, 0, none⟩) 2 2) [0, 25] := own_lit _ #[.int .u8 0, .int .u8 25] 2 [0, 25] (by simp) rfl rfl (by omega) _ (by simp)
      have HQ := hid (HM.out _ _ _ [0, 24, 25] [0, 25] (reads_below hlit.reads (bal (Below.refl _ _) _)) hlit2.reads (by simp) (by simp))
      have HB2 := hid (below_t HB.out (bal (bal (Below.refl _ _) (.cells #[.int .u8 0, .int .u8 24, .int .u8 25] 5)) (.cells #[.int .u8 0, .int .u8 25] 5)))
      clear hlit hlit2
      go_wp2_with fail
      with_reducible refine HQ.out.mono ?_
      rintro e w4 ⟨rfl, -, hb4⟩
      have HB4 := hid (below_t HB2.out hb4)
      clear hb4
      go_wp2
      go_ret2
      exact ⟨_, rfl, bal HB4.out _⟩
    · go_enter Tryz.func33, Tryz.ntmps33
      go_wp2_with fail
      with_reducible refine (HN.out _ (bal (Below.refl _ _) _)).mono ?_
      rintro e w1 ⟨p, rfl, hb1⟩
      have HB := hid (below_t (bal (Below.refl w.heap.size w) _) hb1)
      clear hb1
      have hlit : OwnB (w1.alloc (.cells #[.int .u8 0, .int .u8 24, .int .u8 25] 5)) (.slice (some ⟨w1.heap.size, 0, none⟩) 3 3) [0, 24, 25] := own_lit w1 #[.int .u8 0, .int .u8 24, .int .u8 25] 3 [0, 24, 25] (by simp) rfl rfl (by omega) w1.heap.size rfl
      have HL2 := hid (bal (Below.refl w1.heap.size w1) (.cells #[.int .u8 0, .int .u8 24, .int .u8 25] 5))
      have hlit2 : OwnB ((w1.alloc (.cells #[.int .u8 0, .int .u8 24, .int .u8 25] 5)).alloc (.cells #[.int .u8 40] 5)) (.slice (some ⟨w1.heap.size + 1, 0, none⟩) 1 1) [40] := own_lit _ #[.int .u8 40] 1 [40] (by simp) rfl rfl (by omega) _ (by simp)
      have HO := hid (hlit.step (bal (Below.refl _ _) (.cells #[.int .u8 40] 5)))
      have HX := hid hlit2.reads
      have HL3 := hid (bal HL2.out (.cells #[.int .u8 40] 5))
      clear hlit hlit2
      go_wp2_with (first
        | (at_builtin; go_loud (refine wpList_append_ob rfl _ _ rfl _ _ [0, 24, 25] [40] rfl HO.out (by first | rfl | simp [go_sem]) HX.out (by simp) ?_; intro x' n' c' w2 ho' hn' hm'; have HL := hid ho'.reads; have HL2' := hid (show Below w1.heap.size w1 w2 from HL3.out.trans (hm'.toBelow HL3.out.size (blk_lit w1 w1.heap.size 3 3 (Nat.le_refl _)))); have HQ := hid (HM.out _ _ _ ([0, 24, 25] ++ [40]) [0, 25] (reads_below ho'.reads (bal (Below.refl _ _) (.cells #[.int .u8 0, .int .u8 25] 5))) ((own_lit w2 #[.int .u8 0, .int .u8 25] 2 [0, 25] (by simp) rfl rfl (by omega) w2.heap.size rfl).reads) (by simp) (by simp)); clear ho' hn' hm'))
        | fail)
      with_reducible refine HQ.out.mono ?_
      rintro e w4 ⟨rfl, -, hb4⟩
      have HB4 := hid (below_t HB.out (below_t HL2'.out (below_t (bal (Below.refl _ _) _) hb4)))
      clear hb4
      go_wp2
      go_ret2
      exact ⟨_, rfl, bal HB4.out _⟩
  · have h0' : ¬ 0 = er := fun q => h0 q.symm
    go_enter Tryz.func33, Tryz.ntmps33
    go_wp2_with fail
    with_reducible refine (HN.out _ (bal (Below.refl _ _) _)).mono ?_
    rintro e w1 ⟨p, rfl, hb1⟩
    have HB := hid (below_t (bal (Below.refl w.heap.size w) _) hb1)
    clear hb1
    go_wp2
    go_ret2
    exact ⟨_, rfl, HB.out⟩
end
end Go.Proofs.YtaanpnmgibcemaaGreatDoor
