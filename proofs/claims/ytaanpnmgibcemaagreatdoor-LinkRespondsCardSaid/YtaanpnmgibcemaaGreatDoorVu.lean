/-
  A link is made: the walk.
-/
import Derived.Test.YtaanpnmgibcemaaGreatDoorVt
namespace Go.Proofs.YtaanpnmgibcemaaGreatDoor
open Go.RowKit Go.Lib

section
set_option maxRecDepth 100000 in
set_option maxHeartbeats 2000000 in
theorem lnew_no (T D : ByteArray) (x : Option Addr) (n c : Nat) (fs : List Int) (b : Bool) (w : World) (hr : Ng.RdG w (.slice x n c) fs) (hn : n = fs.length) (hl : n ≤ 1000) (hT : T.size ≤ 1000) (hD : D.size ≤ 1000) (h : cfErr T D fs ≠ 0) : Calls Tryz.prog 32 #[.agg #[.string T, .string D, .slice x n c, .bool b]] w (Ng.NoD (cfErr T D fs) w) := by
  have HN := hid (fun W (hb : Below w.heap.size w W) => ngnew_no (hr.step hb) hn hl hT hD h)
  have HE := hid h
  clear hr h
  generalize cfErr T D fs = er at *
  have hne : ¬ er = 0 := HE.out
  subst hn
  go_enter Tryz.func32, Tryz.ntmps32
  go_wp2_with fail
  refine (HN.out _ (bal (Below.refl _ _) _)).mono ?_
  rintro e w1 ⟨rfl, hb1⟩
  have HB := hid (below_t (bal (Below.refl w.heap.size w) _) hb1)
  clear hb1
  go_wp2
  exact bodyPost_ret (v := .tuple #[.pointer none, .int .i64 er]) (by simp [results, Tryz.results32, go_sem]) rfl ⟨rfl, HB.out⟩
set_option maxRecDepth 100000 in
set_option maxHeartbeats 2000000 in
theorem lnew_ok (T D : ByteArray) (x : Option Addr) (n c : Nat) (fs : List Int) (b : Bool) (w : World) (hr : Ng.RdG w (.slice x n c) fs) (hn : n = fs.length) (hl : n ≤ 1000) (hT : T.size ≤ 1000) (hD : D.size ≤ 1000) (h : cfErr T D fs = 0) : Calls Tryz.prog 32 #[.agg #[.string T, .string D, .slice x n c, .bool b]] w (NewL T D fs b w) := by
  have HN := hid (fun W (hb : Below w.heap.size w W) => ngnew_ok (hr.step hb) hn hl hT hD h)
  have HR := hid (fun W => Tn.newReader_any W)
  have HK := hid (fun W => newMaker_any W)
  clear hr h
  subst hn
  cases b
  · go_enter Tryz.func32, Tryz.ntmps32
    go_wp2_with fail
    refine (HN.out _ (bal (Below.refl _ _) _)).mono ?_
    rintro e w1 ⟨E, sv, rfl, he, hb1, hE, hs⟩
    have HB := hid (below_t (bal (Below.refl w.heap.size w) _) hb1)
    have z3 : w1.cell? ⟨w.heap.size, 3, none⟩ = some (.bool false) := keepc hb1 (by simp [go_sem])
    have HEE := hid he
    have HS := hid hs
    have HE1 := hid hE
    have hlt : w.heap.size < w1.heap.size := World.block_lt_of_cell? w1 _ z3
    clear he hb1 hs hE
    have hlit : OwnB (w1.alloc (.cells #[.int .u8 0, .int .u8 24, .int .u8 25] 5)) (.slice (some ⟨w1.heap.size, 0, none⟩) 3 3) [0, 24, 25] := own_lit w1 #[.int .u8 0, .int .u8 24, .int .u8 25] 3 [0, 24, 25] (by simp) rfl rfl (by omega) w1.heap.size rfl
    have HL := hid hlit.reads
    have HL2 := hid (bal (Below.refl w1.heap.size w1) (.cells #[.int .u8 0, .int .u8 24, .int .u8 25] 5))
    clear hlit
    go_wp2_with fail
    refine (HR.out _).mono ?_
    rintro e w3 ⟨rfl, hr3, hb3⟩
    have hlit : OwnB (w3.alloc (.cells #[.int .u8 0, .int .u8 25] 5)) (.slice (some ⟨w3.heap.size, 0, none⟩) 2 2) [0, 25] := own_lit w3 #[.int .u8 0, .int .u8 25] 2 [0, 25] (by simp) rfl rfl (by omega) w3.heap.size rfl
    have hb6 := bal (Below.refl w3.heap.size w3) (.cells #[.int .u8 0, .int .u8 25] 5)
    have HM := hid (Op.new_any _ _ [0, 24, 25] [0, 25] _ (reads_below HL.out (below_t hb3 hb6)) hlit.reads (by simp) (by simp))
    have HR3 := hid hr3
    have HB3 := hid hb3
    have HB6 := hid hb6
    clear hr3 hb3 hlit hb6
    go_wp2_with fail
    refine HM.out.mono ?_
    rintro e w4 ⟨rfl, hm4, hb4⟩
    have HM4 := hid hm4
    have HB4 := hid hb4
    clear hm4 hb4 HM
    go_wp2_with fail
    refine (HK.out _).mono ?_
    rintro e w5 ⟨rfl, hk5, hb5⟩
    have HK5 := hid hk5
    have HB5 := hid hb5
    clear hk5 hb5
    go_wp2
    exact bodyPost_ret (v := .tuple #[.pointer (some ⟨w5.heap.size, 0, none⟩), .int .i64 0]) (by simp [results, Tryz.results32, go_sem]) rfl (newL_of (x := false) HEE.out HB.out (Nat.le_trans (by simp) HE1.out) HEE.out.lt (fun k q => Nat.le_trans (by simp) (HS.out k q)) (OwnB.lt HEE.out.rs) HL2.out HB3.out HR3.out HB6.out HM4.out HB4.out HK5.out HB5.out (by simp) (by simp))
  · go_enter Tryz.func32, Tryz.ntmps32
    go_wp2_with fail
    refine (HN.out _ (bal (Below.refl _ _) _)).mono ?_
    rintro e w1 ⟨E, sv, rfl, he, hb1, hE, hs⟩
    have HB := hid (below_t (bal (Below.refl w.heap.size w) _) hb1)
    have z3 : w1.cell? ⟨w.heap.size, 3, none⟩ = some (.bool true) := keepc hb1 (by simp [go_sem])
    have HEE := hid he
    have HS := hid hs
    have HE1 := hid hE
    have hlt : w.heap.size < w1.heap.size := World.block_lt_of_cell? w1 _ z3
    clear he hb1 hs hE
    have hlit : OwnB (w1.alloc (.cells #[.int .u8 0, .int .u8 24, .int .u8 25] 5)) (.slice (some ⟨w1.heap.size, 0, none⟩) 3 3) [0, 24, 25] := own_lit w1 #[.int .u8 0, .int .u8 24, .int .u8 25] 3 [0, 24, 25] (by simp) rfl rfl (by omega) w1.heap.size rfl
    have HL2 := hid (bal (Below.refl w1.heap.size w1) (.cells #[.int .u8 0, .int .u8 24, .int .u8 25] 5))
    have hlit2 : OwnB ((w1.alloc (.cells #[.int .u8 0, .int .u8 24, .int .u8 25] 5)).alloc (.cells #[.int .u8 40] 5)) (.slice (some ⟨w1.heap.size + 1, 0, none⟩) 1 1) [40] := own_lit _ #[.int .u8 40] 1 [40] (by simp) rfl rfl (by omega) _ (by simp)
    have HO := hid (hlit.step (bal (Below.refl _ _) (.cells #[.int .u8 40] 5)))
    have HX := hid hlit2.reads
    have HL3 := hid (bal HL2.out (.cells #[.int .u8 40] 5))
    clear hlit hlit2
    go_wp2_with (first
      | (at_builtin; go_loud (refine wpList_append_ob rfl _ _ rfl _ _ [0, 24, 25] [40] rfl HO.out (by first | rfl | simp [go_sem]) HX.out (by simp) ?_; intro x' n' c' w2 ho' hn' hm'; have HL := hid ho'.reads; have HL2' := hid (show Below w1.heap.size w1 w2 from HL3.out.trans (hm'.toBelow HL3.out.size (blk_lit w1 w1.heap.size 3 3 (Nat.le_refl _)))); clear ho' hn' hm'))
      | fail)
    refine (HR.out _).mono ?_
    rintro e w3 ⟨rfl, hr3, hb3⟩
    have hlit : OwnB (w3.alloc (.cells #[.int .u8 0, .int .u8 25] 5)) (.slice (some ⟨w3.heap.size, 0, none⟩) 2 2) [0, 25] := own_lit w3 #[.int .u8 0, .int .u8 25] 2 [0, 25] (by simp) rfl rfl (by omega) w3.heap.size rfl
    have hb6 := bal (Below.refl w3.heap.size w3) (.cells #[.int .u8 0, .int .u8 25] 5)
    have HM := hid (Op.new_any _ _ [0, 24, 25, 40] [0, 25] _ (reads_below HL.out (below_t hb3 hb6)) hlit.reads (by simp) (by simp))
    have HR3 := hid hr3
    have HB3 := hid hb3
    have HB6 := hid hb6
    clear hr3 hb3 hlit hb6
    go_wp2_with fail
    refine HM.out.mono ?_
    rintro e w4 ⟨rfl, hm4, hb4⟩
    have HM4 := hid hm4
    have HB4 := hid hb4
    clear hm4 hb4 HM
    go_wp2_with fail
    refine (HK.out _).mono ?_
    rintro e w5 ⟨rfl, hk5, hb5⟩
    have HK5 := hid hk5
    have HB5 := hid hb5
    clear hk5 hb5
    go_wp2
    exact bodyPost_ret (v := .tuple #[.pointer (some ⟨w5.heap.size, 0, none⟩), .int .i64 0]) (by simp [results, Tryz.results32, go_sem]) rfl (newL_of (x := true) HEE.out HB.out (Nat.le_trans (by simp) HE1.out) HEE.out.lt (fun k q => Nat.le_trans (by simp) (HS.out k q)) (OwnB.lt HEE.out.rs) HL2'.out HB3.out HR3.out HB6.out HM4.out HB4.out HK5.out HB5.out (by simp) (by simp))
end
end Go.Proofs.YtaanpnmgibcemaaGreatDoor
