/-
  takeAfterIAC: its ways.
-/
import Derived.Test.YtdbjjieoohfckaaDoorFe
namespace Go.Proofs.YtdbjjieoohfckaaDoor
open Go.RowKit Go.Lib

theorem nil_notin (R : Nat) : R ∉ blkV (.slice none 0 0) := fun q => by cases q
theorem set_evs {w : World} {R : Nat} {v : Value} {xs : List (Ev × Value)} (h : OwnL w v xs) (hR : R ∉ blks v xs) (i : Nat) (u : Value) : OwnL (w.setCell ⟨R, i, none⟩ u) v xs :=
  h.moved (Moved.set (S := [R]) (by simp) i u) (fun k hk q => hR (by rw [← List.mem_singleton.1 q]; exact hk))
theorem apart_nil {R : Nat} {v : Value} {xs : List (Ev × Value)} (hR : R ∉ blks v xs) : ∀ k ∈ R :: blkV (.slice none 0 0), k ∉ blks v xs := fun k hk => by
  have : k = R := by simpa [blkV, Value.ownBlock] using hk
  rw [this]; exact hR
set_option maxRecDepth 100000 in
set_option maxHeartbeats 2000000 in
theorem iac_any (R : Nat) (pl vb b : Int) (v : Value) (xs : List (Ev × Value)) (w : World) (hr : Rdr w R pl vb 0 0 (.slice none 0 0) false false) (h : OwnL w v xs) (hR : R ∉ blks v xs) (hb : 0 ≤ b ∧ b < 256) (hn : xs.length ≤ 1000000) (hd : ∀ x ∈ xs, x.1.data.length ≤ 1000000) :
    Calls Tryd.prog 28 #[.pointer (some ⟨R, 0, none⟩), v, .int .u8 b] w (TakePost R (.slice none 0 0) v xs (iacS b) w) := by
  have HR := hid hr
  have c0 := hr.c0
  have c1 := hr.c1
  have f0 := hr.free 0
  have f1 := hr.free 1
  have hl := hr.lt
  have HO := hid h
  have HN := hid hR
  have HR0 := hid (hr.s0 0)
  have HO0 := hid (set_evs h hR 0 (.int .i64 0))
  have HM0 := hid (Moved.set (a := w) (S := R :: blkV (.slice none 0 0)) (g := R) (by simp) 0 (.int .i64 0))
  have HAP := hid (apart_nil hR)
  clear hr h hR
  by_cases e1 : b = 255
  · rw [iac_dat b e1]
    subst e1
    have HA := hid (HO0.out.moved (Moved.alloc _ (.cells #[.int .u8 255] 5) []) (fun _ _ q => by cases q))
    have HP := hid (addData_any v (.slice (some ⟨w.heap.size, 0, none⟩) 1 1) xs [255] ((w.setCell ⟨R, 0, none⟩ (.int .i64 0)).alloc (.cells #[.int .u8 255] 5)) HA.out (by
      have := reads_byte (w.setCell ⟨R, 0, none⟩ (.int .i64 0)) 255 (by omega)
      rwa [show (w.setCell ⟨R, 0, none⟩ (.int .i64 0)).heap.size = w.heap.size by simp [World.setCell]] at this) (by simp) hn hd)
    clear hb
    go_enter Tryd.func28, Tryd.ntmps28
    go_wp2_with fail
    refine HP.out.mono ?_
    intro e w2 hp
    have HQ := hid hp
    clear hp
    have hq := take_add (st := .between) HAP.out (HM0.out.trans (Moved.alloc _ (.cells #[.int .u8 255] 5) _)) ⟨vb, HR0.out.alloc _, rfl⟩ (nil_notin R) HQ.out
    obtain ⟨v2, xs2, d2, rfl, hrest⟩ := hq
    have HZ := hid hrest
    clear hrest
    go_wp2
    go_ret
    exact ⟨v2, xs2, d2, rfl, HZ.out⟩
  · have l1 : ((b : Int) == 255) = false := by simpa using e1
    by_cases e2 : b = 250
    · rw [iac_sb b e2]
      subst e2
      have HP := hid (take_rdr (st := .sb) (d' := .slice none 0 0) HO.out HAP.out (HM0.out.trans (Moved.set (g := R) (by simp) 0 (.int .i64 3))) ⟨vb, HR0.out.s0 3, rfl⟩ (nil_notin R))
      clear e1
      go_enter Tryd.func28, Tryd.ntmps28
      go_wp2
      go_ret
      exact HP.out
    · have l2 : ((b : Int) == 250) = false := by simpa using e2
      by_cases e3 : 251 ≤ b ∧ b ≤ 254
      · rw [iac_verb b e3.1 e3.2]
        have HP := hid (take_rdr (st := .verb b) (d' := .slice none 0 0) HO.out HAP.out ((HM0.out.trans (Moved.set (g := R) (by simp) 0 (.int .i64 2))).trans (Moved.set (g := R) (by simp) 1 (.int .u8 b))) ⟨(HR0.out.s0 2).s1 b, rfl⟩ (nil_notin R))
        have hcase : b = 251 ∨ b = 252 ∨ b = 253 ∨ b = 254 := by omega
        clear e1 e2 e3
        rcases hcase with rfl | rfl | rfl | rfl
        all_goals
          clear l1 l2 hb
          go_enter Tryd.func28, Tryd.ntmps28
          go_wp2
          go_ret
          exact HP.out
      · rw [iac_cmd b e1 e2 (by omega)]
        obtain ⟨i0, hi, hz0, hz1, hz2⟩ := info_parts info37
        have l3 : ((b : Int) == 251) = false := by simp; omega
        have l4 : ((b : Int) == 252) = false := by simp; omega
        have l5 : ((b : Int) == 253) = false := by simp; omega
        have l6 : ((b : Int) == 254) = false := by simp; omega
        have hsz : (w.setCell ⟨R, 0, none⟩ (.int .i64 0)).heap.size = w.heap.size := by simp [World.setCell]
        have HRW := hid (HO0.out.row.alloc (.cells #[.int .i64 1, .int .u8 b, .int .u8 0, .slice none 0 0, .bool false, .bool false] 34))
        have HNS := hid (news_six (w.setCell ⟨R, 0, none⟩ (.int .i64 0)) (.int .i64 1) (.int .u8 b) (.int .u8 0) (.slice none 0 0) (.bool false) (.bool false) 34)
        rw [hsz] at HNS
        clear e1 e2 e3 hsz hb
        go_enter Tryd.func28, Tryd.ntmps28
        go_wp2_with (first
          | (at_builtin; refine wpList_append_blk _ rfl _ _ 25 rfl 34 i0 _ 6 48 Tryd.underlying25 hi hz0 hz1 hz2 rfl (by decide) _ _ _ rfl HRW.out ⟨w.heap.size, 0, none⟩ 1 1 (evC ⟨1, b, 0, [], false, false⟩ (.slice none 0 0)) rfl rfl HNS.out (one_evC _ _ rfl) (by unfold maxLen; omega) (by omega) ?_; intro v' w3 ho hg hn' hk; have HO3 := hid ho; have HG3 := hid hg; have HK3 := hid hk; clear ho hg hn' hk))
        go_ret
        have r := snoc_done (e := ⟨1, b, 0, [], false, false⟩) HO0.out (Below.refl _ _) (OwnB.nil _) (fun k hk => by cases hk) HO3.out HG3.out HK3.out
        exact take_evs HAP.out HM0.out ⟨vb, HR0.out, rfl⟩ (nil_notin R) r.1 r.2 (by rw [map_snoc]; rfl)
end Go.Proofs.YtdbjjieoohfckaaDoor
