/-
  TelnetReads' walk.
-/
import Derived.Test.YtdbjjieoohfckaaRe
namespace Go.Proofs.Ytdbjjieoohfckaa
open Go.RowKit Go.Lib

/-- What Read leaves. -/
def ReadDone (ps : List Int) (w : World) (e : Ending) (w' : World) : Prop :=
  ∃ v xs, e = .returned (.tuple #[v, .bool (runS .between ps).waits]) ∧ EvsX w' v xs ∧ xs.map (·.1) = mergeL (emit .between ps) ∧ Below w.heap.size w w'
set_option maxRecDepth 100000 in
set_option maxHeartbeats 2000000 in
theorem read_any (p : Value) (ps : List Int) (w : World) (hp : Reads w p ps) (hl : ps.length ≤ 2000) : Calls Try.prog 10 #[p] w (ReadDone ps w) := by
  have HTK := hid (takeR_any p ps w hp hl)
  obtain ⟨x, cap, rfl, -⟩ := reads_uni hp
  clear hp
  obtain ⟨L, hL⟩ : ∃ L, L = ps.length := ⟨_, rfl⟩
  rw [← hL] at HTK hl ⊢
  have HLN := hid hL
  clear hL
  go_enter Try.func10, Try.ntmps10
  go_wp2_with fail
  refine HTK.out.mono ?_
  rintro e w2 ⟨v, xs, n, rfl, ht, hx, hd, hb⟩
  have HE := hid (row_evs ht.rowW (fun y hy => (ht.data y (.inr hy)).1))
  have HX := hid hx
  have HB := hid hb
  have HW := hid hd
  clear ht hx hd hb
  by_cases hnl : n < L
  · have hni : (n : Int) < L := by omega
    have HT : Hid ((runS .between ps).waits = true) := by show _ = _; rw [← HW.out, decide_eq_true (by rw [← HLN.out]; exact hnl)]
    go_wp2
    go_ret2
    exact ⟨v, xs, (by rw [HT.out] <;> rfl), HE.out, HX.out, HB.out⟩
  · have hni : ¬ (n : Int) < L := by omega
    have HT : Hid ((runS .between ps).waits = false) := by show _ = _; rw [← HW.out, decide_eq_false (by rw [← HLN.out]; exact hnl)]
    have hnd : decide ((n : Int) < L) = false := by simpa using hni
    go_wp2
    go_ret2
    exact ⟨v, xs, (by rw [HT.out] <;> rfl), HE.out, HX.out, HB.out⟩
set_option maxRecDepth 100000 in
set_option maxHeartbeats 4000000 in
theorem telnetReads_true (p c : Value) (ps cs : List Int) (w : World) (hp : Reads w p ps) (hc : Reads w c cs) : Calls Try.prog 3 #[p, c] w fun e w' => e = .returned (.bool true) ∧ Below w.heap.size w w' := by
  have HP := hid hp
  have H1 := hid hc
  clear hp hc
  go_enter Try.func3, Try.ntmps3
  go_wp2_with fail
  refine (awake_true w).mono ?_
  rintro e w1 ⟨rfl, hb⟩
  have HB1 := hid hb
  clear hb
  go_wp2_with fail
  refine (cut_any p 1500 (by decide) ps w1 (reads_below HP.out HB1.out)).mono ?_
  rintro e w2 ⟨q, rfl, hr, hb, ho, -⟩
  have HQ := hid hr
  have HQL := hid (fun k (hk : k ∈ blkV q) => (ho.lt k (mem_blkV.1 hk)).2)
  have HB2 := hid (below_t HB1.out hb)
  have hl : (ps.take 1500).length ≤ 1500 := by rw [List.length_take]; omega
  clear hr hb ho
  generalize ps.take 1500 = ys at HQ hl
  go_wp2_with fail
  refine (feedAll q c ys cs w2 HQ.out (reads_below H1.out HB2.out) hl (reads_len H1.out) HQL.out).mono ?_
  rintro e w3 ⟨a, xs, rfl, ho, hx, hb⟩
  have HO3 := hid ho.evsX
  have HX3 := hid hx
  have HQ3 := hid (reads_below HQ.out hb)
  have HB3 := hid (below_t HB2.out hb)
  clear ho hx hb HQ HQL
  go_wp2_with fail
  refine (read_any q ys w3 HQ3.out (by omega)).mono ?_
  rintro e w4 ⟨b, zs, rfl, ho, hz, hb⟩
  have HO4 := hid ho
  have HX4 := hid (evsX_below HO3.out hb)
  have HE := hid (HX3.out.trans hz.symm)
  have HB4 := hid (below_t HB3.out hb)
  have hxl := ownL_len HX3.out (by omega)
  clear ho hz hb
  generalize (runS .between ys).waits = wt1
  go_wp2_with fail
  refine (back_any a xs w4 HX4.out hxl).mono ?_
  rintro e w5 ⟨a', rfl, hv, hb⟩
  have HA5 := hid hv
  have HZ5 := hid (evsX_below HO4.out hb)
  have HB5 := hid (below_t HB4.out hb)
  clear hv hb
  go_wp2_with fail
  refine (sameE_true a' b xs zs w5 HA5.out HZ5.out HE.out hxl).mono ?_
  rintro e w7 ⟨rfl, hb⟩
  have HB7 := hid (below_t HB5.out hb)
  clear hb
  go_wp2
  all_goals
    go_ret
    exact ⟨rfl, HB7.out⟩
end Go.Proofs.Ytdbjjieoohfckaa
