/-
  TelnetCuts' walk.
-/
import Derived.Test.YtdbjjieoohfckaaGf
namespace Go.Proofs.Ytdbjjieoohfckaa
open Go.RowKit Go.Lib

theorem reads_len {w : World} {v : Value} {xs : List Int} (h : Reads w v xs) : xs.length ≤ maxLen := by
  rcases h.2 with ⟨_, rfl⟩ | ⟨a, cap, _, h1, h2, _⟩
  · exact Nat.zero_le _
  · omega
theorem ownL_len {xs : List (Ev × Value)} {ps : List Int} (h : xs.map (·.1) = mergeL (emit .between ps)) (hl : ps.length ≤ 3000) : xs.length ≤ 100000 := by
  have a := wt_merge (emit .between ps)
  have b := wt_emit .between ps
  have c := xs_bound h (Nat.le_trans a (Nat.le_trans (Nat.le_add_right _ _) b))
  have d : St.between.wt = 0 := rfl
  omega
set_option maxRecDepth 100000 in
set_option maxHeartbeats 4000000 in
theorem telnetCuts_true (p c1 c2 : Value) (ps cs1 cs2 : List Int) (w : World) (hp : Reads w p ps) (h1 : Reads w c1 cs1) (h2 : Reads w c2 cs2) : Calls Try.prog 4 #[p, c1, c2] w fun e w' => e = .returned (.bool true) ∧ Below w.heap.size w w' := by
  have HP := hid hp
  have H1 := hid h1
  have H2 := hid h2
  clear hp h1 h2
  go_enter Try.func4, Try.ntmps4
  go_wp2_with fail
  refine (awake_true w).mono ?_
  rintro e w1 ⟨rfl, hb⟩
  have HB1 := hid hb
  clear hb
  go_wp2_with fail
  refine (cut_any p 1500 (by decide) ps w1 (reads_below HP.out HB1.out)).mono ?_
  rintro e w2 ⟨q, rfl, hr, hb, ho, -⟩
  have HQ := hid hr
  have HQL := hid (fun k (hk : k ∈ blkV q) => (ho.lt k (mem_blkV.1 hk)).2)
  have HB2 := hid (below_t HB1.out hb)
  have hl : (ps.take 1500).length ≤ 1500 := by rw [List.length_take]; omega
  clear hr hb ho
  generalize ps.take 1500 = ys at HQ hl
  go_wp2_with fail
  refine (feedAll q c1 ys cs1 w2 HQ.out (reads_below H1.out HB2.out) hl (reads_len H1.out) HQL.out).mono ?_
  rintro e w3 ⟨a, xs, rfl, ho, hx, hb⟩
  have HO3 := hid ho.evsX
  have HX3 := hid hx
  have HQ3 := hid (reads_below HQ.out hb)
  have HQL3 := hid (fun k (hk : k ∈ blkV q) => Nat.lt_of_lt_of_le (HQL.out k hk) hb.size)
  have HB3 := hid (below_t HB2.out hb)
  clear ho hx hb HQ HQL
  go_wp2_with fail
  refine (feedAll q c2 ys cs2 w3 HQ3.out (reads_below H2.out HB3.out) hl (reads_len H2.out) HQL3.out).mono ?_
  rintro e w4 ⟨b, zs, rfl, ho, hz, hb⟩
  have HO4 := hid ho.evsX
  have HX4 := hid (evsX_below HO3.out hb)
  have HE := hid (HX3.out.trans hz.symm)
  have HZ := hid hz
  have HB4 := hid (below_t HB3.out hb)
  have hxl := ownL_len HX3.out (by omega)
  have hzl := ownL_len hz (by omega)
  clear ho hz hb
  generalize (runS .between ys).waits = wt1
  go_wp2_with fail
  refine (back_any a xs w4 HX4.out hxl).mono ?_
  rintro e w5 ⟨a', rfl, hv, hb⟩
  have HA5 := hid hv
  have HZ5 := hid (evsX_below HO4.out hb)
  have HB5 := hid (below_t HB4.out hb)
  clear hv hb
  go_wp2_with fail
  refine (back_any b zs w5 HZ5.out hzl).mono ?_
  rintro e w6 ⟨b', rfl, hv, hb⟩
  have HZ6 := hid hv
  have HA6 := hid (evsX_below HA5.out hb)
  have HB6 := hid (below_t HB5.out hb)
  clear hv hb
  go_wp2_with fail
  refine (sameE_true a' b' xs zs w6 HA6.out HZ6.out HE.out hxl).mono ?_
  rintro e w7 ⟨rfl, hb⟩
  have HB7 := hid (below_t HB6.out hb)
  clear hb
  go_wp2
  all_goals
    go_ret
    exact ⟨rfl, HB7.out⟩
end Go.Proofs.Ytdbjjieoohfckaa
