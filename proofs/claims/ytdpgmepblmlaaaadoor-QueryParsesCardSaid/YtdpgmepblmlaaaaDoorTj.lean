/-
  QueryParses: any bytes are replies, or it is said why not.
-/
import Derived.Test.YtdpgmepblmlaaaaDoorTi
namespace Go.Proofs.YtdpgmepblmlaaaaDoor
open Go.RowKit Go.Lib Go.Deep

theorem repF_byt (ps : List Int) (h : BytL ps) : ∀ d ∈ (repF ps).2, BytL d := by
  intro d hd
  rcases ps with _ | ⟨b, zs⟩
  · cases hd
  rw [repF_cons] at hd
  by_cases hb : b ≠ 136
  · rw [if_pos hb] at hd
    cases hd
  rw [if_neg hb] at hd
  unfold repG at hd
  by_cases ha : (sfA zs).1.any badB = true
  · rw [if_pos ha] at hd
    cases hd
  rw [if_neg ha] at hd
  by_cases he : (sfA zs).2 ≠ 0
  · rw [if_pos he] at hd
    cases hd
  rw [if_neg he] at hd
  obtain ⟨f, hf, rfl⟩ := List.mem_map.1 hd
  exact (sfA_ok (fun x hx => h x (List.mem_cons_of_mem _ hx)) f hf).1.2
theorem fnd_mem {ds : List (List Int)} {c : Int} {len : Nat} {d : List Int} (h : fnd ds c len = some d) : d ∈ ds := by
  unfold fnd at h
  split at h
  · cases h
  · rename_i d' hd'
    split at h
    · cases h
    · injection h with h
      subst h
      exact List.mem_of_find?_eq_some hd'
/-- Of the first with a code: either there is none, or two bytes are a number. -/
theorem fnd_both (ps : List Int) (h : BytL ps) (c : Int) (len : Nat) : fnd (repF ps).2 c len = none ∨ ∃ d, fnd (repF ps).2 c len = some d ∧ ∀ n, 0 ≤ num2 d n ∧ num2 d n < 65536 := by
  cases e : fnd (repF ps).2 c len with
  | none => exact .inl rfl
  | some d => exact .inr ⟨d, rfl, fun n => num2_bd (repF_byt ps h d (fnd_mem e)) n⟩
set_option maxRecDepth 100000 in
set_option maxHeartbeats 4000000 in
theorem queryParses_walk (v : Value) (zs : List Int) (c : Int) (w : World) (h : Reads w v zs) (hN : Numbers w) : Calls Tryd.prog 9 #[v, .int .u8 c] w fun e w' => e = .returned (.bool true) ∧ Below w.heap.size w w' := by
  have HAW := hid (awake22 w hN)
  have HCU := hid (fun W (hW : Below w.heap.size w W) => (show Calls Tryd.prog 11 #[v, .int .i64 300] W (OwnDone (zs.take 300) W) from rcut_own v 300 (by omega) zs W (reads_below h hW)))
  have hlp : (zs.take 300).length ≤ 300 := by rw [List.length_take]; omega
  have hbp : BytL (zs.take 300) := (show BytL zs from h.1).take 300
  generalize zs.take 300 = ps at HCU hlp hbp
  have HLP := hid hlp
  have HBP := hid hbp
  have HQN := hid (fun W => qname_any c W)
  have HRQ := hid (fun W => rqname_any c W)
  generalize namS c = nm at HQN HRQ
  obtain ⟨x0, c0, rfl⟩ := reads_sl h
  clear h hN hlp hbp
  go_enter Tryd.func9, Tryd.ntmps9
  go_wp2_with fail
  with_reducible refine HAW.out.mono ?_
  rintro e w1 ⟨rfl, hb1⟩
  have HB1 := hid hb1
  have HC0 := hid (HCU.out w1 hb1)
  clear hb1 HAW HCU
  go_wp2_with fail
  with_reducible refine HC0.out.mono ?_
  rintro e w2 ⟨pv, rfl, hop, hb2, -⟩
  have HP := hid hop
  have HB2 := hid (below_t HB1.out hb2)
  have HCP := hid (rcopy_own pv ps w2 hop.reads (by have := HLP.out; omega))
  obtain ⟨xp, np, cp, rfl⟩ := own_slice hop
  clear hop hb2 HC0
  go_wp2_with fail
  with_reducible refine HCP.out.mono ?_
  rintro e w3 ⟨qv, rfl, hoq, hb3, -⟩
  have HPA := hid (parse_any qv ps w3 hoq.reads (by have := HLP.out; omega))
  have HB3 := hid hb3
  obtain ⟨xq, nq, cq, rfl⟩ := own_slice hoq
  clear hoq hb3 HCP
  go_wp2_with fail
  with_reducible refine HPA.out.mono ?_
  rintro e w4 ⟨lv, rfl, hol, hb4, -⟩
  have HL4 := hid hol
  have HB4 := hid (below_t HB3.out hb4)
  have HRP := hid (rparse_any (.slice xp np cp) ps w4 (HP.out.step HB4.out).reads (by have := HLP.out; omega))
  obtain ⟨xl, nl, cl, rfl⟩ := own_slice hol
  clear hol hb4 HPA
  go_wp2_with fail
  with_reducible refine HRP.out.mono ?_
  rintro e w5 ⟨mv, rfl, hom, hb5, -⟩
  have HM5 := hid hom
  have HL5 := hid (HL4.out.step hb5)
  have HB5 := hid (below_t HB4.out hb5)
  have HSZ := hid (size_of (.slice xp np cp) ps w5 (HP.out.step HB5.out).reads (by have := HLP.out; omega))
  obtain ⟨xm, nm5, cm, rfl⟩ := own_slice hom
  clear hom hb5 HRP HL4
  go_wp2_with fail
  with_reducible refine HSZ.out.mono ?_
  rintro e w6 ⟨rfl, hb6⟩
  have HB6 := hid (below_t HB5.out hb6)
  have HNU := hid (number_of (.slice xp np cp) ps w6 (HP.out.step HB6.out).reads (by have := HLP.out; omega))
  have HB56 := hid hb6
  clear hb6 HSZ
  go_wp2_with fail
  with_reducible refine HNU.out.mono ?_
  rintro e w7 ⟨rfl, hb7⟩
  have HB7 := hid (below_t HB6.out hb7)
  have HB57 := hid (below_t HB56.out hb7)
  have HA := hid (show Calls Tryd.prog 44 #[.slice xp np cp, .int .u8 129, .int .i64 5, .int .i64 7] w7 (fun e w' => e = .returned (.int .i64 (rnbF ps 129 5 7)) ∧ Below w7.heap.size w7 w') from rnumber_of (.slice xp np cp) ps 129 5 7 (by omega) (by omega) w7 (HP.out.step HB7.out).reads (by have := HLP.out; omega))
  clear hb7 HNU
  go_wp2_with fail
  with_reducible refine HA.out.mono ?_
  rintro e w8 ⟨rfl, hb8⟩
  have HB8 := hid (below_t HB7.out hb8)
  have HB58 := hid (below_t HB57.out hb8)
  have HA2 := hid (show Calls Tryd.prog 44 #[.slice xp np cp, .int .u8 129, .int .i64 3, .int .i64 7] w8 (fun e w' => e = .returned (.int .i64 (rnbF ps 129 3 7)) ∧ Below w8.heap.size w8 w') from rnumber_of (.slice xp np cp) ps 129 3 7 (by omega) (by omega) w8 (HP.out.step HB8.out).reads (by have := HLP.out; omega))
  clear hb8 HA
  go_wp2_with fail
  with_reducible refine HA2.out.mono ?_
  rintro e w9 ⟨rfl, hb9⟩
  have HB9 := hid (below_t HB8.out hb9)
  have HB59 := hid (below_t HB58.out hb9)
  have HA3 := hid (show Calls Tryd.prog 44 #[.slice xp np cp, .int .u8 133, .int .i64 13, .int .i64 15] w9 (fun e w' => e = .returned (.int .i64 (rnbF ps 133 13 15)) ∧ Below w9.heap.size w9 w') from rnumber_of (.slice xp np cp) ps 133 13 15 (by omega) (by omega) w9 (HP.out.step HB9.out).reads (by have := HLP.out; omega))
  clear hb9 HA2
  go_wp2_with fail
  with_reducible refine HA3.out.mono ?_
  rintro e w10 ⟨rfl, hb10⟩
  have HB10 := hid (below_t HB2.out (below_t HB9.out hb10))
  have hb510 := below_t HB59.out hb10
  have HSM := hid (same_true (.slice xl nl cl) (.slice xm nm5 cm) _ w10 (HL5.out.step hb510).reads (HM5.out.step hb510).reads)
  have HQ10 := hid (HQN.out w10)
  have HR10 := hid (HRQ.out w10)
  have h1 := fnd_both ps HBP.out 129 7
  have h2 := fnd_both ps HBP.out 133 15
  clear hb10 hb510 HA3 HL5 HM5 HP HQN HRQ
  generalize (parF ps).1 = er
  unfold sizF nmbF rnbF
  generalize fnd (repF ps).2 129 7 = X at h1 ⊢
  generalize fnd (repF ps).2 133 15 = Y at h2 ⊢
  rcases h1 with rfl | ⟨d, rfl, hd⟩
  · rcases h2 with rfl | ⟨d2, rfl, hd2⟩
    · dsimp only
      go_wp2_with fail
      with_reducible refine HSM.out.mono ?_
      rintro e w11 ⟨rfl, rfl⟩
      go_wp2_with fail
      with_reducible refine HQ10.out.mono ?_
      rintro e w12 ⟨rfl, rfl⟩
      go_wp2_with fail
      with_reducible refine HR10.out.mono ?_
      rintro e w13 ⟨rfl, hb13⟩
      have HFIN := hid (below_t HB10.out hb13)
      clear hb13
      go_wp2
      go_ret
      exact ⟨rfl, HFIN.out⟩
    · dsimp only
      obtain ⟨n0, n1⟩ := hd2 13
      generalize num2 d2 13 = n at *
      go_wp2_with fail
      with_reducible refine HSM.out.mono ?_
      rintro e w11 ⟨rfl, rfl⟩
      go_wp2_with fail
      with_reducible refine HQ10.out.mono ?_
      rintro e w12 ⟨rfl, rfl⟩
      go_wp2_with fail
      with_reducible refine HR10.out.mono ?_
      rintro e w13 ⟨rfl, hb13⟩
      have HFIN := hid (below_t HB10.out hb13)
      clear hb13
      go_wp2
      go_ret
      exact ⟨rfl, HFIN.out⟩
  · rcases h2 with rfl | ⟨d2, rfl, hd2⟩
    · dsimp only
      obtain ⟨a0, a1⟩ := hd 5
      obtain ⟨b0, b1⟩ := hd 3
      generalize num2 d 5 = a at *
      generalize num2 d 3 = b at *
      go_wp2_with fail
      with_reducible refine HSM.out.mono ?_
      rintro e w11 ⟨rfl, rfl⟩
      go_wp2_with fail
      with_reducible refine HQ10.out.mono ?_
      rintro e w12 ⟨rfl, rfl⟩
      go_wp2_with fail
      with_reducible refine HR10.out.mono ?_
      rintro e w13 ⟨rfl, hb13⟩
      have HFIN := hid (below_t HB10.out hb13)
      clear hb13
      go_wp2
      go_ret
      exact ⟨rfl, HFIN.out⟩
    · dsimp only
      obtain ⟨a0, a1⟩ := hd 5
      obtain ⟨b0, b1⟩ := hd 3
      generalize num2 d 5 = a at *
      generalize num2 d 3 = b at *
      obtain ⟨n0, n1⟩ := hd2 13
      generalize num2 d2 13 = n at *
      go_wp2_with fail
      with_reducible refine HSM.out.mono ?_
      rintro e w11 ⟨rfl, rfl⟩
      go_wp2_with fail
      with_reducible refine HQ10.out.mono ?_
      rintro e w12 ⟨rfl, rfl⟩
      go_wp2_with fail
      with_reducible refine HR10.out.mono ?_
      rintro e w13 ⟨rfl, hb13⟩
      have HFIN := hid (below_t HB10.out hb13)
      clear hb13
      go_wp2
      go_ret
      exact ⟨rfl, HFIN.out⟩
end Go.Proofs.YtdpgmepblmlaaaaDoor
