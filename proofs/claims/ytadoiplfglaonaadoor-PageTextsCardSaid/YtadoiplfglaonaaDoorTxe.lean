/-
  PageTexts: the law's walk.
-/
import Derived.Test.YtadoiplfglaonaaDoorTxd
import Derived.Test.YtadoiplfglaonaaDoorRefs
namespace Go.Proofs.YtadoiplfglaonaaDoor
open Go.RowKit Go.Lib Go.Shelf

theorem bytes_snoc (a b : List UInt8) : (⟨a.toArray⟩ : ByteArray) ++ (⟨b.toArray⟩ : ByteArray) = ⟨(a ++ b).toArray⟩ := ByteArray.ext (by simp)
theorem row_some {xs : List Int} {w w' : World} {v : Value} (h : w'.ownsRow w.heap.size 5 1 v xs.length (xs.map (Value.int .u8))) (hn : v ≠ .slice none 0 0) : ∃ g c, v = .slice (some ⟨g, 0, none⟩) xs.length c ∧ w.heap.size ≤ g ∧ g < w'.heap.size := by
  rcases h.2 with ⟨e, _⟩ | ⟨g, cap, cur, rfl, hg, hh, _⟩
  · exact absurd e hn
  · exact ⟨g, cap, rfl, hg, (Array.getElem?_eq_some_iff.1 hh).1⟩
set_option maxRecDepth 100000 in
set_option maxHeartbeats 2000000 in
theorem pageTexts_true (n : Nat) (hn : n < 256) (v : Value) (xs : List Int) (w : World) (hN : Numbers w) (hv : Reads w v xs) : Calls Tryd.prog 5 #[.int .u8 n, v] w fun e w' => e = .returned (.bool true) ∧ Below w.heap.size w w' := by
  have HN := hid hN
  have HV := hid hv
  obtain ⟨x0, n0, c0, rfl⟩ : ∃ x n c, v = .slice x n c := by
    rcases hv.2 with ⟨rfl, _⟩ | ⟨a, cap, rfl, _⟩ <;> exact ⟨_, _, _, rfl⟩
  clear hN hv
  go_enter Tryd.func5, Tryd.ntmps5
  go_wp2_with fail
  refine (awake_true w HN.out).mono ?_
  rintro e w1 ⟨rfl, hb⟩
  have HB1 := hid hb
  have HN1 := hid (HN.out.below HN.out.1 hb)
  clear hb
  have HPK := hid (pick_any n hn w1 HN1.out)
  obtain ⟨num, hnm⟩ : ∃ num, num = picked n := ⟨_, rfl⟩
  rw [← hnm] at HPK
  clear hnm
  go_wp2_with fail
  refine HPK.out.mono ?_
  rintro e w2 ⟨pb, rfl, hpb, hP, hb⟩
  have HB2 := hid (HB1.out.trans (hb.mono HB1.out.size))
  have HP2 := hid hP
  have hwp : w.heap.size ≤ pb := Nat.le_trans HB1.out.size hpb
  have hpl := hP.lt
  have hnum := hP.1
  clear hP hb HPK
  have HCU := hid (cut_any _ 300 (by decide) xs w2 (reads_below HV.out HB2.out))
  go_wp2_with fail
  refine HCU.out.mono ?_
  rintro e w3 ⟨v3, rfl, hr3, hb3, ho3, hn3⟩
  obtain ⟨ys, hys⟩ : ∃ ys, ys = xs.take 300 := ⟨_, rfl⟩
  have hyl : ys.length ≤ 300 := by rw [hys, List.length_take]; omega
  rw [← hys] at hr3 ho3
  clear hys HCU
  obtain ⟨g3, c3, rfl, hg3, hl3⟩ := row_some ho3 hn3
  obtain ⟨N, hNe⟩ : ∃ N, N = ys.length := ⟨_, rfl⟩
  rw [← hNe] at hr3 hyl ⊢
  have HNE := hid hNe
  have HR3 := hid hr3
  have HP3 := hid (HP2.out.below hb3)
  have HB3 := hid (HB2.out.trans (hb3.mono HB2.out.size))
  have hs23 := hb3.size
  clear hr3 ho3 hn3 hb3 hNe
  have HCO := hid (copy_any _ ys w3 HR3.out (by rw [← HNE.out]; omega))
  go_wp2_with fail
  refine HCO.out.mono ?_
  rintro e w4 ⟨v4, rfl, hr4, hb4, ho4, hn4⟩
  obtain ⟨g4, c4, rfl, hg4, hl4⟩ := row_some ho4 hn4
  rw [← HNE.out] at hr4 ⊢
  have HR4 := hid hr4
  have HRA := hid (reads_below HR3.out hb4)
  have HP4 := hid (HP3.out.below hb4)
  have HB4 := hid (HB3.out.trans (hb4.mono HB3.out.size))
  have hs34 := hb4.size
  clear hr4 ho4 hn4 hb4 HCO
  have HTX := hid (text_any pb num g4 N c4 ys w4 HP4.out HR4.out (by omega) (by omega))
  go_wp2_with fail
  refine HTX.out.mono ?_
  rintro e w5 ⟨rfl, hP5, hb5⟩
  have HP5 := hid hP5
  have HR5 := hid (reads_but HR4.out hb5 (fun q hq => by
    have : g4 = q := by simpa [mem_blkV, Value.ownBlock] using hq
    omega))
  have HA5 := hid (reads_but HRA.out hb5 (fun q hq => by
    have : g3 = q := by simpa [mem_blkV, Value.ownBlock] using hq
    omega))
  have HB5 := hid (HB4.out.trans (hb5.to hwp HB4.out.size))
  have hpl5 := hP5.lt
  clear hP5 hb5 HTX
  obtain ⟨s, hs⟩ : ∃ s : ByteArray, s = ⟨(encT num ys).toArray⟩ := ⟨_, rfl⟩
  rw [← hs]
  have HS := hid hs
  clear hs
  go_wp2
  go_loopw [9, 31] (fun t iv wr => ∃ (k : Nat) (a : ByteArray), k ≤ N ∧ iv = .int .i64 k ∧ t = .string a ∧ Hid (a = ⟨(encT num (ys.take k)).toArray⟩) ∧ Hid (Below w5.heap.size w5 wr)) (fun _ iv _ => N - (RowKit.intOf iv).toNat)
  case atStart => exact ⟨0, ⟨#[]⟩, Nat.zero_le _, rfl, rfl, rfl, Below.refl _ _⟩
  case round =>
    obtain ⟨k, a, hk, rfl, rfl, HA, HB⟩ := hrel
    by_cases hlt : k < N
    · have cc := reads_elemP (reads_below HA5.out HB.out) hlt
      obtain ⟨z, hz6, hce⟩ : ∃ z : Nat, z < 256 ∧ ys.getD k 0 = (z : Int) := by
        have := HA5.out.1 (ys.getD k 0) (by rw [List.getD, List.getElem?_eq_getElem (by rw [← HNE.out]; exact hlt)]; exact List.getElem_mem _)
        exact ⟨(ys.getD k 0).toNat, by omega, by omega⟩
      rw [hce] at cc
      have hkx : k < ys.length := by rw [← HNE.out]; exact hlt
      have hze : ys[k] = (z : Int) := by
        rw [List.getD, List.getElem?_eq_getElem hkx] at hce
        exact hce
      have hmem : (signsL num).getD z 0 ∈ signsL num := by
        have hl : (signsL num).length = 256 := signsAt_length _ _
        rw [List.getD, List.getElem?_eq_getElem (by omega)]
        exact List.getElem_mem _
      obtain ⟨hpl2, -, hrr⟩ := signs_plain num hnum _ hmem
      have hes : encT num (ys.take (k + 1)) = encT num (ys.take k) ++ Lib.encodeRune ((signsL num).getD z 0) := by
        rw [List.take_succ_eq_append_getElem hkx, encT_snoc, hze]; rfl
      have HSR := hid (sign_ref num hnum z hz6 wr)
      generalize (signsL num).getD z 0 = r at hpl2 hrr hes HSR
      have hue : Utf8.encode r = ⟨(Lib.encodeRune r).toArray⟩ := by
        have := utf_enc hpl2
        rw [← hrr] at this
        exact this
      have hap : a ++ Utf8.encode r = ⟨(encT num (ys.take (k + 1))).toArray⟩ := by
        rw [hue, HA.out, bytes_snoc, hes]
      have HAP := hid hap
      have hsz : ¬ 9223372036854775807 < a.size + (Utf8.encode r).size := by
        have e1 : a.size = (encT num (ys.take k)).length := by rw [HA.out]; rfl
        have e2 : (Utf8.encode r).size = (Lib.encodeRune r).length := by rw [hue]; rfl
        have b1 := encT_length num (ys.take k)
        have b2 := Lib.runeCells_le r
        rw [Lib.runeCells_length] at b2
        rw [List.length_take] at b1
        omega
      have hki : (k : Int) < N := by omega
      clear hap hue hes hmem hrr hpl2 hze hce
      go_wp2_with fail
      refine HSR.out.mono ?_
      rintro e w6 ⟨rfl, rfl⟩
      go_wp2
      go_roundw
      case rel => exact ⟨k + 1, _, by omega, by go_num, rfl, HAP.out, HB.out⟩
      case measure => simp [RowKit.intOf]; omega
    · have hkn : k = ys.length := by rw [← HNE.out]; omega
      have hae : a = s := by rw [HA.out, HS.out, hkn, List.take_length]
      subst hae
      have HCD := hid (codes_any pb num ys wr (HP5.out.below HB.out) HA5.out.1 (by rw [← HNE.out]; omega))
      rw [← HS.out] at HCD
      clear hkn
      go_wp2_with fail
      refine HCD.out.mono ?_
      rintro e w6 ⟨v6, rfl, ho6, hn6, hp6, hb6⟩
      have HR6 := hid ho6.reads
      have hws := HB.out.size
      have HA6 := hid (reads_but (reads_below HA5.out HB.out) hb6 (fun q hq => by
        have : g3 = q := by simpa [mem_blkV, Value.ownBlock] using hq
        omega))
      have HK6 := hid (reads_but (reads_below HR5.out HB.out) hb6 (fun q hq => by
        have : g4 = q := by simpa [mem_blkV, Value.ownBlock] using hq
        omega))
      have HB6 := hid ((HB5.out.trans (HB.out.mono HB5.out.size)).trans (hb6.to hwp (Nat.le_trans HB5.out.size hws)))
      obtain ⟨x6, n6, c6, rfl⟩ := own_slice ho6
      rw [← HNE.out]
      clear ho6 hn6 hp6 hb6 HCD
      go_wp2_with fail
      refine (same_true _ _ ys w6 HR6.out HA6.out).mono ?_
      rintro e w7 ⟨rfl, rfl⟩
      go_wp2_with fail
      refine (same_true _ _ ys w6 HK6.out HA6.out).mono ?_
      rintro e w7 ⟨rfl, rfl⟩
      go_wp2
      go_ret
      exact ⟨rfl, HB6.out⟩
end Go.Proofs.YtadoiplfglaonaaDoor
