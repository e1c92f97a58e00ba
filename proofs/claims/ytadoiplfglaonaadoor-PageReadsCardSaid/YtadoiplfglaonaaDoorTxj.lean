/-
  PageReads: the law's walk.
-/
import Derived.Test.YtadoiplfglaonaaDoorTxi
import Derived.Test.YtadoiplfglaonaaDoorRefc
import Derived.Test.YtadoiplfglaonaaDoorAwake
namespace Go.Proofs.YtadoiplfglaonaaDoor
open Go.RowKit Go.Lib Go.Shelf

/-- Where the law's own reading stands. -/
structure LawU (w2 : World) (B : Nat) (cs : List Int) (v : Value) (W : World) : Prop where
  row : W.ownsRow B 5 1 v cs.length (cs.map (Value.int .u8))
  blw : Below B w2 W
  bytes : ∀ x ∈ cs, 0 ≤ x ∧ x < 256
theorem LawU.step {w2 : World} {B : Nat} {cs : List Int} {v : Value} {W W' : World} (h : LawU w2 B cs v W) (hb : Below W.heap.size W W') (hB : B ≤ w2.heap.size) : LawU w2 B cs v W' :=
  ⟨own_moved h.row (Moved.below hb []) (fun _ _ q => by cases q), h.blw.trans (hb.mono (Nat.le_trans hB h.blw.size)), h.bytes⟩
set_option maxRecDepth 100000 in
set_option maxHeartbeats 2000000 in
theorem pageReads_true (n : Nat) (hn : n < 256) (text : ByteArray) (w : World) (hN : Numbers w) (hT : Tabs w) : Calls Tryd.prog 6 #[.int .u8 n, .string text] w fun e w' => e = .returned (.bool true) ∧ Below w.heap.size w w' := by
  obtain ⟨i0, hi, hz0, hz1, hz2⟩ := info_parts info5
  have HN := hid hN
  have HT := hid hT
  have htl := hT.lt
  clear hN hT
  go_enter Tryd.func6, Tryd.ntmps6
  go_wp2_with fail
  refine (awake_true w HN.out).mono ?_
  rintro e w1 ⟨rfl, hb⟩
  have HB1 := hid hb
  have HN1 := hid (HN.out.below HN.out.1 hb)
  clear hb
  have HPK := hid (pick_any n hn w1 HN1.out)
  obtain ⟨num, hnm⟩ : ∃ num, num = picked n := ⟨_, rfl⟩
  rw [← hnm] at HPK
  clear hnm
  go_wp2_with fail
  refine HPK.out.mono ?_
  rintro e w2 ⟨pb, rfl, hpb, hP, hb⟩
  have HB2 := hid (HB1.out.trans (hb.mono HB1.out.size))
  have HP2 := hid hP
  have HT2 := hid (HT.out.below HB2.out)
  have hwp : w.heap.size ≤ pb := Nat.le_trans HB1.out.size hpb
  have hpl := hP.lt
  have hnum := hP.1
  have hpt : pb ≠ 3 ∧ pb ≠ 4 := ⟨by omega, by omega⟩
  clear hP hb HPK
  go_wp2_with fail
  refine (cutText_any text w2).mono ?_
  rintro e w3 ⟨s, hsl, rfl, rfl⟩
  go_wp2
  go_loopw [7, 8, 9] (fun wt cd iv wr => ∃ (p k : Nat) (E : Int) (cs : List Int), (∃ y cap, wt = .slice y k cap) ∧ cd = .int .i64 E ∧ iv = .int .i64 p ∧ Hid (cs.length = k) ∧ k ≤ p ∧ p ≤ s.size ∧ Hid (LawU w2 w2.heap.size cs wt wr) ∧ Hid ((E = 0 ∧ AtT num s p cs) ∨ (E ≠ 0 ∧ readT num s 0 = (E, cs)))) (fun _ _ iv _ => s.size - (RowKit.intOf iv).toNat)
  case atStart => exact ⟨0, 0, 0, [], ⟨none, 0, rfl⟩, rfl, rfl, rfl, Nat.le_refl _, Nat.zero_le _, ⟨World.ownsRow_nil _ _ _ _, Below.refl _ _, fun _ h => by cases h⟩, .inl ⟨rfl, AtT.start num s⟩⟩
  case round =>
    obtain ⟨p, k, E, cs, ⟨y, cap, rfl⟩, rfl, rfl, HCL, hkp, hps, HL, HS⟩ := hrel
    by_cases hlt : p < s.size
    · have hlti : (p : Int) < s.size := by omega
      by_cases hE : E = 0
      · subst hE
        have hat : AtT num s p cs := by
          rcases HS.out with h | h
          · exact h.2
          · exact absurd rfl h.1
        have HAT := hid hat
        have hsp := fun w' => slice_rest s p hps w'
        have HDC := hid (decode_rest s p hlt wr (HT2.out.below HL.out.blw))
        have HBAD := hid (readT_bad (num := num) hlt)
        have HNON := hid (readT_none (num := num) hlt)
        have HNXT := hid (fun (h : AtT num s p cs) => h.next hlt)
        obtain ⟨hrb, hlb⟩ := dec_two s p
        have hl1 := dec_pos s p
        have hl2 := dec_le s p hlt
        generalize (Utf8.decode s p).1 = r at HDC HBAD HNON HNXT hrb
        generalize (Utf8.decode s p).2 = L at HDC HBAD HNON HNXT hlb hl1 hl2
        have HCR := hid (code_ref num hnum ((r : Nat) : Int))
        have hclt := codeOf_lt num ((r : Nat) : Int)
        clear hat
        go_wp2_with fail
        refine HDC.out.mono ?_
        rintro e W1 ⟨rfl, hb1⟩
        have HL1 := hid (HL.out.step hb1 (Nat.le_refl _))
        clear hb1
        unfold refCode at HCR
        by_cases hcc : (codeOf num ((r : Nat) : Int)).2 = true
        · rw [if_pos hcc] at HCR
          have HNXT1 := hid (fun hb => HNXT.out HAT.out hb hcc)
          generalize (codeOf num ((r : Nat) : Int)).1 = z at HCR HNXT1 hclt
          have hzm : (z : Int) % 256 = z := by omega
          have hzn : ¬ (z : Int) < 0 := by omega
          clear hcc HNON HNXT
          go_wp2_with fail
          refine (HCR.out W1).mono ?_
          rintro e W2 ⟨rfl, rfl⟩
          by_cases h65 : r = 65533
          · by_cases hL : L = 1
            · have HD := hid (HAT.out.done (HBAD.out ⟨h65, hL⟩))
              have h65i : (r : Int) = 65533 := by omega
              have hLi : (L : Int) = 1 := by omega
              go_wp2
              go_roundw
              case rel => exact ⟨p + L, k, 4, cs, ⟨_, _, rfl⟩, rfl, by go_num, HCL, by omega, hl2, HL1, .inr ⟨by decide, HD.out⟩⟩
              case measure => simp [RowKit.intOf]; omega
            · have HF := hid (HNXT1.out (fun h => hL h.2))
              have h65i : (r : Int) = 65533 := by omega
              have hLi : ¬ (L : Int) = 1 := by omega
              have hrow := HL1.out.row
              rw [HCL.out] at hrow
              have HROW5 := hid (own_moved hrow (Moved.alloc W1 (.cells #[.int .u8 (z : Int)] 5) []) (fun _ _ q => by cases q))
              have HSRC := hid (one_src W1 (z : Int) W1.heap.size rfl)
              have hBs := HL1.out.blw.size
              have HBS := hid (show w2.heap.size ≤ (W1.alloc (.cells #[.int .u8 (z : Int)] 5)).heap.size by simp; omega)
              clear hrow
              go_wp2_with (first
                | (at_builtin; refine wpList_append_own _ rfl _ _ 34 rfl w2.heap.size 5 i0 (.int .u8 0) 1 1 Tryd.underlying34 hi hz0 hz1 hz2 rfl (by decide) _ k (cs.map (Value.int .u8)) rfl HROW5.out ⟨W1.heap.size, 0, none⟩ 1 1 [.int .u8 (z : Int)] rfl rfl HSRC.out (by intro u hu; rw [List.mem_singleton.1 hu]; rfl) (by unfold maxLen; omega) (by omega) HBS.out ?_; intro v6 w6 hown6 hgrow6 hnil6; have HO6 := hid hown6; have HG6 := hid hgrow6; clear hown6 hgrow6 hnil6)
                | fail)
              obtain ⟨y6, c6, rfl⟩ : ∃ y cap, v6 = .slice y (k + 1) cap := by
                rcases HO6.out.2 with ⟨_, h⟩ | ⟨g, c, cur, rfl, _⟩
                · omega
                · exact ⟨_, _, rfl⟩
              have hcl6 : (cs ++ [(z : Int)]).length = k + 1 := by rw [List.length_append, HCL.out]; rfl
              have hr6 : w6.ownsRow w2.heap.size 5 1 (.slice y6 (k + 1) c6) (cs ++ [(z : Int)]).length ((cs ++ [(z : Int)]).map (Value.int .u8)) := by
                rw [hcl6, List.map_append]
                exact HO6.out
              have HL6 := hid (show LawU w2 w2.heap.size (cs ++ [(z : Int)]) (.slice y6 (k + 1) c6) w6 from ⟨hr6, (HL1.out.blw.alloc hBs _).grown HG6.out HBS.out (fun q e => (HROW5.out.lt q e).1), (fun x hx => by
                rcases List.mem_append.1 hx with h | h
                · exact HL.out.bytes x h
                · rw [List.mem_singleton.1 h]; omega)⟩)
              have HCL6 := hid hcl6
              clear hr6 hcl6
              go_roundw
              case rel => exact ⟨p + L, k + 1, 0, _, ⟨_, _, rfl⟩, rfl, by go_num, HCL6, by omega, hl2, HL6, .inl ⟨rfl, HF.out⟩⟩
              case measure => simp [RowKit.intOf]; omega
          · have HF := hid (HNXT1.out (fun h => h65 h.1))
            have h65i : ¬ (r : Int) = 65533 := by omega
            have hrow := HL1.out.row
            rw [HCL.out] at hrow
            have HROW5 := hid (own_moved hrow (Moved.alloc W1 (.cells #[.int .u8 (z : Int)] 5) []) (fun _ _ q => by cases q))
            have HSRC := hid (one_src W1 (z : Int) W1.heap.size rfl)
            have hBs := HL1.out.blw.size
            have HBS := hid (show w2.heap.size ≤ (W1.alloc (.cells #[.int .u8 (z : Int)] 5)).heap.size by simp; omega)
            clear hrow
            go_wp2_with (first
              | (at_builtin; refine wpList_append_own _ rfl _ _ 34 rfl w2.heap.size 5 i0 (.int .u8 0) 1 1 Tryd.underlying34 hi hz0 hz1 hz2 rfl (by decide) _ k (cs.map (Value.int .u8)) rfl HROW5.out ⟨W1.heap.size, 0, none⟩ 1 1 [.int .u8 (z : Int)] rfl rfl HSRC.out (by intro u hu; rw [List.mem_singleton.1 hu]; rfl) (by unfold maxLen; omega) (by omega) HBS.out ?_; intro v6 w6 hown6 hgrow6 hnil6; have HO6 := hid hown6; have HG6 := hid hgrow6; clear hown6 hgrow6 hnil6)
              | fail)
            obtain ⟨y6, c6, rfl⟩ : ∃ y cap, v6 = .slice y (k + 1) cap := by
              rcases HO6.out.2 with ⟨_, h⟩ | ⟨g, c, cur, rfl, _⟩
              · omega
              · exact ⟨_, _, rfl⟩
            have hcl6 : (cs ++ [(z : Int)]).length = k + 1 := by rw [List.length_append, HCL.out]; rfl
            have hr6 : w6.ownsRow w2.heap.size 5 1 (.slice y6 (k + 1) c6) (cs ++ [(z : Int)]).length ((cs ++ [(z : Int)]).map (Value.int .u8)) := by
              rw [hcl6, List.map_append]
              exact HO6.out
            have HL6 := hid (show LawU w2 w2.heap.size (cs ++ [(z : Int)]) (.slice y6 (k + 1) c6) w6 from ⟨hr6, (HL1.out.blw.alloc hBs _).grown HG6.out HBS.out (fun q e => (HROW5.out.lt q e).1), (fun x hx => by
              rcases List.mem_append.1 hx with h | h
              · exact HL.out.bytes x h
              · rw [List.mem_singleton.1 h]; omega)⟩)
            have HCL6 := hid hcl6
            clear hr6 hcl6
            go_roundw
            case rel => exact ⟨p + L, k + 1, 0, _, ⟨_, _, rfl⟩, rfl, by go_num, HCL6, by omega, hl2, HL6, .inl ⟨rfl, HF.out⟩⟩
            case measure => simp [RowKit.intOf]; omega
        · have hcf : (codeOf num ((r : Nat) : Int)).2 = false := by
            cases h : (codeOf num ((r : Nat) : Int)).2 with
            | true => exact absurd h hcc
            | false => rfl
          rw [if_neg hcc] at HCR
          have HNON1 := hid (fun hb => HNON.out hb hcf)
          clear hcc hcf HNON HNXT hclt
          go_wp2_with fail
          refine (HCR.out W1).mono ?_
          rintro e W2 ⟨rfl, rfl⟩
          by_cases h65 : r = 65533
          · by_cases hL : L = 1
            · have HD := hid (HAT.out.done (HBAD.out ⟨h65, hL⟩))
              have h65i : (r : Int) = 65533 := by omega
              have hLi : (L : Int) = 1 := by omega
              go_wp2
              go_roundw
              case rel => exact ⟨p + L, k, 4, cs, ⟨_, _, rfl⟩, rfl, by go_num, HCL, by omega, hl2, HL1, .inr ⟨by decide, HD.out⟩⟩
              case measure => simp [RowKit.intOf]; omega
            · have HD := hid (HAT.out.done (HNON1.out (fun h => hL h.2)))
              have h65i : (r : Int) = 65533 := by omega
              have hLi : ¬ (L : Int) = 1 := by omega
              go_wp2
              go_roundw
              case rel => exact ⟨p + L, k, 12, cs, ⟨_, _, rfl⟩, rfl, by go_num, HCL, by omega, hl2, HL1, .inr ⟨by decide, HD.out⟩⟩
              case measure => simp [RowKit.intOf]; omega
          · have HD := hid (HAT.out.done (HNON1.out (fun h => h65 h.1)))
            have h65i : ¬ (r : Int) = 65533 := by omega
            go_wp2
            go_roundw
            case rel => exact ⟨p + L, k, 12, cs, ⟨_, _, rfl⟩, rfl, by go_num, HCL, by omega, hl2, HL1, .inr ⟨by decide, HD.out⟩⟩
            case measure => simp [RowKit.intOf]; omega
      · have hd : readT num s 0 = (E, cs) := by
          rcases HS.out with h | h
          · exact absurd h.1 hE
          · exact h.2
        have HCT := hid (codes_text pb num s wr (HP2.out.below HL.out.blw) (HT2.out.below HL.out.blw) hpt hsl)
        rw [hd] at HCT
        have hkk : k = cs.length := HCL.out.symm
        subst hkk
        have hrow := HL.out.row
        have HWR := hid (show Reads wr (.slice y cs.length cap) cs from OwnB.reads ⟨HL.out.bytes, hrow.mono (Nat.zero_le _)⟩)
        have HWN := hid (show ∀ q ∈ blkV (.slice y cs.length cap), q ≠ pb from fun q h e => by
          have := (hrow.lt q (mem_blkV.1 h)).1
          omega)
        clear hrow hd HS
        go_wp2_with fail
        refine HCT.out.mono ?_
        rintro e w5 ⟨v5, rfl, hr5, hn5, hp5, hb5⟩
        have HW5 := hid (reads_but HWR.out hb5 HWN.out)
        have HB5 := hid ((HB2.out.trans (HL.out.blw.mono HB2.out.size)).trans (hb5.to hwp (Nat.le_trans HB2.out.size HL.out.blw.size)))
        clear hp5 hb5
        by_cases hE2 : E = 0
        · exact absurd hE2 hE
        · obtain rfl := hn5 hE2
          have hEn : (E != 0) = true := by simp [hE2]
          clear hr5 hn5
          go_wp2
          go_ret
          exact ⟨rfl, HB5.out⟩
    · have hlti : ¬ (p : Int) < s.size := by omega
      have hd : readT num s 0 = (E, cs) := by
        rcases HS.out with h | h
        · rw [h.1]; exact h.2.done (readT_end hlt)
        · exact h.2
      have HCT := hid (codes_text pb num s wr (HP2.out.below HL.out.blw) (HT2.out.below HL.out.blw) hpt hsl)
      rw [hd] at HCT
      have hkk : k = cs.length := HCL.out.symm
      subst hkk
      have hrow := HL.out.row
      have HWR := hid (show Reads wr (.slice y cs.length cap) cs from OwnB.reads ⟨HL.out.bytes, hrow.mono (Nat.zero_le _)⟩)
      have HWN := hid (show ∀ q ∈ blkV (.slice y cs.length cap), q ≠ pb from fun q h e => by
        have := (hrow.lt q (mem_blkV.1 h)).1
        omega)
      clear hrow hd HS
      go_wp2_with fail
      refine HCT.out.mono ?_
      rintro e w5 ⟨v5, rfl, hr5, hn5, hp5, hb5⟩
      have HW5 := hid (reads_but HWR.out hb5 HWN.out)
      have HB5 := hid ((HB2.out.trans (HL.out.blw.mono HB2.out.size)).trans (hb5.to hwp (Nat.le_trans HB2.out.size HL.out.blw.size)))
      clear hp5 hb5
      by_cases hE2 : E = 0
      · subst hE2
        have hr6 := hr5 rfl
        obtain ⟨x5, n5, c5, rfl⟩ : ∃ x n c, v5 = .slice x n c := by
          rcases hr6.2 with ⟨rfl, _⟩ | ⟨a, cap, rfl, _⟩ <;> exact ⟨_, _, _, rfl⟩
        have HR6 := hid hr6
        clear hr5 hn5 hr6
        go_wp2_with fail
        refine (same_true _ _ cs w5 HR6.out HW5.out).mono ?_
        rintro e w6 ⟨rfl, rfl⟩
        go_wp2
        go_ret
        exact ⟨rfl, HB5.out⟩
      · obtain rfl := hn5 hE2
        have hEn : (E != 0) = true := by simp [hE2]
        clear hr5 hn5
        go_wp2
        go_ret
        exact ⟨rfl, HB5.out⟩
end Go.Proofs.YtadoiplfglaonaaDoor
