/-
  SfieldBytes: what is put in front is read first; the law's own walk.
-/
import Derived.Test.YtdpgmepblmlaaaaDoorRl
namespace Go.Proofs.YtdpgmepblmlaaaaDoor
open Go.RowKit Go.Lib Go.Deep

theorem sF_front {d : SfD} (h : ¬ 8192 < 3 + d.data.length) (r : List Int) : sF ((byteF d).2 ++ r) = (0, d, 3 + d.data.length) := by
  obtain ⟨id, xs⟩ := d
  rw [byteF_ok h]
  dsimp only at h ⊢
  have e : [(3 + (xs.length : Int)) / 256, (3 + (xs.length : Int)) % 256, id] ++ xs ++ r = (3 + (xs.length : Int)) / 256 :: (3 + (xs.length : Int)) % 256 :: id :: (xs ++ r) := rfl
  rw [e]
  have hn : numS ((3 + (xs.length : Int)) / 256 :: (3 + (xs.length : Int)) % 256 :: id :: (xs ++ r)) = 3 + (xs.length : Int) := by
    show 256 * ((3 + (xs.length : Int)) / 256) + (3 + (xs.length : Int)) % 256 = _
    omega
  have hL : lenS ((3 + (xs.length : Int)) / 256 :: (3 + (xs.length : Int)) % 256 :: id :: (xs ++ r)) = 3 + (xs.length : Int) := by
    unfold lenS
    rw [hn, if_neg (by omega)]
  have hl : ((3 + (xs.length : Int)) / 256 :: (3 + (xs.length : Int)) % 256 :: id :: (xs ++ r)).length = 3 + xs.length + r.length := by simp; omega
  rw [sF_ok (by rw [hl]; omega) (by rw [hL, hl]; omega), hL]
  have ht : (3 + (xs.length : Int)).toNat = 3 + xs.length := by omega
  rw [ht]
  have hd : (((3 + (xs.length : Int)) / 256 :: (3 + (xs.length : Int)) % 256 :: id :: (xs ++ r)).take (3 + xs.length)).drop 3 = xs := by
    rw [show 3 + xs.length = xs.length + 1 + 1 + 1 by omega]
    simp
  rw [hd]
  rfl
theorem byteF_length {d : SfD} (h : ¬ 8192 < 3 + d.data.length) : (byteF d).2.length = 3 + d.data.length := by
  rw [byteF_ok h]
  simp
  omega
theorem sfA_front {d : SfD} (h : ¬ 8192 < 3 + d.data.length) (r : List Int) : sfA ((byteF d).2 ++ r) = (d :: (sfA r).1, (sfA r).2) := by
  have hf := sF_front h r
  have hne : (byteF d).2 ++ r ≠ [] := fun q => by
    have := congrArg List.length q
    rw [List.length_append, byteF_length h] at this
    simp at this
  rw [sfA_cons hne (by rw [hf]), hf]
  dsimp only
  rw [List.drop_append_of_le_length (by rw [byteF_length h]; omega), show 3 + d.data.length = (byteF d).2.length from (byteF_length h).symm, List.drop_length, List.nil_append]
theorem sfA_seven : sfA [0, 3, 7] = ([⟨7, []⟩], 0) := by kernel_rfl
/-- The same bytes, so many times. -/
def rpt (p : List Int) : Nat → List Int
  | 0 => []
  | k + 1 => rpt p k ++ p
theorem rpt_len (p : List Int) : ∀ k, (rpt p k).length = k * p.length
  | 0 => by simp [rpt]
  | k + 1 => by
    show (rpt p k ++ p).length = _
    rw [List.length_append, rpt_len p k, Nat.succ_mul]
theorem rpt_byt {p : List Int} (h : BytL p) : ∀ k, BytL (rpt p k)
  | 0 => fun _ q => (by cases q)
  | k + 1 => (rpt_byt h k).append h
set_option maxRecDepth 100000 in
set_option maxHeartbeats 4000000 in
theorem sfieldBytes_walk (id : Nat) (hid' : id < 256) (v : Value) (zs : List Int) (t : Nat) (ht : t < 256) (w : World) (h : Reads w v zs) (hC : Cods w) : Calls Tryd.prog 6 #[.int .u8 id, v, .int .u8 t] w fun e w' => e = .returned (.bool true) ∧ Below w.heap.size w w' := by
  have HAW := hid (awake21 w hC)
  have HCU := hid (fun W (hW : Below w.heap.size w W) => (show Calls Tryd.prog 11 #[v, .int .i64 300] W (OwnDone (zs.take 300) W) from rcut_own v 300 (by omega) zs W (reads_below h hW)))
  have hlp : (zs.take 300).length ≤ 300 := by rw [List.length_take]; omega
  have hbp : BytL (zs.take 300) := (show BytL zs from h.1).take 300
  obtain ⟨xv, cv, rfl⟩ := reads_sl h
  generalize zs.take 300 = ps at HCU hlp hbp
  clear h hC
  obtain ⟨K, hK⟩ : ∃ K, 1 + t % 40 = K := ⟨_, rfl⟩
  have hK1 : 1 ≤ K := by omega
  have hK2 : K ≤ 40 := by omega
  go_enter Tryd.func6, Tryd.ntmps6
  go_wp2_with fail
  with_reducible refine HAW.out.mono ?_
  rintro e w1 ⟨rfl, hb1⟩
  have HB1 := hid hb1
  clear hb1
  go_wp2_with fail
  with_reducible refine (HCU.out w1 HB1.out).mono ?_
  rintro e w2 ⟨pv, rfl, ho2, hb2, hk2⟩
  have HP := hid ho2
  have HB2 := hid (below_t HB1.out hb2)
  obtain ⟨xp, cp, rfl⟩ := own_len ho2 ps.length rfl
  clear ho2 hb2 hk2
  go_wp2_with fail
  have HK := hid hK
  clear hK
  go_loopw [7, 21] (fun dv i wr => ∃ k : Nat, k ≤ K ∧ i = .int .u8 k ∧ Hid (wr.ownsRow w2.heap.size 5 1 dv (rpt ps k).length ((rpt ps k).map (Value.int .u8))) ∧ Hid (Below w2.heap.size w2 wr)) (fun _ i _ => K - (intOf i).toNat)
  case atStart => exact ⟨0, Nat.zero_le _, rfl, World.ownsRow_nil _ _ _ _, Below.refl _ _⟩
  case round =>
    obtain ⟨k, hk, rfl, HO, HB⟩ := hrel
    by_cases hlt : k < K
    · have hki : (k : Int) < 1 + (t : Int) % 40 := by have := HK.out; omega
      have HPR := hid (HP.out.step HB.out).reads
      have HL := hid (show (rpt ps k).length + ps.length ≤ 10000000 by rw [rpt_len]; have := Nat.mul_le_mul hk hlp; omega)
      have HZ := hid HB.out.size
      obtain ⟨xd, cd, rfl⟩ := row_anyK HO.out
      go_wp2_with (at_builtin; refine wpList_append_bytes rfl (.tmp 23) (.tmp 24) rfl w2.heap.size _ _ _ (rpt ps k) ps rfl rfl HO.out HPR.out HL.out HZ.out (rpt ps (k + 1)).length (by show _ = (rpt ps k ++ ps).length; rw [List.length_append]) (rpt ps (k + 1)) rfl ?_; intro y cap w' hown hgrow; have HW := hid hown; have HG := hid hgrow; clear hown hgrow)
      go_roundw
      case rel => exact ⟨k + 1, by omega, by go_num, HW.out, HB.out.grown HG.out HB.out.size (fun j hj => (HO.out.lt j hj).1)⟩
      case measure => simp [intOf]; omega
    · obtain rfl : k = K := by omega
      have hki : ¬ (k : Int) < 1 + (t : Int) % 40 := by have := HK.out; omega
      obtain ⟨xd, cd, rfl⟩ := row_anyK HO.out
      have HD := hid (show OwnB wr (.slice xd (rpt ps k).length cd) (rpt ps k) from ⟨rpt_byt hbp k, HO.out.mono (Nat.zero_le _)⟩)
      have hlen : (rpt ps k).length ≤ 12000 := by rw [rpt_len]; have := Nat.mul_le_mul hK2 hlp; omega
      have HBW := hid (below_t HB2.out HB.out)
      clear HO HB HK hlt hk hlp hbp
      generalize rpt ps k = D at *
      have HFB := hid (fun W (hW : Below wr.heap.size wr W) => fbytes_any ⟨id, D⟩ _ W (HD.out.step hW).reads ⟨Int.natCast_nonneg id, by show (id : Int) < 256; omega⟩ (by dsimp only; omega))
      have HRB := hid (fun W (hW : Below wr.heap.size wr W) => rbytes_any ⟨id, D⟩ _ W (HD.out.step hW).reads ⟨Int.natCast_nonneg id, by show (id : Int) < 256; omega⟩ (by dsimp only; omega))
      dsimp only at HFB HRB
      go_wp2_with fail
      with_reducible refine (HFB.out _ (Below.refl _ _)).mono ?_
      rintro e w3 ⟨bv, rfl, ho3, hb3, hk3⟩
      have HB3 := hid hb3
      have HO3 := hid ho3
      have HK3 := hid hk3
      obtain ⟨nb, hnb⟩ : ∃ nb, (byteF ⟨id, D⟩).2.length = nb := ⟨_, rfl⟩
      have HNB := hid hnb
      obtain ⟨xb, cb, rfl⟩ := own_len ho3 nb hnb
      clear hnb
      clear ho3 hb3 hk3
      go_wp2_with fail
      with_reducible refine (HRB.out _ HB3.out).mono ?_
      rintro e w4 ⟨rv, rfl, ho4, hb4, hk4⟩
      have HB4 := hid (below_t HB3.out hb4)
      have HO4 := hid (HO3.out.step hb4)
      have HSA := hid (same_true (.slice xb nb cb) rv _ w4 HO4.out.reads ho4.reads)
      obtain ⟨xr, nr, cr, rfl⟩ := own_slice ho4
      clear ho4 hb4 hk4
      go_wp2_with fail
      with_reducible refine HSA.out.mono ?_
      rintro e w5 ⟨rfl, rfl⟩
      by_cases h8 : 8192 < 3 + D.length
      · have e8 : byteF ⟨id, D⟩ = (3, []) := byteF_long h8
        rw [e8]
        have HF := hid (below_t HBW.out HB4.out)
        go_wp2
        go_ret
        exact ⟨rfl, HF.out⟩
      · have e8 : (byteF ⟨id, D⟩).1 = 0 := by rw [byteF_ok h8]
        have HSA2 := hid (show sfA ((byteF ⟨id, D⟩).2 ++ [0, 3, 7]) = ([⟨id, D⟩, ⟨7, []⟩], 0) from by rw [sfA_front h8, sfA_seven])
        have hnb : nb ≤ 8192 := by have := HNB.out; rw [byteF_length h8] at this; dsimp only at this h8; omega
        have HLN := hid (show ((byteF ⟨id, D⟩).2 ++ [0, 3, 7]).length = nb + 3 by rw [List.length_append, HNB.out]; rfl)
        rw [e8]
        generalize (byteF ⟨id, D⟩).2 = BB at *
        have hal4 : Below w4.heap.size w4 (w4.alloc (.cells #[.int .u8 0, .int .u8 3, .int .u8 7] 5)) := bal (Below.refl _ _) _
        have HU5 := hid (own_lit w4 #[.int .u8 0, .int .u8 3, .int .u8 7] 3 [0, 3, 7] (by decide) rfl rfl (by omega) w4.heap.size rfl).reads
        have HO5 := hid (show (w4.alloc (.cells #[.int .u8 0, .int .u8 3, .int .u8 7] 5)).ownsRow 0 5 1 (.slice xb nb cb) nb (BB.map (Value.int .u8)) from by have q := (HO4.out.step hal4).2; rwa [HNB.out] at q)
        have HB5 := hid (below_t HB4.out hal4)
        have HBB := hid (show BytL (BB ++ [0, 3, 7]) from (show BytL BB from HO4.out.1).append (by intro x hx; simp at hx; omega))
        have HD5 := hid (HD.out.step HB5.out)
        clear hal4 h8 e8 hlen
        go_wp2_with (at_builtin; refine wpList_append_bytes rfl (.tmp 55) (.tmp 56) rfl 0 nb _ _ BB [0, 3, 7] rfl rfl HO5.out HU5.out (by show nb + 3 ≤ 10000000; omega) (Nat.zero_le _) (nb + 3) rfl (BB ++ [0, 3, 7]) rfl ?_; intro y cap w6 hown hgrow; have HW := hid hown; have HG := hid hgrow; clear hown hgrow)
        have ho6 : OwnB w6 (.slice y (nb + 3) cap) (BB ++ [0, 3, 7]) := ⟨HBB.out, by rw [HLN.out]; exact HW.out⟩
        have hm6 : Moved _ w6 (blkV (.slice xb nb cb)) (blkV (.slice xb nb cb)) := Moved.grown HG.out (fun j hj => mem_blkV.2 hj) (fun j hj => .inl hj)
        have HD6 := hid (HD5.out.moved hm6 (fun j hj q => by have h1 := HD.out.lt j hj; have h2 := HK3.out j q; omega))
        have HB6 := hid (show Below wr.heap.size wr w6 from HB5.out.grown HG.out HB5.out.size (fun j hj => HK3.out j (mem_blkV.2 hj)))
        have hli : limE (BB ++ [0, 3, 7]) 10 = 0 := by rw [limE_lt (by rw [HSA2.out]; show 2 < 10; omega), HSA2.out]
        have HFI := hid (show Calls Tryd.prog 14 #[.slice y (nb + 3) cap, .int .i64 10] w6 (AllSD 36 [⟨id, D⟩, ⟨7, []⟩] 0 w6) from by
          have q := callsIn_wide.1 (lfields_in 8 (by omega) _ (BB ++ [0, 3, 7]) w6 ho6.reads (by rw [HLN.out]; omega) 10 (by omega) (by omega))
          rw [hli, HSA2.out] at q
          exact q)
        clear ho6 hm6 hli
        with_reducible refine HFI.out.mono ?_
        rintro e w7 ⟨l, xs, rfl, hx, hM, hb7, -, -⟩
        have hxl : xs.length = 2 := by have := congrArg List.length hx; simpa using this
        obtain ⟨xl, cl, -, hlv⟩ : ∃ xl cl, True ∧ l = .slice xl 2 cl := by
          obtain ⟨xl, cl, q, -⟩ := hM.at
          exact ⟨xl, cl, trivial, by rw [q, hxl]⟩
        subst hlv
        have hal7 : Below w7.heap.size w7 (w7.alloc (.cells #[.int .u8 id, .slice xd D.length cd, .int .u8 7, .slice none 0 0] 36)) := bal (Below.refl _ _) _
        have HM2 := hid (show SfM 36 (w7.alloc (.cells #[.int .u8 id, .slice xd D.length cd, .int .u8 7, .slice none 0 0] 36)) (.slice (some ⟨w7.heap.size, 0, none⟩) 2 2) [⟨⟨id, D⟩, .slice xd D.length cd⟩, ⟨⟨7, []⟩, .slice none 0 0⟩] from
          ⟨World.ownsRow_lit (base := 0) (size := 2) w7 #[.int .u8 id, .slice xd D.length cd, .int .u8 7, .slice none 0 0] 2 (Nat.zero_le _) (by decide) rfl, fun x hx => by
            simp only [List.mem_cons, List.not_mem_nil, or_false] at hx
            rcases hx with rfl | rfl
            · exact (HD6.out.step hb7).step hal7
            · exact OwnB.nil _⟩)
        have HSS := hid (same21 _ _ xs _ _ (hM.step hal7) HM2.out (by rw [hx]; rfl) (by omega))
        have HB7 := hid (below_t (below_t (below_t HBW.out HB6.out) hb7) hal7)
        clear hM hb7 hal7 hx hxl
        go_wp2_with fail
        with_reducible refine HSS.out.mono ?_
        rintro e w8 ⟨rfl, hb8⟩
        have HB8 := hid (below_t HB7.out hb8)
        clear hb8
        go_wp2
        go_ret
        exact ⟨rfl, HB8.out⟩
end Go.Proofs.YtdpgmepblmlaaaaDoor
