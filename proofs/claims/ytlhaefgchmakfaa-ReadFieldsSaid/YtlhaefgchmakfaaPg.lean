/-
  entry.entriesOf; slices.Contains of kinds; entry.inbound; entry.Parse.
-/
import Derived.Test.YtlhaefgchmakfaaPf
namespace Go.Proofs.Ytlhaefgchmakfaa
open Go.RowKit Go.Lib

def EntD (es : List EnD) (w : World) (e : Ending) (w' : World) : Prop := ∃ v xs, e = .returned v ∧ EntM 107 w.heap.size w' v xs ∧ xs.map EnV.d = es ∧ Below w.heap.size w w'
theorem one_enC (a : Int) (v : Value) (hv : v.oneCell' = true) : ∀ u ∈ [Value.int .i64 a, v], u.oneCell' = true := by
  intro u hu
  simp only [List.mem_cons, List.not_mem_nil, or_false] at hu
  rcases hu with rfl | rfl
  · rfl
  · exact hv
theorem own_byte (w : World) (c : Int) (hc : 0 ≤ c ∧ c < 256) : OwnB (w.alloc (.cells #[.int .u8 c] 5)) (.slice (some ⟨w.heap.size, 0, none⟩) 1 1) [c] :=
  own_lit w #[.int .u8 c] 1 [c] (fun x hx => by rw [List.mem_singleton.1 hx]; exact hc) rfl rfl (by decide) _ rfl
theorem fold_takeV {os : List OpV} {k : Nat} (hk : k < os.length) : ((os.map OpV.d).take (k + 1)).foldl addE [] = addE (((os.map OpV.d).take k).foldl addE []) os[k].d := by
  have q := fold_take (os := os.map OpV.d) (k := k) (by simpa using hk) []
  rwa [List.getElem_map] at q
set_option maxRecDepth 100000 in
set_option maxHeartbeats 4000000 in
theorem entries_any (l : Value) (os : List OpV) (w : World) (h : OpsM w l os) (hcd : ∀ x ∈ os, 0 ≤ x.d.code ∧ x.d.code < 256) (hl : totO (os.map OpV.d) ≤ 300000) :
    Calls Try.prog 62 #[l] w (EntD ((os.map OpV.d).foldl addE []) w) := by
  obtain ⟨i0, hi, hz0, hz1, hz2⟩ := info_parts infoEn
  have HO := hid h
  have HCD := hid hcd
  obtain ⟨xl, cl, rfl⟩ := row_slice h.row
  have hlen : (os.map OpV.d).length = os.length := by simp
  have HTE := hid (fun k => Nat.le_trans (totE_fold ((os.map OpV.d).take k) []) (show totE [] + totO ((os.map OpV.d).take k) ≤ 300000 from by have := totO_take (os.map OpV.d) k; have : totE [] = 0 := rfl; omega))
  have HTX := hid (fun x (q : x ∈ os) => Nat.le_trans (Nat.le_of_lt (totO_mem (List.mem_map_of_mem (f := OpV.d) q))) hl)
  have HDO := hid (show (os.map OpV.d).take os.length = os.map OpV.d by rw [← hlen, List.take_length])
  have HST := hid (fun k (q : k < os.length) => @fold_takeV os k q)
  have hnn := Nat.le_trans (totO_len (os.map OpV.d)) hl
  rw [hlen] at hnn
  clear h hcd hl hlen
  go_enter Try.func62, Try.ntmps62
  go_wp2_with fail
  go_loopw [3, 8] (fun p i W => ∃ (k : Nat) (xs : List EnV), k ≤ os.length ∧ i = .int .i64 k ∧ Hid (EntM 107 w.heap.size W p xs) ∧ Hid (xs.map EnV.d = ((os.map OpV.d).take k).foldl addE []) ∧ Hid (Below w.heap.size w W)) (fun _ i _ => os.length - (intOf i).toNat)
  case atStart => exact ⟨0, [], Nat.zero_le _, rfl, EntM.nil _ _ _, rfl, Below.refl _ _⟩
  case round =>
    obtain ⟨k, xs, hk, rfl, HM, HX, HB⟩ := hrel
    obtain ⟨xc, cc, rfl⟩ := row_slice HM.out.row
    by_cases hlt : k < os.length
    · have hki : (k : Int) < os.length := by omega
      obtain ⟨xl', cl', hle, hat⟩ := (HO.out.step HB.out).at
      injection hle with hle1 _ hle3
      subst hle1 hle3
      obtain ⟨g, hg, hgl, hc⟩ := hat k hlt
      subst hg
      have hmem : os[k] ∈ os := List.getElem_mem hlt
      have HS := hid (HST.out k hlt)
      have hp := (HO.out.step HB.out).prs _ hmem
      have ht := (HO.out.step HB.out).txt _ hmem
      have hcd := HCD.out _ hmem
      have htl := HTX.out _ hmem
      have HTK := hid (HTE.out k)
      rw [← HX.out] at HS HTK
      generalize os[k] = x at hc HS hp ht hcd htl
      obtain ⟨⟨kd, ad, cd, gr, fa, ps, tx⟩, pv, tv⟩ := x
      dsimp only at HS hp ht hcd htl
      obtain ⟨xp, cp, rfl⟩ := row_slice hp
      obtain ⟨xt, ct, rfl⟩ := own_len ht tx.length rfl
      have a0 : wr.cell? ⟨g, k * 7, none⟩ = some (.int .i64 kd) := hc 0 (by omega)
      have a1 : wr.cell? ⟨g, k * 7 + 1, none⟩ = some (.int .i64 ad) := hc 1 (by omega)
      have a2 : wr.cell? ⟨g, k * 7 + 2, none⟩ = some (.int .u8 cd) := hc 2 (by omega)
      have a3 : wr.cell? ⟨g, k * 7 + 3, none⟩ = some (.bool gr) := hc 3 (by omega)
      have a4 : wr.cell? ⟨g, k * 7 + 4, none⟩ = some (.int .u8 fa) := hc 4 (by omega)
      have a5 : wr.cell? ⟨g, k * 7 + 5, none⟩ = some (.slice xp ps.length cp) := hc 5 (by omega)
      have a6 : wr.cell? ⟨g, k * 7 + 6, none⟩ = some (.slice xt tx.length ct) := hc 6 (by omega)
      have HB1 := hid (fun o => bal (Below.refl wr.heap.size wr) o)
      have HBS := hid HB.out.size
      have HMX := hid (fun V (hV : Below wr.heap.size wr V) u cs (hu : Reads V u cs) (hcs : cs.length ≤ 300000) => ext_any w.heap.size (.slice xc xs.length cc) xs u cs V (Nat.le_trans HB.out.size hV.size) (HM.out.step hV) hu (by have := HTK.out; omega))
      have HT := hid ht
      have HTL := hid htl
      have hxl : xs.length ≤ 300000 := by have := totE_len (xs.map EnV.d); have := HTK.out; rw [List.length_map] at *; omega
      have HXL := hid hxl
      clear hat hc hp ht htl hmem hxl
      by_cases h17 : kd = 17
      · subst h17
        have ha2 : Below wr.heap.size wr ((wr.alloc (.cells #[.int .i64 17, .int .i64 ad, .int .u8 cd, .bool gr, .int .u8 fa, .slice xp ps.length cp, .slice xt tx.length ct] 144)).alloc (.cells #[.int .i64 ad, .slice none 0 0] 107)) := bal (bal (Below.refl _ _) _) _
        have HM2 := hid (HM.out.step ha2)
        have HB2 := hid (below_t HB.out ha2)
        have HNS := hid (news_two (wr.alloc (.cells #[.int .i64 17, .int .i64 ad, .int .u8 cd, .bool gr, .int .u8 fa, .slice xp ps.length cp, .slice xt tx.length ct] 144)) (.int .i64 ad) (.slice none 0 0) 107)
        rw [show (wr.alloc (.cells #[.int .i64 17, .int .i64 ad, .int .u8 cd, .bool gr, .int .u8 fa, .slice xp ps.length cp, .slice xt tx.length ct] 144)).heap.size = wr.heap.size + 1 by simp] at HNS
        have HRW := hid HM2.out.row
        clear ha2 hcd
        go_wp2_with (first
          | (at_builtin; refine wpList_append_blk _ rfl _ _ 67 rfl 107 i0 _ 2 32 Try.underlying67 hi hz0 hz1 hz2 rfl (by decide) _ _ _ rfl HRW.out ⟨wr.heap.size + 1, 0, none⟩ 1 1 [.int .i64 ad, .slice none 0 0] rfl rfl HNS.out (one_enC _ _ rfl) (by have := HXL.out; unfold maxLen; omega) (by have := HXL.out; omega) ?_; intro v' w3 hown hgrow _ hbl; have HM4 := hid (EntM.snoc HM2.out HB2.out.size ad hown hgrow hbl); have HB4 := hid (HB2.out.grown hgrow HB2.out.size (fun j hj => HM2.out.bv j (mem_blkV.2 hj))); clear hown hgrow hbl))
        go_roundw
        case rel =>
          refine ⟨k + 1, _, by omega, by go_num, HM4.out, ?_, HB4.out⟩
          show List.map _ _ = _
          rw [HS.out, List.map_append]
          rfl
        case measure => simp [intOf]; omega
      · have e17 : (kd == 17) = false := by simpa using h17
        by_cases h0 : kd = 0
        · subst h0
          clear hcd h17
          go_wp2_with (first
            | (go_at_call 92; (with_reducible refine (HMX.out _ (HB1.out _) _ tx (reads_below HT.out.reads (HB1.out _)) (Nat.le_of_lt_succ (Nat.lt_succ_of_le HTL.out))).mono ?_); rintro e w2 ⟨v2, ys, rfl, hm, hy, hb⟩; have HM4 := hid hm; have HY := hid hy; have HB4 := hid (HB.out.trans (((HB1.out _).mono HBS.out).trans hb)); obtain ⟨xy, cy, rfl⟩ := row_slice hm.row; clear hm hy hb))
          go_roundw
          case rel =>
            refine ⟨k + 1, ys, by omega, by go_num, HM4.out, ?_, HB4.out⟩
            show List.map _ _ = _
            rw [HS.out, HY.out]
            rfl
          case measure => simp [intOf]; omega
        · have e0 : (kd == 0) = false := by simpa using h0
          by_cases h8 : kd = 8
          · subst h8
            have HC8 := hid (own_byte (wr.alloc (.cells #[.int .i64 8, .int .i64 ad, .int .u8 cd, .bool gr, .int .u8 fa, .slice xp ps.length cp, .slice xt tx.length ct] 144)) cd hcd).reads
            rw [show (wr.alloc (.cells #[.int .i64 8, .int .i64 ad, .int .u8 cd, .bool gr, .int .u8 fa, .slice xp ps.length cp, .slice xt tx.length ct] 144)).heap.size = wr.heap.size + 1 by simp] at HC8
            have HB2 := hid (bal (HB1.out (.cells #[.int .i64 8, .int .i64 ad, .int .u8 cd, .bool gr, .int .u8 fa, .slice xp ps.length cp, .slice xt tx.length ct] 144)) (.cells #[.int .u8 cd] 5))
            clear hcd h17 h0
            go_wp2_with (first
              | (go_at_call 92; (with_reducible refine (HMX.out _ HB2.out _ [cd] HC8.out (by simp)).mono ?_); rintro e w2 ⟨v2, ys, rfl, hm, hy, hb⟩; have HM4 := hid hm; have HY := hid hy; have HB4 := hid (HB.out.trans ((HB2.out.mono HBS.out).trans hb)); obtain ⟨xy, cy, rfl⟩ := row_slice hm.row; clear hm hy hb))
            go_roundw
            case rel =>
              refine ⟨k + 1, ys, by omega, by go_num, HM4.out, ?_, HB4.out⟩
              show List.map _ _ = _
              rw [HS.out, HY.out]
              rfl
            case measure => simp [intOf]; omega
          · have e8 : (kd == 8) = false := by simpa using h8
            have HSX := hid (show ((os.map OpV.d).take (k + 1)).foldl addE [] = xs.map EnV.d from by
              rw [HS.out]
              unfold addE
              rw [if_neg h17, if_neg h0, if_neg h8])
            have HM4 := hid (HM.out.step (HB1.out (.cells #[.int .i64 kd, .int .i64 ad, .int .u8 cd, .bool gr, .int .u8 fa, .slice xp ps.length cp, .slice xt tx.length ct] 144)))
            have HB4 := hid (below_t HB.out (HB1.out (.cells #[.int .i64 kd, .int .i64 ad, .int .u8 cd, .bool gr, .int .u8 fa, .slice xp ps.length cp, .slice xt tx.length ct] 144)))
            clear hcd h17 h0 h8
            go_wp2
            go_roundw
            case rel => exact ⟨k + 1, xs, by omega, by go_num, HM4.out, HSX.out.symm, HB4.out⟩
            case measure => simp [intOf]; omega
    · obtain rfl : k = os.length := by omega
      have HF := hid (show EntD ((os.map OpV.d).foldl addE []) w (.returned (.slice xc xs.length cc)) wr from ⟨_, xs, rfl, HM.out, by rw [HX.out, HDO.out], HB.out⟩)
      go_wp2
      go_ret
      exact HF.out
end Go.Proofs.Ytlhaefgchmakfaa
