/-
  entry.ordersOf; entry.Bytes.
-/
import Derived.Test.YtlhaefgchmakfaaPi
namespace Go.Proofs.Ytlhaefgchmakfaa
open Go.RowKit Go.Lib Go.Deep

/-- Told as orders. -/
def OrdD (b : Bool) (es : List EnD) (w : World) (e : Ending) (w' : World) : Prop := ∃ l ls, e = .returned l ∧ OpsM w' l ls ∧ ls.map OpV.d = ordE b es ∧ Below w.heap.size w w'
theorem ordE_take {es : List EnV} (b : Bool) {k : Nat} (hk : k < es.length) : ordE b ((es.map EnV.d).take (k + 1)) = ordE b ((es.map EnV.d).take k) ++ ((if b then [] else [opA es[k].d.addr]) ++ (if 0 < es[k].d.text.length then [opT es[k].d.text] else [])) := by
  rw [take_snoc_at (xs := es.map EnV.d) (by simpa using hk), ordE_append, List.getElem_map]
  simp [ordE]
theorem ordE_len (b : Bool) (es : List EnD) : (ordE b es).length ≤ 2 * es.length := by
  induction es with
  | nil => exact Nat.zero_le _
  | cons x r ih =>
    have e : ordE b (x :: r) = ((if b then [] else [opA x.addr]) ++ (if 0 < x.text.length then [opT x.text] else [])) ++ ordE b r := rfl
    rw [e, List.length_append, List.length_append, List.length_cons]
    have h1 : (if b then [] else [opA x.addr] : List OpD).length ≤ 1 := by split <;> simp
    have h2 : (if 0 < x.text.length then [opT x.text] else [] : List OpD).length ≤ 1 := by split <;> simp
    omega
set_option maxRecDepth 100000 in
set_option maxHeartbeats 4000000 in
theorem orders_loop (b : Bool) (v : Value) (es : List EnV) (w : World) (B : Nat) (h : EntM 107 B w v es) (hl : totE (es.map EnV.d) ≤ 300000) (hb : bareE (es.map EnV.d) = b) :
    Calls Try.prog 59 #[v] w (OrdD b (es.map EnV.d) w) := by
  obtain ⟨i0, hi, hz0, hz1, hz2⟩ := info_parts infoO
  have HES := hid h
  obtain ⟨x0, cap0, rfl, hcap, hcapm, hat0⟩ := h.at
  have HST := hid (fun k (q : k < es.length) => @ordE_take es b k q)
  have hlen : (es.map EnV.d).length = es.length := by simp
  have HDO := hid (show (es.map EnV.d).take es.length = es.map EnV.d by rw [← hlen, List.take_length])
  have hnn := Nat.le_trans (totE_len (es.map EnV.d)) hl
  rw [hlen] at hnn
  have HLN := hid (fun k => Nat.le_trans (ordE_len b ((es.map EnV.d).take k)) (show 2 * ((es.map EnV.d).take k).length ≤ 600000 by rw [List.length_take]; omega))
  have HAT0 := hid hat0
  have HBR := hid hb
  clear h hl hlen hat0 hb hcap hcapm
  go_enter Try.func59, Try.ntmps59
  go_upto_region 1 with fail
  go_cut [3] (fun c wx => c = .bool b ∧ w = wx)
  case first =>
    by_cases h1 : es.length = 1
    · obtain ⟨x, hx⟩ : ∃ x, es = [x] := by
        match es, h1 with
        | [x], _ => exact ⟨x, rfl⟩
      subst hx
      obtain ⟨g, rfl, _, hc0, hc1⟩ := HAT0.out 0 (by simp)
      have ht := HES.out.txt x (by simp)
      have hb := HBR.out
      obtain ⟨⟨ad, tx⟩, tv⟩ := x
      obtain ⟨xt, ct, rfl⟩ := own_len ht tx.length rfl
      have c0 : w.cell? ⟨g, 0, none⟩ = some (.int .i64 ad) := hc0
      have c1 : w.cell? ⟨g, 1, none⟩ = some (.slice xt tx.length ct) := hc1
      have hb' : (ad == 0 && decide (0 < tx.length)) = b := hb
      clear HAT0 HES HST HDO HLN HBR hb hc0 hc1 ht h1 hnn
      generalize tx.length = tl at c1 hb' ⊢
      by_cases ha : ad = 0
      · subst ha
        by_cases htl : 0 < tl
        · have e1 : (0 : Int) < tl := by omega
          have e2 : b = true := by rw [← hb']; simp [htl]
          subst e2
          clear hb'
          go_wp2_with fail
          go_meet
          exact ⟨rfl, rfl⟩
        · obtain rfl : tl = 0 := by omega
          have e2 : b = false := by rw [← hb']; rfl
          subst e2
          clear hb'
          go_wp2_with fail
          go_meet
          exact ⟨rfl, rfl⟩
      · have ea : (ad == 0) = false := by simpa using ha
        have e2 : b = false := by rw [← hb', ea]; rfl
        subst e2
        clear hb' ha
        go_wp2_with fail
        go_meet
        exact ⟨rfl, rfl⟩
    · have hb := HBR.out
      have e2 : b = false := by
        rw [← hb]
        match es, h1 with
        | [], _ => rfl
        | [x], h1 => exact absurd rfl h1
        | x :: y :: r, _ => rfl
      subst e2
      have e0 : ((es.length : Int) == 1) = false := by simp; omega
      have e1 : (es.length == 1) = false := by simp; omega
      clear hb h1
      go_wp2_with fail
      go_meet
      exact ⟨rfl, rfl⟩
  case rest =>
    obtain ⟨hc1, hc2⟩ := hcut
    subst hc1 hc2
    clear HAT0 HBR
    go_wp2_with fail
    go_loopw [4, 27] (fun l i W => ∃ (k : Nat) (ls : List OpV), k ≤ es.length ∧ i = .int .i64 k ∧ Hid (OpsM W l ls) ∧ Hid (ls.map OpV.d = ordE b ((es.map EnV.d).take k)) ∧ Hid (Below w.heap.size w W) ∧ Hid (∀ j ∈ blkV l, w.heap.size ≤ j)) (fun _ i _ => es.length - (intOf i).toNat)
    case atStart => exact ⟨0, [], Nat.zero_le _, rfl, OpsM.nil _, by show [] = ordE b []; rfl, Below.refl _ _, fun _ q => (by cases q)⟩
    case round =>
      obtain ⟨k, ls, hk, rfl, HM, HX, HB, HN⟩ := hrel
      obtain ⟨xc, cc, rfl⟩ := row_slice HM.out.row
      by_cases hlt : k < es.length
      · have hki : (k : Int) < es.length := by omega
        obtain ⟨x0', cap0', hle, _, _, hat⟩ := (HES.out.step HB.out).at
        injection hle with hle1 _ hle3
        subst hle1 hle3
        obtain ⟨g, rfl, hgl, hc0, hc1⟩ := hat k hlt
        have HS := hid (HST.out k hlt)
        have ht := (HES.out.step HB.out).txt _ (List.getElem_mem hlt)
        have ht0 := (HES.out.txt _ (List.getElem_mem hlt)).lt
        have hls : ls.length ≤ 600000 := by have := congrArg List.length HX.out; rw [List.length_map] at this; rw [this]; exact HLN.out k
        generalize es[k] = x at hc0 hc1 HS ht ht0
        obtain ⟨⟨ad, tx⟩, tv⟩ := x
        dsimp only at hc0 hc1 HS ht ht0
        obtain ⟨xt, ct, rfl⟩ := own_len ht tx.length rfl
        obtain ⟨tl, htl⟩ : ∃ tl, tx.length = tl := ⟨_, rfl⟩
        rw [htl] at hc1 HS ht ht0
        have HE1 := hid (bal (Below.refl wr.heap.size wr) (.cells #[.int .i64 ad, .slice xt tl ct] 107))
        have HT := hid ht
        have HT0 := hid ht0
        have HTA := hid (show ∀ q ∈ blkV (.slice xt tl ct), q ∉ blkV (.slice xc ls.length cc) from fun q hq hq2 => by have := HT0.out q hq; have := HN.out q hq2; omega)
        have HLS5 := hid hls
        have HWN := hid (show wr.heap.size ∉ blkV (.slice xc ls.length cc) from fun q => by have := own_lt HM.out.row _ q; omega)
        have HLS6 := hid (show (ls ++ [(⟨opA ad, .slice none 0 0, .slice none 0 0⟩ : OpV)]).length ≤ 600001 by rw [List.length_append]; simp; omega)
        have HSZ := hid HB.out.size
        clear hat ht ht0 htl hls
        cases b
        · have HL5 := hid (bal (Below.refl (wr.alloc (.cells #[.int .i64 ad, .slice xt tl ct] 107)).heap.size (wr.alloc (.cells #[.int .i64 ad, .slice xt tl ct] 107))) (.cells #[.int .i64 17, .int .i64 ad, .int .u8 0, .bool false, .int .u8 0, .slice none 0 0, .slice none 0 0] 144))
          have HM5 := hid ((HM.out.step HE1.out).step HL5.out)
          have HB5 := hid (below_t (below_t HB.out HE1.out) HL5.out)
          have HNS5 := hid (news_seven (wr.alloc (.cells #[.int .i64 ad, .slice xt tl ct] 107)) (.int .i64 17) (.int .i64 ad) (.int .u8 0) (.bool false) (.int .u8 0) (.slice none 0 0) (.slice none 0 0) 144)
          rw [show (wr.alloc (.cells #[.int .i64 ad, .slice xt tl ct] 107)).heap.size = wr.heap.size + 1 by simp] at HNS5
          
          by_cases htl : 0 < tl
          · have et : (0 : Int) < tl := by omega
            rw [if_neg (by decide), if_pos htl] at HS
            go_wp2_with (first
              | (at_builtin; refine wpList_append_blk _ rfl (.tmp 33) (.tmp 37) 111 rfl 144 i0 _ 7 72 Try.underlying111 hi hz0 hz1 hz2 rfl (by decide) _ _ _ rfl HM5.out.row ⟨wr.heap.size + 1, 0, none⟩ 1 1 (opC ⟨opA ad, .slice none 0 0, .slice none 0 0⟩) rfl rfl HNS5.out (one_opC _ rfl rfl) (by have := HLS5.out; unfold maxLen; omega) (by have := HLS5.out; omega) ?_; intro v5 w3 hown hgrow _ hbl; have HM3 := hid (OpsM.snoc (x := ⟨opA ad, .slice none 0 0, .slice none 0 0⟩) HM5.out (World.ownsRow_nil _ _ _ _) (OwnB.nil _) (fun _ q => (by cases q)) (fun _ q => (by cases q)) hown hgrow hbl); have HB3 := hid (below_grown HB5.out hgrow HN.out); have HN3 := hid (new_grown HB5.out HN.out hbl); have HT3 := hid (((HT.out.step HE1.out).step HL5.out).moved (Moved.grown hgrow (fun k hk => mem_blkV.2 hk) hbl) HTA.out); have hk1 := cell_moved (Moved.grown hgrow (fun k hk => mem_blkV.2 hk) hbl) (a := ⟨wr.heap.size, 1, none⟩) (show ((wr.alloc (.cells #[.int .i64 ad, .slice xt tl ct] 107)).alloc (.cells #[.int .i64 17, .int .i64 ad, .int .u8 0, .bool false, .int .u8 0, .slice none 0 0, .slice none 0 0] 144)).cell? ⟨wr.heap.size, 1, none⟩ = some (.slice xt tl ct) by simp [go_sem]) (fun q => HWN.out q); clear hown hgrow hbl; obtain ⟨x3, c3, rfl⟩ := row_slice HM3.out.row; simp only [List.length_append, List.length_singleton] at HM3 HN3; have HL6 := hid (bal (Below.refl (w3).heap.size (w3)) (.cells #[.int .i64 0, .int .i64 0, .int .u8 0, .bool false, .int .u8 0, .slice none 0 0, .slice xt tl ct] 144)); have HM6 := hid (HM3.out.step HL6.out); have HB6 := hid (below_t HB3.out HL6.out); have HNS6 := hid (news_seven (w3) (.int .i64 0) (.int .i64 0) (.int .u8 0) (.bool false) (.int .u8 0) (.slice none 0 0) (.slice xt tl ct) 144))
              | (at_builtin; refine wpList_append_blk _ rfl (.tmp 43) (.tmp 47) 111 rfl 144 i0 _ 7 72 Try.underlying111 hi hz0 hz1 hz2 rfl (by decide) _ _ _ rfl HM6.out.row ⟨w3.heap.size, 0, none⟩ 1 1 (opC ⟨opT tx, .slice none 0 0, .slice xt tl ct⟩) rfl rfl HNS6.out (one_opC _ rfl rfl) (by have := HLS6.out; unfold maxLen; omega) (by have := HLS6.out; omega) ?_; intro v6 w4 hown hgrow _ hbl; have HM4 := hid (OpsM.snoc (x := ⟨opT tx, .slice none 0 0, .slice xt tl ct⟩) HM6.out (World.ownsRow_nil _ _ _ _) (HT3.out.step HL6.out) (fun _ q => (by cases q)) (fun q hq hq2 => by have := HT0.out q hq; have := HN3.out q hq2; omega) hown hgrow hbl); have HB4 := hid (below_grown HB6.out hgrow HN3.out); have HN4 := hid (new_grown HB6.out HN3.out hbl); clear hown hgrow hbl; obtain ⟨x4, c4, rfl⟩ := row_slice HM4.out.row; simp only [List.length_append, List.length_singleton] at HM4 HN4))
            go_roundw
            case rel =>
              refine ⟨k + 1, _, by omega, by go_num, HM4.out, ?_, HB4.out, HN4.out⟩
              show List.map _ _ = _
              rw [HS.out, List.map_append, List.map_append, HX.out]
              simp
            case measure => simp [intOf]; omega
          · obtain rfl : tl = 0 := by omega
            rw [if_neg (by decide), if_neg htl] at HS
            clear htl
            go_wp2_with (at_builtin; refine wpList_append_blk _ rfl (.tmp 33) (.tmp 37) 111 rfl 144 i0 _ 7 72 Try.underlying111 hi hz0 hz1 hz2 rfl (by decide) _ _ _ rfl HM5.out.row ⟨wr.heap.size + 1, 0, none⟩ 1 1 (opC ⟨opA ad, .slice none 0 0, .slice none 0 0⟩) rfl rfl HNS5.out (one_opC _ rfl rfl) (by have := HLS5.out; unfold maxLen; omega) (by have := HLS5.out; omega) ?_; intro v5 w3 hown hgrow _ hbl; have HM3 := hid (OpsM.snoc (x := ⟨opA ad, .slice none 0 0, .slice none 0 0⟩) HM5.out (World.ownsRow_nil _ _ _ _) (OwnB.nil _) (fun _ q => (by cases q)) (fun _ q => (by cases q)) hown hgrow hbl); have HB3 := hid (below_grown HB5.out hgrow HN.out); have HN3 := hid (new_grown HB5.out HN.out hbl); have HT3 := hid (((HT.out.step HE1.out).step HL5.out).moved (Moved.grown hgrow (fun k hk => mem_blkV.2 hk) hbl) HTA.out); have hk1 := cell_moved (Moved.grown hgrow (fun k hk => mem_blkV.2 hk) hbl) (a := ⟨wr.heap.size, 1, none⟩) (show ((wr.alloc (.cells #[.int .i64 ad, .slice xt 0 ct] 107)).alloc (.cells #[.int .i64 17, .int .i64 ad, .int .u8 0, .bool false, .int .u8 0, .slice none 0 0, .slice none 0 0] 144)).cell? ⟨wr.heap.size, 1, none⟩ = some (.slice xt 0 ct) by simp [go_sem]) (fun q => HWN.out q); clear hown hgrow hbl; obtain ⟨x3, c3, rfl⟩ := row_slice HM3.out.row; simp only [List.length_append, List.length_singleton] at HM3 HN3)
            go_roundw
            case rel =>
              refine ⟨k + 1, _, by omega, by go_num, HM3.out, ?_, HB3.out, HN3.out⟩
              show List.map _ _ = _
              rw [HS.out, List.map_append, HX.out]
              simp
            case measure => simp [intOf]; omega
        · by_cases htl : 0 < tl
          · have et : (0 : Int) < tl := by omega
            rw [if_pos rfl, if_pos htl] at HS
            have HLS6 := HLS5
            have HL6 := hid (bal (Below.refl (wr.alloc (.cells #[.int .i64 ad, .slice xt tl ct] 107)).heap.size (wr.alloc (.cells #[.int .i64 ad, .slice xt tl ct] 107))) (.cells #[.int .i64 0, .int .i64 0, .int .u8 0, .bool false, .int .u8 0, .slice none 0 0, .slice xt tl ct] 144))
            have HM6 := hid ((HM.out.step HE1.out).step HL6.out)
            have HB6 := hid (below_t (below_t HB.out HE1.out) HL6.out)
            have HNS6 := hid (news_seven (wr.alloc (.cells #[.int .i64 ad, .slice xt tl ct] 107)) (.int .i64 0) (.int .i64 0) (.int .u8 0) (.bool false) (.int .u8 0) (.slice none 0 0) (.slice xt tl ct) 144)
            rw [show (wr.alloc (.cells #[.int .i64 ad, .slice xt tl ct] 107)).heap.size = wr.heap.size + 1 by simp] at HNS6
            
            go_wp2_with (at_builtin; refine wpList_append_blk _ rfl (.tmp 43) (.tmp 47) 111 rfl 144 i0 _ 7 72 Try.underlying111 hi hz0 hz1 hz2 rfl (by decide) _ _ _ rfl HM6.out.row ⟨wr.heap.size + 1, 0, none⟩ 1 1 (opC ⟨opT tx, .slice none 0 0, .slice xt tl ct⟩) rfl rfl HNS6.out (one_opC _ rfl rfl) (by have := HLS6.out; unfold maxLen; omega) (by have := HLS6.out; omega) ?_; intro v6 w4 hown hgrow _ hbl; have HM4 := hid (OpsM.snoc (x := ⟨opT tx, .slice none 0 0, .slice xt tl ct⟩) HM6.out (World.ownsRow_nil _ _ _ _) ((HT.out.step HE1.out).step HL6.out) (fun _ q => (by cases q)) (HTA.out) hown hgrow hbl); have HB4 := hid (below_grown HB6.out hgrow HN.out); have HN4 := hid (new_grown HB6.out HN.out hbl); clear hown hgrow hbl; obtain ⟨x4, c4, rfl⟩ := row_slice HM4.out.row; simp only [List.length_append, List.length_singleton] at HM4 HN4)
            go_roundw
            case rel =>
              refine ⟨k + 1, _, by omega, by go_num, HM4.out, ?_, HB4.out, HN4.out⟩
              show List.map _ _ = _
              rw [HS.out, List.map_append, HX.out]
              simp
            case measure => simp [intOf]; omega
          · obtain rfl : tl = 0 := by omega
            rw [if_pos rfl, if_neg htl] at HS
            clear htl
            have HM4 := hid (HM.out.step HE1.out)
            have HB4 := hid (below_t HB.out HE1.out)
            go_wp2
            go_roundw
            case rel =>
              refine ⟨k + 1, ls, by omega, by go_num, HM4.out, ?_, HB4.out, HN.out⟩
              show List.map _ _ = _
              rw [HS.out, HX.out]
              simp
            case measure => simp [intOf]; omega
      · obtain rfl : k = es.length := by omega
        have HF := hid (show OrdD b (es.map EnV.d) w (.returned (.slice xc ls.length cc)) wr from ⟨_, ls, rfl, HM.out, by rw [HX.out, HDO.out], HB.out⟩)
        go_wp2
        go_ret
        exact HF.out
end Go.Proofs.Ytlhaefgchmakfaa
