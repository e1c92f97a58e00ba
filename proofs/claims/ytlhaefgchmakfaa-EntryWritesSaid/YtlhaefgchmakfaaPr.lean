/-
  The reference's Bytes of a report.
-/
import Derived.Test.YtlhaefgchmakfaaPq
namespace Go.Proofs.Ytlhaefgchmakfaa
open Go.RowKit Go.Lib Go.Deep

theorem opT_step {os : List OpD} (h : (opsB os).1 = 0) (t : List Int) :
    (t.any isO = true → opsB (os ++ (if 0 < t.length then [opT t] else [])) = (10, [])) ∧ (t.any isO = false → (opsB (os ++ (if 0 < t.length then [opT t] else []))).1 = 0 ∧ (opsB (os ++ (if 0 < t.length then [opT t] else []))).2 = (opsB os).2 ++ t) := by
  by_cases ht : 0 < t.length
  · have hne : t ≠ [] := fun e => by rw [e] at ht; exact absurd ht (by decide)
    rw [if_pos ht]
    have q := opsB_snoc h (opT t)
    refine ⟨fun ha => ?_, fun ha => ?_⟩
    · rw [q, opB_Tn (.inr ha)]; rfl
    · rw [q, opB_T hne ha]; exact ⟨rfl, rfl⟩
  · have h0 : t = [] := List.length_eq_zero_iff.1 (by omega)
    subst h0
    refine ⟨fun ha => absurd (show false = true from ha) (by decide), fun _ => ?_⟩
    simp [h]
theorem ordE_split (b : Bool) {es : List EnD} {k : Nat} (hk : k < es.length) : ordE b (es.take (k + 1)) = ordE b (es.take k) ++ ((if b then [] else [opA es[k].addr]) ++ (if 0 < es[k].text.length then [opT es[k].text] else [])) := by
  rw [take_snoc_at hk, ordE_append]
  simp [ordE]
theorem ordE_whole (b : Bool) {es : List EnD} {k : Nat} {er : Int} (h : opsB (ordE b (es.take (k + 1))) = (er, [])) (he : er ≠ 0) : opsB (ordE b es) = (er, []) := by
  have e : ordE b es = ordE b (es.take (k + 1)) ++ ordE b (es.drop (k + 1)) := by rw [← ordE_append, List.take_append_drop]
  have q := opsB_bad (os := ordE b (es.take (k + 1))) (by rw [h]; exact he) (ordE b (es.drop (k + 1)))
  rw [← e, h] at q
  exact Prod.ext q.1 q.2
/-- One entry more, as the reference tells it. -/
theorem ref_step {b : Bool} {es : List EnD} {k : Nat} (hk : k < es.length) (h0 : (opsB (ordE b (es.take k))).1 = 0) :
    (b = false → okA es[k].addr = false → opsB (ordE b es) = (9, [])) ∧
    ((b = true ∨ okA es[k].addr = true) → es[k].text.any isO = true → opsB (ordE b es) = (10, [])) ∧
    ((b = true ∨ okA es[k].addr = true) → es[k].text.any isO = false → (opsB (ordE b (es.take (k + 1)))).1 = 0 ∧ (opsB (ordE b (es.take (k + 1)))).2 = (opsB (ordE b (es.take k))).2 ++ (if b then [] else 17 :: encZ es[k].addr) ++ es[k].text) := by
  have hs := ordE_split b hk
  generalize es[k] = x at hs ⊢
  cases b
  · rw [if_neg (by decide)] at hs ⊢
    have q := opsB_snoc h0 (opA x.addr)
    refine ⟨fun _ ha => ?_, fun ha ht => ?_, fun ha ht => ?_⟩
    · refine ordE_whole false (k := k) ?_ (by decide)
      rw [opB_An ha] at q
      have q2 := opsB_bad (os := ordE false (es.take k) ++ [opA x.addr]) (by rw [q]; show (9 : Int) ≠ 0; decide) (if 0 < x.text.length then [opT x.text] else [])
      rw [hs, ← List.append_assoc]
      rw [q] at q2
      exact Prod.ext q2.1 q2.2
    · have ha' : okA x.addr = true := ha.resolve_left (by decide)
      rw [opB_A ha'] at q
      refine ordE_whole false (k := k) ?_ (by decide)
      rw [hs, ← List.append_assoc]
      exact (opT_step (by rw [q]) x.text).1 ht
    · have ha' : okA x.addr = true := ha.resolve_left (by decide)
      rw [opB_A ha'] at q
      rw [hs, ← List.append_assoc]
      have q2 := (opT_step (os := ordE false (es.take k) ++ [opA x.addr]) (by rw [q]) x.text).2 ht
      refine ⟨q2.1, ?_⟩
      rw [q2.2, q]
      rfl
  · rw [if_pos rfl, List.nil_append] at hs
    refine ⟨fun e => (by cases e), fun _ ht => ?_, fun _ ht => ?_⟩
    · refine ordE_whole true (k := k) ?_ (by decide)
      rw [hs]
      exact (opT_step h0 x.text).1 ht
    · rw [hs]
      have q2 := (opT_step h0 x.text).2 ht
      refine ⟨q2.1, ?_⟩
      rw [q2.2]
      simp
theorem new_grown1 {w : World} {m : Nat} {v v' : Value} (hm : m < w.heap.size) (hv : ∀ k ∈ blkV v, m < k) (h : ∀ k ∈ blkV v', k ∈ blkV v ∨ w.heap.size ≤ k) : ∀ k ∈ blkV v', m < k := fun k hk => by
  rcases h k hk with q | q
  · exact hv k q
  · omega
theorem reads_at {w : World} {x : Option Addr} {n c : Nat} {xs : List Int} (h : Reads w (.slice x n c) xs) (j : Nat) (hj : j < xs.length) : ∃ g o, x = some ⟨g, o, none⟩ ∧ w.cell? ⟨g, o + j, none⟩ = some (.int .u8 (xs.getD j 0)) := by
  rcases reads_cases h with ⟨_, _, e, rfl⟩ | ⟨g, o, n', c', e, hn, _, hc⟩
  · exact absurd hj (Nat.not_lt_zero j)
  · injection e with e1 _ _
    exact ⟨g, o, e1, hc j hj⟩
theorem bare_need {es : List EnD} {k : Nat} (hk : k < es.length) : (decide (1 < es.length) || (!(es[k].addr == 0) || es[k].text.length == 0)) = !bareE es := by
  match es, hk with
  | [x], hk =>
    obtain rfl : k = 0 := by simpa using hk
    show (false || (!(x.addr == 0) || x.text.length == 0)) = !(x.addr == 0 && decide (0 < x.text.length))
    cases h : (x.addr == 0)
    · rfl
    · by_cases q : 0 < x.text.length
      · have q2 : ¬ x.text.length = 0 := by omega
        simp [q]
        exact fun e => by rw [e] at q; exact absurd q (by decide)
      · have q2 : x.text.length = 0 := by omega
        simp [q2]
  | x :: y :: r, hk =>
    show (decide (1 < (x :: y :: r).length) || _) = true
    simp
set_option maxRecDepth 100000 in
set_option maxHeartbeats 4000000 in
theorem rbytes_any (ai : Int) (sh : Bool) (cu : Int) (v : Value) (es : List EnV) (w : World) (h : EntIn w v es) (hap : ∀ x ∈ es, ∀ k ∈ blkV x.tv, k < w.heap.size) (hl : totE (es.map EnV.d) ≤ 100000) (hai : 0 ≤ ai ∧ ai < 256) :
    Calls Try.prog 29 #[.agg #[.int .u8 ai, .bool sh, .int .i64 cu, v]] w (BytD (bytE ⟨ai, sh, cu, es.map EnV.d⟩) w) := by
  obtain ⟨⟨xe, ce, rfl, hat⟩, htx⟩ := h
  have HAT0 := hid hat
  have HTX := hid htx
  have HAP := hid hap
  have HEN := hid (fun n W => renc_any n W)
  have hlen : (es.map EnV.d).length = es.length := by simp
  have HST := hid (fun (b : Bool) k (q : k < es.length) h0 => by have := ref_step (b := b) (es := es.map EnV.d) (k := k) (by simpa using q) h0; rwa [List.getElem_map] at this)
  have HNE := hid (fun k (q : k < es.length) => show (decide (1 < es.length) || (!(es[k].d.addr == 0) || es[k].d.text.length == 0)) = !bareE (es.map EnV.d) from by
    have q2 := bare_need (es := es.map EnV.d) (k := k) (by simpa using q)
    rw [List.getElem_map, show decide (1 < (es.map EnV.d).length) = decide (1 < es.length) by simp] at q2
    exact q2)
  have HDO := hid (show (es.map EnV.d).take es.length = es.map EnV.d by rw [← hlen, List.take_length])
  have HTL0 := hid (fun x (q : x ∈ es) => Nat.le_trans (Nat.le_of_lt (totE_mem (List.mem_map_of_mem (f := EnV.d) q))) hl)
  have HPL0 := hid (fun (b : Bool) k => show (opsB (ordE b ((es.map EnV.d).take k))).2.length ≤ 900000 from by
    have h1 := opsB_len (ordE b ((es.map EnV.d).take k))
    have h2 := totO_ord b ((es.map EnV.d).take k)
    have h3 : totE ((es.map EnV.d).take k) ≤ totE (es.map EnV.d) := by
      have : totE (es.map EnV.d) = totE ((es.map EnV.d).take k) + totE ((es.map EnV.d).drop k) := by rw [← totE_append, List.take_append_drop]
      omega
    omega)
  have hnn : es.length ≤ 100000 := by have := totE_len (es.map EnV.d); omega
  obtain ⟨n, hn⟩ : ∃ n, es.length = n := ⟨_, rfl⟩
  have HN0 := hid hn
  rw [hn] at hnn ⊢
  have HB1 := hid (bal (Below.refl w.heap.size w) (.cells #[.int .u8 ai, .bool sh, .int .i64 cu, .slice xe n ce] 62))
  have HL := hid (own_byte (w.alloc (.cells #[.int .u8 ai, .bool sh, .int .i64 cu, .slice xe n ce] 62)) ai hai)
  rw [show (w.alloc (.cells #[.int .u8 ai, .bool sh, .int .i64 cu, .slice xe n ce] 62)).heap.size = w.heap.size + 1 by simp] at HL
  have HB2 := hid (bal HB1.out (.cells #[.int .u8 ai] 5))
  have HKL := hid (blk_lit w (w.heap.size + 1) 1 1 (by omega))
  clear hat htx hap hl hai hlen hn
  cases sh
  · have e : bytE ⟨ai, false, cu, es.map EnV.d⟩ = if okA cu then (if (opsB (ordE (bareE (es.map EnV.d)) (es.map EnV.d))).1 = 0 then (0, ai :: encZ cu ++ (opsB (ordE (bareE (es.map EnV.d)) (es.map EnV.d))).2) else ((opsB (ordE (bareE (es.map EnV.d)) (es.map EnV.d))).1, [])) else (9, []) := rfl
    rw [e]
    have HENC := hid (HEN.out cu)
    unfold EncD at HENC
    cases hk : okA cu
    · rw [if_neg (by decide)]
      rw [hk, if_neg (by decide), if_neg (by decide)] at HENC
      clear e hk
      go_enter Try.func29, Try.ntmps29
      go_wp2_with fail
      with_reducible refine (HENC.out _).mono ?_
      rintro e w1 ⟨v, rfl, ho, -, hb⟩
      obtain ⟨x', n', c', rfl⟩ := own_slice ho
      have HF := hid (byt_no 9 (below_t HB1.out hb))
      clear ho hb
      go_wp2
      go_ret2
      exact HF.out
    · rw [if_pos rfl]
      rw [hk, if_pos rfl, if_pos rfl] at HENC
      obtain ⟨b, hb⟩ : ∃ b, bareE (es.map EnV.d) = b := ⟨_, rfl⟩
      rw [hb] at HNE ⊢
      generalize hR : (if (opsB (ordE b (es.map EnV.d))).1 = 0 then (0, ai :: encZ cu ++ (opsB (ordE b (es.map EnV.d))).2) else ((opsB (ordE b (es.map EnV.d))).1, []) : Int × List Int) = R
      have HRR := hid (show ∀ r, opsB (ordE b (es.map EnV.d)) = r → R = if r.1 = 0 then (0, ai :: encZ cu ++ r.2) else (r.1, []) from fun r hr => by rw [← hr]; exact hR.symm)
      have HSE := hid (show [ai].length + (encZ cu).length ≤ 10000000 by simp [encZ])
      clear e hk hR hb
      go_enter Try.func29, Try.ntmps29
      go_wp2_with fail
      with_reducible refine (HENC.out _).mono ?_
      rintro e w1 ⟨v, rfl, ho, -, hb⟩
      obtain ⟨x', c', rfl⟩ := own_len ho 2 rfl
      have HB1b := hid (below_t HB1.out hb)
      have HL1 := hid (own_byte w1 ai (by have := HL.out.1 ai (by simp); exact this))
      have HKL1 := hid (blk_lit w w1.heap.size 1 1 HB1b.out.size)
      have HB3 := hid (bal HB1b.out (.cells #[.int .u8 ai] 5))
      have HR3 := hid (reads_below ho.reads (bal (Below.refl w1.heap.size w1) (.cells #[.int .u8 ai] 5)))
      have hq0 := keepc hb (show (w.alloc (.cells #[.int .u8 ai, .bool false, .int .i64 cu, .slice xe n ce] 62)).cell? ⟨w.heap.size, 0, none⟩ = some (.int .u8 ai) by simp [go_sem])
      have hq3 := keepc hb (show (w.alloc (.cells #[.int .u8 ai, .bool false, .int .i64 cu, .slice xe n ce] 62)).cell? ⟨w.heap.size, 3, none⟩ = some (.slice xe n ce) by simp [go_sem])
      have HQ3 := hid (keepc (bal (Below.refl w1.heap.size w1) (.cells #[.int .u8 ai] 5)) hq3)
      have HW1 := hid (show w.heap.size < w1.heap.size from World.block_lt_of_cell? w1 _ hq0)
      clear ho hb hq3
      go_wp2_with (first
        | (at_builtin; refine wpList_append_at rfl (.tmp 27) (.tmp 28) rfl (.slice (some ⟨w1.heap.size, 0, none⟩) 1 1) (.slice x' 2 c') [ai] (encZ cu) (ai :: encZ cu) 3 rfl rfl HL1.out HR3.out HSE.out rfl rfl ?_; intro y3 c3 w3 h3 g3 k3; have HO4 := hid h3; have HB4 := hid (below_grown HB3.out g3 HKL1.out); have HN4 := hid (new_grown HB3.out HKL1.out k3); have hc4 := cell_moved (Moved.grown g3 (fun k hk => mem_blkV.2 hk) (fun k hk => k3 k hk)) HQ3.out (fun q => by have := List.mem_singleton.1 (show w.heap.size ∈ [w1.heap.size] from q); have := HW1.out; omega); have HN5 := hid (show ∀ k ∈ blkV (.slice y3 3 c3), w.heap.size < k from fun k hk => by rcases k3 k hk with r | r; (have := List.mem_singleton.1 (show k ∈ [w1.heap.size] from r); have := HW1.out; omega); (have := HW1.out; simp at r; omega)); clear h3 g3 k3))
      have HCB0 := hid hc4
      clear hc4
      have hc4 := HCB0.out
      go_wp2_with fail
      go_loopw [6, 33] (fun p i W => ∃ k : Nat, k ≤ n ∧ i = .int .i64 k ∧ Hid ((opsB (ordE b ((es.map EnV.d).take k))).1 = 0) ∧ Hid (OwnB W p (ai :: encZ cu ++ (opsB (ordE b ((es.map EnV.d).take k))).2)) ∧ Hid (Below w.heap.size w W) ∧ Hid (∀ q ∈ blkV p, w.heap.size < q) ∧ Hid (W.cell? ⟨w.heap.size, 3, none⟩ = some (.slice xe n ce))) (fun _ i _ => n - (intOf i).toNat)
      case atStart => exact ⟨0, Nat.zero_le _, rfl, rfl, by show OwnB _ _ (ai :: encZ cu ++ []); rw [List.append_nil]; exact HO4.out, HB4.out, HN5.out, HCB0.out⟩
      case round =>
        obtain ⟨k, hk, rfl, H0, HP, HB, HN, HCB⟩ := hrel
        obtain ⟨WR, hWR⟩ : ∃ W, W = wr := ⟨_, rfl⟩
        subst hWR
        obtain ⟨xp, np, cp, rfl⟩ := own_slice HP.out
        by_cases hlt : k < n
        · have hke : k < es.length := by rw [HN0.out]; exact hlt
          have hki : (k : Int) < n := by omega
          obtain ⟨g, rfl, hc0, hc1⟩ := HAT0.out k hke
          have HS := hid (HST.out b k hke H0.out)
          have hne := HNE.out k hke
          rw [HN0.out] at hne
          have htr := HTX.out _ (List.getElem_mem hke)
          have htl := HTL0.out _ (List.getElem_mem hke)
          have hapt := HAP.out _ (List.getElem_mem hke)
          have HPL := hid (HPL0.out b k)
          generalize es[k] = x at hc0 hc1 HS hne htr htl hapt
          obtain ⟨⟨ad, tx⟩, tv⟩ := x
          dsimp only at hc0 hc1 HS hne htr htl hapt
          obtain ⟨xt, ct, rfl⟩ := reads_sl htr
          have HBY := hid (fun j (q : j < tx.length) => by obtain ⟨y, a1, a2, _⟩ := byte_at htr.1 j q; exact (⟨y, a1, a2⟩ : ∃ y : Nat, y < 256 ∧ tx.getD j 0 = y))
          have HTR := hid (reads_below htr HB.out)
          have HTL := hid htl
          obtain ⟨tl, htl'⟩ : ∃ tl, tx.length = tl := ⟨_, rfl⟩
          have htlb : tl ≤ 100000 := by omega
          have HTN := hid htl'
          have HAPT := hid hapt
          rw [htl'] at hc1 hne HBY HTR HAPT
          have a0 := keepc HB.out hc0
          have a1 := keepc HB.out hc1
          have hcb := HCB.out
          have HWS := hid (show w.heap.size < WR.heap.size from World.block_lt_of_cell? WR _ hcb)
          have HBE := hid (bal (Below.refl WR.heap.size WR) (.cells #[.int .i64 ad, .slice xt tl ct] 64))
          have HX1 := hid (show (WR.alloc (.cells #[.int .i64 ad, .slice xt tl ct] 64)).cell? ⟨WR.heap.size, 1, none⟩ = some (.slice xt tl ct) by simp [go_sem])
          have HX0 := hid (show (WR.alloc (.cells #[.int .i64 ad, .slice xt tl ct] 64)).cell? ⟨WR.heap.size, 0, none⟩ = some (.int .i64 ad) by simp [go_sem])
          have HP1 := hid (HP.out.step HBE.out)
          have HBB1 := hid (below_t HB.out HBE.out)
          have hcb1 := keepc HBE.out hcb
          have hx0 := HX0.out
          have hx1 := HX1.out
          clear hc0 hc1 htr htl htl' hapt
          go_upto_region 10 with fail
          generalize WR.alloc (.cells #[.int .i64 ad, .slice xt tl ct] 64) = W1 at HBE HX1 HX0 HP1 HBB1 hcb1 hx0 hx1 ⊢
          go_cut [51] (fun c wx => c = .bool (!b) ∧ W1 = wx)
          case first =>
            by_cases h1 : 1 < n
            · have e1 : (1 : Int) < n := by omega
              have e2 : b = false := by
                have q : decide (1 < n) = true := by simpa using h1
                rw [q, Bool.true_or] at hne
                cases b
                · rfl
                · cases hne
              subst e2
              clear hne h1
              go_wp2_with fail
              go_meet
              exact ⟨rfl, rfl⟩
            · have e1 : ¬ (1 : Int) < n := by omega
              have q : decide (1 < n) = false := by simpa using h1
              rw [q, Bool.false_or] at hne
              clear h1 q
              by_cases ha : ad = 0
              · subst ha
                rw [show ((0 : Int) == 0) = true from rfl, Bool.not_true, Bool.false_or] at hne
                by_cases ht : tl = 0
                · subst ht
                  have e2 : b = false := by
                    cases b
                    · rfl
                    · cases hne
                  subst e2
                  clear hne
                  go_wp2_with fail
                  go_meet
                  exact ⟨rfl, rfl⟩
                · have e3 : (tl == 0) = false := by simpa using ht
                  have e4 : ((tl : Int) == 0) = false := by simpa using ht
                  have e2 : b = true := by
                    rw [e3] at hne
                    cases b
                    · cases hne
                    · rfl
                  subst e2
                  clear hne ht
                  go_wp2_with fail
                  go_meet
                  exact ⟨rfl, rfl⟩
              · have e3 : (ad == 0) = false := by simpa using ha
                have e4 : (ad != 0) = true := by simpa using ha
                have e2 : b = false := by
                  rw [e3, Bool.not_false, Bool.true_or] at hne
                  cases b
                  · rfl
                  · cases hne
                subst e2
                clear hne ha
                go_wp2_with fail
                go_meet
                exact ⟨rfl, rfl⟩
          case rest =>
          obtain ⟨hcc1, hcc2⟩ := hcut
          subst hcc1 hcc2
          clear hne a0 a1
          cases b
          · have HENA := hid (HEN.out ad)
            unfold EncD at HENA
            cases hka : okA ad
            · rw [hka, if_neg (by decide), if_neg (by decide)] at HENA
              have HR9 := hid (show R = (9, []) from (HRR.out _ (HS.out.1 rfl hka)).trans (if_neg (show ¬ (9 : Int) = 0 by decide)))
              clear hka
              go_wp2_with fail
              with_reducible refine (HENA.out _).mono ?_
              rintro e v1 ⟨v9, rfl, ho, -, hbv⟩
              obtain ⟨x', n', c', rfl⟩ := own_slice ho
              have HF := hid (show BytD R w (.returned (.tuple #[.slice none 0 0, .int .i64 9])) v1 by
                rw [HR9.out]
                exact byt_no 9 (below_t HBB1.out hbv))
              clear ho hbv
              go_wp2
              go_ret2
              exact HF.out
            · rw [hka, if_pos rfl, if_pos rfl] at HENA
              have HKA := hid hka
              have HSA := hid (show (ai :: encZ cu ++ (opsB (ordE false ((es.map EnV.d).take k))).2).length + [(17 : Int)].length ≤ 10000000 by have := HPL.out; simp [encZ] at *; omega)
              have HSB := hid (show ((ai :: encZ cu ++ (opsB (ordE false ((es.map EnV.d).take k))).2) ++ [17]).length + (encZ ad).length ≤ 10000000 by have := HPL.out; simp [encZ] at *; omega)
              obtain ⟨NA, hNA⟩ : ∃ N, ((ai :: encZ cu ++ (opsB (ordE false ((es.map EnV.d).take k))).2) ++ [17]).length = N := ⟨_, rfl⟩
              obtain ⟨NB, hNB⟩ : ∃ N, (((ai :: encZ cu ++ (opsB (ordE false ((es.map EnV.d).take k))).2) ++ [17]) ++ encZ ad).length = N := ⟨_, rfl⟩
              have HNA := hid hNA
              have HNB := hid hNB
              clear hka hNA hNB
              go_wp2_with fail
              with_reducible refine (HENA.out _).mono ?_
              rintro e v1 ⟨v9, rfl, ho, hk9, hbv⟩
              obtain ⟨x', c', rfl⟩ := own_len ho 2 rfl
              have HBL := hid (bal (Below.refl v1.heap.size v1) (.cells #[.int .u8 17] 5))
              have HRA := hid (reads_below ho.reads HBL.out)
              have HR17 := hid (own_byte v1 17 (by decide)).reads
              have HPA := hid ((HP1.out.step hbv).step HBL.out)
              have HBA := hid (below_t (below_t HBB1.out hbv) HBL.out)
              have HBTA := hid (below_t (below_t HBE.out hbv) HBL.out)
              have HSVA := hid (Nat.lt_of_lt_of_le HWS.out HBTA.out.size)
              have HXA := hid (keepc HBL.out (keepc hbv HX1.out))
              have HSVX := hid (Nat.lt_of_lt_of_le (World.block_lt_of_cell? _ _ HX1.out) ((below_t hbv HBL.out).size))
              have HNX := hid (show ∀ q ∈ blkV (.slice xp np cp), q < WR.heap.size from HP.out.lt)
              have HK9 := hid (show ∀ q ∈ blkV (.slice x' 2 c'), WR.heap.size ≤ q from fun q hq => Nat.le_trans HBE.out.size (hk9 q hq))
              have HTRA := hid (reads_below HTR.out HBTA.out)
              have HCBA := hid (keepc HBTA.out HCB.out)
              clear ho hbv hk9
              go_wp2_with (first
                | (at_builtin; refine wpList_append_at rfl (.tmp 61) (.tmp 62) rfl (.slice xp np cp) (.slice (some ⟨v1.heap.size, 0, none⟩) 1 1) _ [17] _ NA rfl rfl HPA.out HR17.out HSA.out rfl HNA.out ?_; intro y6 c6 w6 h6 g6 k6; have HO6 := hid h6; have HB6 := hid (below_grown HBA.out g6 (fun k hk => Nat.le_of_lt (HN.out k hk))); have HN6 := hid (new_grown1 HSVA.out HN.out k6); have hm6 := Moved.grown g6 (fun k hk => mem_blkV.2 hk) (fun k hk => k6 k hk); have HS6 := hid (Nat.lt_of_lt_of_le HSVA.out hm6.size); have HRA6 := hid (reads_moved HRA.out hm6 (fun k hk q => by have := HNX.out k q; have := HK9.out k hk; omega)); have HTR6 := hid (reads_moved HTRA.out hm6 (fun k hk q => by have := HAPT.out k hk; have := HN.out k q; omega)); have HCB6 := hid (cell_moved hm6 HCBA.out (fun q => by have := HN.out _ q; simp at this)); have HX6 := hid (cell_moved hm6 HXA.out (fun q => by have := HNX.out _ q; simp at this)); have HY6 := hid (show ∀ q ∈ blkV (.slice y6 NA c6), q ≠ WR.heap.size from fun q hq e => by rcases k6 q hq with r | r; (have := HNX.out q r; omega); (have := HSVX.out; simp at r this; omega)); clear h6 g6 k6 hm6)
                | (at_builtin; refine wpList_append_at rfl (.tmp 63) (.tmp 64) rfl (.slice y6 NA c6) (.slice x' 2 c') _ (encZ ad) _ NB rfl rfl HO6.out HRA6.out HSB.out rfl HNB.out ?_; intro y7 c7 w7 h7 g7 k7; have HP7 := hid h7; have HB7 := hid (below_grown HB6.out g7 (fun k hk => Nat.le_of_lt (HN6.out k hk))); have HN7 := hid (new_grown1 HS6.out HN6.out k7); have hm7 := Moved.grown g7 (fun k hk => mem_blkV.2 hk) (fun k hk => k7 k hk); have htr7 := reads_moved HTR6.out hm7 (fun k hk q => by have := HAPT.out k hk; have := HN6.out k q; omega); have HTR7 := hid htr7; have HTC7 := hid (fun j (q : j < tl) => reads_at htr7 j (by rw [HTN.out]; exact q)); have HCB7 := hid (cell_moved hm7 HCB6.out (fun q => by have := HN6.out _ q; simp at this)); have HCX7 := hid (cell_moved hm7 HX6.out (fun q => HY6.out _ q rfl)); have hcx7 := HCX7.out; clear h7 g7 k7 hm7 htr7))
              have HSZ7 := hid (show (((ai :: encZ cu ++ (opsB (ordE false ((es.map EnV.d).take k))).2) ++ [17]) ++ encZ ad).length + tx.length ≤ 10000000 by have := HPL.out; have := HTL.out; simp [encZ] at *; omega)
              obtain ⟨N7, hN7⟩ : ∃ N, ((((ai :: encZ cu ++ (opsB (ordE false ((es.map EnV.d).take k))).2) ++ [17]) ++ encZ ad) ++ tx).length = N := ⟨_, rfl⟩
              have HNN7 := hid hN7
              clear hN7
              go_wp2_with fail
              go_loopw [69] (fun i V => ∃ j : Nat, j ≤ tl ∧ i = .int .i64 j ∧ Hid (∀ q, q < j → isO (tx.getD q 0) = false) ∧ Hid (Below (w7).heap.size (w7) V)) (fun i _ => tl - (intOf i).toNat)
              case atStart => exact ⟨0, Nat.zero_le _, rfl, fun q h => absurd h (Nat.not_lt_zero _), Below.refl _ _⟩
              case round =>
                obtain ⟨j, hj, rfl, HJ, HBV⟩ := hrel
                by_cases hjt : j < tl
                · have hji : (j : Int) < tl := by omega
                  obtain ⟨y, hy1, hy2⟩ := HBY.out j hjt
                  obtain ⟨gt, ot, rfl, hct⟩ := HTC7.out j hjt
                  have ct0 := keepc HBV.out hct
                  have HIS := hid (fun V => ris_any y hy1 V)
                  have HJ1 := hid (fun (hf : isO (tx.getD j 0) = false) => show ∀ q, q < j + 1 → isO (tx.getD q 0) = false from fun q hq => by
                    by_cases e : q = j
                    · rw [e]; exact hf
                    · exact HJ.out q (by omega))
                  have HAT := hid (fun (hf : isO (tx.getD j 0) = true) => any_at (xs := tx) (by rw [HTN.out]; exact hjt) hf)
                  rw [hy2] at ct0 HJ1 HAT
                  clear hct hy2
                  cases hi : isO (y : Int)
                  · rw [hi] at HIS
                    have HJ2 := hid (HJ1.out hi)
                    clear hi HJ1 HAT
                    go_wp2_with fail
                    with_reducible refine (HIS.out _).mono ?_
                    rintro e v1 ⟨rfl, hbv⟩
                    have HBV2 := hid (below_t HBV.out hbv)
                    clear hbv
                    go_wp2
                    go_roundw
                    case rel => exact ⟨j + 1, by omega, by go_num, HJ2.out, HBV2.out⟩
                    case measure => simp [intOf]; omega
                  · rw [hi] at HIS
                    have HA2 := hid (HAT.out hi)
                    clear hi HJ1 HAT
                    go_wp2_with fail
                    with_reducible refine (HIS.out _).mono ?_
                    rintro e v1 ⟨rfl, hbv⟩
                    have HF := hid (show BytD R w (.returned (.tuple #[.slice none 0 0, .int .i64 10])) v1 by
                      rw [show R = (10, []) from (HRR.out _ (HS.out.2.1 (.inr HKA.out) HA2.out)).trans (if_neg (show ¬ (10 : Int) = 0 by decide))]
                      exact byt_no 10 (below_t (below_t HB7.out HBV.out) hbv))
                    clear hbv
                    go_wp2
                    go_ret2
                    exact HF.out
                · obtain rfl : j = tl := by omega
                  have HNO := hid (any_not (xs := tx) (by rw [HTN.out]; exact HJ.out))
                  have hcx := keepc HBV.out HCX7.out
                  have HRT := hid (reads_below HTR7.out HBV.out)
                  have HPV := hid (HP7.out.step HBV.out)
                  have HBZ := hid (below_t HB7.out HBV.out)
                  have HN1 := hid (HS.out.2.2 (.inr HKA.out) HNO.out)
                  have HCBV := hid (keepc HBV.out HCB7.out)
                  have HSZV := hid (Nat.lt_of_lt_of_le (World.block_lt_of_cell? _ _ HCB7.out) HBV.out.size)
                  go_wp2_with (first
                    | (at_builtin; refine wpList_append_at rfl (.tmp 76) (.tmp 78) rfl (.slice y7 NB c7) (.slice xt j ct) (((ai :: encZ cu ++ (opsB (ordE false ((es.map EnV.d).take k))).2) ++ [17]) ++ encZ ad) tx _ N7 rfl rfl HPV.out HRT.out HSZ7.out rfl HNN7.out ?_; intro y9 c9 w9 h9 g9 k9; have HO9 := hid h9; have HB9 := hid (below_grown HBZ.out g9 (fun k hk => Nat.le_of_lt (HN7.out k hk))); have HN9 := hid (new_grown1 HSZV.out HN7.out k9); have hbx9 := cell_moved (Moved.grown g9 (fun k hk => mem_blkV.2 hk) (fun k hk => k9 k hk)) HCBV.out (fun q => by have := HN7.out _ q; simp at this); have HCB9 := hid hbx9; clear h9 g9 k9 hbx9))
                  go_roundw
                  case rel =>
                    refine ⟨k + 1, by omega, by go_num, HN1.out.1, ?_, HB9.out, HN9.out, HCB9.out⟩
                    show OwnB _ _ _
                    rw [show ai :: encZ cu ++ (opsB (ordE false ((es.map EnV.d).take (k + 1)))).2 = (((ai :: encZ cu ++ (opsB (ordE false ((es.map EnV.d).take k))).2) ++ [17]) ++ encZ ad) ++ tx by rw [HN1.out.2]; simp]
                    exact HO9.out
                  case measure => simp [intOf]; omega
          · have htr5 := reads_below HTR.out HBE.out
            have HTR5 := hid htr5
            have HTC5 := hid (fun j (q : j < tl) => reads_at htr5 j (by rw [HTN.out]; exact q))
            have HCB5 := hid (keepc HBE.out HCB.out)
            have HCX5 := HX1
            have HP5 := HP1
            have HB5 := HBB1
            have HN5 := HN
            clear htr5
            have HSZ5 := hid (show (ai :: encZ cu ++ (opsB (ordE true ((es.map EnV.d).take k))).2).length + tx.length ≤ 10000000 by have := HPL.out; have := HTL.out; simp [encZ] at *; omega)
            obtain ⟨N5, hN5⟩ : ∃ N, ((ai :: encZ cu ++ (opsB (ordE true ((es.map EnV.d).take k))).2) ++ tx).length = N := ⟨_, rfl⟩
            have HNN5 := hid hN5
            clear hN5
            go_wp2_with fail
            go_loopw [69] (fun i V => ∃ j : Nat, j ≤ tl ∧ i = .int .i64 j ∧ Hid (∀ q, q < j → isO (tx.getD q 0) = false) ∧ Hid (Below (W1).heap.size (W1) V)) (fun i _ => tl - (intOf i).toNat)
            case atStart => exact ⟨0, Nat.zero_le _, rfl, fun q h => absurd h (Nat.not_lt_zero _), Below.refl _ _⟩
            case round =>
              obtain ⟨j, hj, rfl, HJ, HBV⟩ := hrel
              by_cases hjt : j < tl
              · have hji : (j : Int) < tl := by omega
                obtain ⟨y, hy1, hy2⟩ := HBY.out j hjt
                obtain ⟨gt, ot, rfl, hct⟩ := HTC5.out j hjt
                have ct0 := keepc HBV.out hct
                have HIS := hid (fun V => ris_any y hy1 V)
                have HJ1 := hid (fun (hf : isO (tx.getD j 0) = false) => show ∀ q, q < j + 1 → isO (tx.getD q 0) = false from fun q hq => by
                  by_cases e : q = j
                  · rw [e]; exact hf
                  · exact HJ.out q (by omega))
                have HAT := hid (fun (hf : isO (tx.getD j 0) = true) => any_at (xs := tx) (by rw [HTN.out]; exact hjt) hf)
                rw [hy2] at ct0 HJ1 HAT
                clear hct hy2
                cases hi : isO (y : Int)
                · rw [hi] at HIS
                  have HJ2 := hid (HJ1.out hi)
                  clear hi HJ1 HAT
                  go_wp2_with fail
                  with_reducible refine (HIS.out _).mono ?_
                  rintro e v1 ⟨rfl, hbv⟩
                  have HBV2 := hid (below_t HBV.out hbv)
                  clear hbv
                  go_wp2
                  go_roundw
                  case rel => exact ⟨j + 1, by omega, by go_num, HJ2.out, HBV2.out⟩
                  case measure => simp [intOf]; omega
                · rw [hi] at HIS
                  have HA2 := hid (HAT.out hi)
                  clear hi HJ1 HAT
                  go_wp2_with fail
                  with_reducible refine (HIS.out _).mono ?_
                  rintro e v1 ⟨rfl, hbv⟩
                  have HF := hid (show BytD R w (.returned (.tuple #[.slice none 0 0, .int .i64 10])) v1 by
                    rw [show R = (10, []) from (HRR.out _ (HS.out.2.1 (by simp) HA2.out)).trans (if_neg (show ¬ (10 : Int) = 0 by decide))]
                    exact byt_no 10 (below_t (below_t HB5.out HBV.out) hbv))
                  clear hbv
                  go_wp2
                  go_ret2
                  exact HF.out
              · obtain rfl : j = tl := by omega
                have HNO := hid (any_not (xs := tx) (by rw [HTN.out]; exact HJ.out))
                have hcx := keepc HBV.out HCX5.out
                have HRT := hid (reads_below HTR5.out HBV.out)
                have HPV := hid (HP5.out.step HBV.out)
                have HBZ := hid (below_t HB5.out HBV.out)
                have HN1 := hid (HS.out.2.2 (by simp) HNO.out)
                have HCBV := hid (keepc HBV.out HCB5.out)
                have HSZV := hid (Nat.lt_of_lt_of_le (World.block_lt_of_cell? _ _ HCB5.out) HBV.out.size)
                go_wp2_with (first
                  | (at_builtin; refine wpList_append_at rfl (.tmp 76) (.tmp 78) rfl (.slice xp np cp) (.slice xt j ct) (ai :: encZ cu ++ (opsB (ordE true ((es.map EnV.d).take k))).2) tx _ N5 rfl rfl HPV.out HRT.out HSZ5.out rfl HNN5.out ?_; intro y9 c9 w9 h9 g9 k9; have HO9 := hid h9; have HB9 := hid (below_grown HBZ.out g9 (fun k hk => Nat.le_of_lt (HN5.out k hk))); have HN9 := hid (new_grown1 HSZV.out HN5.out k9); have hbx9 := cell_moved (Moved.grown g9 (fun k hk => mem_blkV.2 hk) (fun k hk => k9 k hk)) HCBV.out (fun q => by have := HN5.out _ q; simp at this); have HCB9 := hid hbx9; clear h9 g9 k9 hbx9))
                go_roundw
                case rel =>
                  refine ⟨k + 1, by omega, by go_num, HN1.out.1, ?_, HB9.out, HN9.out, HCB9.out⟩
                  show OwnB _ _ _
                  rw [show ai :: encZ cu ++ (opsB (ordE true ((es.map EnV.d).take (k + 1)))).2 = (ai :: encZ cu ++ (opsB (ordE true ((es.map EnV.d).take k))).2) ++ tx by rw [HN1.out.2]; simp]
                  exact HO9.out
                case measure => simp [intOf]; omega
        · obtain rfl : k = n := by omega
          have HF := hid (show BytD R w (.returned (.tuple #[.slice xp np cp, .int .i64 0])) WR by
            have q := HP.out
            have q0 := H0.out
            rw [show (es.map EnV.d).take k = es.map EnV.d by rw [← HN0.out]; exact HDO.out] at q q0
            rw [show R = (0, ai :: encZ cu ++ (opsB (ordE b (es.map EnV.d))).2) from (HRR.out _ rfl).trans (if_pos q0)]
            exact ⟨_, rfl, q, fun k hk => Nat.le_of_lt (HN.out k hk), HB.out⟩)
          go_wp2
          go_ret2
          exact HF.out
  · have e : bytE ⟨ai, true, cu, es.map EnV.d⟩ = (0, [ai]) := rfl
    rw [e]
    have HF := hid (show BytD (0, [ai]) w (.returned (.tuple #[.slice (some ⟨w.heap.size + 1, 0, none⟩) 1 1, .int .i64 0])) ((w.alloc (.cells #[.int .u8 ai, .bool true, .int .i64 cu, .slice xe n ce] 62)).alloc (.cells #[.int .u8 ai] 5)) from ⟨_, rfl, HL.out, HKL.out, HB2.out⟩)
    clear e
    go_enter Try.func29, Try.ntmps29
    go_wp2
    go_ret2
    exact HF.out
end Go.Proofs.Ytlhaefgchmakfaa
