/-
  entry.Bytes.
-/
import Derived.Test.YtlhaefgchmakfaaPj
namespace Go.Proofs.Ytlhaefgchmakfaa
open Go.RowKit Go.Lib Go.Deep

theorem ordE_told (b : Bool) (es : List EnD) : ∀ o ∈ ordE b es, ToldO o := by
  intro o ho
  obtain ⟨x, -, hx⟩ := List.mem_flatMap.1 ho
  rcases List.mem_append.1 hx with hx | hx
  · cases b
    · rw [if_neg (by decide)] at hx; exact .inl ⟨_, List.mem_singleton.1 hx⟩
    · rw [if_pos rfl] at hx; cases hx
  · by_cases h : 0 < x.text.length
    · rw [if_pos h] at hx; exact .inr ⟨_, List.mem_singleton.1 hx⟩
    · rw [if_neg h] at hx; cases hx
set_option maxRecDepth 100000 in
set_option maxHeartbeats 4000000 in
theorem ebytes_any (ai : Int) (sh : Bool) (cu : Int) (v : Value) (es : List EnV) (w : World) (B : Nat) (h : EntM 107 B w v es) (hl : totE (es.map EnV.d) ≤ 100000) (hai : 0 ≤ ai ∧ ai < 256) :
    Calls Try.prog 27 #[.agg #[.int .u8 ai, .bool sh, .int .i64 cu, v]] w (BytD (bytE ⟨ai, sh, cu, es.map EnV.d⟩) w) := by
  obtain ⟨xe, ce, rfl⟩ := row_slice h.row
  have HOL := hid (fun W (hb : Below w.heap.size w W) => orders_loop (bareE (es.map EnV.d)) _ es W B (h.step hb) (by omega) rfl)
  have HTO := hid (Nat.le_trans (totO_ord (bareE (es.map EnV.d)) (es.map EnV.d)) (Nat.mul_le_mul_left 4 hl))
  have HTD := hid (ordE_told (bareE (es.map EnV.d)) (es.map EnV.d))
  have HEN := hid (fun W => enc_any cu W)
  generalize es.length = n at HOL ⊢
  have HB1 := hid (bal (Below.refl w.heap.size w) (.cells #[.int .u8 ai, .bool sh, .int .i64 cu, .slice xe n ce] 69))
  have HL := hid (own_byte (w.alloc (.cells #[.int .u8 ai, .bool sh, .int .i64 cu, .slice xe n ce] 69)) ai hai)
  rw [show (w.alloc (.cells #[.int .u8 ai, .bool sh, .int .i64 cu, .slice xe n ce] 69)).heap.size = w.heap.size + 1 by simp] at HL
  have HB2 := hid (bal HB1.out (.cells #[.int .u8 ai] 5))
  have HKL := hid (blk_lit w (w.heap.size + 1) 1 1 (by omega))
  have HC3 := hid (show ((w.alloc (.cells #[.int .u8 ai, .bool sh, .int .i64 cu, .slice xe n ce] 69)).alloc (.cells #[.int .u8 ai] 5)).cell? ⟨w.heap.size, 3, none⟩ = some (.slice xe n ce) by simp [go_sem])
  clear h hl hai
  cases sh
  · have e : bytE ⟨ai, false, cu, es.map EnV.d⟩ = if okA cu then (if (opsB (ordE (bareE (es.map EnV.d)) (es.map EnV.d))).1 = 0 then (0, ai :: encZ cu ++ (opsB (ordE (bareE (es.map EnV.d)) (es.map EnV.d))).2) else ((opsB (ordE (bareE (es.map EnV.d)) (es.map EnV.d))).1, [])) else (9, []) := rfl
    rw [e]
    unfold EncD at HEN
    cases hk : okA cu
    · rw [if_neg (by decide)]
      rw [hk, if_neg (by decide), if_neg (by decide)] at HEN
      clear e hk
      go_enter Try.func27, Try.ntmps27
      go_wp2_with fail
      with_reducible refine (HEN.out _).mono ?_
      rintro e w1 ⟨v, rfl, ho, -, hb⟩
      obtain ⟨x', n', c', rfl⟩ := own_slice ho
      have HF := hid (byt_no 9 (below_t HB2.out hb))
      clear ho hb
      go_wp2
      go_ret2
      exact HF.out
    · rw [if_pos rfl]
      rw [hk, if_pos rfl, if_pos rfl] at HEN
      generalize bareE (es.map EnV.d) = b at HOL HTO HTD ⊢
      have HSE := hid (show [ai].length + (encZ cu).length ≤ 10000000 by simp [encZ])
      have HSF := hid (show (ai :: encZ cu).length + (opsB (ordE b (es.map EnV.d))).2.length ≤ 10000000 by have := opsB_len (ordE b (es.map EnV.d)); have := HTO.out; simp [encZ]; omega)
      generalize hR : (if (opsB (ordE b (es.map EnV.d))).1 = 0 then (0, ai :: encZ cu ++ (opsB (ordE b (es.map EnV.d))).2) else ((opsB (ordE b (es.map EnV.d))).1, []) : Int × List Int) = R
      have HRR := hid hR
      clear e hk hR
      go_enter Try.func27, Try.ntmps27
      go_wp2_with fail
      with_reducible refine (HEN.out _).mono ?_
      rintro e w1 ⟨v, rfl, ho, -, hb⟩
      obtain ⟨x', c', rfl⟩ := own_len ho 2 rfl
      have HB3 := hid (below_t HB2.out hb)
      have HR3 := hid ho.reads
      have HL3 := hid (HL.out.step hb)
      have HC33 := hid (keepc hb HC3.out)
      clear ho hb
      go_wp2_with (first
        | (at_builtin; refine wpList_append_at rfl (.tmp 23) (.tmp 24) rfl (.slice (some ⟨w.heap.size + 1, 0, none⟩) 1 1) (.slice x' 2 c') [ai] (encZ cu) (ai :: encZ cu) 3 rfl rfl HL3.out HR3.out HSE.out rfl rfl ?_; intro y3 c3 w3 h3 g3 k3; have HO4 := hid h3; have HB4 := hid (below_grown HB3.out g3 HKL.out); have HN4 := hid (new_grown HB3.out HKL.out k3); have hc4 := cell_moved (Moved.grown g3 (fun k hk => mem_blkV.2 hk) (fun k hk => k3 k hk)) HC33.out (fun q => by have := List.mem_singleton.1 (show w.heap.size ∈ [w.heap.size + 1] from q); omega); clear h3 g3 k3)
        | (go_at_call 59; (with_reducible refine (HOL.out _ HB4.out).mono ?_); rintro e w5 ⟨l, ls, rfl, hm, hd, hb5⟩; have HM5 := hid hm; have HD5 := hid hd; have HB5 := hid (below_t HB4.out hb5); have HO5 := hid (HO4.out.step hb5); obtain ⟨xl, cl, rfl⟩ := row_slice hm.row; have HOB := hid (obs_any _ ls w5 hm (fun x hx => HTD.out x.d (by rw [← hd]; exact List.mem_map_of_mem hx)) (by rw [hd]; have := HTO.out; omega)); rw [hd] at HOB; clear hm hd hb5 hc4))
      generalize opsB (ordE b (es.map EnV.d)) = r at HOB HSF HRR
      obtain ⟨er, bs⟩ := r
      dsimp only at HSF HRR
      with_reducible refine HOB.out.mono ?_
      rintro e w6 ⟨v6, rfl, ho6, -, hb6⟩
      dsimp only at ho6
      obtain ⟨x6, n6, c6, rfl⟩ := own_slice ho6
      have HR6 := hid ho6.reads
      have HB6 := hid (below_t HB5.out hb6)
      have HO6 := hid (HO5.out.step hb6)
      clear ho6 hb6 HOB
      by_cases he : er = 0
      · subst he
        have HR0 := hid (show R = (0, ai :: encZ cu ++ bs) from HRR.out.symm.trans (if_pos rfl))
        obtain ⟨N, hN⟩ : ∃ N, (ai :: encZ cu ++ bs).length = N := ⟨_, rfl⟩
        have HNN := hid hN
        clear hN
        go_wp2_with (first
          | (at_builtin; refine wpList_append_at rfl (.tmp 36) (.tmp 37) rfl (.slice y3 3 c3) (.slice x6 n6 c6) (ai :: encZ cu) bs _ N rfl rfl HO6.out HR6.out HSF.out rfl HNN.out ?_; intro y7 c7 w7 h7 g7 k7; have HF := hid (show BytD R w (.returned (.tuple #[.slice y7 N c7, .int .i64 0])) w7 by rw [HR0.out]; exact ⟨_, rfl, h7, new_grown HB6.out HN4.out k7, below_grown HB6.out g7 HN4.out⟩); clear h7 g7 k7))
        go_ret2
        exact HF.out
      · have e0 : (er == 0) = false := by simpa using he
        have e1 : (er != 0) = true := by simpa using he
        have HF := hid (show BytD R w (.returned (.tuple #[.slice none 0 0, .int .i64 er])) w6 by rw [← HRR.out, if_neg he]; exact byt_no er HB6.out)
        clear he
        go_wp2
        go_ret2
        exact HF.out
  · have e : bytE ⟨ai, true, cu, es.map EnV.d⟩ = (0, [ai]) := rfl
    rw [e]
    have HF := hid (show BytD (0, [ai]) w (.returned (.tuple #[.slice (some ⟨w.heap.size + 1, 0, none⟩) 1 1, .int .i64 0])) ((w.alloc (.cells #[.int .u8 ai, .bool true, .int .i64 cu, .slice xe n ce] 69)).alloc (.cells #[.int .u8 ai] 5)) from ⟨_, rfl, HL.out, HKL.out, HB2.out⟩)
    clear e
    go_enter Try.func27, Try.ntmps27
    go_wp2
    go_ret2
    exact HF.out
end Go.Proofs.Ytlhaefgchmakfaa
