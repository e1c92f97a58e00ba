/-
  The law's escape, own.
-/
import Derived.Test.YtaanpnmgibcemaaGreatDoorVN
namespace Go.Proofs.YtaanpnmgibcemaaGreatDoor
open Go.RowKit Go.Lib Go.Deep

theorem esc_succ (xs : List Int) (k : Nat) (hk : k < xs.length) : Tn.escI (xs.take (k + 1)) = Tn.escI (xs.take k) ++ (if xs.getD k 0 = 255 then [xs.getD k 0] ++ [xs.getD k 0] else [xs.getD k 0]) := by
  rw [List.take_add_one, Tn.escI_append, List.getD_eq_getElem?_getD, List.getElem?_eq_getElem hk]
  simp only [Option.toList_some, Option.getD_some, Tn.escI]
  split
  · rename_i h; rw [h]; rfl
  · rfl
theorem esc_len (xs : List Int) : (Tn.escI xs).length ≤ 2 * xs.length := by
  induction xs with
  | nil => exact Nat.le_refl _
  | cons b l ih =>
    simp only [Tn.escI]
    split <;> simp <;> omega
section
variable {w : World}
set_option maxRecDepth 100000 in
theorem own_ev_any (x : Evt) (da : Option Addr) (dn dc : Nat) : Calls Tryz.prog 24 #[evV x (.slice da dn dc)] w fun e w' => e = .returned (evV x (.slice da dn dc)) ∧ Below w.heap.size w w' := by
  obtain ⟨xk, xd, ⟨ht, hr, hs, hq⟩, xh⟩ := x
  unfold evV
  dsimp only
  go_enter Tryz.func24, Tryz.ntmps24
  go_wp2
  exact bodyPost_ret (v := .agg #[.int .i64 xk, .slice da dn dc, .int .u8 ht, .int .u8 hr, .int .u8 hs, .int .u16 hq, .bool xh]) (by simp [results, Tryz.results24, go_sem]) rfl ⟨rfl, bal (bal (Below.refl _ _) _) _⟩
set_option maxRecDepth 100000 in
set_option maxHeartbeats 4000000 in
theorem escape_any (v : Value) (xs : List Int) (h : Reads w v xs) (hl : xs.length ≤ 100000) : Calls Tryz.prog 22 #[v] w (OwnDone (Tn.escI xs) w) := by
  obtain ⟨N, hN⟩ : ∃ N, xs.length = N := ⟨_, rfl⟩
  have HB := h.1
  obtain ⟨x0, n, c, rfl⟩ := Tn.reads_any_slice h
  have hn : n = xs.length := reads_len h
  have hNn : n = N := by omega
  subst hNn
  have HC : Hid (∀ i, i < xs.length → ∃ g off, x0 = some ⟨g, off, none⟩ ∧ w.cell? ⟨g, off + i, none⟩ = some (.int .u8 (xs.getD i 0))) := by
    show ∀ i, _
    intro i hi
    rcases reads_cases h with ⟨x, c, e, hx⟩ | ⟨g, o, n, c, e, _, _, hc⟩
    · rw [hx] at hi
      exact absurd hi (Nat.not_lt_zero i)
    · simp only [Value.slice.injEq] at e
      exact ⟨g, o, e.1, hc i hi⟩
  · have HBB := hid HB
    have HN := hid hN
    have HES := hid (esc_succ xs)
    have hEL := hid (show ∀ k, (Tn.escI (xs.take k)).length ≤ 200000 from fun k => by
      have := esc_len (xs.take k)
      rw [List.length_take] at this
      omega)
    have hND : n ≤ 100000 := by omega
    clear h HB hn hN
    go_enter Tryz.func22, Tryz.ntmps22
    go_wp2_with fail
    go_loopw [3, 8] (fun o i W => ∃ k : Nat, k ≤ n ∧ i = .int .i64 k ∧ Hid (OwnB W o (Tn.escI (xs.take k))) ∧ Hid (∀ b ∈ blkV o, w.heap.size ≤ b) ∧ Hid (Below w.heap.size w W)) (fun _ i _ => n - (RowKit.intOf i).toNat)
    case atStart => exact ⟨0, by omega, rfl, OwnB.nil _, fun b q => (by cases q), Below.refl _ _⟩
    case round =>
      obtain ⟨k, hk, rfl, HO, HK, HBW⟩ := hrel
      by_cases hkn : k < n
      · have hki : (k : Int) < n := by omega
        have hkx : k < xs.length := by rw [HN.out]; exact hkn
        obtain ⟨g, off, rfl, hcw0⟩ := HC.out k hkx
        have hcw := keepc HBW.out hcw0
        clear hcw0
        have hgl := World.block_lt_of_cell? wr _ hcw
        have hes := HES.out k hkx
        have hxb := HBB.out (xs.getD k 0) (by rw [List.getD_eq_getElem?_getD, List.getElem?_eq_getElem hkx]; exact List.getElem_mem hkx)
        have hla := hEL.out k
        generalize xs.getD k 0 = x at hcw hes hxb
        generalize Tn.escI (xs.take k) = A at HO hes hla
        generalize hA' : Tn.escI (xs.take (k + 1)) = A' at hes
        have HA' := hid hA'
        have HES1 := hid hes
        have HLA := hid hla
        obtain ⟨ox, on, oc, hov⟩ := own_slice HO.out
        subst hov
        have HX1 := hid (own_lit wr #[.int .u8 x] 1 [x] (fun y hy => by simp at hy; subst hy; exact hxb) rfl rfl (by omega) _ rfl)
        have HO1 := hid (HO.out.step (bal (Below.refl wr.heap.size wr) (.cells #[.int .u8 x] 5)))
        have HB1 := hid (bal HBW.out (.cells #[.int .u8 x] 5))
        have HXB := hid hxb
        clear hes hA' hla
        by_cases h255 : x = 255
        · subst h255
          go_wp2_with (first
            | (at_builtin; go_loud (refine wpList_append_ob rfl _ _ rfl _ _ (A ++ [255]) [255] rfl HO3.out (by first | rfl | simp [go_sem]) HX3.out.reads (by have := HLA.out; simp; omega) ?_; intro x' n' c' w4 ho' hn' hm'; have HO4 := hid ho'; have HM4 := hid hm'; clear ho' hn' hm'))
            | (at_builtin; go_loud (refine wpList_append_ob rfl _ _ rfl _ _ A [255] rfl HO1.out (by first | rfl | simp [go_sem]) HX1.out.reads (by have := HLA.out; simp; omega) ?_; intro x' n' c' w2 ho' hn' hm'; have HO2 := hid ho'; have HM2 := hid hm'; have HB2 := hid (HB1.out.trans (hm'.toBelow HB1.out.size HK.out)); have HK2 := hid (show ∀ b ∈ blkV (.slice x' n' c'), w.heap.size ≤ b from fun b q => (by rcases hm'.from' b q with r | r; exact HK.out b r; exact Nat.le_trans HB1.out.size r)); have HX3 := hid (own_lit w2 #[.int .u8 255] 1 [255] (fun y hy => by simp at hy; subst hy; exact HXB.out) rfl rfl (by omega) _ rfl); have HO3 := hid (ho'.step (bal (Below.refl w2.heap.size w2) (.cells #[.int .u8 255] 5))); clear ho' hn' hm'))
            | fail)
          go_roundw
          case rel =>
            refine ⟨k + 1, by omega, by go_num, ?_, ?_, ?_⟩
            · show OwnB _ _ _
              rw [HA'.out, HES1.out, if_pos rfl, ← List.append_assoc]
              exact HO4.out
            · show ∀ b ∈ _, _
              intro b q
              rcases HM4.out.from' b q with r | r
              · exact HK2.out b r
              · exact Nat.le_trans HB2.out.size (Nat.le_trans (bal (Below.refl w2.heap.size w2) (.cells #[.int .u8 255] 5)).size r)
            · exact (bal HB2.out _).trans (HM4.out.toBelow (bal HB2.out _).size HK2.out)
          case measure => simp [RowKit.intOf]; omega
        · have h2 : (x == 255) = false := by simpa using h255
          go_wp2_with (first
            | (at_builtin; go_loud (refine wpList_append_ob rfl _ _ rfl _ _ A [x] rfl HO1.out (by first | rfl | simp [go_sem]) HX1.out.reads (by have := HLA.out; simp; omega) ?_; intro x' n' c' w2 ho' hn' hm'; have HO2 := hid ho'; have HM2 := hid hm'; have HB2 := hid (HB1.out.trans (hm'.toBelow HB1.out.size HK.out)); clear ho' hn' hm'))
            | fail)
          go_roundw
          case rel =>
            refine ⟨k + 1, by omega, by go_num, ?_, ?_, ?_⟩
            · show OwnB _ _ _
              rw [HA'.out, HES1.out, if_neg h255]
              exact HO2.out
            · show ∀ b ∈ _, _
              intro b q
              rcases HM2.out.from' b q with r | r
              · exact HK.out b r
              · exact Nat.le_trans HB1.out.size r
            · exact HB2.out
          case measure => simp [RowKit.intOf]; omega
      · obtain rfl : k = n := by omega
        have hxs : xs.take k = xs := List.take_of_length_le (by rw [HN.out]; exact Nat.le_refl _)
        rw [hxs] at HO
        obtain ⟨ox, on, oc, hov⟩ := own_slice HO.out
        subst hov
        go_wp2
        go_ret
        exact ⟨_, rfl, HO.out, HBW.out, HK.out⟩
end
end Go.Proofs.YtaanpnmgibcemaaGreatDoor
