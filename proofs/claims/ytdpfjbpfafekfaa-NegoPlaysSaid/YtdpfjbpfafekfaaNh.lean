/-
  A message of TN3270E, read of its bytes, whole.
-/
import Derived.Test.YtdpfjbpfafekfaaNg
namespace Go.Proofs.Ytdpfjbpfafekfaa
open Go.RowKit Go.Lib

set_option maxHeartbeats 2000000 in
set_option maxRecDepth 100000 in
theorem parse_any (x : Option Addr) (n c : Nat) (xs : List Int) (hn : n = xs.length) (hl : n ≤ 1000) (w : World) (h : RdG w (.slice x n c) xs) : Calls Try.prog 75 #[.slice x n c] w (MsgD (kindL xs) (xs.drop 2) (secondN (xs.drop 2)) (.slice (fromA x c 2) (n - 2) (c - 2)) w) := by
  unfold kindL
  by_cases h2 : n < 2
  · rw [if_pos (by omega)]
    clear h hn
    go_enter Try.func75, Try.ntmps75
    go_wp2
    exact bodyPost_ret (v := .agg #[.int .i64 0, .string ⟨#[]⟩, .slice none 0 0]) (by simp [results, Try.results75, go_sem]) rfl (msgD_plain (by decide) (by decide) (by decide) (bal (Below.refl _ _) _))
  · rw [if_neg (by omega)]
    have hne : xs ≠ [] := fun q => by subst q; simp at hn; omega
    have hx0 : x ≠ none := fun q => by subst q; have := h.none'; omega
    have hsl : ∀ w, (Instr.sliceAt 22 (.slice x n c) (some (.int .i64 2)) none none).run Try.prog w = .ok (.slice (fromA x c 2) (n - 2) (c - 2)) w := run_fromA x n c 2 (by omega) (fun q => absurd q hx0)
    have hR := h.from' hn 2 (by omega)
    have hnd : n - 2 = (xs.drop 2).length := by rw [List.length_drop, hn]
    obtain ⟨g, off, cap, e, h1, h3, h4⟩ := h.row hne
    cases e
    have c0 := h4 0 (by omega)
    have c1 := h4 1 (by omega)
    rw [Nat.add_zero] at c0
    have hg : g < w.heap.size := World.block_lt_of_cell? w _ c0
    have l1 : ¬ xs.length < 2 := by omega
    have i0 : (0 : Int) < xs.length := by omega
    have i1 : (1 : Int) < xs.length := by omega
    have j1 : 1 < xs.length := by omega
    have j0 : 0 < xs.length := by omega
    have HA := hid (hR.step (bal (Below.refl w.heap.size w) (.cells #[.int .i64 0, .string ⟨#[]⟩, .slice none 0 0] 138)))
    unfold kind2
    generalize xs.getD 0 0 = a at *
    generalize xs.getD 1 0 = b at *
    generalize fromA (some ⟨g, off, none⟩) c 2 = y at *
    have hl2 : xs.length - 2 ≤ 1000 := by omega
    have HND := hid hnd
    clear h h4 hR hne hx0 hnd h2 h1 h3
    generalize xs.length - 2 = m at *
    generalize xs.drop 2 = r at *
    generalize xs.length = N at *
    by_cases h8 : a = 8
    · subst h8
      rw [if_pos rfl]
      have H := hid (parseSend_any b y m (c - 2) r HND.out (secondN r) (w.alloc (.cells #[.int .i64 0, .string ⟨#[]⟩, .slice none 0 0] 138)))
      generalize kindS b r = K at *
      go_enter Try.func75, Try.ntmps75
      go_wp2_with fail
      with_reducible refine H.out.mono ?_
      rintro e w1 ⟨v, d', rfl, hb, hd, hv, x', n', c', rfl⟩
      obtain ⟨z0, z1, z2, y0, y1, y2, zb⟩ := res_block hb
      have HD := hid hd
      have HV := hid hv
      clear hb hd hv H
      go_wp2
      obtain ⟨q0, q1, q2, qb⟩ := put3_end z0 z1 z2 zb (Nat.le_refl _) (.int .i64 K) (.string d') ((.slice x' n' c'))
      revert q0 q1 q2 qb
      generalize hW : put3 w1 w.heap.size (.int .i64 K) (.string d') ((.slice x' n' c')) = Wf
      intro q0 q1 q2 qb
      unfold put3 at hW
      rw [hW]
      clear hW
      exact bodyPost_ret (v := .agg #[.int .i64 K, .string d', (.slice x' n' c')]) (by simp [results, Try.results75, go_sem, q0, q1, q2]) rfl (⟨_, _, rfl, qb, HD.out, HV.out, _, _, _, rfl⟩)
    · rw [if_neg h8]
      have h8' : (a == 8) = false := by simpa using h8
      clear h8
      by_cases h2 : a = 2
      · subst h2
        rw [if_pos rfl]
        have H := hid (parseDevice_any b y m (c - 2) r HND.out hl2 _ HA.out)
        generalize kindD b r = K at *
        go_enter Try.func75, Try.ntmps75
        go_wp2_with fail
        with_reducible refine H.out.mono ?_
        rintro e w1 ⟨v, d', rfl, hb, hd, hv, x', n', c', rfl⟩
        obtain ⟨z0, z1, z2, y0, y1, y2, zb⟩ := res_block hb
        have HD := hid hd
        have HV := hid hv
        clear hb hd hv H
        go_wp2
        obtain ⟨q0, q1, q2, qb⟩ := put3_end z0 z1 z2 zb (Nat.le_refl _) (.int .i64 K) (.string d') ((.slice x' n' c'))
        revert q0 q1 q2 qb
        generalize hW : put3 w1 w.heap.size (.int .i64 K) (.string d') ((.slice x' n' c')) = Wf
        intro q0 q1 q2 qb
        unfold put3 at hW
        rw [hW]
        clear hW
        exact bodyPost_ret (v := .agg #[.int .i64 K, .string d', (.slice x' n' c')]) (by simp [results, Try.results75, go_sem, q0, q1, q2]) rfl (⟨_, _, rfl, qb, HD.out, HV.out, _, _, _, rfl⟩)
      · rw [if_neg h2]
        have h2' : (a == 2) = false := by simpa using h2
        clear h2
        by_cases h3 : a = 3
        · subst h3
          rw [if_pos rfl]
          have H := hid (parseFunctions_any b y m (c - 2) r HND.out hl2 (secondN r) _ HA.out)
          generalize kindF b r = K at *
          go_enter Try.func75, Try.ntmps75
          go_wp2_with fail
          with_reducible refine H.out.mono ?_
          rintro e w1 ⟨v, d', rfl, hb, hd, hv, x', n', c', rfl⟩
          obtain ⟨z0, z1, z2, y0, y1, y2, zb⟩ := res_block hb
          have HD := hid hd
          have HV := hid hv
          clear hb hd hv H
          go_wp2
          obtain ⟨q0, q1, q2, qb⟩ := put3_end z0 z1 z2 zb (Nat.le_refl _) (.int .i64 K) (.string d') ((.slice x' n' c'))
          revert q0 q1 q2 qb
          generalize hW : put3 w1 w.heap.size (.int .i64 K) (.string d') ((.slice x' n' c')) = Wf
          intro q0 q1 q2 qb
          unfold put3 at hW
          rw [hW]
          clear hW
          exact bodyPost_ret (v := .agg #[.int .i64 K, .string d', (.slice x' n' c')]) (by simp [results, Try.results75, go_sem, q0, q1, q2]) rfl (⟨_, _, rfl, qb, HD.out, HV.out, _, _, _, rfl⟩)
        · rw [if_neg h3]
          have h3' : (a == 3) = false := by simpa using h3
          clear h3
          go_enter Try.func75, Try.ntmps75
          go_wp2
          exact bodyPost_ret (v := .agg #[.int .i64 0, .string ⟨#[]⟩, .slice none 0 0]) (by simp [results, Try.results75, go_sem]) rfl (msgD_plain (by decide) (by decide) (by decide) (bal (Below.refl _ _) _))
end Go.Proofs.Ytdpfjbpfafekfaa
