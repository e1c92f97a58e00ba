/-
  The reference's Text.
-/
import Derived.Test.YtpehhinpohmpiaaEa
namespace Go.Proofs.Ytpehhinpohmpiaa
open Go.RowKit Go.Lib Go.Deep

theorem plL_mem {P : Nat → Bool} {N a x : Nat} (hN : 0 < N) (hx : x ∈ plL P N a) : x < N := by
  obtain ⟨k, hk, rfl⟩ := List.mem_iff_getElem.1 hx
  by_cases hp : P a = true
  · have e : plL P N a = plF P N a (N - 1) 0 := by unfold plL; rw [if_pos hp]
    have hk2 : k < (plF P N a (N - 1) 0).length := by rw [← e]; exact hk
    have q := (plF_get P N a (N - 1) 0 k hk2).1
    rw [← e, List.getElem?_eq_getElem hk] at q
    injection q with q
    rw [q]
    exact Nat.mod_lt _ hN
  · have e : plL P N a = [] := by unfold plL; rw [if_neg hp]
    rw [e] at hk
    exact absurd hk (Nat.not_lt_zero _)
section
variable {b g : Nat} {s : Spc}
set_option maxRecDepth 100000 in
set_option maxHeartbeats 8000000 in
theorem rtext_any (n : Int) (hn : I64 n) (w : World) (h : RfM w b g s) : Calls Try.prog 30 #[.pointer (some ⟨b, 0, none⟩), .int .i64 n] w (ListD 5 1 (txV s (plL s.P s.L.length (s.wr n))) (plL s.P s.L.length (s.wr n)).length w) := by
  obtain ⟨i0, hi, hz0, hz1, hz2⟩ := info_parts info8
  have hN := h.ok.pos
  have HRP := hid (fun W h => rplaces_any (b := b) (g := g) (s := s) n hn W h)
  have hKB : (plL s.P s.L.length (s.wr n)).length ≤ 4000 := by have := plL_len s.P s.L.length (s.wr n); omega
  have HMB := hid (fun x (hx : x ∈ plL s.P s.L.length (s.wr n)) => plL_mem hN.1 hx)
  have HX := hid (fun W (hW : RfM W b g s) x (hx : x < s.L.length) => (show W.cell? ⟨b, 4, none⟩ = some (.slice (some ⟨g, 0, none⟩) s.L.length s.L.length) ∧ W.cell? ⟨g, x * 6, none⟩ = some (.int .u8 (s.cel x).ch) ∧ b < W.heap.size from ⟨hW.h4, (hW.row.six x hx _ rfl).1, hW.lt.1⟩))
  have HH := hid h
  generalize plL s.P s.L.length (s.wr n) = pl at HRP hKB HMB ⊢
  obtain ⟨N, hNe⟩ : ∃ N, s.L.length = N := ⟨_, rfl⟩
  rw [hNe] at hN HMB HX
  obtain ⟨NA, hNA⟩ : ∃ NA : Nat, pl.length = NA := ⟨_, rfl⟩
  have HAE := hid (show (pl.map Int.ofNat).length = NA ∧ pl.length = NA from ⟨by rw [List.length_map]; exact hNA, hNA⟩)
  rw [hNA] at HRP hKB ⊢
  clear h hNA hNe hn
  go_enter Try.func30, Try.ntmps30
  go_wp2_with fail
  with_reducible refine (HRP.out _ HH.out).mono ?_
  rintro e w1 ⟨v1, rfl, ho1, hk1, hb1⟩
  have hoc := ints_cells (xs := pl.map Int.ofNat) (by rw [HAE.out.1]; exact ho1)
  rw [HAE.out.1] at hoc
  obtain ⟨y1, c1, rfl⟩ := row_any ho1
  have HOC := hid (show ∀ W, Below w1.heap.size w1 W → ∀ k, k < NA → ∃ gg, y1 = some ⟨gg, 0, none⟩ ∧ W.cell? ⟨gg, k, none⟩ = some (.int .i64 (pl.getD k 0 : Nat)) from fun W hW k hk => by
    rcases hoc with ⟨x, c, e, hx⟩ | ⟨gg, c, e, hc⟩
    · have : NA = 0 := by rw [← HAE.out.1, hx]; rfl
      omega
    · injection e with e1
      refine ⟨gg, e1, ?_⟩
      have q := hc k hk
      rw [Nat.zero_add] at q
      refine (keepc hW q).trans ?_
      rw [List.getD_eq_getElem?_getD, List.getElem?_map, List.getD_eq_getElem?_getD, List.getElem?_eq_getElem (by rw [HAE.out.2]; exact hk)]
      rfl)
  have HB1 := hid hb1
  clear ho1 hk1 hb1 hoc
  go_wp2_with fail
  go_loopw [5, 12] (fun o i W => ∃ k : Nat, k ≤ NA ∧ i = .int .i64 k ∧ Hid (W.ownsRow 0 5 1 o k (txV s (pl.take k))) ∧ Hid (∀ q ∈ blkV o, w1.heap.size ≤ q) ∧ Hid (Below w1.heap.size w1 W)) (fun _ i _ => NA - (intOf i).toNat)
  case atStart => exact ⟨0, by omega, rfl, World.ownsRow_nil _ _ _ _, fun q hq => (by cases hq), Below.refl _ _⟩
  case round =>
    obtain ⟨k, hk, rfl, HR, HBk, HB⟩ := hrel
    obtain ⟨y, cc, rfl⟩ := row_any HR.out
    by_cases hkN : k < NA
    · have hki : (k : Int) < NA := by omega
      obtain ⟨gg, rfl, hc⟩ := HOC.out _ HB.out k hkN
      have hlc := World.block_lt_of_cell? wr _ hc
      have hget : pl[k]? = some (pl.getD k 0) := by rw [List.getD_eq_getElem?_getD, List.getElem?_eq_getElem (by rw [HAE.out.2]; exact hkN)]; rfl
      have hxN := HMB.out _ (List.mem_of_getElem? hget)
      have HTS := hid (txV_one (s := s) hget)
      generalize pl.getD k 0 = x at hc hxN HTS
      have hxi : (x : Int) < N := by omega
      obtain ⟨h4, hcx, hlb⟩ := HX.out _ (HH.out.below (below_t HB1.out HB.out)) x hxN
      have hlg := World.block_lt_of_cell? wr _ hcx
      generalize (s.cel x).ch = ch at HTS hcx
      clear hget
      go_wp2_with (first | (at_builtin; refine wpList_append_blk _ rfl _ _ 60 rfl 5 i0 _ 1 1 Try.underlying60 hi hz0 hz1 hz2 rfl (by decide) _ _ _ rfl (HR.out.alloc _) ⟨wr.heap.size, 0, none⟩ 1 1 [.int .u8 ch] rfl rfl (one_new _ _ _ _ (by simp)) (by simp [Value.oneCell']) (by unfold maxLen; omega) (by omega) ?_; intro v' W1 hown' hgrow _ hb'; obtain ⟨g', cap', rfl⟩ := row_any hown'; have H1 := hid hown'; have H2 := hid hgrow; have H3 := hid hb'; clear hown' hgrow hb') | fail)
      go_roundw
      case rel =>
        refine ⟨k + 1, by omega, by go_num, ?_, fun q hq => ?_, ?_⟩
        · rw [HTS.out]
          exact H1.out
        · rcases H3.out q hq with h | h
          · exact HBk.out q h
          · have := HB.out.size
            simp at h
            omega
        · exact (HB.out.al (Nat.le_refl _) _).grown H2.out (by have := HB.out.size; simp; omega) (fun q e => HBk.out q (mem_blkV.2 e))
      case measure => simp [intOf]; omega
    · obtain rfl : k = NA := by omega
      go_wp2
      go_ret
      refine ⟨_, rfl, ?_, fun q hq => Nat.le_trans HB1.out.size (HBk.out q hq), below_t HB1.out HB.out⟩
      have q := HR.out
      rwa [List.take_of_length_le (by rw [HAE.out.2]; exact Nat.le_refl _)] at q
end
end Go.Proofs.Ytpehhinpohmpiaa
