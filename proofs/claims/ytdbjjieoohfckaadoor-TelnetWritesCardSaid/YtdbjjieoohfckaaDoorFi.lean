/-
  Feed, NewReader, Waiting, Flip.
-/
import Derived.Test.YtdbjjieoohfckaaDoorFh
import Derived.Laws.BitsLemmas
namespace Go.Proofs.YtdbjjieoohfckaaDoor
open Go.RowKit Go.Lib

/-- Bytes, nil or not. -/
theorem reads_uni {w : World} {v : Value} {xs : List Int} (h : Reads w v xs) : ∃ x cap, v = .slice x xs.length cap ∧ ∀ i, i < xs.length → ∃ g off, x = some ⟨g, off, none⟩ ∧ w.cell? ⟨g, off + i, none⟩ = some (.int .u8 (xs.getD i 0)) := by
  rcases h.2 with ⟨rfl, rfl⟩ | ⟨a, cap, rfl, h1, h2, h3⟩
  · exact ⟨none, 0, rfl, fun i hi => absurd hi (Nat.not_lt_zero i)⟩
  · refine ⟨some a, cap, rfl, fun i hi => ?_⟩
    have c := h3 i hi
    have c0 := h3 0 (by omega)
    obtain ⟨g, off, spot⟩ := a
    obtain rfl : spot = none := by simpa [Addr.add] using World.cell?_spot c0
    rw [addr_add] at c
    exact ⟨g, off, rfl, c⟩
/-- What Feed leaves. -/
def FeedPost (R : Nat) (d : Value) (st : St) (ps : List Int) (w : World) (e : Ending) (w' : World) : Prop :=
  ∃ v xs d', e = .returned v ∧ Own3 w' R d' (runS st ps) v xs ∧ xs.map (·.1) = mergeL (emit st ps) ∧ Moved w w' (R :: blkV d) (foot R d' v xs)
theorem take_snocI (ps : List Int) (k : Nat) (h : k < ps.length) : ps.take (k + 1) = ps.take k ++ [ps.getD k 0] := by
  rw [List.take_succ_eq_append_getElem h, List.getD, List.getElem?_eq_getElem h]
  rfl
theorem merge_step (st : St) (ps : List Int) (k : Nat) (h : k < ps.length) : mergeL (emit st (ps.take (k + 1))) = (stepS (runS st (ps.take k)) (ps.getD k 0)).2.foldl mstep (mergeL (emit st (ps.take k))) := by
  rw [take_snocI ps k h, emit_snoc, mergeL_append]
theorem run_step (st : St) (ps : List Int) (k : Nat) (h : k < ps.length) : runS st (ps.take (k + 1)) = (stepS (runS st (ps.take k)) (ps.getD k 0)).1 := by
  rw [take_snocI ps k h, runS_snoc]
theorem wt_bound (st : St) (ps : List Int) (k : Nat) (h1 : st.wt ≤ 30000) (h2 : ps.length ≤ 8000) : wt (mergeL (emit st (ps.take k))) ≤ 60000 := by
  have a := wt_merge (emit st (ps.take k))
  have b := wt_emit st (ps.take k)
  have c : (ps.take k).length ≤ 8000 := by rw [List.length_take]; omega
  omega
theorem xs_bound {xs : List (Ev × Value)} {es : List Ev} (h : xs.map (·.1) = es) {n : Nat} (hn : wt es ≤ n) : xs.length ≤ n ∧ ∀ x ∈ xs, x.1.data.length ≤ n := by
  subst h
  have a := wt_length (xs.map (·.1))
  rw [List.length_map] at a
  exact ⟨by omega, fun x hx => by have := wt_mem (l := xs.map (·.1)) (List.mem_map.2 ⟨x, hx, rfl⟩); omega⟩
set_option maxRecDepth 100000 in
set_option maxHeartbeats 2000000 in
theorem feed_any (R : Nat) (d p : Value) (st : St) (ps : List Int) (w : World) (hr : RIn w R d st) (ho : R ∉ blkV d) (hp : Reads w p ps) (hap : ∀ k ∈ blkV p, k ∉ R :: blkV d) (hst : st.wt ≤ 30000) (hps : ps.length ≤ 8000) :
    Calls Tryd.prog 17 #[.pointer (some ⟨R, 0, none⟩), p] w (FeedPost R d st ps w) := by
  have HPB := hid hp.1
  obtain ⟨x, cap, rfl, hc⟩ := reads_uni hp
  have HC := hid hc
  have HAP := hid hap
  have HMS := hid (merge_step st ps)
  have HRS := hid (run_step st ps)
  have HWT := hid (fun k => wt_bound st ps k hst hps)
  have HEND := hid (show ps.take ps.length = ps from List.take_length)
  have HRN := hid hr
  have HON := hid ho
  obtain ⟨n, hn⟩ : ∃ n, n = ps.length := ⟨_, rfl⟩
  have HLN := hid hn
  rw [← hn] at HC HMS HRS HEND hps HAP ⊢
  clear hp hc hap hr ho hn
  go_enter Tryd.func17, Tryd.ntmps17
  go_wp2
  go_loopw [5, 12] (fun l i w' => ∃ (k : Nat) (xs : List (Ev × Value)) (d' : Value), k ≤ n ∧ i = .int .i64 k ∧ Hid (Own3 w' R d' (runS st (ps.take k)) l xs) ∧ Hid (xs.map (·.1) = mergeL (emit st (ps.take k))) ∧ Hid (Moved w w' (R :: blkV d) (foot R d' l xs))) (fun _ i _ => n - (intOf i).toNat)
  case atStart =>
    refine ⟨0, [], d, Nat.zero_le _, rfl, ⟨HRN.out, OwnL.nil w, (fun k hk q => by cases q), HON.out⟩, rfl, ?_⟩
    show Moved w w (R :: blkV d) ((R :: blkV d) ++ [])
    rw [List.append_nil]
    exact Moved.refl _ _
  case round =>
    obtain ⟨k, xs, d', hk, rfl, HO, HX, HM⟩ := hrel
    by_cases hlt : k < n
    · obtain ⟨g, off, rfl, c⟩ := HC.out k hlt
      have hgb := HAP.out g (by simp [blkV, Value.ownBlock])
      have cb := (World.cell?_of_block (HM.out.block g (World.block_lt_of_cell? w _ c) hgb)).trans c
      have hbb : 0 ≤ ps.getD k 0 ∧ ps.getD k 0 < 256 := by
        rw [List.getD, List.getElem?_eq_getElem (by rw [← HLN.out]; exact hlt)]
        exact HPB.out _ (List.getElem_mem _)
      have hxb := xs_bound HX.out (HWT.out k)
      have HT := hid (take_any R (ps.getD k 0) d' u5 xs wr _ HO.out hbb (by omega) (fun y hy => by have := hxb.2 y hy; omega))
      have HS1 := hid (HMS.out k hlt)
      have HS2 := hid (HRS.out k hlt)
      have hki : (k : Int) < n := by omega
      generalize ps.getD k 0 = b at cb HT HS1 HS2
      clear c hgb hbb hxb
      go_wp2_with fail
      refine HT.out.mono ?_
      rintro e w2 ⟨v2, xs2, d2, rfl, h1, h2, h3⟩
      have H1 := hid h1
      have H2 := hid h2
      have H3 := hid h3
      clear h1 h2 h3
      go_wp2
      go_roundw
      case rel =>
        refine ⟨k + 1, xs2, d2, by omega, by go_num, ?_, ?_, HM.out.trans H3.out⟩
        · show Own3 _ _ _ _ _ _
          rw [HS2.out]
          exact H1.out
        · show _ = _
          rw [HS1.out, ← HX.out]
          exact H2.out
      case measure => simp [intOf]; omega
    · have hkn : k = n := by omega
      have HP : Hid (FeedPost R d st ps w (.returned u5) wr) := by
        have q1 := HO.out
        have q2 := HX.out
        rw [hkn, HEND.out] at q1 q2
        exact ⟨_, xs, d', rfl, q1, q2, HM.out⟩
      clear hkn
      go_wp2
      go_ret
      exact HP.out
theorem feed_nil (p : Value) (w : World) : Calls Tryd.prog 17 #[.pointer none, p] w fun e w' => e = .returned (.slice none 0 0) ∧ w = w' := by
  go_enter Tryd.func17, Tryd.ntmps17
  go_wp2
  go_ret
  exact ⟨rfl, rfl⟩
theorem newReader_any (w : World) : Calls Tryd.prog 16 #[] w fun e w' => e = .returned (.pointer (some ⟨w.heap.size, 0, none⟩)) ∧ RIn w' w.heap.size (.slice none 0 0) .between ∧ Below w.heap.size w w' := by
  go_enter Tryd.func16, Tryd.ntmps16
  go_wp2
  go_ret
  exact ⟨rfl, ⟨0, heap_alloc_new w _, rfl⟩, (Below.refl _ _).alloc (Nat.le_refl _) _⟩
theorem waiting_any (R : Nat) (d : Value) (st : St) (w : World) (h : RIn w R d st) : Calls Tryd.prog 23 #[.pointer (some ⟨R, 0, none⟩)] w fun e w' => e = .returned (.bool st.waits) ∧ w = w' := by
  obtain ⟨pl, c0, hpl⟩ : ∃ pl, w.cell? ⟨R, 0, none⟩ = some (.int .i64 pl) ∧ (pl != 0) = st.waits := by
    cases st
    · obtain ⟨vb, hr, _⟩ := h; exact ⟨_, hr.c0, rfl⟩
    · obtain ⟨vb, hr, _⟩ := h; exact ⟨_, hr.c0, rfl⟩
    · exact ⟨_, h.1.c0, rfl⟩
    · obtain ⟨vb, hr, _⟩ := h; exact ⟨_, hr.c0, rfl⟩
    · obtain ⟨vb, hr, _⟩ := h; exact ⟨_, hr.c0, rfl⟩
    · obtain ⟨vb, hr, _⟩ := h; exact ⟨_, hr.c0, rfl⟩
  clear h
  cases hw : st.waits
  all_goals
    rw [hw] at hpl
    clear hw
    go_enter Tryd.func23, Tryd.ntmps23
    go_wp2
    go_ret
    exact ⟨rfl, rfl⟩
theorem waiting_nil (w : World) : Calls Tryd.prog 23 #[.pointer none] w fun e w' => e = .returned (.bool false) ∧ w = w' := by
  go_enter Tryd.func23, Tryd.ntmps23
  go_wp2
  go_ret
  exact ⟨rfl, rfl⟩
end Go.Proofs.YtdbjjieoohfckaaDoor
