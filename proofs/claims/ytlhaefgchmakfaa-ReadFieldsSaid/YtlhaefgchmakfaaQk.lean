/-
  The reference's short AIDs; its character in mode 0; one cell's bytes.
-/
import Derived.Test.YtlhaefgchmakfaaQh
import Derived.Test.YtlhaefgchmakfaaPq
import Derived.Test.YtlhaefgchmakfaaPp
namespace Go.Proofs.Ytlhaefgchmakfaa
open Go.RowKit Go.Lib Go.Deep

set_option maxRecDepth 100000 in
theorem rshort_any (a : Int) (w : World) : Calls Try.prog 11 #[.int .u8 a] w fun e w' => e = .returned (.bool (shZ a)) ∧ w = w' := by
  by_cases h1 : a = 108
  · subst h1
    go_enter Try.func11, Try.ntmps11
    go_wp2_with fail
    go_ret
    exact ⟨rfl, rfl⟩
  · have e1 : (a == 108) = false := by simpa using h1
    by_cases h2 : a = 110
    · subst h2
      go_enter Try.func11, Try.ntmps11
      go_wp2_with fail
      go_ret
      exact ⟨rfl, rfl⟩
    · have e2 : (a == 110) = false := by simpa using h2
      by_cases h3 : a = 107
      · subst h3
        go_enter Try.func11, Try.ntmps11
        go_wp2_with fail
        go_ret
        exact ⟨rfl, rfl⟩
      · have e3 : (a == 107) = false := by simpa using h3
        have hE : shZ a = (a == 109) := by unfold shZ; rw [e1, e2, e3]; simp
        rw [hE]
        clear hE h1 h2 h3
        generalize hz : (a == 109) = z
        go_enter Try.func11, Try.ntmps11
        go_wp2_with fail
        go_ret
        exact ⟨rfl, rfl⟩
/-- These bytes, in new memory. -/
def BtD (bs : List Int) (w : World) (e : Ending) (w' : World) : Prop := ∃ v, e = .returned v ∧ OwnB w' v bs ∧ (∀ k ∈ blkV v, w.heap.size ≤ k) ∧ Below w.heap.size w w'
set_option maxRecDepth 100000 in
set_option maxHeartbeats 4000000 in
theorem rchar_any (c l : Cel) (hc : c.OK) (w : World) : Calls Try.prog 46 #[c.v, l.v, .int .i64 0] w (BtD (chrB c) w) := by
  obtain ⟨ch, at_, fa, hi, co, se⟩ := c
  obtain ⟨lch, lat, lfa, lhi, lco, lse⟩ := l
  have hu := hc.ch
  have HIS := hid (fun W => (show Calls Try.prog 60 #[.int .u8 ch] W fun e w' => e = .returned (.bool (isO ch)) ∧ Below W.heap.size W w' from by
    obtain ⟨n, rfl⟩ : ∃ n : Nat, ch = n := ⟨ch.toNat, (Int.toNat_of_nonneg hu.1).symm⟩
    exact ris_any n (by have := hu.2; dsimp only at this; omega) W))
  clear hc
  show Calls Try.prog 46 #[.agg #[.int .u8 ch, .bool at_, .int .u8 fa, .int .u8 hi, .int .u8 co, .int .u8 se], .agg #[.int .u8 lch, .bool lat, .int .u8 lfa, .int .u8 lhi, .int .u8 lco, .int .u8 lse], .int .i64 0] w _
  by_cases hse : se = 241
  · subst hse
    cases hio : isO ch
    · rw [hio] at HIS
      have hE : chrB ⟨ch, at_, fa, hi, co, 241⟩ = [8, ch] := by unfold chrB; rw [hio]; simp
      rw [hE]
      clear hE hio
      have HB2 := hid (show Below w.heap.size w ((w.alloc (.cells #[.int .u8 ch, .bool at_, .int .u8 fa, .int .u8 hi, .int .u8 co, .int .u8 241] 48)).alloc (.cells #[.int .u8 lch, .bool lat, .int .u8 lfa, .int .u8 lhi, .int .u8 lco, .int .u8 lse] 48)) from bal (bal (Below.refl _ _) _) _)
      have hz2 : (((w.alloc (.cells #[.int .u8 ch, .bool at_, .int .u8 fa, .int .u8 hi, .int .u8 co, .int .u8 241] 48)).alloc (.cells #[.int .u8 lch, .bool lat, .int .u8 lfa, .int .u8 lhi, .int .u8 lco, .int .u8 lse] 48))).heap.size = w.heap.size + 2 := by simp
      have HIW := hid (fun V (hV : Below w.heap.size w V) => (HIS.out V).mono fun e w' (q : e = _ ∧ Below V.heap.size V w') => (show e = _ ∧ Below V.heap.size V w' ∧ Below w.heap.size w w' from ⟨q.1, q.2, below_t hV q.2⟩))
      have HB3 := hid (bal HB2.out (.cells #[.int .u8 8] 5))
      have HU3 := hid (own_byte0 (((w.alloc (.cells #[.int .u8 ch, .bool at_, .int .u8 fa, .int .u8 hi, .int .u8 co, .int .u8 241] 48)).alloc (.cells #[.int .u8 lch, .bool lat, .int .u8 lfa, .int .u8 lhi, .int .u8 lco, .int .u8 lse] 48))) 8 (by decide)).reads
      rw [hz2] at HU3
      have HBX3 := hid (show ((((w.alloc (.cells #[.int .u8 ch, .bool at_, .int .u8 fa, .int .u8 hi, .int .u8 co, .int .u8 241] 48)).alloc (.cells #[.int .u8 lch, .bool lat, .int .u8 lfa, .int .u8 lhi, .int .u8 lco, .int .u8 lse] 48))).alloc (.cells #[.int .u8 8] 5)).cell? ⟨w.heap.size, 0, none⟩ = some (.int .u8 ch) by simp [go_sem])
      have HN3 := hid (OwnB.nil ((((w.alloc (.cells #[.int .u8 ch, .bool at_, .int .u8 fa, .int .u8 hi, .int .u8 co, .int .u8 241] 48)).alloc (.cells #[.int .u8 lch, .bool lat, .int .u8 lfa, .int .u8 lhi, .int .u8 lco, .int .u8 lse] 48))).alloc (.cells #[.int .u8 8] 5)))
      clear hz2
      go_enter Try.func46, Try.ntmps46
      go_wp2_with (first
        | (at_builtin; refine wpList_append_big rfl (.tmp 31) (.tmp 32) rfl (.slice none 0 0) (.slice (some ⟨w.heap.size + 2, 0, none⟩) 1 1) [] [8] [8] 1 rfl rfl HN3.out HU3.out (by decide) rfl rfl ?_; intro y3 c3 w3 h3 g3 k3; have HO3 := hid h3; have HG3 := hid (And.intro (below_grown HB3.out g3 (fun k hk => (by cases hk))) (new_grown HB3.out (fun k hk => (by cases hk)) k3)); have hm3 := Moved.grown g3 (S := []) (S' := blkV (.slice y3 1 c3)) (fun k hk => by cases hk) (fun k hk => (k3 k hk).elim (fun e => by cases e) .inr); have hbx3 := cell_moved hm3 HBX3.out (fun e => by cases e); clear h3 g3 k3 hm3)
        | (go_at_call 60; (with_reducible refine (HIW.out _ HG3.out.1).mono ?_); rintro e w5 ⟨rfl, hb5, hbw5⟩; have HB5 := hid hbw5; have hbx5 := keepc hb5 hbx3; have HO5 := hid (HO3.out.moved (Moved.below hb5 []) (fun _ _ q => by cases q)); have HB6 := hid (bal hbw5 (.cells #[.int .u8 ch] 5)); have HU6 := hid (own_byte0 w5 ch hu).reads; have HO6 := hid (HO5.out.moved (Moved.alloc w5 (.cells #[.int .u8 ch] 5) []) (fun _ _ q => by cases q)); have HV5 := hid HG3.out.2; clear hb5 hbw5)
        | (at_builtin; refine wpList_append_big rfl (.tmp 40) (.tmp 43) rfl (.slice y3 1 c3) (.slice (some ⟨w5.heap.size, 0, none⟩) 1 1) [8] [ch] [8, ch] 2 rfl rfl HO6.out HU6.out (by simp) rfl rfl ?_; intro y7 c7 w7 h7 g7 k7; have HO7 := hid h7; have HG7 := hid (And.intro (below_grown HB6.out g7 HV5.out) (new_grown HB6.out HV5.out k7)); clear h7 g7 k7))
      go_ret
      exact ⟨_, rfl, HO7.out, HG7.out.2, HG7.out.1⟩
    · rw [hio] at HIS
      have hE : chrB ⟨ch, at_, fa, hi, co, 241⟩ = [8, 63] := by unfold chrB; rw [hio]; simp
      rw [hE]
      clear hE hio
      have HB2 := hid (show Below w.heap.size w ((w.alloc (.cells #[.int .u8 ch, .bool at_, .int .u8 fa, .int .u8 hi, .int .u8 co, .int .u8 241] 48)).alloc (.cells #[.int .u8 lch, .bool lat, .int .u8 lfa, .int .u8 lhi, .int .u8 lco, .int .u8 lse] 48)) from bal (bal (Below.refl _ _) _) _)
      have hz2 : (((w.alloc (.cells #[.int .u8 ch, .bool at_, .int .u8 fa, .int .u8 hi, .int .u8 co, .int .u8 241] 48)).alloc (.cells #[.int .u8 lch, .bool lat, .int .u8 lfa, .int .u8 lhi, .int .u8 lco, .int .u8 lse] 48))).heap.size = w.heap.size + 2 := by simp
      have HIW := hid (fun V (hV : Below w.heap.size w V) => (HIS.out V).mono fun e w' (q : e = _ ∧ Below V.heap.size V w') => (show e = _ ∧ Below V.heap.size V w' ∧ Below w.heap.size w w' from ⟨q.1, q.2, below_t hV q.2⟩))
      have HB3 := hid (bal HB2.out (.cells #[.int .u8 8] 5))
      have HU3 := hid (own_byte0 (((w.alloc (.cells #[.int .u8 ch, .bool at_, .int .u8 fa, .int .u8 hi, .int .u8 co, .int .u8 241] 48)).alloc (.cells #[.int .u8 lch, .bool lat, .int .u8 lfa, .int .u8 lhi, .int .u8 lco, .int .u8 lse] 48))) 8 (by decide)).reads
      rw [hz2] at HU3
      have HBX3 := hid (show ((((w.alloc (.cells #[.int .u8 ch, .bool at_, .int .u8 fa, .int .u8 hi, .int .u8 co, .int .u8 241] 48)).alloc (.cells #[.int .u8 lch, .bool lat, .int .u8 lfa, .int .u8 lhi, .int .u8 lco, .int .u8 lse] 48))).alloc (.cells #[.int .u8 8] 5)).cell? ⟨w.heap.size, 0, none⟩ = some (.int .u8 ch) by simp [go_sem])
      have HN3 := hid (OwnB.nil ((((w.alloc (.cells #[.int .u8 ch, .bool at_, .int .u8 fa, .int .u8 hi, .int .u8 co, .int .u8 241] 48)).alloc (.cells #[.int .u8 lch, .bool lat, .int .u8 lfa, .int .u8 lhi, .int .u8 lco, .int .u8 lse] 48))).alloc (.cells #[.int .u8 8] 5)))
      clear hz2
      go_enter Try.func46, Try.ntmps46
      go_wp2_with (first
        | (at_builtin; refine wpList_append_big rfl (.tmp 31) (.tmp 32) rfl (.slice none 0 0) (.slice (some ⟨w.heap.size + 2, 0, none⟩) 1 1) [] [8] [8] 1 rfl rfl HN3.out HU3.out (by decide) rfl rfl ?_; intro y3 c3 w3 h3 g3 k3; have HO3 := hid h3; have HG3 := hid (And.intro (below_grown HB3.out g3 (fun k hk => (by cases hk))) (new_grown HB3.out (fun k hk => (by cases hk)) k3)); have hm3 := Moved.grown g3 (S := []) (S' := blkV (.slice y3 1 c3)) (fun k hk => by cases hk) (fun k hk => (k3 k hk).elim (fun e => by cases e) .inr); have hbx3 := cell_moved hm3 HBX3.out (fun e => by cases e); clear h3 g3 k3 hm3)
        | (go_at_call 60; (with_reducible refine (HIW.out _ HG3.out.1).mono ?_); rintro e w5 ⟨rfl, hb5, hbw5⟩; have HB5 := hid hbw5; have hbx5 := keepc hb5 hbx3; have HO5 := hid (HO3.out.moved (Moved.below hb5 []) (fun _ _ q => by cases q)); have HB6 := hid (bal hbw5 (.cells #[.int .u8 63] 5)); have HU6 := hid (own_byte0 w5 63 (by decide)).reads; have HO6 := hid (HO5.out.moved (Moved.alloc w5 (.cells #[.int .u8 63] 5) []) (fun _ _ q => by cases q)); have HV5 := hid HG3.out.2; clear hb5 hbw5)
        | (at_builtin; refine wpList_append_big rfl (.tmp 37) (.tmp 38) rfl (.slice y3 1 c3) (.slice (some ⟨w5.heap.size, 0, none⟩) 1 1) [8] [63] [8, 63] 2 rfl rfl HO6.out HU6.out (by simp) rfl rfl ?_; intro y7 c7 w7 h7 g7 k7; have HO7 := hid h7; have HG7 := hid (And.intro (below_grown HB6.out g7 HV5.out) (new_grown HB6.out HV5.out k7)); clear h7 g7 k7))
      go_ret
      exact ⟨_, rfl, HO7.out, HG7.out.2, HG7.out.1⟩
  · have ese : (se == 241) = false := by simpa using hse
    clear hse
    cases hio : isO ch
    · rw [hio] at HIS
      have hE : chrB ⟨ch, at_, fa, hi, co, se⟩ = [ch] := by unfold chrB; rw [hio]; simp; simpa using ese
      rw [hE]
      clear hE hio
      have HB2 := hid (show Below w.heap.size w ((w.alloc (.cells #[.int .u8 ch, .bool at_, .int .u8 fa, .int .u8 hi, .int .u8 co, .int .u8 se] 48)).alloc (.cells #[.int .u8 lch, .bool lat, .int .u8 lfa, .int .u8 lhi, .int .u8 lco, .int .u8 lse] 48)) from bal (bal (Below.refl _ _) _) _)
      have hz2 : (((w.alloc (.cells #[.int .u8 ch, .bool at_, .int .u8 fa, .int .u8 hi, .int .u8 co, .int .u8 se] 48)).alloc (.cells #[.int .u8 lch, .bool lat, .int .u8 lfa, .int .u8 lhi, .int .u8 lco, .int .u8 lse] 48))).heap.size = w.heap.size + 2 := by simp
      have HIW := hid (fun V (hV : Below w.heap.size w V) => (HIS.out V).mono fun e w' (q : e = _ ∧ Below V.heap.size V w') => (show e = _ ∧ Below V.heap.size V w' ∧ Below w.heap.size w w' from ⟨q.1, q.2, below_t hV q.2⟩))
      have HBX2 := hid (show (((w.alloc (.cells #[.int .u8 ch, .bool at_, .int .u8 fa, .int .u8 hi, .int .u8 co, .int .u8 se] 48)).alloc (.cells #[.int .u8 lch, .bool lat, .int .u8 lfa, .int .u8 lhi, .int .u8 lco, .int .u8 lse] 48))).cell? ⟨w.heap.size, 0, none⟩ = some (.int .u8 ch) by simp [go_sem])
      clear hz2
      go_enter Try.func46, Try.ntmps46
      go_wp2_with (first
        | (go_at_call 60; (with_reducible refine (HIW.out _ HB2.out).mono ?_); rintro e w5 ⟨rfl, hb5, hbw5⟩; have HB5 := hid hbw5; have hbx5 := keepc hb5 HBX2.out; have HB6 := hid (bal hbw5 (.cells #[.int .u8 ch] 5)); have HU6 := hid (own_byte0 w5 ch hu).reads; have HO6 := hid (OwnB.nil (w5.alloc (.cells #[.int .u8 ch] 5))); clear hb5 hbw5)
        | (at_builtin; refine wpList_append_big rfl (.tmp 40) (.tmp 43) rfl (.slice none 0 0) (.slice (some ⟨w5.heap.size, 0, none⟩) 1 1) [] [ch] [ch] 1 rfl rfl HO6.out HU6.out (by simp) rfl rfl ?_; intro y7 c7 w7 h7 g7 k7; have HO7 := hid h7; have HG7 := hid (And.intro (below_grown HB6.out g7 (fun k hk => (by cases hk))) (new_grown HB6.out (fun k hk => (by cases hk)) k7)); clear h7 g7 k7))
      go_ret
      exact ⟨_, rfl, HO7.out, HG7.out.2, HG7.out.1⟩
    · rw [hio] at HIS
      have hE : chrB ⟨ch, at_, fa, hi, co, se⟩ = [63] := by unfold chrB; rw [hio]; simp; simpa using ese
      rw [hE]
      clear hE hio
      have HB2 := hid (show Below w.heap.size w ((w.alloc (.cells #[.int .u8 ch, .bool at_, .int .u8 fa, .int .u8 hi, .int .u8 co, .int .u8 se] 48)).alloc (.cells #[.int .u8 lch, .bool lat, .int .u8 lfa, .int .u8 lhi, .int .u8 lco, .int .u8 lse] 48)) from bal (bal (Below.refl _ _) _) _)
      have hz2 : (((w.alloc (.cells #[.int .u8 ch, .bool at_, .int .u8 fa, .int .u8 hi, .int .u8 co, .int .u8 se] 48)).alloc (.cells #[.int .u8 lch, .bool lat, .int .u8 lfa, .int .u8 lhi, .int .u8 lco, .int .u8 lse] 48))).heap.size = w.heap.size + 2 := by simp
      have HIW := hid (fun V (hV : Below w.heap.size w V) => (HIS.out V).mono fun e w' (q : e = _ ∧ Below V.heap.size V w') => (show e = _ ∧ Below V.heap.size V w' ∧ Below w.heap.size w w' from ⟨q.1, q.2, below_t hV q.2⟩))
      have HBX2 := hid (show (((w.alloc (.cells #[.int .u8 ch, .bool at_, .int .u8 fa, .int .u8 hi, .int .u8 co, .int .u8 se] 48)).alloc (.cells #[.int .u8 lch, .bool lat, .int .u8 lfa, .int .u8 lhi, .int .u8 lco, .int .u8 lse] 48))).cell? ⟨w.heap.size, 0, none⟩ = some (.int .u8 ch) by simp [go_sem])
      clear hz2
      go_enter Try.func46, Try.ntmps46
      go_wp2_with (first
        | (go_at_call 60; (with_reducible refine (HIW.out _ HB2.out).mono ?_); rintro e w5 ⟨rfl, hb5, hbw5⟩; have HB5 := hid hbw5; have hbx5 := keepc hb5 HBX2.out; have HB6 := hid (bal hbw5 (.cells #[.int .u8 63] 5)); have HU6 := hid (own_byte0 w5 63 (by decide)).reads; have HO6 := hid (OwnB.nil (w5.alloc (.cells #[.int .u8 63] 5))); clear hb5 hbw5)
        | (at_builtin; refine wpList_append_big rfl (.tmp 37) (.tmp 38) rfl (.slice none 0 0) (.slice (some ⟨w5.heap.size, 0, none⟩) 1 1) [] [63] [63] 1 rfl rfl HO6.out HU6.out (by simp) rfl rfl ?_; intro y7 c7 w7 h7 g7 k7; have HO7 := hid h7; have HG7 := hid (And.intro (below_grown HB6.out g7 (fun k hk => (by cases hk))) (new_grown HB6.out (fun k hk => (by cases hk)) k7)); clear h7 g7 k7))
      go_ret
      exact ⟨_, rfl, HO7.out, HG7.out.2, HG7.out.1⟩
end Go.Proofs.Ytlhaefgchmakfaa
