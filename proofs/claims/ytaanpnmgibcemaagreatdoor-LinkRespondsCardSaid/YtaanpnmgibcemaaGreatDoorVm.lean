/-
  A part of the bytes is read.
-/
import Derived.Test.YtaanpnmgibcemaaGreatDoorVl
namespace Go.Proofs.YtaanpnmgibcemaaGreatDoor
open Go.RowKit Go.Lib

set_option maxRecDepth 100000 in
set_option maxHeartbeats 2000000 in
theorem dataLength_any (x : Option Addr) (n cc : Nat) (ps : List Int) (w : World) (hr : Reads w (.slice x n cc) ps) (hl : n ≤ 1000000) : Calls Tryz.prog 80 #[.slice x n cc] w fun e w' => ∃ m : Nat, e = .returned (.int .i64 m) ∧ m ≤ n ∧ w = w' := by
  have hn := reads_len hr
  obtain ⟨x', cap', he, hc⟩ := Tn.reads_uni hr
  simp only [Value.slice.injEq] at he
  obtain ⟨rfl, -, rfl⟩ := he
  have HC := hid hc
  have HN := hid hn
  clear hr hc hn
  go_enter Tryz.func80, Tryz.ntmps80
  go_wp2
  go_loopw [3] (fun i W => ∃ k : Nat, k ≤ n ∧ i = .int .i64 k ∧ W = w) (fun i _ => n - (Lib.intOf i).toNat)
  case atStart => exact ⟨0, Nat.zero_le _, rfl, rfl⟩
  case round =>
    obtain ⟨k, hk, rfl, rfl⟩ := hrel
    by_cases hlt : k < n
    · have hki : (k : Int) < n := by omega
      obtain ⟨g, off, rfl, c0⟩ := HC.out k (by rw [← HN.out]; exact hlt)
      generalize hb : ps.getD k 0 = b at c0
      by_cases h255 : b = 255
      · have e255 : (b != 255) = false := by simpa using h255
        by_cases hend : k + 1 = n
        · have he : ((k : Int) + 1 == n) = true := by simp; omega
          clear h255 hb
          go_wp2
          go_ret
          exact ⟨k, rfl, hk, rfl⟩
        · have he : ((k : Int) + 1 == n) = false := by simp; omega
          have hk1 : ((k : Int) + 1) < n := by omega
          obtain ⟨g', off', e', c1⟩ := HC.out (k + 1) (by rw [← HN.out]; omega)
          simp only [Option.some.injEq, Addr.mk.injEq] at e'
          obtain ⟨rfl, rfl, -⟩ := e'
          generalize hb2 : ps.getD (k + 1) 0 = b2 at c1
          by_cases h2 : b2 = 255
          · have e2 : (b2 != 255) = false := by simpa using h2
            clear h255 hb hb2 h2
            go_wp2
            go_roundw
            case rel => exact ⟨k + 2, by omega, by go_num, (by first | rfl | trivial)⟩
            case measure => simp [Lib.intOf]; omega
          · have e2 : (b2 != 255) = true := by simpa using h2
            clear h255 hb hb2 h2
            go_wp2
            go_ret
            exact ⟨k, rfl, hk, rfl⟩
      · have e255 : (b != 255) = true := by simpa using h255
        clear h255 hb
        go_wp2
        go_roundw
        case rel => exact ⟨k + 1, by omega, by go_num, (by first | rfl | trivial)⟩
        case measure => simp [Lib.intOf]; omega
    · have hke : k = n := by omega
      subst hke
      go_wp2
      go_ret
      exact ⟨k, rfl, Nat.le_refl _, rfl⟩
open Tn in
theorem RIn_wt {w : World} {R : Nat} {d : Value} {st : Tn.St} (h : Tn.RIn w R d st) : st.wt ≤ 256 := by
  cases st
  · exact Nat.zero_le _
  · exact Nat.zero_le _
  · exact Nat.zero_le _
  · exact Nat.zero_le _
  · obtain ⟨_, _, _, h⟩ := h; exact h
  · obtain ⟨_, _, _, h⟩ := h; exact h
section
variable {L : Nat} {c : Cf} {y : Ly} {k : Lk} {w : World}
/-- The link's reader was fed. -/
def FeedL (L : Nat) (c : Cf) (y : Ly) (k : Lk) (ps : List Int) (w : World) (e : Ending) (w' : World) : Prop :=
  ∃ vx vc xs d', e = .returned (.slice vx xs.length vc) ∧ Tn.OwnL w' (.slice vx xs.length vc) xs ∧ xs.map (·.1) = Tn.mergeL (Tn.emit k.st ps) ∧ LkM w' L c { y with d := d' } { k with st := Tn.runS k.st ps } ∧ Moved w w' (y.foot L) (Ly.foot { y with d := d' } L) ∧ (∀ b ∈ Tn.blks (.slice vx xs.length vc) xs, b ∉ Ly.foot { y with d := d' } L) ∧ ∀ b ∈ Tn.blks (.slice vx xs.length vc) xs, b ∈ y.foot L ∨ w.heap.size ≤ b
theorem feedL_any (p : Value) (ps : List Int) (h : LkM w L c y k) (hk : LkOK c k) (hr : Reads w p ps) (hpf : ∀ b ∈ blkV p, b ∉ y.foot L) (hl : ps.length ≤ 7000) : Calls Tryz.prog 79 #[.pointer (some ⟨y.R, 0, none⟩), p] w (FeedL L c y k ps w) := by
  have hst := RIn_wt h.rdr
  have hin : ∀ b ∈ y.R :: blkV y.d, b ∈ y.foot L := fun b q => mem_foot.2 (by
    rcases List.mem_cons.1 q with rfl | q
    · simp
    · simp [q])
  refine (Tn.feed_any y.R y.d p k.st ps w h.rdr h.rn hr (fun b q e => hpf b q (hin b e)) (by omega) (by omega)).mono ?_
  rintro e w' ⟨v, xs, d', rfl, ho, hx, hm⟩
  obtain ⟨h1, m1⟩ := h.reader hk hm ho.rdr ho.own (fun b q => List.mem_append.2 (.inl (List.mem_cons_of_mem _ q)))
  obtain ⟨vx, vc, rfl⟩ := Tn.row_anyK ho.evs.row
  have hfrom : ∀ b ∈ Tn.blks (.slice vx xs.length vc) xs, b ∈ y.R :: blkV y.d ∨ w.heap.size ≤ b := fun b q => hm.from' b (List.mem_append.2 (.inr q))
  refine ⟨vx, vc, xs, d', rfl, ho.evs, hx, h1, m1, fun b q f => ?_, fun b q => (hfrom b q).imp (hin b) id⟩
  obtain ⟨lab, hs⟩ := h.sep
  have hR : b ∉ y.R :: blkV d' := fun e => ho.apart b e q
  have hno : ∀ {i}, lab b = i → b < w.heap.size → i ≠ 1 → False := fun e1 e2 e3 => by
    rcases hfrom b q with g | g
    · rcases List.mem_cons.1 g with rfl | g
      · exact e3 (e1.symm.trans hs.r)
      · exact e3 (e1.symm.trans (hs.d b g))
    · omega
  have hlt := h.lt hk
  rcases mem_foot.1 f with f | f | f | f | f | f | f | f | f | f
  · exact hno (i := 0) (by rw [f]; exact hs.l) (hlt b (mem_foot.2 (by simp [f]))) (by decide)
  · exact hno (hs.ov b f) (hlt b (mem_foot.2 (by simp [show b ∈ blkV y.ov from f]))) (by decide)
  · exact hR (by rw [show b = y.R from f]; simp)
  · exact hR (List.mem_cons_of_mem _ f)
  · exact hno (i := 2) (by rw [show b = y.M from f]; exact hs.m) (hlt b (mem_foot.2 (by simp [show b = y.M from f]))) (by decide)
  · exact hno (i := 3) (by rw [show b = y.E from f]; exact hs.e) (hlt b (mem_foot.2 (by simp [show b = y.E from f]))) (by decide)
  · exact hno (hs.sv b f) (hlt b (mem_foot.2 (by simp [show b ∈ blkV y.sv from f]))) (by decide)
  · exact hno (hs.av b f) (hlt b (mem_foot.2 (by simp [show b ∈ blkV y.av from f]))) (by decide)
  · exact hno (i := 4) (by rw [show b = y.K from f]; exact hs.k) (hlt b (mem_foot.2 (by simp [show b = y.K from f]))) (by decide)
  · exact hno (hs.rd b f) (hlt b (mem_foot.2 (by simp [show b ∈ blkV y.rd from f]))) (by decide)
theorem run_upto (g off n cc k : Nat) (hk : k ≤ cc) (W : World) : (Instr.sliceAt 22 (.slice (some ⟨g, off, none⟩) n cc) none (some (.int .i64 k)) none).run Tryz.prog W = .ok (.slice (some ⟨g, off, none⟩) k cc) W := by
  have h1 : (k : Int) ≤ cc := by omega
  simp [Instr.sliceAt, go_sem, h1]
theorem take_more (xs : List Int) (m : Nat) : xs.take 1 ++ (xs.drop 1).take m = xs.take (1 + m) := by
  rw [List.take_add]
theorem merge_two (a b : List Tn.Ev) : Tn.mergeL (Tn.mergeL a ++ Tn.mergeL b) = Tn.mergeL (a ++ b) := by
  rw [Tn.merge_fix, Tn.mergeL_append, Tn.merge_twice, ← Tn.mergeL_append]
end
end Go.Proofs.YtaanpnmgibcemaaGreatDoor
