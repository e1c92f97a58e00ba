/-
  Take, and what its iterator tells.
-/
import Derived.Test.YtaanpnmgibcemaaGreatDoorVo
import Derived.RangeFuncNested
import Derived.RangeFuncBound
import Derived.RangeFuncCalls
import Derived.RangeFuncLeaves
import Derived.Shelf.Abstract
import Derived.Shelf.RegionOpen
import Derived.OwnWalkIn
import Derived.TacticsInMore
import Derived.LoopNIn
import Derived.LoopIn
namespace Go.Proofs.YtaanpnmgibcemaaGreatDoor
open Go.RowKit Go.Lib Go.Deep Go.Shelf
attribute [local go_sem] Oper.semAt_some

/-- The link and the whole of the bytes lie in boxes of the iterator's. -/
def TakeD (lp : Value) (ps : List Int) (w : World) (e : Ending) (w' : World) : Prop := ∃ b1 b2 x n d, e = .returned (.func (.func 64) #[] #[.pointer (some ⟨b1, 0, none⟩), .pointer (some ⟨b2, 0, none⟩)]) ∧ w'.cell? ⟨b1, 0, none⟩ = some lp ∧ w'.cell? ⟨b2, 0, none⟩ = some (.slice x n d) ∧ OwnB w' (.slice x n d) ps ∧ Below w.heap.size w w' ∧ w.heap.size ≤ b1 ∧ w.heap.size ≤ b2 ∧ (∀ b ∈ blkV (.slice x n d), w.heap.size ≤ b)
set_option maxRecDepth 100000 in
theorem takeSeq_any (lp : Option Addr) (p : Value) (ps : List Int) (w : World) (h : Reads w p ps) (hl : ps.length ≤ 100000) : Calls Tryz.prog 41 #[.pointer lp, p] w (TakeD (.pointer lp) ps w) := by
  have hmf : ∀ (fn : Fn) (first cap : Array Value) (w : World), (Instr.makeFunc fn first cap).run Tryz.prog w = .ok (.func fn first cap) w := fun _ _ _ _ => rfl
  have HB0 := hid (bal (Below.refl w.heap.size w) (.cells #[.pointer lp] 27))
  have HC := hid (clone_any p ps _ (reads_below h HB0.out) (by omega))
  obtain ⟨x0, n0, c0, rfl⟩ := Tn.reads_any_slice h
  clear h
  go_enter Tryz.func41, Tryz.ntmps41
  go_wp2_with fail
  with_reducible refine HC.out.mono ?_
  rintro e w1 ⟨v, rfl, ho, hb, hk⟩
  have HO := hid ho
  have HB := hid hb
  have HK := hid hk
  obtain ⟨x, n, c, rfl⟩ := own_slice ho
  have hbx : w1.cell? ⟨w.heap.size, 0, none⟩ = some (.pointer lp) := keepc hb (by simp [go_sem])
  have HBX := hid hbx
  have hlt : w.heap.size < w1.heap.size := World.block_lt_of_cell? w1 _ hbx
  clear ho hb hk hbx HC
  go_wp2
  go_ret
  refine ⟨w.heap.size, w1.heap.size, x, n, c, rfl, keepc (bal (Below.refl _ _) _) HBX.out, by simp [go_sem], HO.out.step (bal (Below.refl _ _) _), bal (below_t HB0.out HB.out) _, Nat.le_refl _, by omega, fun b q => Nat.le_trans (by simp) (HK.out b q)⟩
/-- A slice's length. -/
def lenV : Value → Nat
  | .slice _ n _ => n
  | _ => 0
theorem emit_le : ∀ (st : Tn.St) (ps : List Int), (Tn.emit st ps).length ≤ 2 * ps.length
  | _, [] => Nat.le_refl _
  | st, b :: ps => by
    have h1 := emit_le (Tn.stepS st b).1 ps
    have h2 : (Tn.stepS st b).2.length ≤ 2 := by
      have hi : (Tn.iacS b).2.length ≤ 1 := by
        unfold Tn.iacS
        repeat' split
        all_goals simp
      cases st <;> simp only [Tn.stepS]
      all_goals repeat' split
      all_goals simp
      all_goals omega
    simp only [Tn.emit, List.length_append, List.length_cons]
    omega
theorem addD_le (l : List Tn.Ev) (p : List Int) : (Tn.addD l p).length ≤ l.length + 1 := by
  by_cases hp : p = []
  · subst hp; rw [Tn.addD_nil]; omega
  rcases Tn.snoc_cases l with rfl | ⟨l', e, rfl⟩
  · rw [Tn.addD_empty hp]; simp
  · rw [Tn.addD_snoc _ _ hp]
    split <;> simp
theorem merge_le (l : List Tn.Ev) : (Tn.mergeL l).length ≤ l.length := by
  have key : ∀ (n : Nat) (l : List Tn.Ev), l.length = n → (Tn.mergeL l).length ≤ n := by
    intro n
    induction n with
    | zero => intro l h; rw [List.length_eq_zero_iff.1 h]; exact Nat.le_refl _
    | succ n ih =>
      intro l h
      rcases Tn.snoc_cases l with rfl | ⟨l', e, rfl⟩
      · cases h
      · have h1 := ih l' (by simpa using h)
        rw [Tn.mergeL_snoc]
        unfold Tn.mstep
        split
        · have := addD_le (Tn.mergeL l') e.data; omega
        · rw [List.length_append]; simp; omega
  exact key _ l rfl
/-- How much one element can add to what waits to go. -/
theorem proc_out {c : Cf} {k : Lk} (hk : LkOK c k) (e : Tn.Ev) (he : EvOK e) : (procE c k e).1.out.length ≤ k.out.length + 5000 := by
  have hsay : ∀ s y o, (sayB s y o).length ≤ 3 := fun s y o => by unfold sayB; split <;> simp
  have hdrop : ∀ m k', (dropIf m k').out = k'.out := fun m k' => by unfold dropIf; split <;> rfl
  unfold procE
  split
  · split <;> simp
  · split
    · split
      · simp [Lk.drop]
      · simp
    · rename_i h0 h1
      split
      · show (dropIf _ _).out.length ≤ _
        rw [hdrop]
        unfold optE
        dsimp only
        have := hsay (Op.sideOf e.verb.toNat) (Op.hearN e.verb.toNat (k.ms (Op.idx (Op.sideOf e.verb.toNat) e.opt.toNat)) (c.A (Op.idx (Op.sideOf e.verb.toNat) e.opt.toNat))).2 e.opt.toNat
        split
        · simp only [Lk.step, List.length_append]; omega
        · simp only [Lk.reset, Lk.step, List.length_append]; omega
      · rename_i h2
        have h3 : e.kind = 3 := by have := he.kind; omega
        have hd := he.data h3
        show (dropIf _ _).out.length ≤ _
        rw [hdrop]
        unfold subE
        split
        · omega
        · have ha := ans_le hk e.opt e.data hd
          have hc : (Ng.ansH c.T c.D c.fs k.es e.opt e.data).count 255 ≤ (Ng.ansH c.T c.D c.fs k.es e.opt e.data).length := List.count_le_length
          have hs := Tn.subL_length e.opt (Ng.ansH c.T c.D c.fs k.es e.opt e.data)
          have hh : (k.hear c e.opt e.data).out.length ≤ k.out.length + 4300 := by
            simp only [Lk.hear, List.length_append]
            split
            · simp
            · omega
          unfold Lk.refuse
          have := hsay 0 (Op.askN ((k.hear c e.opt e.data).ms 40) false).2.1 ((40 : Nat) : Int)
          split
          · omega
          · split
            · simp only [Lk.step, List.length_append]; omega
            · omega
theorem LkOK.proc {c : Cf} {k : Lk} (hk : LkOK c k) (e : Tn.Ev) : LkOK c (procE c k e).1 := by
  unfold procE
  split
  · split
    · exact hk
    · refine ⟨hk.T, hk.D, hk.fs, hk.es, hk.ag, ?_, hk.sq, hk.st⟩
      have h1 := hk.rc
      dsimp only
      unfold addR
      split
      · rename_i e; exact ⟨h1.1, fun _ => h1.2 e⟩
      · rename_i e
        split
        · rename_i e2; exact ⟨by rw [List.length_append]; exact e2, fun q => by cases q⟩
        · rename_i e2; exact ⟨by rw [List.length_take]; omega, fun _ => by rw [List.length_take, List.length_append]; omega⟩
  · split
    · split
      · exact hk.drop
      · exact hk
    · split
      · exact (hk.opt _ _).dropIf _
      · exact (hk.sub e).dropIf _
end Go.Proofs.YtaanpnmgibcemaaGreatDoor
