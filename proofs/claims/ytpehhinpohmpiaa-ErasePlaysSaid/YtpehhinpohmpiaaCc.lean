/-
  Where a tab comes to, as a function; the program's Next and Prev, the reference's tab, by it.
-/
import Derived.Test.YtpehhinpohmpiaaCb
import Derived.Test.YtpehhinpohmpiaaFj
namespace Go.Proofs.Ytpehhinpohmpiaa
open Go.RowKit Go.Lib Go.Deep

/-- The first place on or back, or -1. -/
def seekZ (s : Spc) (p : Nat) (st : Int) : Int :=
  match (List.range s.L.length).find? (fun k : Nat => firstB s ((p : Int) + st * ((k : Int) + 1))) with
  | some k => (s.wr ((p : Int) + st * ((k : Int) + 1)) : Int)
  | none => -1
theorem SeekR.is {s : Spc} {p : Nat} {st r : Int} (h : SeekR s p st r) : r = seekZ s p st := by
  unfold seekZ
  rcases h with ⟨k, hk, hf, hn, hr⟩ | ⟨hn, hr⟩
  · have e : (List.range s.L.length).find? (fun k : Nat => firstB s ((p : Int) + st * ((k : Int) + 1))) = some k :=
      List.find?_range_eq_some.2 ⟨hf, List.mem_range.2 hk, fun j hj => by simp [hn j hj]⟩
    rw [e]
    exact hr
  · have e : (List.range s.L.length).find? (fun k : Nat => firstB s ((p : Int) + st * ((k : Int) + 1))) = none :=
      List.find?_range_eq_none.2 fun j hj => by simp [hn j hj]
    rw [e]
    exact hr
theorem seekZ_R (s : Spc) (p : Nat) (st : Int) : SeekR s p st (seekZ s p st) := by
  unfold seekZ
  cases e : (List.range s.L.length).find? (fun k : Nat => firstB s ((p : Int) + st * ((k : Int) + 1))) with
  | some k =>
    obtain ⟨hf, hk, hn⟩ := List.find?_range_eq_some.1 e
    exact .inl ⟨k, List.mem_range.1 hk, hf, fun j hj => by simpa using hn j hj, rfl⟩
  | none =>
    have hn := List.find?_range_eq_none.1 e
    exact .inr ⟨fun j hj => by simpa using hn j hj, rfl⟩
theorem best_is {s : Spc} (h : s.OK) (back : Bool) {p : Nat} (hp : p < s.L.length) {r : Int} (hr : BestR s.L.length p back (firL s) r) : r = seekZ s p (stB back) :=
  best_one hp (fun f hf => firL_mem h.pos.1 hf) hr (seek_best h back hp (seekZ_R s p (stB back)))
/-- A tab's place. -/
def tabZ (s : Spc) (n : Int) (back : Bool) : Int := if seekZ s (s.wr n) (stB back) < 0 then 0 else seekZ s (s.wr n) (stB back)
theorem seekZ_bd {s : Spc} (h : s.OK) (p : Nat) (st : Int) : seekZ s p st = -1 ∨ ∃ a : Nat, a < s.L.length ∧ seekZ s p st = (a : Int) := by
  rcases (seekZ_R s p st) with ⟨k, _, _, _, hr⟩ | ⟨_, hr⟩
  · exact .inr ⟨_, h.wr_lt _, hr⟩
  · exact .inl hr
theorem tabZ_bd {s : Spc} (h : s.OK) (n : Int) (back : Bool) : ∃ a : Nat, a < s.L.length ∧ tabZ s n back = (a : Int) := by
  have hp := h.pos
  unfold tabZ
  rcases seekZ_bd h (s.wr n) (stB back) with e | ⟨a, ha, e⟩
  · exact ⟨0, hp.1, by rw [e]; rfl⟩
  · exact ⟨a, ha, by rw [e, if_neg (by omega)]⟩
/-- The cursor stands there. -/
def Spc.cuS (s : Spc) (v : Int) : Spc := { s with cu := v }
theorem place_cuS {s : Spc} {a : Nat} (ha : a < s.L.length) : s.place (a : Int) = s.cuS (a : Int) := by
  unfold Spc.place Spc.cuS
  rw [wr_nat ha]
theorem cuS_ok {s : Spc} (h : s.OK) {a : Nat} (ha : a < s.L.length) : (s.cuS (a : Int)).OK := by
  rw [← place_cuS ha]
  exact h.place _
/-- Where one may write, from a place on. -/
def frstZ (s : Spc) (n : Int) : Int := if openB s n then (s.wr n : Int) else tabZ s n false
theorem frstZ_bd {s : Spc} (h : s.OK) (n : Int) : ∃ a : Nat, a < s.L.length ∧ frstZ s n = (a : Int) := by
  unfold frstZ
  split
  · exact ⟨_, h.wr_lt n, rfl⟩
  · exact tabZ_bd h n false
section
variable {b g : Nat} {s : Spc}
theorem next_is (n : Int) (hn : I64 n) (w : World) (h : SpM w b g s) : Calls Try.prog 95 #[.pointer (some ⟨b, 0, none⟩), .int .i64 n] w fun e w' => e = .returned (.int .i64 (seekZ s (s.wr n) 1)) ∧ Below w.heap.size w w' :=
  (next_any n hn w h).mono fun e w' q => by
    obtain ⟨⟨r, rfl, hr⟩, hb⟩ := q
    rw [hr.is]
    exact ⟨rfl, hb⟩
theorem prev_is (n : Int) (hn : I64 n) (w : World) (h : SpM w b g s) : Calls Try.prog 108 #[.pointer (some ⟨b, 0, none⟩), .int .i64 n] w fun e w' => e = .returned (.int .i64 (seekZ s (s.wr n) (-1))) ∧ Below w.heap.size w w' :=
  (prev_any n hn w h).mono fun e w' q => by
    obtain ⟨⟨r, rfl, hr⟩, hb⟩ := q
    rw [hr.is]
    exact ⟨rfl, hb⟩
theorem rnext_is (n : Int) (hn : I64 n) (back : Bool) (w : World) (h : RfM w b g s) : Calls Try.prog 119 #[.pointer (some ⟨b, 0, none⟩), .int .i64 n, .bool back] w fun e w' => e = .returned (.int .i64 (seekZ s (s.wr n) (stB back))) ∧ Below w.heap.size w w' := by
  have hp := h.ok.wr_lt n
  have hk := h.ok
  cases back
  · refine (rnext_on n hn w h).mono fun e w' q => ?_
    obtain ⟨⟨r, rfl, hr⟩, hb⟩ := q
    rw [best_is hk false hp hr]
    exact ⟨rfl, hb⟩
  · refine (rnext_back n hn w h).mono fun e w' q => ?_
    obtain ⟨⟨r, rfl, hr⟩, hb⟩ := q
    rw [best_is hk true hp hr]
    exact ⟨rfl, hb⟩
end
end Go.Proofs.Ytpehhinpohmpiaa
