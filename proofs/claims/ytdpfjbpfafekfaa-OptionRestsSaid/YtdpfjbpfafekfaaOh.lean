/-
  A script's steps: what is heard or asked; messages' bytes; arrays of numbers; scripts that came in.
-/
import Derived.Test.YtdpfjbpfafekfaaOg
namespace Go.Proofs.Ytdpfjbpfafekfaa
open Go.RowKit Go.Lib

/-- What is sent: nothing, or one message of that option. -/
def MsgV (w : World) (v : Value) (o : Int) (m : Nat) : Prop := (m = 0 ∧ v = .slice none 0 0) ∨ (m = 1 ∧ ∃ (b : Nat) (x : Int), 0 ≤ x ∧ x < 256 ∧ v = .slice (some ⟨b, 0, none⟩) 1 1 ∧ w.cell? ⟨b, 0, none⟩ = some (.int .u8 x) ∧ w.cell? ⟨b, 1, none⟩ = some (.int .u8 o))
theorem verbN_fit (side say : Int) : 0 ≤ verbN side say ∧ verbN side say < 256 := by
  unfold verbN
  repeat' split
  all_goals omega
theorem Msg.any {w : World} {v : Value} {side say o : Int} (h : Msg w v side say o) : ∃ m, MsgV w v o m := by
  rcases h with ⟨_, h⟩ | ⟨_, b, h, h0, h1⟩
  · exact ⟨0, .inl ⟨rfl, h⟩⟩
  · exact ⟨1, .inr ⟨rfl, b, _, (verbN_fit _ _).1, (verbN_fit _ _).2, h, h0, h1⟩⟩
/-- A step of a script was done. -/
def Stepped (g : Nat) (ag : Nat → Bool) (o : Int) (w : World) (e : Ending) (w' : World) : Prop :=
  ∃ v er m st', e = .returned (.tuple #[v, .int .i64 er]) ∧ MsgV w' v o m ∧ Mach w' g ag st' ∧ Moved w w' [g] [g] ∧ ∀ k ∈ blkV v, w.heap.size ≤ k
theorem TookE.stepped {g : Nat} {ag : Nat → Bool} {st : Nat → Int} {side o n say er : Int} {w w' : World} {e : Ending} (h : TookE g ag st side o n say er w e w') : Stepped g ag o w e w' := by
  obtain ⟨v, rfl, v', hv, hm, hM, hV, hk⟩ := h
  cases hv
  obtain ⟨m, hm⟩ := hm.any
  exact ⟨v, er, m, _, rfl, hm, hM, hV, hk⟩
theorem stepped_nil {g : Nat} {ag : Nat → Bool} {st : Nat → Int} {o er : Int} {w w' : World} (hM : Mach w g ag st) (hb : Below w.heap.size w w') : Stepped g ag o w (.returned (.tuple #[.slice none 0 0, .int .i64 er])) w' :=
  ⟨_, er, 0, st, rfl, .inl ⟨rfl, rfl⟩, hM.step hb, Moved.below hb _, fun k hk => by cases hk⟩
theorem hear_step (g : Nat) (ag : Nat → Bool) (st : Nat → Int) (v o : Nat) (ho : o < 256) (w : World) (hM : Mach w g ag st) : Calls Try.prog 16 #[.pointer (some ⟨g, 0, none⟩), .int .u8 v, .int .u8 o] w (Stepped g ag o w) := by
  by_cases hv : isVerb v
  · exact (hear_any g ag st v o hv ho w hM).mono fun _ _ h => h.stepped
  · exact (hear_no g v o hv w).mono fun _ _ ⟨he, hw⟩ => by subst hw; rw [he]; exact stepped_nil hM (Below.refl _ _)
theorem ask_step (g : Nat) (ag : Nat → Bool) (st : Nat → Int) (side : Int) (o : Nat) (ho : o < 256) (on : Bool) (w : World) (hM : Mach w g ag st) : Calls Try.prog 18 #[.pointer (some ⟨g, 0, none⟩), .int .i64 side, .int .u8 o, .bool on] w (Stepped g ag o w) := by
  by_cases hs : side = 0 ∨ side = 1
  · cases ha : (askN (st (idx side o)) on).2.2
    · exact (ask_no g ag st side hs o ho on w hM ha).mono fun _ _ ⟨he, hb⟩ => by rw [he]; exact stepped_nil hM hb
    · exact (ask_any g ag st side hs o ho on w hM ha).mono fun _ _ h => h.stepped
  · exact (ask_bad g side hs o on w).mono fun _ _ ⟨he, hw⟩ => by subst hw; rw [he]; exact stepped_nil hM (Below.refl _ _)
set_option maxRecDepth 100000 in
theorem say_any (x o : Int) (hx : 0 ≤ x ∧ x < 256) (ho : 0 ≤ o ∧ o < 256) (w : World) : Calls Try.prog 56 #[.int .u8 x, .int .u8 o] w (OwnDone [255, x, o] w) := by
  have HB : Hid (∀ y ∈ ([255, x, o] : List Int), 0 ≤ y ∧ y < 256) := fun y hy => by simp at hy; omega
  clear hx ho
  go_enter Try.func56, Try.ntmps56
  go_wp2
  go_ret
  exact ⟨_, rfl, own_lit _ _ 3 _ HB.out rfl rfl (by omega) _ rfl, bal (Below.refl _ _) _, blk_lit _ _ _ _ (Nat.le_refl _)⟩
set_option maxRecDepth 100000 in
theorem mbytes_any (x o : Int) (hx : 0 ≤ x ∧ x < 256) (ho : 0 ≤ o ∧ o < 256) (w : World) : Calls Try.prog 28 #[.agg #[.int .u8 x, .int .u8 o]] w (OwnDone [255, x, o] w) := by
  have H := hid (fun W => say_any x o hx ho W)
  clear hx ho
  go_enter Try.func28, Try.ntmps28
  go_wp2_with fail
  with_reducible refine (H.out _).mono ?_
  rintro e w1 ⟨v, rfl, h1, h2, h3⟩
  obtain ⟨y, n, c, rfl⟩ := own_slice h1
  have HO := hid h1
  have HB := hid (below_t (bal (Below.refl w.heap.size w) _) h2)
  have HK := hid h3
  clear h1 h2 h3
  go_wp2
  go_ret
  exact ⟨_, rfl, HO.out, HB.out, fun k h => Nat.le_trans (by simp) (HK.out k h)⟩
/-- An array of numbers. -/
structure Arr (w : World) (b : Nat) (f : Nat → Int) : Prop where
  c : ∀ i, i < 256 → w.cell? ⟨b, i, none⟩ = some (.int .i64 (f i))
  fr : ∀ i, i < 256 → w.frozen? ⟨b, i, none⟩ = false
theorem Arr.lt {w : World} {b : Nat} {f : Nat → Int} (h : Arr w b f) : b < w.heap.size := World.block_lt_of_cell? w _ (h.c 0 (by omega))
theorem Arr.moved {w w' : World} {b : Nat} {f : Nat → Int} {S S' : List Nat} (h : Arr w b f) (m : Moved w w' S S') (hs : b ∉ S) : Arr w' b f :=
  ⟨fun i hi => cell_moved m (h.c i hi) hs, fun i hi => by
    rw [← h.fr i hi]
    unfold World.frozen?
    rw [m.block b h.lt hs]⟩
theorem Arr.set {w : World} {b : Nat} {f : Nat → Int} (h : Arr w b f) (i : Nat) (hi : i < 256) (x : Int) : Arr (w.setCell ⟨b, i, none⟩ (.int .i64 x)) b (upd f i x) :=
  ⟨fun j hj => by
    by_cases e : j = i
    · subst e
      rw [upd_same]
      exact World.cell?_setCell_same _ _ _ (h.c j hj)
    · rw [upd_other f x e, World.cell?_setCell_other _ _ _ _ (fun q => by injection q; omega)]
      exact h.c j hj, fun j hj => by simp [h.fr j hj]⟩
def zeroA : Array Value := (List.replicate 256 (Value.int .i64 0)).toArray
theorem zeroA_at (i : Nat) (h : i < 256) : zeroA[i]? = some (.int .i64 0) := by
  unfold zeroA
  rw [List.getElem?_toArray, List.getElem?_replicate, if_pos h]
theorem zero_array : ∀ w, (zeroValue 47).run Try.prog w = .ok (.agg zeroA) w := (zero_of_info (n := 256) (by kernel_rfl)).1
theorem Arr.new (w : World) (t : TypeId) : Arr (w.alloc (.cells zeroA t)) w.heap.size (fun _ => 0) :=
  ⟨fun i hi => by rw [World.cell?_alloc_new]; exact zeroA_at i hi, fun i hi => by simp [go_sem]⟩
/-- A step of a script, as it came in. -/
structure OpD where
  hear : Bool
  verb : Nat
  opt : Nat
  side : Int
  on : Bool
def opC (x : OpD) : List Value := [.bool x.hear, .int .u8 x.verb, .int .u8 x.opt, .int .i64 x.side, .bool x.on]
def OpFit (x : OpD) : Prop := x.verb < 256 ∧ x.opt < 256 ∧ -9223372036854775808 ≤ x.side ∧ x.side ≤ 9223372036854775807
def OpsIn (w : World) (v : Value) (xs : List OpD) : Prop := (∀ x ∈ xs, OpFit x) ∧ ((∃ x c, v = .slice x 0 c ∧ xs = []) ∨ ∃ g off n cap, v = .slice (some ⟨g, off, none⟩) n cap ∧ n = xs.length ∧ n ≤ maxLen ∧ ∀ i (h : i < xs.length) j, j < 5 → w.cell? ⟨g, off + i * 5 + j, none⟩ = (opC xs[i])[j]?)
theorem ops_below {w w' : World} {v : Value} {xs : List OpD} (h : OpsIn w v xs) (hb : Below w.heap.size w w') : OpsIn w' v xs := by
  refine ⟨h.1, ?_⟩
  rcases h.2 with h1 | ⟨g, off, n, cap, rfl, h1, h2, h3⟩
  · exact .inl h1
  · refine .inr ⟨g, off, n, cap, rfl, h1, h2, fun i hi j hj => ?_⟩
    have q := h3 i hi j hj
    rw [← q]
    have hs : (opC xs[i])[j]? = some ((opC xs[i])[j]'(by simpa [opC] using hj)) := List.getElem?_eq_getElem _
    exact hb.cell (World.block_lt_of_cell? w ⟨g, off + i * 5 + j, none⟩ (q.trans hs))
end Go.Proofs.Ytdpfjbpfafekfaa
