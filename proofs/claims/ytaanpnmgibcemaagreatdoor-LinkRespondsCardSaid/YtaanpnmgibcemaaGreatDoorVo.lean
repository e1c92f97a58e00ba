/-
  What a link tells one by one: the trace of it, and what the iterator and the loop share.
-/
import Derived.Test.YtaanpnmgibcemaaGreatDoorVn
import Derived.Test.YtaanpnmgibcemaaGreatDoorJb
namespace Go.Proofs.YtaanpnmgibcemaaGreatDoor
open Go.RowKit Go.Lib

theorem cells_of {w : World} {a : Addr} {v : Value} (h : w.cell? a = some v) : ∃ cs t fz, w.heap[a.block]? = some (.cells cs t fz) := by
  unfold World.cell? at h
  split at h
  · rename_i c t fz e
    exact ⟨c, t, fz, e⟩
  · cases h
theorem cells_own {w : World} {v : Value} {xs : List Int} (h : OwnB w v xs) : ∀ b ∈ blkV v, ∃ cs t fz, w.heap[b]? = some (.cells cs t fz) := fun b hb => by
  obtain ⟨c, fz, q⟩ := ownsRow_kind h.2 b (mem_blkV.1 hb)
  exact ⟨c, _, fz, q⟩
theorem cells_reads {w : World} {v : Value} {xs : List Int} (h : Reads w v xs) (hx : xs ≠ []) : ∀ b ∈ blkV v, ∃ cs t fz, w.heap[b]? = some (.cells cs t fz) := fun b hb => by
  obtain ⟨g, off, cap, rfl, h1, h2, h3⟩ := reads_row h hx
  have hp : 0 < xs.length := List.length_pos_iff.2 hx
  have e : g = b := by simpa [mem_blkV, Value.ownBlock] using hb
  subst e
  exact cells_of (h3 0 hp)
section
variable {L : Nat} {c : Cf} {y : Ly} {k : Lk} {w w' : World}
theorem LkM.cel (h : LkM w L c y k) (hk : LkOK c k) : ∀ b ∈ y.foot L, ∃ cs t fz, w.heap[b]? = some (.cells cs t fz) := by
  intro b hb
  rcases mem_foot.1 hb with rfl | q | rfl | q | rfl | rfl | q | q | rfl | q
  · exact ⟨_, _, _, h.b⟩
  · exact cells_own h.out b q
  · have hr := h.rdr
    cases hst : k.st <;> rw [hst] at hr
    · obtain ⟨_, r, _⟩ := hr; exact ⟨_, _, _, r⟩
    · obtain ⟨_, r, _⟩ := hr; exact ⟨_, _, _, r⟩
    · exact ⟨_, _, _, hr.1⟩
    · obtain ⟨_, r, _⟩ := hr; exact ⟨_, _, _, r⟩
    · obtain ⟨_, r, _⟩ := hr; exact ⟨_, _, _, r⟩
    · obtain ⟨_, r, _⟩ := hr; exact ⟨_, _, _, r⟩
  · have hr := h.rdr
    cases hst : k.st <;> rw [hst] at hr
    · obtain ⟨_, _, e⟩ := hr; rw [e] at q; cases q
    · obtain ⟨_, _, e⟩ := hr; rw [e] at q; cases q
    · rw [hr.2] at q; cases q
    · obtain ⟨_, _, e⟩ := hr; rw [e] at q; cases q
    · obtain ⟨_, _, e, _⟩ := hr; exact cells_own e b q
    · obtain ⟨_, _, e, _⟩ := hr; exact cells_own e b q
  · exact cells_of (h.mac.ca 0 (by omega))
  · exact cells_of h.en.c0
  · exact cells_own h.en.rs b q
  · exact cells_own h.en.ra b q
  · exact ⟨_, _, _, h.mr.b⟩
  · have hr := h.mr.r
    split at hr
    · rename_i e
      exact cells_reads hr (fun e2 => by have := hk.rc.2 e; rw [e2] at this; cases this) b q
    · exact cells_own hr b q
/-- Whatever is no cells lies as it lay. -/
theorem keeps_moved {S S' : List Nat} (m : Moved w w' S S') (hS : ∀ b ∈ S, ∃ cs t fz, w.heap[b]? = some (.cells cs t fz)) : KeepsOthers w w' :=
  ⟨m.size, fun j o ho hc => (m.block j (Array.getElem?_eq_some_iff.1 ho).1 (fun q => by
    obtain ⟨cs, t, fz, e⟩ := hS j q
    rw [ho] at e
    cases e
    cases hc)).trans ho⟩
theorem keeps_link {S' : List Nat} (h : LkM w L c y k) (hk : LkOK c k) (m : Moved w w' (y.foot L) S') : KeepsOthers w w' := keeps_moved m (h.cel hk)
theorem keeps_below (h : Below w.heap.size w w') : KeepsOthers w w' := keeps_moved (Moved.below h []) (fun _ q => by cases q)
end
/-- The state, but for where in an element the stream stands. -/
def Lk.z (k : Lk) : Lk := { k with st := .between }
theorem refuse_z (k : Lk) : k.z.refuse = k.refuse.z := by
  unfold Lk.refuse
  rw [apply_ite Lk.z, apply_ite Lk.z]
  rfl
theorem subE_z (c : Cf) (k : Lk) (e : Tn.Ev) : subE c k.z e = (subE c k e).z := by
  unfold subE
  rw [apply_ite Lk.z, ← refuse_z]
  rfl
theorem optE_z (c : Cf) (k : Lk) (v o : Nat) : optE c k.z v o = (optE c k v o).z := by
  unfold optE
  dsimp only
  rw [apply_ite Lk.z]
  rfl
theorem dropIf_z (m : Int) (k : Lk) : dropIf m k.z = (dropIf m k).z := by
  unfold dropIf
  rw [apply_ite Lk.z]
  rfl
def zP (q : Lk × Option Evt) : Lk × Option Evt := (q.1.z, q.2)
theorem procE_z (c : Cf) (k : Lk) (e : Tn.Ev) : procE c k.z e = ((procE c k e).1.z, (procE c k e).2) := by
  show _ = zP (procE c k e)
  unfold procE
  rw [apply_ite zP, apply_ite zP, apply_ite zP, apply_ite zP, apply_ite zP, optE_z, subE_z]
  show _ = if e.kind = 0 then (if k.mode = 0 then _ else _) else if e.kind = 1 then (if e.verb = 239 ∧ k.mode ≠ 0 then _ else _) else if e.kind = 2 then ((dropIf k.mode (optE c k e.verb.toNat e.opt.toNat)).z, none) else ((dropIf k.mode (subE c k e)).z, none)
  rw [← dropIf_z, ← dropIf_z]
  rfl
theorem dropIf_st (m : Int) (k : Lk) : (dropIf m k).st = k.st := by
  unfold dropIf
  split <;> rfl
theorem refuse_st (k : Lk) : k.refuse.st = k.st := by
  unfold Lk.refuse
  repeat' split
  all_goals rfl
theorem subE_st (c : Cf) (k : Lk) (e : Tn.Ev) : (subE c k e).st = k.st := by
  unfold subE
  split
  · rfl
  · exact refuse_st _
theorem optE_st (c : Cf) (k : Lk) (v o : Nat) : (optE c k v o).st = k.st := by
  unfold optE
  dsimp only
  split <;> rfl
theorem procE_st (c : Cf) (k : Lk) (e : Tn.Ev) : (procE c k e).1.st = k.st := by
  unfold procE
  by_cases h0 : e.kind = 0
  · rw [if_pos h0]
    split <;> rfl
  · rw [if_neg h0]
    by_cases h1 : e.kind = 1
    · rw [if_pos h1]
      split <;> rfl
    · rw [if_neg h1]
      by_cases h2 : e.kind = 2
      · rw [if_pos h2]
        exact (dropIf_st _ _).trans (optE_st _ _ _ _)
      · rw [if_neg h2]
        exact (dropIf_st _ _).trans (subE_st _ _ _)
/-- What was told of elements, one by one, and what the loop's body did each time. -/
inductive RunU {σ : Type} (c : Cf) (Bd : σ → Lk → Evt → Value → σ → Lk → Prop) : σ → Lk → List Tn.Ev → σ → Lk → Prop
  | nil (s : σ) (k : Lk) : RunU c Bd s k [] s k
  | quiet {s s2 : σ} {k k2 : Lk} {e : Tn.Ev} {es : List Tn.Ev} (h : (procE c k e).2 = none) (r : RunU c Bd s (procE c k e).1 es s2 k2) : RunU c Bd s k (e :: es) s2 k2
  | told {s s1 s2 : σ} {k k1 k2 : Lk} {e : Tn.Ev} {es : List Tn.Ev} {x : Evt} {dv : Value} (h : (procE c k e).2 = some x) (b : Bd s (procE c k e).1 x dv s1 k1) (r : RunU c Bd s1 k1 es s2 k2) : RunU c Bd s k (e :: es) s2 k2
theorem RunU.append {σ : Type} {c : Cf} {Bd : σ → Lk → Evt → Value → σ → Lk → Prop} {s s1 s2 : σ} {k k1 k2 : Lk} {a b : List Tn.Ev} (h : RunU c Bd s k a s1 k1) (g : RunU c Bd s1 k1 b s2 k2) : RunU c Bd s k (a ++ b) s2 k2 := by
  induction h with
  | nil => exact g
  | quiet h _ ih => exact .quiet h (ih g)
  | told h b' _ ih => exact .told h b' (ih g)
/-- A stream's elements as they are read: part by part, each merged. -/
inductive Grps : Tn.St → List Int → List Tn.Ev → Prop
  | nil (st : Tn.St) : Grps st [] []
  | part {st : Tn.St} {ps : List Int} {m : Nat} {es : List Tn.Ev} (h1 : 1 ≤ m) (h2 : m ≤ ps.length) (r : Grps (Tn.runS st (ps.take m)) (ps.drop m) es) : Grps st ps (Tn.mergeL (Tn.emit st (ps.take m)) ++ es)
/-- The loop's own part: its state's facts, and where they lie: what it writes, what it reads. -/
structure Own (σ : Type) where
  U : σ → World → Prop
  wr : σ → List Nat
  rd : σ → List Nat
  sz : σ → Nat
  lim : Nat
  moved : ∀ {s w w' S S'}, U s w → Moved w w' S S' → (∀ b ∈ wr s, b ∉ S) → (∀ b ∈ rd s, b ∉ S) → U s w'
  lt : ∀ {s w}, U s w → ∀ b ∈ wr s, b < w.heap.size
  rlt : ∀ {s w}, U s w → ∀ b ∈ rd s, b < w.heap.size
/-- What is at hand when an event is told. -/
structure Yl (σ : Type) where
  s : σ
  k : Lk
  x : Evt
  dv : Value
  y : Ly
  keep : List (Nat × Obj)
  hs : Nat
def Held (keep : List (Nat × Obj)) (w : World) (S : List Nat) : Prop := ∀ p ∈ keep, w.heap[p.1]? = some p.2 ∧ p.1 ∉ S ∧ p.2.isCells = true
section
variable {σ : Type} (O : Own σ) (L : Nat) (c : Cf) (Bd : σ → Lk → Evt → Value → σ → Lk → Prop) (mx : Nat)
/-- A link and the loop's own part, apart. -/
structure Both (s : σ) (k : Lk) (y : Ly) (w : World) : Prop where
  lk : LkM w L c y k
  ok : LkOK c k
  u : O.U s w
  aw : ∀ b ∈ O.wr s, b ∉ y.foot L
  ar : ∀ b ∈ O.rd s, b ∉ y.foot L
def encY (x : Yl σ) : Array Value := #[evV x.x x.dv]
def PreY (x : Yl σ) (w : World) : Prop := Both O L c x.s x.k x.y w ∧ Reads w x.dv x.x.data ∧ (∃ a n d, x.dv = .slice a n d) ∧ (∀ b ∈ blkV x.dv, b ∉ x.y.foot L ∧ b ∉ O.wr x.s) ∧ x.hs ≤ w.heap.size ∧ Held x.keep w (x.y.foot L) ∧ Held x.keep w (O.wr x.s) ∧ (∃ k0 e, procE c k0 e = (x.k, some x.x) ∧ EvOK e ∧ LkOK c k0 ∧ ∀ b ∈ k0.rc, 0 ≤ b ∧ b < 256) ∧ O.sz x.s ≤ O.lim
def JY (x : Yl σ) (w : World) : Prop := ∃ s' k' y', Bd x.s x.k.z x.x x.dv s' k'.z ∧ k'.st = x.k.st ∧ k'.out.length ≤ x.k.out.length + mx ∧ Both O L c s' k' y' w ∧ x.hs ≤ w.heap.size ∧ Held x.keep w (y'.foot L) ∧ Held x.keep w (O.wr s')
def DnY (s0 : σ) (k0 : Lk) (ps : List Int) (w : World) : Prop := ∃ s k y es, Grps k0.st ps es ∧ RunU c Bd s0 k0.z es s k.z ∧ k.st = Tn.runS k0.st ps ∧ Both O L c s k y w ∧ k.out.length ≤ k0.out.length + 11000 * ps.length
end
end Go.Proofs.YtaanpnmgibcemaaGreatDoor
