/-
  telnet: events as plain lists, and in memory; the reader.
-/
import Derived.Test.YtaanpnmgibcemaaGreatDoorBa
import Derived.Deep.Onto
import Derived.Lib.LazyBuf
namespace Go.Proofs.YtaanpnmgibcemaaGreatDoor.Tn
/-! XMa -/
section
/-- An event. -/
structure Ev where
  kind : Int
  verb : Int
  opt : Int
  data : List Int
  long : Bool
  broken : Bool
/-- An event of data. -/
def dat (p : List Int) : Ev := ⟨0, 0, 0, p, false, false⟩
/-- Data behind events. -/
def addD (l : List Ev) (p : List Int) : List Ev :=
  if p = [] then l else
    match l.getLast? with
    | none => [dat p]
    | some e => if e.kind = 0 then l.dropLast ++ [{ e with data := e.data ++ p }] else l ++ [dat p]
/-- One more event, merged. -/
def mstep (l : List Ev) (e : Ev) : List Ev := if e.kind = 0 then addD l e.data else l ++ [e]
/-- Merged. -/
def mergeL (l : List Ev) : List Ev := l.foldl mstep []
theorem mstep_dat (l : List Ev) {e : Ev} (h : e.kind = 0) : mstep l e = addD l e.data := if_pos h
theorem mstep_ev (l : List Ev) {e : Ev} (h : ¬ e.kind = 0) : mstep l e = l ++ [e] := if_neg h
theorem addD_nil (l : List Ev) : addD l [] = l := by simp [addD]
theorem addD_empty {p : List Int} (h : p ≠ []) : addD [] p = [dat p] := by simp [addD, h]
theorem addD_snoc (l : List Ev) (e : Ev) {p : List Int} (h : p ≠ []) : addD (l ++ [e]) p = if e.kind = 0 then l ++ [{ e with data := e.data ++ p }] else l ++ [e] ++ [dat p] := by
  simp [addD, h]
theorem snoc_cases (l : List Ev) : l = [] ∨ ∃ l' e, l = l' ++ [e] := by
  rcases List.eq_nil_or_concat l with h | ⟨l', e, h⟩
  · exact .inl h
  · exact .inr ⟨l', e, by simpa using h⟩
theorem addD_addD (l : List Ev) (p q : List Int) : addD (addD l p) q = addD l (p ++ q) := by
  by_cases hp : p = []
  · subst hp; rw [addD_nil, List.nil_append]
  by_cases hq : q = []
  · subst hq; rw [addD_nil, List.append_nil]
  have hpq : p ++ q ≠ [] := by simp [hp]
  rcases snoc_cases l with rfl | ⟨l', e, rfl⟩
  · rw [addD_empty hp, addD_empty hpq]
    have := addD_snoc [] (dat p) hq
    simpa [dat] using this
  · rw [addD_snoc _ _ hp, addD_snoc _ _ hpq]
    by_cases he : e.kind = 0
    · rw [if_pos he, if_pos he, addD_snoc _ _ hq, if_pos he]; simp
    · rw [if_neg he, if_neg he, addD_snoc _ _ hq]; simp [dat]
theorem mergeL_snoc (l : List Ev) (e : Ev) : mergeL (l ++ [e]) = mstep (mergeL l) e := by simp [mergeL]
theorem mergeL_append (a b : List Ev) : mergeL (a ++ b) = b.foldl mstep (mergeL a) := by simp [mergeL]
/-- What was merged already merges as it was. -/
theorem fold_merge (X : List Ev) (b : List Ev) : (mergeL b).foldl mstep X = b.foldl mstep X := by
  have key : ∀ n, ∀ b : List Ev, b.length = n → (mergeL b).foldl mstep X = b.foldl mstep X := by
    intro n
    induction n with
    | zero => intro b hb; rw [List.length_eq_zero_iff.1 hb]; rfl
    | succ n ih =>
      intro b hb
      rcases snoc_cases b with rfl | ⟨b', e, rfl⟩
      · rfl
      have hb' : b'.length = n := by simpa using hb
      have i0 := ih b' hb'
      rw [mergeL_snoc, List.foldl_append]
      show _ = mstep (b'.foldl mstep X) e
      rw [← i0]
      by_cases he : e.kind = 0
      · rw [mstep_dat _ he, mstep_dat _ he]
        by_cases hp : e.data = []
        · rw [hp, addD_nil, addD_nil]
        rcases snoc_cases (mergeL b') with h | ⟨m, f, h⟩
        · rw [h, addD_empty hp]
          exact mstep_dat (e := dat e.data) _ rfl
        · rw [h, addD_snoc _ _ hp]
          by_cases hf : f.kind = 0
          · rw [if_pos hf, List.foldl_append, List.foldl_append]
            show mstep _ _ = addD (mstep _ f) _
            rw [mstep_dat (e := f) _ hf, addD_addD]
            exact mstep_dat _ hf
          · rw [if_neg hf, List.foldl_append]
            exact mstep_dat (e := dat e.data) _ rfl
      · rw [mstep_ev _ he, mstep_ev _ he, List.foldl_append]
        show mstep _ e = _
        rw [mstep_ev _ he]
  exact key _ b rfl
theorem merge_fix (a b : List Ev) : mergeL (a ++ mergeL b) = mergeL (a ++ b) := by
  rw [mergeL_append, mergeL_append, fold_merge]
theorem merge_twice (b : List Ev) : mergeL (mergeL b) = mergeL b := by
  have := merge_fix [] b
  simpa using this
/-- Where in an element a stream stands. -/
inductive St where
  | between
  | iac
  | verb (v : Int)
  | sb
  | sub (o : Int) (d : List Int) (l : Bool)
  | subIac (o : Int) (d : List Int) (l : Bool)
/-- A byte that a subnegotiation keeps. -/
def keepS (o : Int) (d : List Int) (l : Bool) (b : Int) : St := if d.length = 256 then .sub o d true else .sub o (d ++ [b]) l
/-- Behind an IAC. -/
def iacS (b : Int) : St × List Ev :=
  if b = 255 then (.between, [dat [255]]) else if b = 250 then (.sb, []) else if 251 ≤ b ∧ b ≤ 254 then (.verb b, []) else (.between, [⟨1, b, 0, [], false, false⟩])
/-- A byte. -/
def stepS (s : St) (b : Int) : St × List Ev :=
  match s with
  | .between => if b = 255 then (.iac, []) else (.between, [dat [b]])
  | .iac => iacS b
  | .verb v => (.between, [⟨2, v, b, [], false, false⟩])
  | .sb => (.sub b [] false, [])
  | .sub o d l => if b = 255 then (.subIac o d l, []) else (keepS o d l b, [])
  | .subIac o d l =>
    if b = 255 then (keepS o d l b, [])
    else if b = 240 then (.between, [⟨3, 0, o, d, l, false⟩])
    else ((iacS b).1, ⟨3, 0, o, d, l, true⟩ :: (iacS b).2)
/-- The state behind bytes. -/
def runS (s : St) : List Int → St
  | [] => s
  | b :: p => runS (stepS s b).1 p
/-- What bytes say. -/
def emit (s : St) : List Int → List Ev
  | [] => []
  | b :: p => (stepS s b).2 ++ emit (stepS s b).1 p
theorem runS_append (s : St) (p q : List Int) : runS s (p ++ q) = runS (runS s p) q := by
  induction p generalizing s with
  | nil => rfl
  | cons b p ih => exact ih _
theorem emit_append (s : St) (p q : List Int) : emit s (p ++ q) = emit s p ++ emit (runS s p) q := by
  induction p generalizing s with
  | nil => rfl
  | cons b p ih =>
    show (stepS s b).2 ++ emit _ (p ++ q) = _
    rw [ih, ← List.append_assoc]; rfl
theorem emit_snoc (s : St) (p : List Int) (b : Int) : emit s (p ++ [b]) = emit s p ++ (stepS (runS s p) b).2 := by
  rw [emit_append]
  show _ ++ ((stepS (runS s p) b).2 ++ []) = _
  rw [List.append_nil]
theorem runS_snoc (s : St) (p : List Int) (b : Int) : runS s (p ++ [b]) = (stepS (runS s p) b).1 := by
  rw [runS_append]; rfl
/-- Is something under way? -/
def St.waits : St → Bool
  | .between => false
  | _ => true
/-- How much events hold. -/
def wt : List Ev → Nat
  | [] => 0
  | e :: l => 1 + e.data.length + wt l
theorem wt_append (a b : List Ev) : wt (a ++ b) = wt a + wt b := by
  induction a with
  | nil => simp [wt]
  | cons e a ih => simp only [List.cons_append, wt, ih]; omega
theorem wt_length (l : List Ev) : l.length ≤ wt l := by
  induction l with
  | nil => exact Nat.le_refl _
  | cons e l ih => simp only [List.length_cons, wt]; omega
theorem wt_mem {l : List Ev} {e : Ev} (h : e ∈ l) : e.data.length < wt l := by
  induction l with
  | nil => cases h
  | cons f l ih =>
    simp only [wt]
    rcases List.mem_cons.1 h with rfl | h
    · omega
    · have := ih h; omega
theorem wt_addD (l : List Ev) (p : List Int) : wt (addD l p) ≤ wt l + 1 + p.length := by
  by_cases hp : p = []
  · subst hp; rw [addD_nil]; simp
  rcases snoc_cases l with rfl | ⟨l', e, rfl⟩
  · rw [addD_empty hp]; simp [wt, dat]
  · rw [addD_snoc _ _ hp]
    by_cases he : e.kind = 0
    · rw [if_pos he]; simp [wt_append, wt]; omega
    · rw [if_neg he]; simp [wt_append, wt, dat]; omega
theorem wt_mstep (l : List Ev) (e : Ev) : wt (mstep l e) ≤ wt l + 1 + e.data.length := by
  unfold mstep
  split
  · exact wt_addD l e.data
  · simp [wt_append, wt]; omega
theorem wt_fold (b X : List Ev) : wt (b.foldl mstep X) ≤ wt X + wt b := by
  induction b generalizing X with
  | nil => simp [wt]
  | cons e b ih =>
    have h1 := ih (mstep X e)
    have h2 := wt_mstep X e
    simp only [List.foldl_cons, wt]; omega
theorem wt_merge (b : List Ev) : wt (mergeL b) ≤ wt b := by
  have := wt_fold b []
  simpa [wt, mergeL] using this
/-- What a state holds. -/
def St.wt : St → Nat
  | .sub _ d _ => d.length
  | .subIac _ d _ => d.length
  | _ => 0
theorem wt_keepS (o : Int) (d : List Int) (l : Bool) (b : Int) : (keepS o d l b).wt ≤ d.length + 1 := by
  unfold keepS
  split <;> simp [St.wt]
theorem wt_iacS (b : Int) : YtaanpnmgibcemaaGreatDoor.Tn.wt (iacS b).2 + (iacS b).1.wt ≤ 2 := by
  unfold iacS
  repeat' split
  all_goals simp [YtaanpnmgibcemaaGreatDoor.Tn.wt, St.wt, dat]
theorem wt_stepS (s : St) (b : Int) : YtaanpnmgibcemaaGreatDoor.Tn.wt (stepS s b).2 + (stepS s b).1.wt ≤ s.wt + 3 := by
  cases s with
  | between => simp only [stepS]; split <;> simp [YtaanpnmgibcemaaGreatDoor.Tn.wt, St.wt, dat]
  | iac => have := wt_iacS b; simp only [stepS, St.wt] at this ⊢; omega
  | verb v => simp [stepS, YtaanpnmgibcemaaGreatDoor.Tn.wt, St.wt]
  | sb => simp [stepS, YtaanpnmgibcemaaGreatDoor.Tn.wt, St.wt]
  | sub o d l =>
    have := wt_keepS o d l b
    simp only [stepS]
    split
    · simp [YtaanpnmgibcemaaGreatDoor.Tn.wt, St.wt]
    · simp only [YtaanpnmgibcemaaGreatDoor.Tn.wt, St.wt] at this ⊢; omega
  | subIac o d l =>
    have h1 := wt_keepS o d l b
    have h2 := wt_iacS b
    simp only [stepS]
    split
    · simp only [YtaanpnmgibcemaaGreatDoor.Tn.wt, St.wt] at h1 ⊢; omega
    · split
      · simp [YtaanpnmgibcemaaGreatDoor.Tn.wt, St.wt]; omega
      · simp only [YtaanpnmgibcemaaGreatDoor.Tn.wt, St.wt] at h2 ⊢; omega
theorem wt_emit (s : St) (p : List Int) : YtaanpnmgibcemaaGreatDoor.Tn.wt (emit s p) + (runS s p).wt ≤ s.wt + 3 * p.length := by
  induction p generalizing s with
  | nil => simp [emit, runS, YtaanpnmgibcemaaGreatDoor.Tn.wt]
  | cons b p ih =>
    have h1 := ih (stepS s b).1
    have h2 := wt_stepS s b
    simp only [emit, runS, wt_append, List.length_cons]; omega
end
/-! XMc -/
section
open Go.RowKit Go.Lib
/-- An event's cells. -/
def evC (e : Ev) (d : Value) : List Value := [.int .i64 e.kind, .int .u8 e.verb, .int .u8 e.opt, d, .bool e.long, .bool e.broken]
def cellsE (xs : List (Ev × Value)) : List Value := xs.flatMap fun x => evC x.1 x.2
theorem cellsE_append (a b : List (Ev × Value)) : cellsE (a ++ b) = cellsE a ++ cellsE b := by simp [cellsE]
theorem cellsE_length (xs : List (Ev × Value)) : (cellsE xs).length = xs.length * 6 := by
  induction xs with
  | nil => rfl
  | cons p ps ih => simp [cellsE, evC] at ih ⊢; omega
theorem cellsE_at (xs : List (Ev × Value)) (i : Nat) (h : i < xs.length) (j : Nat) (hj : j < 6) : (cellsE xs)[i * 6 + j]? = (evC xs[i].1 xs[i].2)[j]? := by
  have e : xs = xs.take i ++ xs[i] :: xs.drop (i + 1) := by rw [List.getElem_cons_drop, List.take_append_drop]
  have hl : (cellsE (xs.take i)).length = i * 6 := by rw [cellsE_length, List.length_take]; congr 1; omega
  conv => lhs; rw [e, cellsE_append]
  rw [List.getElem?_append_right (by omega), hl, Nat.add_sub_cancel_left]
  show (evC _ _ ++ cellsE _)[j]? = _
  rw [List.getElem?_append_left (by simpa [evC] using hj)]
theorem one_evC (e : Ev) (d : Value) (hd : d.oneCell' = true) : ∀ u ∈ evC e d, u.oneCell' = true := by
  intro u hu
  simp only [evC, List.mem_cons, List.not_mem_nil, or_false] at hu
  rcases hu with rfl | rfl | rfl | rfl | rfl | rfl <;> first | rfl | exact hd
/-- The blocks of events of one's own. -/
def blks (v : Value) (xs : List (Ev × Value)) : List Nat := blkV v ++ xs.flatMap fun x => blkV x.2
theorem blks_nil : blks (.slice none 0 0) [] = [] := rfl
theorem mem_blks {v : Value} {xs : List (Ev × Value)} {k : Nat} : k ∈ blks v xs ↔ k ∈ blkV v ∨ ∃ x ∈ xs, k ∈ blkV x.2 := by simp [blks]
/-- Events of one's own: no two blocks are one. -/
structure OwnL (w : World) (v : Value) (xs : List (Ev × Value)) : Prop where
  row : w.ownsRow 0 123 6 v xs.length (cellsE xs)
  data : ∀ x ∈ xs, OwnB w x.2 x.1.data
  apart : (blks v xs).Nodup
theorem OwnL.nil (w : World) : OwnL w (.slice none 0 0) [] := ⟨World.ownsRow_nil _ _ _ _, fun _ h => (by cases h), by simp [blks, blkV, Value.ownBlock]⟩
theorem OwnL.moved {w w' : World} {v : Value} {xs : List (Ev × Value)} {S S' : List Nat} (h : OwnL w v xs) (m : Moved w w' S S') (hk : ∀ k ∈ blks v xs, k ∉ S) : OwnL w' v xs :=
  ⟨own_moved h.row m (fun k q => hk k (mem_blks.2 (.inl q))), fun x hx => (h.data x hx).moved m (fun k q => hk k (mem_blks.2 (.inr ⟨x, hx, q⟩))), h.apart⟩
theorem OwnL.lt {w : World} {v : Value} {xs : List (Ev × Value)} (h : OwnL w v xs) : ∀ k ∈ blks v xs, k < w.heap.size := fun k hk => by
  rcases mem_blks.1 hk with q | ⟨x, hx, q⟩
  · exact own_lt h.row k q
  · exact own_lt (h.data x hx).2 k q
/-- Events that are read. -/
def EvsIn (w : World) (v : Value) (es : List Ev) : Prop :=
  ∃ (x : Option Addr) (cap : Nat) (ds : Nat → Value), v = .slice x es.length cap ∧ ∀ i (h : i < es.length), ∃ g off, x = some ⟨g, off, none⟩ ∧ (∀ j, j < 6 → w.cell? ⟨g, off + i * 6 + j, none⟩ = (evC es[i] (ds i))[j]?) ∧ Reads w (ds i) es[i].data
theorem OwnL.evs {w : World} {v : Value} {xs : List (Ev × Value)} (h : OwnL w v xs) : EvsIn w v (xs.map (·.1)) := by
  rcases h.row.2 with ⟨rfl, e⟩ | ⟨g, cap, cur, rfl, hg, hh, h1, h2, h3, h4⟩
  · have hx : xs = [] := List.length_eq_zero_iff.1 e
    subst hx
    exact ⟨none, 0, fun _ => .bool false, rfl, fun i hi => absurd hi (Nat.not_lt_zero i)⟩
  · refine ⟨some ⟨g, 0, none⟩, cap, fun i => (xs.getD i (dat [], .bool false)).2, by rw [List.length_map], fun i hi => ⟨g, 0, rfl, fun j hj => ?_, ?_⟩⟩
    · rw [List.length_map] at hi
      rw [Nat.zero_add, World.ownsRow.cellAt h.row _ (by omega), cellsE_at xs i hi j hj]
      simp [List.getD, List.getElem?_eq_getElem hi]
    · rw [List.length_map] at hi
      have := (h.data xs[i] (List.getElem_mem hi)).reads
      simpa [List.getD, List.getElem?_eq_getElem hi] using this
theorem evs_below {w w' : World} {v : Value} {es : List Ev} (h : EvsIn w v es) (hb : Below w.heap.size w w') : EvsIn w' v es := by
  obtain ⟨x, cap, ds, rfl, h⟩ := h
  refine ⟨x, cap, ds, rfl, fun i hi => ?_⟩
  obtain ⟨g, off, e, hc, hr⟩ := h i hi
  refine ⟨g, off, e, fun j hj => ?_, reads_below hr hb⟩
  have q := hc j hj
  rw [← q]
  have hs : (evC es[i] (ds i))[j]? = some ((evC es[i] (ds i))[j]'(by simpa [evC] using hj)) := List.getElem?_eq_getElem _
  exact hb.cell (World.block_lt_of_cell? w ⟨g, off + i * 6 + j, none⟩ (q.trans hs))
section
variable {P : Program} (w : World)
end
end
/-! XMd -/
section
open Go.RowKit Go.Lib
theorem blkV_one (v : Value) : (blkV v).Nodup := by
  unfold blkV
  cases v.ownBlock <;> simp
theorem blks_nodup {v : Value} {xs : List (Ev × Value)} : (blks v xs).Nodup ↔ (xs.flatMap fun x => blkV x.2).Nodup ∧ ∀ k ∈ blkV v, ∀ x ∈ xs, k ∉ blkV x.2 := by
  unfold blks
  rw [List.nodup_append]
  constructor
  · rintro ⟨_, h2, h3⟩
    exact ⟨h2, fun k hk x hx q => h3 k hk k (List.mem_flatMap.2 ⟨x, hx, q⟩) rfl⟩
  · rintro ⟨h2, h3⟩
    refine ⟨blkV_one v, h2, fun a ha b hb e => ?_⟩
    obtain ⟨x, hx, q⟩ := List.mem_flatMap.1 hb
    exact h3 a ha x hx (e ▸ q)
theorem OwnL.snoc {w w' : World} {v v' : Value} {xs : List (Ev × Value)} {e : Ev} {d : Value} (h : OwnL w v xs) (hd : OwnB w d e.data) (hn : ∀ k ∈ blkV d, k ∉ blks v xs)
    (hrow : w'.ownsRow 0 123 6 v' (xs.length + 1) (cellsE xs ++ evC e d)) (hg : w.grownBy w' v.ownBlock) (hb : ∀ k ∈ blkV v', k ∈ blkV v ∨ w.heap.size ≤ k) :
    OwnL w' v' (xs ++ [(e, d)]) ∧ Moved w w' (blks v xs ++ blkV d) (blks v' (xs ++ [(e, d)])) := by
  have hm : Moved w w' (blkV v) (blkV v') := Moved.grown hg (fun k hk => mem_blkV.2 hk) hb
  have ha := blks_nodup.1 h.apart
  refine ⟨⟨?_, ?_, ?_⟩, ?_⟩
  · rw [cellsE_append, List.length_append]
    show w'.ownsRow 0 123 6 v' (xs.length + 1) (cellsE xs ++ (evC e d ++ []))
    rw [List.append_nil]
    exact hrow
  · intro x hx
    rcases List.mem_append.1 hx with hx | hx
    · exact (h.data x hx).moved hm (fun k hk q => ha.2 k q x hx hk)
    · rw [List.mem_singleton.1 hx]
      exact hd.moved hm (fun k hk q => hn k hk (mem_blks.2 (.inl q)))
  · rw [blks_nodup, List.flatMap_append, List.nodup_append]
    refine ⟨⟨ha.1, by simpa using blkV_one d, fun a ha' b hb' e' => ?_⟩, fun k hk x hx q => ?_⟩
    · obtain ⟨x, hx, q⟩ := List.mem_flatMap.1 ha'
      have hb2 : b ∈ blkV d := by simpa using hb'
      exact hn b hb2 (mem_blks.2 (.inr ⟨x, hx, e' ▸ q⟩))
    · rcases List.mem_append.1 hx with hx | hx
      · rcases hb k hk with r | r
        · exact ha.2 k r x hx q
        · have := own_lt (h.data x hx).2 k q; omega
      · rw [List.mem_singleton.1 hx] at q
        rcases hb k hk with r | r
        · exact hn k q (mem_blks.2 (.inl r))
        · have := own_lt hd.2 k q; omega
  · refine hm.sub (fun k hk => List.mem_append.2 (.inl (mem_blks.2 (.inl hk)))) (fun k hk => ?_)
    rcases mem_blks.1 hk with q | ⟨x, hx, q⟩
    · exact .inl q
    · rcases List.mem_append.1 hx with hx | hx
      · exact .inr (List.mem_append.2 (.inl (mem_blks.2 (.inr ⟨x, hx, q⟩))))
      · rw [List.mem_singleton.1 hx] at q
        exact .inr (List.mem_append.2 (.inr q))
theorem cellsE_set (ys : List (Ev × Value)) (x : Ev × Value) (p : List Int) (d' : Value) : (cellsE (ys ++ [x])).set (ys.length * 6 + 3) d' = cellsE (ys ++ [({ x.1 with data := x.1.data ++ p }, d')]) := by
  rw [cellsE_append, cellsE_append, List.set_append_right _ _ (by rw [cellsE_length]; omega), cellsE_length, Nat.add_sub_cancel_left]
  rfl
theorem OwnL.ext {w w1 : World} {g n cap : Nat} {ys : List (Ev × Value)} {x : Ev × Value} {p : List Int} {d' : Value} (h : OwnL w (.slice (some ⟨g, 0, none⟩) n cap) (ys ++ [x])) (hn : n = ys.length + 1)
    (hd : OwnB w1 d' (x.1.data ++ p)) (hg : w.grownBy w1 x.2.ownBlock) (hb : ∀ k ∈ blkV d', k ∈ blkV x.2 ∨ w.heap.size ≤ k) :
    OwnL (w1.setCell ⟨g, ys.length * 6 + 3, none⟩ d') (.slice (some ⟨g, 0, none⟩) n cap) (ys ++ [({ x.1 with data := x.1.data ++ p }, d')]) ∧
    Moved w (w1.setCell ⟨g, ys.length * 6 + 3, none⟩ d') (blks (.slice (some ⟨g, 0, none⟩) n cap) (ys ++ [x])) (blks (.slice (some ⟨g, 0, none⟩) n cap) (ys ++ [({ x.1 with data := x.1.data ++ p }, d')])) := by
  have hm : Moved w w1 (blkV x.2) (blkV d') := Moved.grown hg (fun k hk => mem_blkV.2 hk) hb
  have ha := blks_nodup.1 h.apart
  have hgm : g ∈ blkV (.slice (some ⟨g, 0, none⟩) n cap) := by simp [blkV, Value.ownBlock]
  have hxm : x ∈ ys ++ [x] := by simp
  have hgx : g ∉ blkV x.2 := ha.2 g hgm x hxm
  have hgl : g < w.heap.size := h.lt g (mem_blks.2 (.inl hgm))
  have hgd : g ∉ blkV d' := fun q => by
    rcases hb g q with r | r
    · exact hgx r
    · omega
  have hs : Moved w1 (w1.setCell ⟨g, ys.length * 6 + 3, none⟩ d') [g] [g] := Moved.set (by simp) _ _
  have ha1 := ha.1
  rw [List.flatMap_append, List.nodup_append] at ha1
  have hrow := own_moved h.row hm (fun k hk q => ha.2 k hk x hxm q)
  subst hn
  rw [show (ys ++ [x]).length = ys.length + 1 by simp] at hrow
  refine ⟨⟨?_, ?_, ?_⟩, ?_⟩
  · have q := (World.ownsRow.stored hrow (ys.length * 6 + 3) d').1
    rw [cellsE_set ys x p d'] at q
    rw [List.length_append]
    exact q
  · intro y hy
    rcases List.mem_append.1 hy with hy | hy
    · have hyx : ∀ k ∈ blkV y.2, k ∉ blkV x.2 := fun k hk q => ha1.2.2 k (List.mem_flatMap.2 ⟨y, hy, hk⟩) k (by simpa using q) rfl
      refine ((h.data y (List.mem_append.2 (.inl hy))).moved hm hyx).moved hs (fun k hk q => ?_)
      rw [List.mem_singleton.1 q] at hk
      exact ha.2 g hgm y (List.mem_append.2 (.inl hy)) hk
    · rw [List.mem_singleton.1 hy]
      refine hd.moved hs (fun k hk q => ?_)
      rw [List.mem_singleton.1 q] at hk
      exact hgd hk
  · rw [blks_nodup, List.flatMap_append, List.nodup_append]
    refine ⟨⟨ha1.1, by simpa using blkV_one d', fun a ha' b hb' e' => ?_⟩, fun k hk y hy q => ?_⟩
    · obtain ⟨y, hy, q⟩ := List.mem_flatMap.1 ha'
      have hb2 : b ∈ blkV d' := by simpa using hb'
      subst e'
      rcases hb a hb2 with r | r
      · exact ha1.2.2 a ha' a (by simpa using r) rfl
      · have := own_lt (h.data y (List.mem_append.2 (.inl hy))).2 a q; omega
    · have hkg : k = g := by have := mem_blkV.1 hk; simpa [Value.ownBlock] using this.symm
      subst hkg
      rcases List.mem_append.1 hy with hy | hy
      · exact ha.2 k hgm y (List.mem_append.2 (.inl hy)) q
      · rw [List.mem_singleton.1 hy] at q
        exact hgd q
  · refine (hm.sub (T := blks (.slice (some ⟨g, 0, none⟩) (ys.length + 1) cap) (ys ++ [x])) (T' := blkV d' ++ blks (.slice (some ⟨g, 0, none⟩) (ys.length + 1) cap) (ys ++ [x])) (fun k hk => mem_blks.2 (.inr ⟨x, hxm, hk⟩)) (fun k hk => List.mem_append.1 hk)).trans ?_
    refine hs.sub (fun k hk => ?_) (fun k hk => .inr ?_)
    · rw [List.mem_singleton.1 hk]
      exact List.mem_append.2 (.inr (mem_blks.2 (.inl hgm)))
    · rcases mem_blks.1 hk with q | ⟨y, hy, q⟩
      · exact List.mem_append.2 (.inr (mem_blks.2 (.inl q)))
      · rcases List.mem_append.1 hy with hy | hy
        · exact List.mem_append.2 (.inr (mem_blks.2 (.inr ⟨y, List.mem_append.2 (.inl hy), q⟩)))
        · rw [List.mem_singleton.1 hy] at q
          exact List.mem_append.2 (.inl q)
end
/-! XFa -/
section
open Go.RowKit Go.Lib
theorem info37 : (Tryz.prog.info? 123).map (fun i => (i.zero, i.size, i.bytes)) = some (some (.agg #[.int .i64 0, .int .u8 0, .int .u8 0, .slice none 0 0, .bool false, .bool false]), 6, 48) := by kernel_rfl
theorem info36 : (Tryz.prog.info? 105).map (fun i => (i.zero, i.size, i.bytes)) = some (some (.agg #[.int .i64 0, .int .u8 0, .int .u8 0, .slice none 0 0, .bool false, .bool false]), 6, 48) := by kernel_rfl
theorem own_one {w : World} {d : Value} {xs : List Int} (h : OwnB w d xs) : d.oneCell' = true := by
  rcases h.2.2 with ⟨rfl, _⟩ | ⟨g, cap, cur, rfl, _⟩ <;> rfl
theorem own_slice {w : World} {d : Value} {xs : List Int} (h : OwnB w d xs) : ∃ x n c, d = .slice x n c := by
  rcases h.2.2 with ⟨rfl, _⟩ | ⟨g, cap, cur, rfl, _⟩ <;> exact ⟨_, _, _, rfl⟩
theorem reads_any_slice {w : World} {d : Value} {xs : List Int} (h : Reads w d xs) : ∃ x n c, d = .slice x n c := by
  rcases h.2 with ⟨rfl, _⟩ | ⟨a, cap, rfl, _⟩ <;> exact ⟨_, _, _, rfl⟩
theorem reads_one {w : World} {d : Value} {xs : List Int} (h : Reads w d xs) : d.oneCell' = true := by
  rcases h.2 with ⟨rfl, _⟩ | ⟨a, cap, rfl, _⟩ <;> rfl
theorem news_six (W : World) (x0 x1 x2 x3 x4 x5 : Value) (t : TypeId) : ∀ j u, [x0, x1, x2, x3, x4, x5][j]? = some u → (W.alloc (.cells #[x0, x1, x2, x3, x4, x5] t)).cell? ((⟨W.heap.size, 0, none⟩ : Addr).add j) = some u := by
  intro j u hu
  rw [addr_add, Nat.zero_add, cell_of_row _ W.heap.size j #[x0, x1, x2, x3, x4, x5] t (0, 0) (heap_alloc_new W _)]
  simpa using hu
/-- What addData leaves. -/
def AddPost (v : Value) (xs : List (Ev × Value)) (es : List Ev) (w : World) (e : Ending) (w' : World) : Prop :=
  ∃ v' xs', e = .returned v' ∧ OwnL w' v' xs' ∧ xs'.map (·.1) = es ∧ Moved w w' (blks v xs) (blks v' xs')
theorem snoc_done {w w1 w3 : World} {v v' : Value} {xs : List (Ev × Value)} {e : Ev} {d : Value} {o : Obj} (h : OwnL w v xs) (hb1 : Below w.heap.size w w1) (hd : OwnB w1 d e.data) (hf : ∀ k ∈ blkV d, w.heap.size ≤ k)
    (hrow : w3.ownsRow 0 123 6 v' (xs.length + 1) (cellsE xs ++ evC e d)) (hg : (w1.alloc o).grownBy w3 v.ownBlock) (hb : ∀ k ∈ blkV v', k ∈ blkV v ∨ (w1.alloc o).heap.size ≤ k) :
    OwnL w3 v' (xs ++ [(e, d)]) ∧ Moved w w3 (blks v xs) (blks v' (xs ++ [(e, d)])) := by
  have m0 : Below w.heap.size w (w1.alloc o) := hb1.alloc hb1.size o
  have m1 : Moved w (w1.alloc o) [] [] := Moved.below m0 []
  have h1 : OwnL (w1.alloc o) v xs := h.moved m1 (fun _ _ q => by cases q)
  have hd1 : OwnB (w1.alloc o) d e.data := hd.moved (Moved.alloc w1 o []) (fun _ _ q => by cases q)
  have r := h1.snoc hd1 (fun k hk q => by have := hf k hk; have := h.lt k q; omega) hrow hg hb
  refine ⟨r.1, ?_⟩
  refine Moved.trans (T := blks v xs ++ blkV d) ⟨m0.os, m0.tape, m0.output, m0.size, fun k hk _ => m0.block k hk, fun k hk => ?_⟩ r.2
  rcases List.mem_append.1 hk with q | q
  · exact .inl q
  · exact .inr (hf k q)
theorem map_snoc (xs : List (Ev × Value)) (e : Ev) (d : Value) : (xs ++ [(e, d)]).map (·.1) = xs.map (·.1) ++ [e] := by simp
set_option maxRecDepth 100000 in
set_option maxHeartbeats 2000000 in
theorem addData_zero (v p : Value) (xs : List (Ev × Value)) (w : World) (h : OwnL w v xs) (hp : Reads w p []) : Calls Tryz.prog 92 #[v, p] w (AddPost v xs (addD (xs.map (·.1)) []) w) := by
  have H : Hid (AddPost v xs (addD (xs.map (·.1)) []) w (.returned v) w) := ⟨v, xs, rfl, h, (addD_nil _).symm, Moved.refl _ _⟩
  obtain ⟨_, ⟨rfl, _⟩ | ⟨a, cap, rfl, _⟩⟩ := hp
  all_goals
    clear h
    go_enter Tryz.func92, Tryz.ntmps92
    go_wp2
    go_ret
    exact H.out
set_option maxRecDepth 100000 in
set_option maxHeartbeats 2000000 in
theorem addData_first (v : Value) (a : Addr) (L cap : Nat) (ps : List Int) (w : World) (h : OwnL w v []) (hp : Reads w (.slice (some a) L cap) ps) (hL : 0 < L) (hb : L ≤ 1000000) : Calls Tryz.prog 92 #[v, .slice (some a) L cap] w (AddPost v [] [dat ps] w) := by
  obtain ⟨i0, hi, hz0, hz1, hz2⟩ := info_parts info37
  have hl : L = ps.length := (reads_src hp).1
  have HCL := hid (clone_any _ ps w hp (by omega))
  have HO := hid h
  have l0 : ((L : Int) == 0) = false := by simp; omega
  clear hl hp
  have hv : ∃ x c, v = .slice x 0 c := by
    rcases h.row.2 with ⟨rfl, _⟩ | ⟨g, c, cur, rfl, _⟩
    · exact ⟨_, _, rfl⟩
    · exact ⟨_, _, rfl⟩
  obtain ⟨x, c, rfl⟩ := hv
  clear h
  go_enter Tryz.func92, Tryz.ntmps92
  go_wp2_with fail
  with_reducible refine HCL.out.mono ?_
  rintro e w1 ⟨d, rfl, hd, hb1, hf⟩
  obtain ⟨xd, nd, cd, rfl⟩ := own_slice hd
  have HD := hid hd
  have HB1 := hid hb1
  have HF := hid hf
  have H1 := own_one hd
  have HRW := hid ((own_moved HO.out.row (Moved.below hb1 []) (fun _ _ q => by cases q)).alloc (.cells #[.int .i64 0, .int .u8 0, .int .u8 0, .slice xd nd cd, .bool false, .bool false] 123))
  clear hd hb1 hf
  go_wp2_with (first
    | (at_builtin; refine wpList_append_blk _ rfl _ _ 129 rfl 123 i0 _ 6 48 Tryz.underlying129 hi hz0 hz1 hz2 rfl (by decide) _ 0 _ rfl HRW.out ⟨w1.heap.size, 0, none⟩ 1 1 (evC (dat ps) (.slice xd nd cd)) rfl rfl (news_six w1 _ _ _ _ _ _ 123) (one_evC _ _ H1) (by unfold maxLen; decide) (by decide) ?_; intro v' w3 ho hg hn hk; have HO3 := hid ho; have HG3 := hid hg; have HK3 := hid hk; clear ho hg hn hk))
  go_ret
  have r := snoc_done (e := dat ps) HO.out HB1.out HD.out HF.out HO3.out HG3.out HK3.out
  exact ⟨_, _, rfl, r.1, rfl, r.2⟩
end
/-! XFb -/
section
open Go.RowKit Go.Lib
theorem row_slice {w : World} {B : Nat} {t : TypeId} {sz n : Nat} {v : Value} {cs : List Value} (h : w.ownsRow B t sz v n cs) : ∃ x c, v = .slice x n c := by
  rcases h.2 with ⟨rfl, rfl⟩ | ⟨g, cap, cur, rfl, _⟩ <;> exact ⟨_, _, rfl⟩
/-- The last event's row. -/
theorem last_row {w : World} {v : Value} {ys : List (Ev × Value)} {x : Ev × Value} (h : OwnL w v (ys ++ [x])) : ∃ g cap, v = .slice (some ⟨g, 0, none⟩) (ys.length + 1) cap ∧ (∀ j, j < 6 → w.cell? ⟨g, ys.length * 6 + j, none⟩ = (evC x.1 x.2)[j]?) ∧ ∀ j, w.frozen? ⟨g, j, none⟩ = false := by
  have hl : (ys ++ [x]).length = ys.length + 1 := by simp
  rcases h.row.2 with ⟨rfl, e⟩ | ⟨g, cap, cur, rfl, hg, hh, h1, h2, h3, h4⟩
  · omega
  · refine ⟨g, cap, by rw [hl], fun j hj => ?_, fun j => World.ownsRow.frozenAt h.row j⟩
    rw [World.ownsRow.cellAt h.row _ (by omega), cellsE_at _ ys.length (by omega) j hj]
    simp
set_option maxRecDepth 100000 in
set_option maxHeartbeats 2000000 in
theorem addData_ev (v : Value) (a : Addr) (L cap : Nat) (ps : List Int) (ys : List (Ev × Value)) (x : Ev × Value) (w : World) (h : OwnL w v (ys ++ [x])) (hp : Reads w (.slice (some a) L cap) ps) (hL : 0 < L) (hb : L ≤ 1000000) (hy : ys.length ≤ 1000000) (hx : x.1.kind ≠ 0) :
    Calls Tryz.prog 92 #[v, .slice (some a) L cap] w (AddPost v (ys ++ [x]) ((ys ++ [x]).map (·.1) ++ [dat ps]) w) := by
  obtain ⟨i0, hi, hz0, hz1, hz2⟩ := info_parts info37
  have hl : L = ps.length := (reads_src hp).1
  have HCL := hid (clone_any _ ps w hp (by omega))
  have HO := hid h
  have l0 : ((L : Int) == 0) = false := by simp; omega
  obtain ⟨g, vc, rfl, hc, -⟩ := last_row h
  have c0 : w.cell? ⟨g, ys.length * 6, none⟩ = some (.int .i64 x.1.kind) := hc 0 (by omega)
  have k0 : (x.1.kind != 0) = true := by simpa using hx
  have HLN := hid (show (ys ++ [x]).length = ys.length + 1 by simp)
  clear hl hp h hc hx
  obtain ⟨m, hm⟩ : ∃ m, m = ys.length := ⟨_, rfl⟩
  rw [← hm] at hy c0 HLN HO ⊢
  have HM := hid hm
  clear hm
  generalize x.1.kind = kx at c0 k0
  generalize hxs : ys ++ [x] = xs at HO HLN ⊢
  clear hxs
  go_enter Tryz.func92, Tryz.ntmps92
  go_wp2_with fail
  with_reducible refine HCL.out.mono ?_
  rintro e w1 ⟨d, rfl, hd, hb1, hf⟩
  obtain ⟨xd, nd, cd, rfl⟩ := own_slice hd
  have HD := hid hd
  have HB1 := hid hb1
  have HF := hid hf
  have H1 := own_one hd
  have HRW := hid ((own_moved HO.out.row (Moved.below hb1 []) (fun _ _ q => by cases q)).alloc (.cells #[.int .i64 0, .int .u8 0, .int .u8 0, .slice xd nd cd, .bool false, .bool false] 123))
  rw [HLN.out] at HRW
  clear hd hb1 hf
  go_wp2_with (first
    | (at_builtin; refine wpList_append_blk _ rfl _ _ 129 rfl 123 i0 _ 6 48 Tryz.underlying129 hi hz0 hz1 hz2 rfl (by decide) _ (m + 1) _ rfl HRW.out ⟨w1.heap.size, 0, none⟩ 1 1 (evC (dat ps) (.slice xd nd cd)) rfl rfl (news_six w1 _ _ _ _ _ _ 123) (one_evC _ _ H1) (by unfold maxLen; omega) (by omega) ?_; intro v' w3 ho hg hn hk; have HO3 := hid ho; have HG3 := hid hg; have HK3 := hid hk; clear ho hg hn hk))
  go_ret
  have r := snoc_done (e := dat ps) HO.out HB1.out HD.out HF.out (by rw [HLN.out]; exact HO3.out) HG3.out HK3.out
  exact ⟨_, _, rfl, r.1, map_snoc _ _ _, r.2⟩
set_option maxRecDepth 100000 in
set_option maxHeartbeats 2000000 in
theorem addData_dat (v : Value) (a : Addr) (L cap : Nat) (ps : List Int) (ys : List (Ev × Value)) (x : Ev × Value) (w : World) (h : OwnL w v (ys ++ [x])) (hp : Reads w (.slice (some a) L cap) ps) (hL : 0 < L) (hb : L ≤ 1000000) (hy : ys.length ≤ 1000000) (hd : x.1.data.length ≤ 1000000) (hx : x.1.kind = 0) :
    Calls Tryz.prog 92 #[v, .slice (some a) L cap] w (AddPost v (ys ++ [x]) (ys.map (·.1) ++ [{ x.1 with data := x.1.data ++ ps }]) w) := by
  obtain ⟨i0, hi, hz0, hz1, hz2⟩ := info_parts info5
  have hl : L = ps.length := (reads_src hp).1
  have HSR := hid (reads_src hp).2
  have HPB := hid hp.1
  have HO := hid h
  have l0 : ((L : Int) == 0) = false := by simp; omega
  obtain ⟨g, vc, rfl, hc, hfz⟩ := last_row h
  have HXD := hid (h.data x (by simp))
  have c0 : w.cell? ⟨g, ys.length * 6, none⟩ = some (.int .i64 x.1.kind) := hc 0 (by omega)
  rw [hx] at c0
  have c3 : w.cell? ⟨g, ys.length * 6 + 3, none⟩ = some x.2 := hc 3 (by omega)
  have hgx : some g ≠ x.2.ownBlock := fun e => (blks_nodup.1 h.apart).2 g (by simp [blkV, Value.ownBlock]) x (by simp) (mem_blkV.2 e.symm)
  have HGX := hid hgx
  have HC3 := hid c3
  have HFZ := hid (hfz (ys.length * 6 + 3))
  have HGL := hid (World.block_lt_of_cell? w _ c3)
  have HLL : Hid ((ps.map (Value.int .u8)).length = L * 1) := by show _ = _; rw [List.length_map]; omega
  have HL2 := hid hl
  clear hl hp h hc hx hfz hgx
  obtain ⟨m, hm⟩ : ∃ m, m = ys.length := ⟨_, rfl⟩
  rw [← hm] at hy c0 c3 HC3 HFZ
  have HM := hid hm
  rw [← hm]
  clear hm
  obtain ⟨xd, nd, cd, he⟩ := own_slice HXD.out
  have HE := hid he
  rw [he] at c3 HC3 HGX
  have HXR := HXD.out.2
  rw [he] at HXR
  have HXO := hid HXR
  clear HXR he
  go_enter Tryz.func92, Tryz.ntmps92
  go_wp2_with (first
    | (at_builtin; refine wpList_append_blk _ rfl _ _ 22 rfl 5 i0 _ 1 1 Tryz.underlying22 hi hz0 hz1 hz2 rfl (by decide) _ _ _ rfl HXO.out a L cap (ps.map (Value.int .u8)) rfl HLL.out HSR.out (ints_oneCell .u8 _) (by unfold maxLen; omega) (by omega) ?_; intro v' w3 ho hg hn hk; obtain ⟨xv, cv, rfl⟩ := row_slice ho; have c3 := hg.cell HC3.out HGX.out; have f3 := (World.frozen?_of_block (hg.block g HGL.out HGX.out)).trans HFZ.out; have HO3 := hid ho; have HG3 := hid hg; have HK3 := hid hk; clear ho hg hn hk))
  go_ret
  have hown : OwnB w3 (.slice xv (x.1.data.length + L) cv) (x.1.data ++ ps) := by
    refine ⟨fun y hy => ?_, ?_⟩
    · rcases List.mem_append.1 hy with q | q
      · exact HXD.out.1 y q
      · exact HPB.out y q
    · have q := HO3.out
      have e1 : x.1.data.length + L = (x.1.data ++ ps).length := by rw [List.length_append, HL2.out]
      rw [← List.map_append, e1] at q
      rw [e1]
      exact q
  have r := OwnL.ext (p := ps) HO.out rfl hown (by rw [HE.out]; exact HG3.out) (by rw [HE.out]; exact HK3.out)
  rw [← HM.out] at r
  exact ⟨_, _, rfl, r.1, by simp, r.2⟩
theorem addData_any (v p : Value) (xs : List (Ev × Value)) (ps : List Int) (w : World) (h : OwnL w v xs) (hp : Reads w p ps) (hb : ps.length ≤ 1000000) (hn : xs.length ≤ 1000000) (hd : ∀ x ∈ xs, x.1.data.length ≤ 1000000) :
    Calls Tryz.prog 92 #[v, p] w (AddPost v xs (addD (xs.map (·.1)) ps) w) := by
  by_cases hz : ps = []
  · subst hz
    exact addData_zero v p xs w h hp
  · have hl : 0 < ps.length := List.length_pos_iff.2 hz
    obtain ⟨a, cap, rfl⟩ : ∃ a cap, p = .slice (some a) ps.length cap := by
      rcases hp.2 with ⟨_, e⟩ | ⟨a, cap, e, _⟩
      · exact absurd e hz
      · exact ⟨a, cap, e⟩
    rcases List.eq_nil_or_concat xs with rfl | ⟨ys, x, e⟩
    · rw [List.map_nil, addD_empty hz]
      exact addData_first v a _ cap ps w h hp hl hb
    · have e' : xs = ys ++ [x] := by simpa using e
      subst e'
      have hy : ys.length ≤ 1000000 := by simp at hn; omega
      have hm : (ys ++ [x]).map (·.1) = ys.map (·.1) ++ [x.1] := by simp
      by_cases hx : x.1.kind = 0
      · have := addData_dat v a _ cap ps ys x w h hp hl hb hy (hd x (by simp)) hx
        rw [hm, addD_snoc _ _ hz, if_pos hx]
        exact this
      · have := addData_ev v a _ cap ps ys x w h hp hl hb hy hx
        rw [hm] at this ⊢
        rw [addD_snoc _ _ hz, if_neg hx]
        exact this
end
/-! XFc -/
section
open Go.RowKit Go.Lib
/-- The reader's block. -/
def Rdr (w : World) (R : Nat) (pl vb k o : Int) (d : Value) (lg br : Bool) : Prop :=
  w.heap[R]? = some (.cells #[.int .i64 pl, .int .u8 vb, .int .i64 k, .int .u8 0, .int .u8 o, d, .bool lg, .bool br] 125 (0, 0))
section
variable {w w' : World} {R : Nat} {pl vb k o : Int} {d : Value} {lg br : Bool}
theorem Rdr.lt (h : Rdr w R pl vb k o d lg br) : R < w.heap.size := (Array.getElem?_eq_some_iff.1 h).1
theorem Rdr.free (h : Rdr w R pl vb k o d lg br) (i : Nat) : w.frozen? ⟨R, i, none⟩ = false := frozen_of_row w R i _ 125 h
theorem Rdr.c0 (h : Rdr w R pl vb k o d lg br) : w.cell? ⟨R, 0, none⟩ = some (.int .i64 pl) := cell_of_row w R 0 _ 125 _ h
theorem Rdr.c1 (h : Rdr w R pl vb k o d lg br) : w.cell? ⟨R, 1, none⟩ = some (.int .u8 vb) := cell_of_row w R 1 _ 125 _ h
theorem Rdr.c2 (h : Rdr w R pl vb k o d lg br) : w.cell? ⟨R, 2, none⟩ = some (.int .i64 k) := cell_of_row w R 2 _ 125 _ h
theorem Rdr.c3 (h : Rdr w R pl vb k o d lg br) : w.cell? ⟨R, 3, none⟩ = some (.int .u8 0) := cell_of_row w R 3 _ 125 _ h
theorem Rdr.c4 (h : Rdr w R pl vb k o d lg br) : w.cell? ⟨R, 4, none⟩ = some (.int .u8 o) := cell_of_row w R 4 _ 125 _ h
theorem Rdr.c5 (h : Rdr w R pl vb k o d lg br) : w.cell? ⟨R, 5, none⟩ = some d := cell_of_row w R 5 _ 125 _ h
theorem Rdr.c6 (h : Rdr w R pl vb k o d lg br) : w.cell? ⟨R, 6, none⟩ = some (.bool lg) := cell_of_row w R 6 _ 125 _ h
theorem Rdr.c7 (h : Rdr w R pl vb k o d lg br) : w.cell? ⟨R, 7, none⟩ = some (.bool br) := cell_of_row w R 7 _ 125 _ h
theorem Rdr.moved {S S' : List Nat} (h : Rdr w R pl vb k o d lg br) (m : Moved w w' S S') (hR : R ∉ S) : Rdr w' R pl vb k o d lg br := (m.block R h.lt hR).trans h
theorem Rdr.alloc (h : Rdr w R pl vb k o d lg br) (ob : Obj) : Rdr (w.alloc ob) R pl vb k o d lg br := h.moved (Moved.alloc w ob []) (fun q => by cases q)
theorem Rdr.s0 (h : Rdr w R pl vb k o d lg br) (x : Int) : Rdr (w.setCell ⟨R, 0, none⟩ (.int .i64 x)) R x vb k o d lg br := Go.heap_setCell_same w R 0 _ 125 (.int .i64 x) h
theorem Rdr.s1 (h : Rdr w R pl vb k o d lg br) (x : Int) : Rdr (w.setCell ⟨R, 1, none⟩ (.int .u8 x)) R pl x k o d lg br := Go.heap_setCell_same w R 1 _ 125 (.int .u8 x) h
theorem Rdr.s5 (h : Rdr w R pl vb k o d lg br) (x : Value) : Rdr (w.setCell ⟨R, 5, none⟩ x) R pl vb k o x lg br := Go.heap_setCell_same w R 5 _ 125 x h
theorem Rdr.s6 (h : Rdr w R pl vb k o d lg br) (x : Bool) : Rdr (w.setCell ⟨R, 6, none⟩ (.bool x)) R pl vb k o d x br := Go.heap_setCell_same w R 6 _ 125 (.bool x) h
theorem Rdr.s7 (h : Rdr w R pl vb k o d lg br) (x : Bool) : Rdr (w.setCell ⟨R, 7, none⟩ (.bool x)) R pl vb k o d lg x := Go.heap_setCell_same w R 7 _ 125 (.bool x) h
/-- All of the subnegotiation is stored. -/
def putS (w : World) (R : Nat) (k o : Int) (d : Value) (lg br : Bool) : World :=
  (((((w.setCell ⟨R, 2, none⟩ (.int .i64 k)).setCell ⟨R, 3, none⟩ (.int .u8 0)).setCell ⟨R, 4, none⟩ (.int .u8 o)).setCell ⟨R, 5, none⟩ d).setCell ⟨R, 6, none⟩ (.bool lg)).setCell ⟨R, 7, none⟩ (.bool br)
theorem Rdr.put (h : Rdr w R pl vb k o d lg br) (k' o' : Int) (d' : Value) (lg' br' : Bool) : Rdr (putS w R k' o' d' lg' br') R pl vb k' o' d' lg' br' := by
  have h0 := Go.heap_setCell_same w R 2 _ 125 (.int .i64 k') h
  have h1 := Go.heap_setCell_same _ R 3 _ 125 (.int .u8 0) h0
  have h2 := Go.heap_setCell_same _ R 4 _ 125 (.int .u8 o') h1
  have h3 := Go.heap_setCell_same _ R 5 _ 125 d' h2
  have h4 := Go.heap_setCell_same _ R 6 _ 125 (.bool lg') h3
  have h5 := Go.heap_setCell_same _ R 7 _ 125 (.bool br') h4
  exact h5
end
theorem putS_moved (w : World) (R : Nat) (k o : Int) (d : Value) (lg br : Bool) {S : List Nat} (h : R ∈ S) : Moved w (putS w R k o d lg br) S S :=
  ((((((Moved.set h 2 _).trans (Moved.set h 3 _)).trans (Moved.set h 4 _)).trans (Moved.set h 5 _)).trans (Moved.set h 6 _)).trans (Moved.set h 7 _))
/-- What keep leaves. -/
def KeepPost (R : Nat) (pl vb o : Int) (d : Value) (ds : List Int) (lg : Bool) (b : Int) (w : World) (e : Ending) (w' : World) : Prop :=
  e = .returned (.tuple #[]) ∧ ∃ d' ds' lg', keepS o ds lg b = .sub o ds' lg' ∧ Rdr w' R pl vb 3 o d' lg' false ∧ OwnB w' d' ds' ∧ Moved w w' (R :: blkV d) (R :: blkV d') ∧ R ∉ blkV d'
set_option maxRecDepth 100000 in
set_option maxHeartbeats 2000000 in
theorem keep_any (R : Nat) (pl vb o : Int) (d : Value) (ds : List Int) (lg : Bool) (b : Int) (w : World) (h : Rdr w R pl vb 3 o d lg false) (hd : OwnB w d ds) (hR : R ∉ blkV d) (hb : 0 ≤ b ∧ b < 256) (hl : ds.length ≤ 256) :
    Calls Tryz.prog 107 #[.pointer (some ⟨R, 0, none⟩), .int .u8 b] w (KeepPost R pl vb o d ds lg b w) := by
  obtain ⟨x, c, rfl⟩ := row_slice hd.2
  have HR := hid h
  have HD := hid hd
  have HRN := hid hR
  have HBB := hid hb
  have c5 := h.c5
  have c6 := h.c6
  have f5 := h.free 5
  have f6 := h.free 6
  obtain ⟨n, hn⟩ : ∃ n, n = ds.length := ⟨_, rfl⟩
  rw [← hn] at hl c5
  have HN := hid hn
  rw [← hn]
  by_cases h6 : n = 256
  · have l1 : ((n : Int) == 256) = true := by simp; omega
    have HP : Hid (KeepPost R pl vb o (.slice x n c) ds lg b w (.returned (.tuple #[])) (w.setCell ⟨R, 6, none⟩ (.bool true))) := by
      refine ⟨rfl, .slice x ds.length c, ds, true, ?_, ?_, ?_, ?_, hR⟩
      · rw [keepS, if_pos (by rw [← hn]; exact h6)]
      · exact h.s6 true
      · exact hd.moved (Moved.set (S := [R]) (by simp) 6 _) (fun k hk q => hR (by rw [← List.mem_singleton.1 q]; exact hk))
      · rw [hn]; exact Moved.set (by simp) 6 _
    clear h hd hR hb hn h6
    go_enter Tryz.func107, Tryz.ntmps107
    go_wp2
    go_end0
    exact HP.out
  · obtain ⟨i0, hi, hz0, hz1, hz2⟩ := info_parts info5
    have l1 : ((n : Int) == 256) = false := by simp; omega
    have hl2 : n < 256 := by omega
    have HRW := hid (hd.2.alloc (.cells #[.int .u8 b] 5))
    rw [← hn] at HRW
    have HRA := hid (h.alloc (.cells #[.int .u8 b] 5))
    have HNE := hid (show some R ≠ (Value.slice x n c).ownBlock from fun e => hR (by rw [← hn]; exact mem_blkV.2 e.symm))
    have HSN : Hid (∀ j u, [Value.int .u8 b][j]? = some u → (w.alloc (.cells #[.int .u8 b] 5)).cell? ((⟨w.heap.size, 0, none⟩ : Addr).add j) = some u) := fun j u hu => by
      rw [addr_add, Nat.zero_add, cell_of_row _ w.heap.size j #[.int .u8 b] 5 (0, 0) (heap_alloc_new w _)]
      simpa using hu
    have H1 : Hid (∀ u ∈ [Value.int .u8 b], u.oneCell' = true) := fun u hu => by rw [List.mem_singleton.1 hu]; rfl
    have hlr := h.lt
    clear h hd hR hb hn h6
    go_enter Tryz.func107, Tryz.ntmps107
    go_wp2_with (first
      | (at_builtin; refine wpList_append_blk _ rfl _ _ 22 rfl 5 i0 _ 1 1 Tryz.underlying22 hi hz0 hz1 hz2 rfl (by decide) _ _ _ rfl HRW.out ⟨w.heap.size, 0, none⟩ 1 1 [.int .u8 b] rfl rfl HSN.out H1.out (by unfold maxLen; omega) (by omega) ?_; intro v' w3 ho hg hn hk; obtain ⟨xv, cv, rfl⟩ := row_slice ho; have HR3 := hid (HRA.out.moved (Moved.grown hg (S := blkV (.slice x n c)) (S' := blkV (.slice xv (n + 1) cv)) (fun k hk => mem_blkV.2 hk) hk) (fun q => HNE.out (mem_blkV.1 q).symm)); have c5 := HR3.out.c5; have f5 := HR3.out.free 5; have HO3 := hid ho; have HG3 := hid hg; have HK3 := hid hk; clear ho hg hn hk))
    go_end0
    have hlt := HRA.out.lt
    have hx : R ∉ blkV (.slice xv (n + 1) cv) := fun q => by
      rcases HK3.out R q with r | r
      · exact HRN.out (by rw [← HN.out]; exact r)
      · have := HR3.out.lt; omega
    have hmv : Moved (w.alloc (.cells #[.int .u8 b] 5)) w3 (blkV (.slice x n c)) (blkV (.slice xv (n + 1) cv)) := Moved.grown HG3.out (fun k hk => mem_blkV.2 hk) HK3.out
    have hs : Moved w3 (w3.setCell ⟨R, 5, none⟩ (.slice xv (n + 1) cv)) [R] [R] := Moved.set (by simp) 5 _
    refine ⟨rfl, .slice xv (n + 1) cv, ds ++ [b], lg, ?_, HR3.out.s5 _, ?_, ?_, hx⟩
    · rw [keepS, if_neg (by rw [← HN.out]; omega)]
    · refine ⟨fun y hy => ?_, ?_⟩
      · rcases List.mem_append.1 hy with q | q
        · exact HD.out.1 y q
        · rw [List.mem_singleton.1 q]; exact HBB.out
      · have q := own_moved HO3.out hs (fun k hk q => hx (by rw [← List.mem_singleton.1 q]; exact hk))
        have e1 : (ds ++ [b]).length = n + 1 := by rw [List.length_append, ← HN.out]; rfl
        rw [e1, List.map_append]
        exact q
    · refine ((Moved.alloc w _ (R :: blkV (.slice x n c))).trans (hmv.sub (T := R :: blkV (.slice x n c)) (T' := R :: blkV (.slice xv (n + 1) cv)) (fun k hk => List.mem_cons_of_mem _ hk) (fun k hk => ?_))).trans (hs.sub (fun k hk => ?_) (fun k hk => .inr hk))
      · rcases List.mem_cons.1 hk with q | q
        · exact .inr (by rw [q]; simp)
        · exact .inl q
      · rw [List.mem_singleton.1 hk]; simp
end
/-! XFd -/
section
open Go.RowKit Go.Lib
/-- What endSub leaves. -/
def EndPost (R : Nat) (vb k o : Int) (d : Value) (lg br : Bool) (w : World) (e : Ending) (w' : World) : Prop :=
  e = .returned (.agg #[.int .i64 k, .int .u8 0, .int .u8 o, d, .bool lg, .bool br]) ∧ Rdr w' R 0 vb 0 0 (.slice none 0 0) false false ∧ Moved w w' [R] [R]
set_option maxRecDepth 100000 in
set_option maxHeartbeats 2000000 in
theorem endSub_any (R : Nat) (pl vb k o : Int) (x : Option Addr) (n c : Nat) (lg br : Bool) (w : World) (h : Rdr w R pl vb k o (.slice x n c) lg br) :
    Calls Tryz.prog 126 #[.pointer (some ⟨R, 0, none⟩)] w (EndPost R vb k o (.slice x n c) lg br w) := by
  have HR := hid h
  have hl := h.lt
  have c0 := h.c0
  have c2 := h.c2
  have c3 := h.c3
  have c4 := h.c4
  have c5 := h.c5
  have c6 := h.c6
  have c7 := h.c7
  have f0 := h.free 0
  have f2 := h.free 2
  have f3 := h.free 3
  have f4 := h.free 4
  have f5 := h.free 5
  have f6 := h.free 6
  have f7 := h.free 7
  clear h
  go_enter Tryz.func126, Tryz.ntmps126
  go_wp2
  have q1 := ((((HR.out.put 0 0 (.slice none 0 0) false false).s0 0).alloc (.cells #[.int .i64 k, .int .u8 0, .int .u8 o, .slice x n c, .bool lg, .bool br] 123)).alloc (.cells #[.int .i64 k, .int .u8 0, .int .u8 o, .slice x n c, .bool lg, .bool br] 123))
  have q2 := ((((putS_moved w R 0 0 (.slice none 0 0) false false (S := [R]) (by simp)).trans (Moved.set (g := R) (S := [R]) (by simp) 0 (.int .i64 0))).trans (Moved.alloc _ (.cells #[.int .i64 k, .int .u8 0, .int .u8 o, .slice x n c, .bool lg, .bool br] 123) _)).trans (Moved.alloc _ (.cells #[.int .i64 k, .int .u8 0, .int .u8 o, .slice x n c, .bool lg, .bool br] 123) _))
  have hsz : ((putS w R 0 0 (.slice none 0 0) false false).setCell ⟨R, 0, none⟩ (.int .i64 0)).heap.size = w.heap.size := by simp [putS, World.setCell]
  unfold putS at q1 q2 hsz
  refine bodyPost_ret (v := .agg #[.int .i64 k, .int .u8 0, .int .u8 o, .slice x n c, .bool lg, .bool br]) ?_ rfl ⟨rfl, q1, q2⟩
  clear q1 q2 c0 c2 c3 c4 c5 c6 c7 f0 f2 f3 f4 f5 f6 f7 HR
  generalize World.setCell _ ⟨R, 0, none⟩ _ = W' at hsz ⊢
  rw [← hsz]
  simp [results, Tryz.results126, go_sem]
end
/-! XFe -/
section
open Go.RowKit Go.Lib
/-- A state's place. -/
def St.pl : St → Int
  | .between => 0
  | .iac => 1
  | .verb _ => 2
  | .sb => 3
  | .sub _ _ _ => 4
  | .subIac _ _ _ => 5
/-- A reader in a state; its subnegotiation's bytes are d. -/
def RIn (w : World) (R : Nat) (d : Value) : St → Prop
  | .between => ∃ vb, Rdr w R 0 vb 0 0 d false false ∧ d = .slice none 0 0
  | .iac => ∃ vb, Rdr w R 1 vb 0 0 d false false ∧ d = .slice none 0 0
  | .verb v => Rdr w R 2 v 0 0 d false false ∧ d = .slice none 0 0
  | .sb => ∃ vb, Rdr w R 3 vb 0 0 d false false ∧ d = .slice none 0 0
  | .sub o ds lg => ∃ vb, Rdr w R 4 vb 3 o d lg false ∧ OwnB w d ds ∧ ds.length ≤ 256
  | .subIac o ds lg => ∃ vb, Rdr w R 5 vb 3 o d lg false ∧ OwnB w d ds ∧ ds.length ≤ 256
/-- Reader and events, apart. -/
structure Own3 (w : World) (R : Nat) (d : Value) (st : St) (v : Value) (xs : List (Ev × Value)) : Prop where
  rdr : RIn w R d st
  evs : OwnL w v xs
  apart : ∀ k ∈ R :: blkV d, k ∉ blks v xs
  own : R ∉ blkV d
/-- All blocks. -/
def foot (R : Nat) (d v : Value) (xs : List (Ev × Value)) : List Nat := (R :: blkV d) ++ blks v xs
theorem RIn.lt {w : World} {R : Nat} {d : Value} {st : St} (h : RIn w R d st) : R < w.heap.size := by
  cases st <;> first | (obtain ⟨_, h, _⟩ := h; exact h.lt) | exact h.1.lt
theorem RIn.dlt {w : World} {R : Nat} {d : Value} {st : St} (h : RIn w R d st) : ∀ k ∈ blkV d, k < w.heap.size := by
  cases st
  · obtain ⟨_, _, rfl⟩ := h; intro k hk; cases hk
  · obtain ⟨_, _, rfl⟩ := h; intro k hk; cases hk
  · obtain ⟨_, rfl⟩ := h; intro k hk; cases hk
  · obtain ⟨_, _, rfl⟩ := h; intro k hk; cases hk
  · obtain ⟨_, _, h, _⟩ := h; exact own_lt h.2
  · obtain ⟨_, _, h, _⟩ := h; exact own_lt h.2
theorem RIn.moved {w w' : World} {R : Nat} {d : Value} {st : St} {S S' : List Nat} (h : RIn w R d st) (m : Moved w w' S S') (hk : ∀ k ∈ R :: blkV d, k ∉ S) : RIn w' R d st := by
  have hR : R ∉ S := hk R (by simp)
  have hd : ∀ k ∈ blkV d, k ∉ S := fun k q => hk k (List.mem_cons_of_mem _ q)
  cases st
  · obtain ⟨vb, h, e⟩ := h; exact ⟨vb, h.moved m hR, e⟩
  · obtain ⟨vb, h, e⟩ := h; exact ⟨vb, h.moved m hR, e⟩
  · exact ⟨h.1.moved m hR, h.2⟩
  · obtain ⟨vb, h, e⟩ := h; exact ⟨vb, h.moved m hR, e⟩
  · obtain ⟨vb, h, e, l⟩ := h; exact ⟨vb, h.moved m hR, e.moved m hd, l⟩
  · obtain ⟨vb, h, e, l⟩ := h; exact ⟨vb, h.moved m hR, e.moved m hd, l⟩
/-- What a byte leaves. -/
def TakePost (R : Nat) (d v : Value) (xs : List (Ev × Value)) (r : St × List Ev) (w : World) (e : Ending) (w' : World) : Prop :=
  ∃ v' xs' d', e = .returned v' ∧ Own3 w' R d' r.1 v' xs' ∧ xs'.map (·.1) = r.2.foldl mstep (xs.map (·.1)) ∧ Moved w w' (foot R d v xs) (foot R d' v' xs')
/-- The reader alone has changed. -/
theorem take_rdr {R : Nat} {d d' v : Value} {xs : List (Ev × Value)} {st : St} {w w' : World} (h : OwnL w v xs) (ha : ∀ k ∈ R :: blkV d, k ∉ blks v xs) (m : Moved w w' (R :: blkV d) (R :: blkV d')) (hr : RIn w' R d' st) (ho : R ∉ blkV d') : TakePost R d v xs (st, []) w (.returned v) w' := by
  refine ⟨v, xs, d', rfl, ⟨hr, h.moved m (fun k hk q => ha k q hk), fun k hk q => ?_, ho⟩, rfl, ?_⟩
  · rcases m.from' k hk with r | r
    · exact ha k r q
    · have := h.lt k q; omega
  · refine m.sub (fun k hk => List.mem_append.2 (.inl hk)) (fun k hk => ?_)
    rcases List.mem_append.1 hk with q | q
    · exact .inl q
    · exact .inr (List.mem_append.2 (.inr q))
/-- Events have changed behind the reader. -/
theorem take_evs {R : Nat} {d v v' : Value} {xs xs' : List (Ev × Value)} {st : St} {es : List Ev} {w w1 w' : World} (ha : ∀ k ∈ R :: blkV d, k ∉ blks v xs) (m1 : Moved w w1 (R :: blkV d) (R :: blkV d)) (hr : RIn w1 R d st) (ho : R ∉ blkV d)
    (h2 : OwnL w' v' xs') (m2 : Moved w1 w' (blks v xs) (blks v' xs')) (he : xs'.map (·.1) = es.foldl mstep (xs.map (·.1))) : TakePost R d v xs (st, es) w (.returned v') w' := by
  refine ⟨v', xs', d, rfl, ⟨hr.moved m2 ha, h2, fun k hk q => ?_, ho⟩, he, ?_⟩
  · rcases m2.from' k q with r | r
    · exact ha k hk r
    · rcases List.mem_cons.1 hk with e | e
      · have := hr.lt; omega
      · have := hr.dlt k e; omega
  · refine (m1.sub (T := foot R d v xs) (T' := foot R d v xs) (fun k hk => List.mem_append.2 (.inl hk)) (fun k hk => .inr hk)).trans (m2.sub (fun k hk => List.mem_append.2 (.inr hk)) (fun k hk => ?_))
    rcases List.mem_append.1 hk with q | q
    · exact .inr (List.mem_append.2 (.inl q))
    · exact .inl q
theorem iac_dat (b : Int) (h : b = 255) : iacS b = (.between, [dat [255]]) := by simp [iacS, h]
theorem iac_sb (b : Int) (h : b = 250) : iacS b = (.sb, []) := by simp [iacS, h]
theorem iac_verb (b : Int) (h1 : 251 ≤ b) (h2 : b ≤ 254) : iacS b = (.verb b, []) := by
  unfold iacS
  rw [if_neg (by omega), if_neg (by omega), if_pos ⟨h1, h2⟩]
theorem iac_cmd (b : Int) (h1 : b ≠ 255) (h2 : b ≠ 250) (h3 : b < 251 ∨ 254 < b) : iacS b = (.between, [⟨1, b, 0, [], false, false⟩]) := by
  unfold iacS
  rw [if_neg h1, if_neg h2, if_neg (by omega)]
theorem reads_byte (w : World) (b : Int) (hb : 0 ≤ b ∧ b < 256) : Reads (w.alloc (.cells #[.int .u8 b] 5)) (.slice (some ⟨w.heap.size, 0, none⟩) 1 1) [b] := by
  refine ⟨fun x hx => by rw [List.mem_singleton.1 hx]; exact hb, .inr ⟨⟨w.heap.size, 0, none⟩, 1, rfl, Nat.le_refl _, by unfold maxLen; decide, fun i hi => ?_⟩⟩
  have : i = 0 := by simpa using hi
  subst this
  rw [addr_add, Nat.zero_add, cell_of_row _ w.heap.size 0 #[.int .u8 b] 5 (0, 0) (heap_alloc_new w _)]
  rfl
/-- What addData leaves of a byte. -/
theorem take_add {R : Nat} {d v : Value} {xs : List (Ev × Value)} {st : St} {w w1 w' : World} {e : Ending} {b : Int} (ha : ∀ k ∈ R :: blkV d, k ∉ blks v xs) (m1 : Moved w w1 (R :: blkV d) (R :: blkV d)) (hr : RIn w1 R d st) (ho : R ∉ blkV d)
    (h : AddPost v xs (addD (xs.map (·.1)) [b]) w1 e w') : TakePost R d v xs (st, [dat [b]]) w e w' := by
  obtain ⟨v', xs', rfl, h2, he, m2⟩ := h
  exact take_evs ha m1 hr ho h2 m2 he
end
/-! XFf -/
section
open Go.RowKit Go.Lib
theorem nil_notin (R : Nat) : R ∉ blkV (.slice none 0 0) := fun q => by cases q
theorem set_evs {w : World} {R : Nat} {v : Value} {xs : List (Ev × Value)} (h : OwnL w v xs) (hR : R ∉ blks v xs) (i : Nat) (u : Value) : OwnL (w.setCell ⟨R, i, none⟩ u) v xs :=
  h.moved (Moved.set (S := [R]) (by simp) i u) (fun k hk q => hR (by rw [← List.mem_singleton.1 q]; exact hk))
theorem apart_nil {R : Nat} {v : Value} {xs : List (Ev × Value)} (hR : R ∉ blks v xs) : ∀ k ∈ R :: blkV (.slice none 0 0), k ∉ blks v xs := fun k hk => by
  have : k = R := by simpa [blkV, Value.ownBlock] using hk
  rw [this]; exact hR
set_option maxRecDepth 100000 in
set_option maxHeartbeats 2000000 in
theorem iac_any (R : Nat) (pl vb b : Int) (v : Value) (xs : List (Ev × Value)) (w : World) (hr : Rdr w R pl vb 0 0 (.slice none 0 0) false false) (h : OwnL w v xs) (hR : R ∉ blks v xs) (hb : 0 ≤ b ∧ b < 256) (hn : xs.length ≤ 1000000) (hd : ∀ x ∈ xs, x.1.data.length ≤ 1000000) :
    Calls Tryz.prog 106 #[.pointer (some ⟨R, 0, none⟩), v, .int .u8 b] w (TakePost R (.slice none 0 0) v xs (iacS b) w) := by
  have HR := hid hr
  have c0 := hr.c0
  have c1 := hr.c1
  have f0 := hr.free 0
  have f1 := hr.free 1
  have hl := hr.lt
  have HO := hid h
  have HN := hid hR
  have HR0 := hid (hr.s0 0)
  have HO0 := hid (set_evs h hR 0 (.int .i64 0))
  have HM0 := hid (Moved.set (a := w) (S := R :: blkV (.slice none 0 0)) (g := R) (by simp) 0 (.int .i64 0))
  have HAP := hid (apart_nil hR)
  clear hr h hR
  by_cases e1 : b = 255
  · rw [iac_dat b e1]
    subst e1
    have HA := hid (HO0.out.moved (Moved.alloc _ (.cells #[.int .u8 255] 5) []) (fun _ _ q => by cases q))
    have HP := hid (addData_any v (.slice (some ⟨w.heap.size, 0, none⟩) 1 1) xs [255] ((w.setCell ⟨R, 0, none⟩ (.int .i64 0)).alloc (.cells #[.int .u8 255] 5)) HA.out (by
      have := reads_byte (w.setCell ⟨R, 0, none⟩ (.int .i64 0)) 255 (by omega)
      rwa [show (w.setCell ⟨R, 0, none⟩ (.int .i64 0)).heap.size = w.heap.size by simp [World.setCell]] at this) (by simp) hn hd)
    clear hb
    go_enter Tryz.func106, Tryz.ntmps106
    go_wp2_with fail
    refine HP.out.mono ?_
    intro e w2 hp
    have HQ := hid hp
    clear hp
    have hq := take_add (st := .between) HAP.out (HM0.out.trans (Moved.alloc _ (.cells #[.int .u8 255] 5) _)) ⟨vb, HR0.out.alloc _, rfl⟩ (nil_notin R) HQ.out
    obtain ⟨v2, xs2, d2, rfl, hrest⟩ := hq
    have HZ := hid hrest
    clear hrest
    go_wp2
    go_ret
    exact ⟨v2, xs2, d2, rfl, HZ.out⟩
  · have l1 : ((b : Int) == 255) = false := by simpa using e1
    by_cases e2 : b = 250
    · rw [iac_sb b e2]
      subst e2
      have HP := hid (take_rdr (st := .sb) (d' := .slice none 0 0) HO.out HAP.out (HM0.out.trans (Moved.set (g := R) (by simp) 0 (.int .i64 3))) ⟨vb, HR0.out.s0 3, rfl⟩ (nil_notin R))
      clear e1
      go_enter Tryz.func106, Tryz.ntmps106
      go_wp2
      go_ret
      exact HP.out
    · have l2 : ((b : Int) == 250) = false := by simpa using e2
      by_cases e3 : 251 ≤ b ∧ b ≤ 254
      · rw [iac_verb b e3.1 e3.2]
        have HP := hid (take_rdr (st := .verb b) (d' := .slice none 0 0) HO.out HAP.out ((HM0.out.trans (Moved.set (g := R) (by simp) 0 (.int .i64 2))).trans (Moved.set (g := R) (by simp) 1 (.int .u8 b))) ⟨(HR0.out.s0 2).s1 b, rfl⟩ (nil_notin R))
        have hcase : b = 251 ∨ b = 252 ∨ b = 253 ∨ b = 254 := by omega
        clear e1 e2 e3
        rcases hcase with rfl | rfl | rfl | rfl
        all_goals
          clear l1 l2 hb
          go_enter Tryz.func106, Tryz.ntmps106
          go_wp2
          go_ret
          exact HP.out
      · rw [iac_cmd b e1 e2 (by omega)]
        obtain ⟨i0, hi, hz0, hz1, hz2⟩ := info_parts info37
        have l3 : ((b : Int) == 251) = false := by simp; omega
        have l4 : ((b : Int) == 252) = false := by simp; omega
        have l5 : ((b : Int) == 253) = false := by simp; omega
        have l6 : ((b : Int) == 254) = false := by simp; omega
        have hsz : (w.setCell ⟨R, 0, none⟩ (.int .i64 0)).heap.size = w.heap.size := by simp [World.setCell]
        have HRW := hid (HO0.out.row.alloc (.cells #[.int .i64 1, .int .u8 b, .int .u8 0, .slice none 0 0, .bool false, .bool false] 123))
        have HNS := hid (news_six (w.setCell ⟨R, 0, none⟩ (.int .i64 0)) (.int .i64 1) (.int .u8 b) (.int .u8 0) (.slice none 0 0) (.bool false) (.bool false) 123)
        rw [hsz] at HNS
        clear e1 e2 e3 hsz hb
        go_enter Tryz.func106, Tryz.ntmps106
        go_wp2_with (first
          | (at_builtin; refine wpList_append_blk _ rfl _ _ 129 rfl 123 i0 _ 6 48 Tryz.underlying129 hi hz0 hz1 hz2 rfl (by decide) _ _ _ rfl HRW.out ⟨w.heap.size, 0, none⟩ 1 1 (evC ⟨1, b, 0, [], false, false⟩ (.slice none 0 0)) rfl rfl HNS.out (one_evC _ _ rfl) (by unfold maxLen; omega) (by omega) ?_; intro v' w3 ho hg hn' hk; have HO3 := hid ho; have HG3 := hid hg; have HK3 := hid hk; clear ho hg hn' hk))
        go_ret
        have r := snoc_done (e := ⟨1, b, 0, [], false, false⟩) HO0.out (Below.refl _ _) (OwnB.nil _) (fun k hk => by cases hk) HO3.out HG3.out HK3.out
        exact take_evs HAP.out HM0.out ⟨vb, HR0.out, rfl⟩ (nil_notin R) r.1 r.2 (by rw [map_snoc]; rfl)
end
end Go.Proofs.YtaanpnmgibcemaaGreatDoor.Tn
