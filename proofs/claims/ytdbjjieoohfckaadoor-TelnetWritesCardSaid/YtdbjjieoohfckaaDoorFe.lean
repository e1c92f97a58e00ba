/-
  takeAfterIAC.
-/
import Derived.Test.YtdbjjieoohfckaaDoorFd
namespace Go.Proofs.YtdbjjieoohfckaaDoor
open Go.RowKit Go.Lib

/-- A state's place. -/
def St.pl : St → Int
  | .between => 0
  | .iac => 1
  | .verb _ => 2
  | .sb => 3
  | .sub _ _ _ => 4
  | .subIac _ _ _ => 5
/-- A reader in a state; its subnegotiation's bytes are d. -/
def RIn (w : World) (R : Nat) (d : Value) : St → Prop
  | .between => ∃ vb, Rdr w R 0 vb 0 0 d false false ∧ d = .slice none 0 0
  | .iac => ∃ vb, Rdr w R 1 vb 0 0 d false false ∧ d = .slice none 0 0
  | .verb v => Rdr w R 2 v 0 0 d false false ∧ d = .slice none 0 0
  | .sb => ∃ vb, Rdr w R 3 vb 0 0 d false false ∧ d = .slice none 0 0
  | .sub o ds lg => ∃ vb, Rdr w R 4 vb 3 o d lg false ∧ OwnB w d ds ∧ ds.length ≤ 256
  | .subIac o ds lg => ∃ vb, Rdr w R 5 vb 3 o d lg false ∧ OwnB w d ds ∧ ds.length ≤ 256
/-- Reader and events, apart. -/
structure Own3 (w : World) (R : Nat) (d : Value) (st : St) (v : Value) (xs : List (Ev × Value)) : Prop where
  rdr : RIn w R d st
  evs : OwnL w v xs
  apart : ∀ k ∈ R :: blkV d, k ∉ blks v xs
  own : R ∉ blkV d
/-- All blocks. -/
def foot (R : Nat) (d v : Value) (xs : List (Ev × Value)) : List Nat := (R :: blkV d) ++ blks v xs
theorem RIn.lt {w : World} {R : Nat} {d : Value} {st : St} (h : RIn w R d st) : R < w.heap.size := by
  cases st <;> first | (obtain ⟨_, h, _⟩ := h; exact h.lt) | exact h.1.lt
theorem RIn.dlt {w : World} {R : Nat} {d : Value} {st : St} (h : RIn w R d st) : ∀ k ∈ blkV d, k < w.heap.size := by
  cases st
  · obtain ⟨_, _, rfl⟩ := h; intro k hk; cases hk
  · obtain ⟨_, _, rfl⟩ := h; intro k hk; cases hk
  · obtain ⟨_, rfl⟩ := h; intro k hk; cases hk
  · obtain ⟨_, _, rfl⟩ := h; intro k hk; cases hk
  · obtain ⟨_, _, h, _⟩ := h; exact own_lt h.2
  · obtain ⟨_, _, h, _⟩ := h; exact own_lt h.2
theorem RIn.moved {w w' : World} {R : Nat} {d : Value} {st : St} {S S' : List Nat} (h : RIn w R d st) (m : Moved w w' S S') (hk : ∀ k ∈ R :: blkV d, k ∉ S) : RIn w' R d st := by
  have hR : R ∉ S := hk R (by simp)
  have hd : ∀ k ∈ blkV d, k ∉ S := fun k q => hk k (List.mem_cons_of_mem _ q)
  cases st
  · obtain ⟨vb, h, e⟩ := h; exact ⟨vb, h.moved m hR, e⟩
  · obtain ⟨vb, h, e⟩ := h; exact ⟨vb, h.moved m hR, e⟩
  · exact ⟨h.1.moved m hR, h.2⟩
  · obtain ⟨vb, h, e⟩ := h; exact ⟨vb, h.moved m hR, e⟩
  · obtain ⟨vb, h, e, l⟩ := h; exact ⟨vb, h.moved m hR, e.moved m hd, l⟩
  · obtain ⟨vb, h, e, l⟩ := h; exact ⟨vb, h.moved m hR, e.moved m hd, l⟩
/-- What a byte leaves. -/
def TakePost (R : Nat) (d v : Value) (xs : List (Ev × Value)) (r : St × List Ev) (w : World) (e : Ending) (w' : World) : Prop :=
  ∃ v' xs' d', e = .returned v' ∧ Own3 w' R d' r.1 v' xs' ∧ xs'.map (·.1) = r.2.foldl mstep (xs.map (·.1)) ∧ Moved w w' (foot R d v xs) (foot R d' v' xs')
/-- The reader alone has changed. -/
theorem take_rdr {R : Nat} {d d' v : Value} {xs : List (Ev × Value)} {st : St} {w w' : World} (h : OwnL w v xs) (ha : ∀ k ∈ R :: blkV d, k ∉ blks v xs) (m : Moved w w' (R :: blkV d) (R :: blkV d')) (hr : RIn w' R d' st) (ho : R ∉ blkV d') : TakePost R d v xs (st, []) w (.returned v) w' := by
  refine ⟨v, xs, d', rfl, ⟨hr, h.moved m (fun k hk q => ha k q hk), fun k hk q => ?_, ho⟩, rfl, ?_⟩
  · rcases m.from' k hk with r | r
    · exact ha k r q
    · have := h.lt k q; omega
  · refine m.sub (fun k hk => List.mem_append.2 (.inl hk)) (fun k hk => ?_)
    rcases List.mem_append.1 hk with q | q
    · exact .inl q
    · exact .inr (List.mem_append.2 (.inr q))
/-- Events have changed behind the reader. -/
theorem take_evs {R : Nat} {d v v' : Value} {xs xs' : List (Ev × Value)} {st : St} {es : List Ev} {w w1 w' : World} (ha : ∀ k ∈ R :: blkV d, k ∉ blks v xs) (m1 : Moved w w1 (R :: blkV d) (R :: blkV d)) (hr : RIn w1 R d st) (ho : R ∉ blkV d)
    (h2 : OwnL w' v' xs') (m2 : Moved w1 w' (blks v xs) (blks v' xs')) (he : xs'.map (·.1) = es.foldl mstep (xs.map (·.1))) : TakePost R d v xs (st, es) w (.returned v') w' := by
  refine ⟨v', xs', d, rfl, ⟨hr.moved m2 ha, h2, fun k hk q => ?_, ho⟩, he, ?_⟩
  · rcases m2.from' k q with r | r
    · exact ha k hk r
    · rcases List.mem_cons.1 hk with e | e
      · have := hr.lt; omega
      · have := hr.dlt k e; omega
  · refine (m1.sub (T := foot R d v xs) (T' := foot R d v xs) (fun k hk => List.mem_append.2 (.inl hk)) (fun k hk => .inr hk)).trans (m2.sub (fun k hk => List.mem_append.2 (.inr hk)) (fun k hk => ?_))
    rcases List.mem_append.1 hk with q | q
    · exact .inr (List.mem_append.2 (.inl q))
    · exact .inl q
theorem iac_dat (b : Int) (h : b = 255) : iacS b = (.between, [dat [255]]) := by simp [iacS, h]
theorem iac_sb (b : Int) (h : b = 250) : iacS b = (.sb, []) := by simp [iacS, h]
theorem iac_verb (b : Int) (h1 : 251 ≤ b) (h2 : b ≤ 254) : iacS b = (.verb b, []) := by
  unfold iacS
  rw [if_neg (by omega), if_neg (by omega), if_pos ⟨h1, h2⟩]
theorem iac_cmd (b : Int) (h1 : b ≠ 255) (h2 : b ≠ 250) (h3 : b < 251 ∨ 254 < b) : iacS b = (.between, [⟨1, b, 0, [], false, false⟩]) := by
  unfold iacS
  rw [if_neg h1, if_neg h2, if_neg (by omega)]
theorem reads_byte (w : World) (b : Int) (hb : 0 ≤ b ∧ b < 256) : Reads (w.alloc (.cells #[.int .u8 b] 5)) (.slice (some ⟨w.heap.size, 0, none⟩) 1 1) [b] := by
  refine ⟨fun x hx => by rw [List.mem_singleton.1 hx]; exact hb, .inr ⟨⟨w.heap.size, 0, none⟩, 1, rfl, Nat.le_refl _, by unfold maxLen; decide, fun i hi => ?_⟩⟩
  have : i = 0 := by simpa using hi
  subst this
  rw [addr_add, Nat.zero_add, cell_of_row _ w.heap.size 0 #[.int .u8 b] 5 (0, 0) (heap_alloc_new w _)]
  rfl
/-- What addData leaves of a byte. -/
theorem take_add {R : Nat} {d v : Value} {xs : List (Ev × Value)} {st : St} {w w1 w' : World} {e : Ending} {b : Int} (ha : ∀ k ∈ R :: blkV d, k ∉ blks v xs) (m1 : Moved w w1 (R :: blkV d) (R :: blkV d)) (hr : RIn w1 R d st) (ho : R ∉ blkV d)
    (h : AddPost v xs (addD (xs.map (·.1)) [b]) w1 e w') : TakePost R d v xs (st, [dat [b]]) w e w' := by
  obtain ⟨v', xs', rfl, h2, he, m2⟩ := h
  exact take_evs ha m1 hr ho h2 m2 he
end Go.Proofs.YtdbjjieoohfckaaDoor
