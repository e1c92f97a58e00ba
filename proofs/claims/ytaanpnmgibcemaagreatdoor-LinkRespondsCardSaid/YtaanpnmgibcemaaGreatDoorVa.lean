/-
  A link, as plain data: its mode, what comes of an element, of an answer, of a record that is sent; and in memory.
-/
import Derived.Test.YtaanpnmgibcemaaGreatDoorTk
import Derived.Test.YtaanpnmgibcemaaGreatDoorOc
import Derived.Test.YtaanpnmgibcemaaGreatDoorNe
import Derived.Test.YtaanpnmgibcemaaGreatDoorHb
import Derived.RangeFuncOwn
import Derived.Lib.OwnKind
namespace Go.Proofs.YtaanpnmgibcemaaGreatDoor
open Go.RowKit Go.Lib

/-- A header's numbers. -/
structure Hdr where
  t : Int
  r : Int
  s : Int
  q : Int
def noH : Hdr := ⟨0, 0, 0, 0⟩
/-- What is told. -/
structure Evt where
  kind : Int
  data : List Int
  hdr : Hdr
  headed : Bool
/-- Who the terminal is: what its machine agrees to, its names, its functions. -/
structure Cf where
  A : Nat → Bool
  T : ByteArray
  D : ByteArray
  fs : List Int
/-- A link's state. -/
structure Lk where
  st : Tn.St
  ms : Nat → Int
  es : Int
  dev : ByteArray
  ag : List Int
  rc : List Int
  lg : Bool
  out : List Int
  sq : Int
def modeF (ms : Nat → Int) (es : Int) : Int :=
  if ms 40 = 1 then (if es = 3 then 2 else 0)
  else if ms 0 = 1 ∧ ms 256 = 1 ∧ ms 25 = 1 ∧ ms 281 = 1 ∧ ms 24 = 1 then 1 else 0
def Lk.mode (k : Lk) : Int := modeF k.ms k.es
theorem mode_cases (ms : Nat → Int) (es : Int) : modeF ms es = 0 ∨ modeF ms es = 1 ∨ modeF ms es = 2 := by
  unfold modeF
  repeat' split
  all_goals simp
/-- Is function 2 agreed on? -/
def Lk.has (k : Lk) : Bool := k.es == 3 && k.ag.any fun x => x == 2
/-- A message's bytes. -/
def sayB (side say o : Int) : List Int := if say = 0 then [] else [255, Op.verbN side say, o]
/-- A record's bytes. -/
def recB (p : List Int) : List Int := Tn.escI p ++ [255, 239]
/-- A header, and what stands behind it. -/
def parseL : List Int → Option (Hdr × List Int)
  | t :: r :: s :: a :: b :: rest => if Hd.okH t s then some (⟨t, r, s, 256 * a + b⟩, rest) else none
  | _ => none
def kindH (t : Int) : Int := if t = 0 then 1 else if t = 5 then 2 else if t = 2 then 3 else 4
/-- A record, as it is told. -/
def evtOf (mode : Int) (rc : List Int) (lg : Bool) : Evt :=
  if mode = 1 then (if lg then ⟨5, [], noH, false⟩ else ⟨1, rc, noH, false⟩)
  else match parseL rc with
    | some x => if lg then ⟨5, [], x.1, true⟩ else ⟨kindH x.1.t, x.2, x.1, true⟩
    | none => if lg then ⟨5, [], noH, false⟩ else ⟨6, rc, noH, false⟩
/-- More data of a record. -/
def addR (rc : List Int) (lg : Bool) (p : List Int) : List Int × Bool :=
  if lg then (rc, true) else if rc.length + p.length ≤ 8192 then (rc ++ p, false) else ((rc ++ p).take 5, true)
section
variable (c : Cf) (k : Lk)
/-- The machine takes a step. -/
def Lk.step (side : Int) (o : Nat) (n say : Int) : Lk := { k with ms := Op.upd k.ms (Op.idx side o) n, out := k.out ++ sayB side say o }
/-- The end begins anew. -/
def Lk.reset : Lk := { k with es := 0, dev := ⟨#[]⟩, ag := [] }
/-- An option was heard. -/
def optE (v o : Nat) : Lk :=
  let i := Op.idx (Op.sideOf v) o
  let r := Op.hearN v (k.ms i) (c.A i)
  let k1 := k.step (Op.sideOf v) o r.1 r.2
  if k1.ms 40 = 1 then k1 else k1.reset
/-- The end heard a subnegotiation. -/
def Lk.hear (o : Int) (xs : List Int) : Lk :=
  { k with es := Ng.stH c.fs k.es o xs, dev := Ng.devH k.dev k.es o xs, ag := Ng.agH c.fs k.ag k.es o xs, out := k.out ++ (if Ng.ansH c.T c.D c.fs k.es o xs = [] then [] else Tn.subL o (Ng.ansH c.T c.D c.fs k.es o xs)) }
/-- Our side of TN3270E is asked off, where the end is refused. -/
def Lk.refuse : Lk :=
  if k.es ≠ 4 then k
  else if (Op.askN (k.ms 40) false).2.2 then k.step 0 40 (Op.askN (k.ms 40) false).1 (Op.askN (k.ms 40) false).2.1 else k
def subE (e : Tn.Ev) : Lk :=
  if (e.long || e.broken || !(k.ms e.opt.toNat == 1)) then k else (k.hear c e.opt e.data).refuse
def Lk.drop : Lk := { k with rc := [], lg := false }
/-- Where the mode has changed, the record is discarded. -/
def dropIf (m : Int) (k' : Lk) : Lk := if k'.mode = m then k' else k'.drop
/-- What comes of an element. -/
def procE (e : Tn.Ev) : Lk × Option Evt :=
  if e.kind = 0 then
    if k.mode = 0 then (k, some ⟨2, e.data, noH, false⟩) else ({ k with rc := (addR k.rc k.lg e.data).1, lg := (addR k.rc k.lg e.data).2 }, none)
  else if e.kind = 1 then
    if e.verb = 239 ∧ k.mode ≠ 0 then (k.drop, some (evtOf k.mode k.rc k.lg)) else (k, none)
  else if e.kind = 2 then (dropIf k.mode (optE c k e.verb.toNat e.opt.toNat), none)
  else (dropIf k.mode (subE c k e), none)
/-- An answer. -/
def respB (x : Evt) (code : Int) : Bool := x.headed && (k.mode == 2) && k.has && Hd.ansB x.hdr.t x.hdr.s code
def respE (x : Evt) (code : Int) : Lk := if respB k x code then { k with out := k.out ++ recB (Hd.ansL x.hdr.t x.hdr.s x.hdr.q code) } else k
def nextN (q : Int) : Int := if q < 32767 then q + 1 else 0
/-- A record is sent. -/
def sendE (p : List Int) : Lk :=
  if k.mode = 1 then { k with out := k.out ++ recB p }
  else if k.mode = 2 then
    if k.has then { k with out := k.out ++ recB (Hd.hdrL 0 0 0 k.sq ++ p), sq := nextN k.sq } else { k with out := k.out ++ recB (Hd.hdrL 0 0 0 0 ++ p) }
  else k
end
/-- An element as the reader tells it. -/
structure EvOK (e : Tn.Ev) : Prop where
  kind : e.kind = 0 ∨ e.kind = 1 ∨ e.kind = 2 ∨ e.kind = 3
  verb : e.kind = 2 → 0 ≤ e.verb ∧ Op.isVerb e.verb.toNat
  opt : 0 ≤ e.opt ∧ e.opt < 256
  data : e.kind = 3 → e.data.length ≤ 256
/-- Where in an element a stream may stand. -/
def StOK : Tn.St → Prop
  | .verb v => 251 ≤ v ∧ v ≤ 254
  | .sub o d _ => (0 ≤ o ∧ o < 256) ∧ d.length ≤ 256
  | .subIac o d _ => (0 ≤ o ∧ o < 256) ∧ d.length ≤ 256
  | _ => True
theorem keepS_ok {o : Int} {d : List Int} {l : Bool} (b : Int) (ho : 0 ≤ o ∧ o < 256) (hd : d.length ≤ 256) : StOK (Tn.keepS o d l b) := by
  unfold Tn.keepS
  split
  · exact ⟨ho, hd⟩
  · exact ⟨ho, by rw [List.length_append]; simp; omega⟩
theorem dat_ok (p : List Int) : EvOK (Tn.dat p) := ⟨.inl rfl, fun q => (by cases q), ⟨Int.le_refl 0, show (0 : Int) < 256 by decide⟩, fun q => (by cases q)⟩
theorem cmd_ok (b : Int) : EvOK ⟨1, b, 0, [], false, false⟩ := ⟨.inr (.inl rfl), fun q => (by cases q), ⟨Int.le_refl 0, show (0 : Int) < 256 by decide⟩, fun q => (by cases q)⟩
theorem iacS_ok (b : Int) : StOK (Tn.iacS b).1 ∧ ∀ e ∈ (Tn.iacS b).2, EvOK e := by
  unfold Tn.iacS
  split
  · exact ⟨trivial, fun e h => by rw [List.mem_singleton.1 h]; exact dat_ok _⟩
  · split
    · exact ⟨trivial, fun e h => by cases h⟩
    · split
      · rename_i h; exact ⟨h, fun e h => by cases h⟩
      · exact ⟨trivial, fun e h => by rw [List.mem_singleton.1 h]; exact cmd_ok _⟩
theorem stepS_ok {st : Tn.St} (h : StOK st) (b : Int) (hb : 0 ≤ b ∧ b < 256) : StOK (Tn.stepS st b).1 ∧ ∀ e ∈ (Tn.stepS st b).2, EvOK e := by
  cases st with
  | between =>
    simp only [Tn.stepS]
    split
    · exact ⟨trivial, fun e h => by cases h⟩
    · exact ⟨trivial, fun e h => by rw [List.mem_singleton.1 h]; exact dat_ok _⟩
  | iac => exact iacS_ok b
  | verb v =>
    refine ⟨trivial, fun e he => ?_⟩
    rw [List.mem_singleton.1 he]
    refine ⟨.inr (.inr (.inl rfl)), fun _ => ⟨by have := h.1; show (0 : Int) ≤ v; omega, ?_⟩, hb, fun q => (by cases q)⟩
    have h1 := h.1
    have h2 := h.2
    show v.toNat = 251 ∨ v.toNat = 252 ∨ v.toNat = 253 ∨ v.toNat = 254
    omega
  | sb => exact ⟨⟨hb, Nat.zero_le _⟩, fun e h => by cases h⟩
  | sub o d l =>
    simp only [Tn.stepS]
    split
    · exact ⟨h, fun e h => by cases h⟩
    · exact ⟨keepS_ok b h.1 h.2, fun e h => by cases h⟩
  | subIac o d l =>
    have hs : ∀ br : Bool, EvOK ⟨3, 0, o, d, l, br⟩ := fun br => ⟨.inr (.inr (.inr rfl)), fun q => (by cases q), h.1, fun _ => h.2⟩
    simp only [Tn.stepS]
    split
    · exact ⟨keepS_ok b h.1 h.2, fun e h => by cases h⟩
    · split
      · exact ⟨trivial, fun e he => by rw [List.mem_singleton.1 he]; exact hs _⟩
      · refine ⟨(iacS_ok b).1, fun e he => ?_⟩
        rcases List.mem_cons.1 he with rfl | he
        · exact hs _
        · exact (iacS_ok b).2 e he
theorem runS_ok : ∀ {st : Tn.St} (_ : StOK st) (ps : List Int) (_ : ∀ b ∈ ps, 0 ≤ b ∧ b < 256), StOK (Tn.runS st ps)
  | _, h, [], _ => h
  | _, h, b :: ps, hp => runS_ok (stepS_ok h b (hp b (by simp))).1 ps (fun x hx => hp x (List.mem_cons_of_mem _ hx))
theorem emit_ok : ∀ {st : Tn.St} (_ : StOK st) (ps : List Int) (_ : ∀ b ∈ ps, 0 ≤ b ∧ b < 256), ∀ e ∈ Tn.emit st ps, EvOK e
  | _, _, [], _, e, he => by cases he
  | _, h, b :: ps, hp, e, he => by
    have hs := stepS_ok h b (hp b (by simp))
    rcases List.mem_append.1 he with q | q
    · exact hs.2 e q
    · exact emit_ok hs.1 ps (fun x hx => hp x (List.mem_cons_of_mem _ hx)) e q
theorem addD_ok {l : List Tn.Ev} (p : List Int) (h : ∀ e ∈ l, EvOK e) : ∀ e ∈ Tn.addD l p, EvOK e := by
  by_cases hp : p = []
  · subst hp; rw [Tn.addD_nil]; exact h
  rcases Tn.snoc_cases l with rfl | ⟨l', e', rfl⟩
  · rw [Tn.addD_empty hp]
    exact fun e he => by rw [List.mem_singleton.1 he]; exact dat_ok _
  · rw [Tn.addD_snoc _ _ hp]
    split
    · rename_i hz
      intro e he
      rcases List.mem_append.1 he with q | q
      · exact h e (List.mem_append.2 (.inl q))
      · have ho := h e' (List.mem_append.2 (.inr (by simp)))
        rw [List.mem_singleton.1 q]
        exact ⟨ho.kind, ho.verb, ho.opt, fun q3 => by have : e'.kind = 3 := q3; rw [hz] at this; cases this⟩
    · intro e he
      rcases List.mem_append.1 he with q | q
      · exact h e q
      · rw [List.mem_singleton.1 q]; exact dat_ok _
theorem merge_ok : ∀ (n : Nat) (l : List Tn.Ev), l.length = n → (∀ e ∈ l, EvOK e) → ∀ e ∈ Tn.mergeL l, EvOK e
  | 0, l, hl, _ => by rw [List.length_eq_zero_iff.1 hl]; exact fun e he => by cases he
  | n + 1, l, hl, h => by
    rcases Tn.snoc_cases l with rfl | ⟨l', e', rfl⟩
    · cases hl
    · have h1 := merge_ok n l' (by simpa using hl) (fun e he => h e (List.mem_append.2 (.inl he)))
      rw [Tn.mergeL_snoc]
      unfold Tn.mstep
      split
      · exact addD_ok _ h1
      · intro e he
        rcases List.mem_append.1 he with q | q
        · exact h1 e q
        · exact h e (List.mem_append.2 (.inr q))
/-- What a state keeps to. -/
structure LkOK (c : Cf) (k : Lk) : Prop where
  T : c.T.size ≤ 1000
  D : c.D.size ≤ 1000
  fs : c.fs.length ≤ 1000 ∧ ∀ x ∈ c.fs, 0 ≤ x ∧ x ≤ 4
  es : 0 ≤ k.es ∧ k.es ≤ 4
  ag : k.ag.length ≤ 1000
  rc : k.rc.length ≤ 8192 ∧ (k.lg = true → k.rc.length = 5)
  sq : 0 ≤ k.sq ∧ k.sq ≤ 32767
  st : StOK k.st

/-! In memory -/
/-- A record's maker. -/
structure MkM (w : World) (K : Nat) (rd : Value) (rc : List Int) (lg : Bool) : Prop where
  b : w.heap[K]? = some (.cells #[rd, .bool lg] 127 (0, 0))
  r : if lg = true then Reads w rd rc else OwnB w rd rc
  n : K ∉ blkV rd
theorem MkM.reads {w : World} {K : Nat} {rd : Value} {rc : List Int} {lg : Bool} (h : MkM w K rd rc lg) : Reads w rd rc := by
  have := h.r
  split at this
  · exact this
  · exact OwnB.reads this
theorem MkM.lt {w : World} {K : Nat} {rd : Value} {rc : List Int} {lg : Bool} (h : MkM w K rd rc lg) : K < w.heap.size := (Array.getElem?_eq_some_iff.1 h.b).1
theorem MkM.moved {w w' : World} {S S' : List Nat} {K : Nat} {rd : Value} {rc : List Int} {lg : Bool} (h : MkM w K rd rc lg) (m : Moved w w' S S') (hK : K ∉ S) (hr : ∀ b ∈ blkV rd, b ∉ S) : MkM w' K rd rc lg := by
  refine ⟨(m.block K h.lt hK).trans h.b, ?_, h.n⟩
  have := h.r
  split at this
  · rename_i e; rw [if_pos e]; exact reads_moved this m hr
  · rename_i e; rw [if_neg e]; exact OwnB.moved this m hr
/-- Where a link's parts lie. -/
structure Ly where
  R : Nat
  M : Nat
  E : Nat
  K : Nat
  d : Value
  sv : Value
  av : Value
  rd : Value
  ov : Value
/-- The blocks of a link. -/
def Ly.foot (y : Ly) (L : Nat) : List Nat := (L :: blkV y.ov) ++ ((y.R :: blkV y.d) ++ (y.M :: ((y.E :: (blkV y.sv ++ blkV y.av)) ++ (y.K :: blkV y.rd))))
/-- No two parts share a block: each block has its part's number. -/
structure Sep (L : Nat) (y : Ly) (lab : Nat → Nat) : Prop where
  l : lab L = 0
  r : lab y.R = 1
  d : ∀ b ∈ blkV y.d, lab b = 1
  m : lab y.M = 2
  e : lab y.E = 3
  sv : ∀ b ∈ blkV y.sv, lab b = 3
  av : ∀ b ∈ blkV y.av, lab b = 3
  k : lab y.K = 4
  rd : ∀ b ∈ blkV y.rd, lab b = 4
  ov : ∀ b ∈ blkV y.ov, lab b = 0
def LkB (w : World) (L : Nat) (y : Ly) (sq : Int) : Prop := w.heap[L]? = some (.cells #[.pointer (some ⟨y.R, 0, none⟩), .pointer (some ⟨y.M, 0, none⟩), .pointer (some ⟨y.E, 0, none⟩), .pointer (some ⟨y.K, 0, none⟩), y.ov, .int .u16 sq] 84 (0, 0))
/-- A link in memory. -/
structure LkM (w : World) (L : Nat) (c : Cf) (y : Ly) (k : Lk) : Prop where
  b : LkB w L y k.sq
  rdr : Tn.RIn w y.R y.d k.st
  rn : y.R ∉ blkV y.d
  mac : Op.Mach w y.M c.A k.ms
  en : Ng.EndM w y.E y.sv y.av c.T c.D c.fs k.es k.dev k.ag
  mr : MkM w y.K y.rd k.rc k.lg
  out : OwnB w y.ov k.out
  ln : L ∉ blkV y.ov
  sep : ∃ lab, Sep L y lab
section
variable {w w' : World} {L : Nat} {c : Cf} {y : Ly} {k : Lk}
theorem mem_foot {b : Nat} : b ∈ y.foot L ↔ b = L ∨ b ∈ blkV y.ov ∨ b = y.R ∨ b ∈ blkV y.d ∨ b = y.M ∨ b = y.E ∨ b ∈ blkV y.sv ∨ b ∈ blkV y.av ∨ b = y.K ∨ b ∈ blkV y.rd := by
  simp only [Ly.foot, List.mem_append, List.mem_cons]
  constructor
  · rintro ((h | h) | ((h | h) | (h | ((h | h | h) | (h | h))))) <;> simp [h]
  · rintro (h | h | h | h | h | h | h | h | h | h) <;> simp [h]
theorem LkB.lt {sq : Int} (h : LkB w L y sq) : L < w.heap.size := (Array.getElem?_eq_some_iff.1 h).1
theorem LkB.c0 {sq : Int} (h : LkB w L y sq) : w.cell? ⟨L, 0, none⟩ = some (.pointer (some ⟨y.R, 0, none⟩)) := cell_of_row w L 0 _ 84 _ h
theorem LkB.c1 {sq : Int} (h : LkB w L y sq) : w.cell? ⟨L, 1, none⟩ = some (.pointer (some ⟨y.M, 0, none⟩)) := cell_of_row w L 1 _ 84 _ h
theorem LkB.c2 {sq : Int} (h : LkB w L y sq) : w.cell? ⟨L, 2, none⟩ = some (.pointer (some ⟨y.E, 0, none⟩)) := cell_of_row w L 2 _ 84 _ h
theorem LkB.c3 {sq : Int} (h : LkB w L y sq) : w.cell? ⟨L, 3, none⟩ = some (.pointer (some ⟨y.K, 0, none⟩)) := cell_of_row w L 3 _ 84 _ h
theorem LkB.c4 {sq : Int} (h : LkB w L y sq) : w.cell? ⟨L, 4, none⟩ = some y.ov := cell_of_row w L 4 _ 84 _ h
theorem LkB.c5 {sq : Int} (h : LkB w L y sq) : w.cell? ⟨L, 5, none⟩ = some (.int .u16 sq) := cell_of_row w L 5 _ 84 _ h
theorem LkB.free {sq : Int} (h : LkB w L y sq) (i : Nat) : w.frozen? ⟨L, i, none⟩ = false := frozen_of_row w L i _ 84 h
theorem blk_lt_reads {v : Value} {xs : List Int} (h : Reads w v xs) (hx : xs ≠ []) : ∀ b ∈ blkV v, b < w.heap.size := by
  intro b hb
  rcases h.2 with ⟨rfl, _⟩ | ⟨a, cap, rfl, h1, h2, h3⟩
  · cases hb
  · have hp : 0 < xs.length := by
      rcases xs with _ | ⟨x, xs⟩
      · exact absurd rfl hx
      · simp
    have := World.block_lt_of_cell? w _ (h3 0 hp)
    have e : b = a.block := by
      simp [mem_blkV, Value.ownBlock] at hb
      exact hb.symm
    rw [e]
    have e2 : (a.add 0).block = a.block := by unfold Addr.add; split <;> rfl
    rw [← e2]
    exact this
theorem MkM.rlt {K : Nat} {rd : Value} {rc : List Int} {lg : Bool} (h : MkM w K rd rc lg) (hl : lg = true → rc.length = 5) : ∀ b ∈ blkV rd, b < w.heap.size := by
  have := h.r
  split at this
  · rename_i e
    exact blk_lt_reads this (fun q => by have := hl e; rw [q] at this; cases this)
  · exact own_lt this.2
theorem LkM.lt (h : LkM w L c y k) (hk : LkOK c k) : ∀ b ∈ y.foot L, b < w.heap.size := by
  intro b hb
  rcases mem_foot.1 hb with rfl | q | rfl | q | rfl | rfl | q | q | rfl | q
  · exact h.b.lt
  · exact h.out.lt b q
  · exact h.rdr.lt
  · exact h.rdr.dlt b q
  · exact h.mac.lt
  · exact h.en.lt
  · exact h.en.rs.lt b q
  · exact h.en.ra.lt b q
  · exact h.mr.lt
  · exact h.mr.rlt hk.rc.2 b q
theorem LkM.moved {S S' : List Nat} (h : LkM w L c y k) (m : Moved w w' S S') (hs : ∀ b ∈ y.foot L, b ∉ S) : LkM w' L c y k := by
  have f : ∀ {b}, (b = L ∨ b ∈ blkV y.ov ∨ b = y.R ∨ b ∈ blkV y.d ∨ b = y.M ∨ b = y.E ∨ b ∈ blkV y.sv ∨ b ∈ blkV y.av ∨ b = y.K ∨ b ∈ blkV y.rd) → b ∉ S := fun q => hs _ (mem_foot.2 q)
  refine ⟨(m.block L h.b.lt (f (by simp))).trans h.b, h.rdr.moved m ?_, h.rn, h.mac.moved m (f (by simp)), h.en.moved m (f (by simp)) (fun b q => f (by simp [q])) (fun b q => f (by simp [q])), h.mr.moved m (f (by simp)) (fun b q => f (by simp [q])), h.out.moved m (fun b q => f (by simp [q])), h.ln, h.sep⟩
  intro b hb
  rcases List.mem_cons.1 hb with rfl | q
  · exact f (by simp)
  · exact f (by simp [q])
theorem LkM.step (h : LkM w L c y k) (hb : Below w.heap.size w w') : LkM w' L c y k := h.moved (Moved.below hb []) (fun _ _ q => by cases q)
/-- New blocks have the part's number. -/
theorem Sep.old {lab : Nat → Nat} (hs : Sep L y lab) (hlt : ∀ b ∈ y.foot L, b < w.heap.size) (i : Nat) : Sep L y (fun b => if b < w.heap.size then lab b else i) := by
  have f : ∀ {b j}, (b = L ∨ b ∈ blkV y.ov ∨ b = y.R ∨ b ∈ blkV y.d ∨ b = y.M ∨ b = y.E ∨ b ∈ blkV y.sv ∨ b ∈ blkV y.av ∨ b = y.K ∨ b ∈ blkV y.rd) → lab b = j → (if b < w.heap.size then lab b else i) = j := fun q e => by rw [if_pos (hlt _ (mem_foot.2 q))]; exact e
  exact ⟨f (by simp) hs.l, f (by simp) hs.r, fun b q => f (by simp [q]) (hs.d b q), f (by simp) hs.m, f (by simp) hs.e, fun b q => f (by simp [q]) (hs.sv b q), fun b q => f (by simp [q]) (hs.av b q), f (by simp) hs.k, fun b q => f (by simp [q]) (hs.rd b q), fun b q => f (by simp [q]) (hs.ov b q)⟩
theorem lab_new {lab : Nat → Nat} {i b : Nat} (h : (b < w.heap.size ∧ lab b = i) ∨ w.heap.size ≤ b) : (if b < w.heap.size then lab b else i) = i := by
  rcases h with ⟨h1, h2⟩ | h
  · rw [if_pos h1]; exact h2
  · rw [if_neg (by omega)]
/-- The reader has moved. -/
theorem LkM.reader {S' : List Nat} {d' : Value} {st' : Tn.St} (h : LkM w L c y k) (hk : LkOK c k) (m : Moved w w' (y.R :: blkV y.d) S') (hr : Tn.RIn w' y.R d' st') (hn : y.R ∉ blkV d') (hd : ∀ b ∈ blkV d', b ∈ S') : LkM w' L c { y with d := d' } { k with st := st' } ∧ Moved w w' (y.foot L) (Ly.foot { y with d := d' } L) := by
  have hlt := h.lt hk
  obtain ⟨lab, hs⟩ := h.sep
  have hlab : ∀ b ∈ y.R :: blkV y.d, lab b = 1 := fun b q => by
    rcases List.mem_cons.1 q with rfl | q
    · exact hs.r
    · exact hs.d b q
  have ne : ∀ {b i}, lab b = i → i ≠ 1 → b ∉ y.R :: blkV y.d := fun e1 e2 q => e2 (e1.symm.trans (hlab _ q))
  have hfrom : ∀ b ∈ blkV d', b ∈ y.R :: blkV y.d ∨ w.heap.size ≤ b := fun b q => m.from' b (hd b q)
  have hs' := hs.old (w := w) hlt 1
  refine ⟨⟨(m.block L h.b.lt (ne hs.l (by decide))).trans h.b, hr, hn, h.mac.moved m (ne hs.m (by decide)), h.en.moved m (ne hs.e (by decide)) (fun b q => ne (hs.sv b q) (by decide)) (fun b q => ne (hs.av b q) (by decide)), h.mr.moved m (ne hs.k (by decide)) (fun b q => ne (hs.rd b q) (by decide)), h.out.moved m (fun b q => ne (hs.ov b q) (by decide)), h.ln, _, hs'.l, hs'.r, ?_, hs'.m, hs'.e, hs'.sv, hs'.av, hs'.k, hs'.rd, hs'.ov⟩, ?_⟩
  · intro b q
    refine lab_new ?_
    rcases hfrom b q with q | q
    · refine .inl ⟨hlt b (mem_foot.2 ?_), hlab b q⟩
      rcases List.mem_cons.1 q with rfl | q
      · simp
      · simp [q]
    · exact .inr q
  · refine ⟨m.os, m.tape, m.output, m.size, fun b q h2 => m.block b q (fun h3 => h2 (mem_foot.2 ?_)), fun b q => ?_⟩
    · rcases List.mem_cons.1 h3 with rfl | q
      · simp
      · simp [q]
    · rcases mem_foot.1 q with q | q | q | q | q | q | q | q | q | q
      · exact .inl (mem_foot.2 (by simp [q]))
      · exact .inl (mem_foot.2 (by have : b ∈ blkV y.ov := q; simp [this]))
      · exact .inl (mem_foot.2 (by simp [show b = y.R from q]))
      · rcases hfrom b q with q | q
        · rcases List.mem_cons.1 q with q | q
          · exact .inl (mem_foot.2 (by simp [q]))
          · exact .inl (mem_foot.2 (by simp [q]))
        · exact .inr q
      · exact .inl (mem_foot.2 (by simp [show b = y.M from q]))
      · exact .inl (mem_foot.2 (by simp [show b = y.E from q]))
      · exact .inl (mem_foot.2 (by have : b ∈ blkV y.sv := q; simp [this]))
      · exact .inl (mem_foot.2 (by have : b ∈ blkV y.av := q; simp [this]))
      · exact .inl (mem_foot.2 (by simp [show b = y.K from q]))
      · exact .inl (mem_foot.2 (by have : b ∈ blkV y.rd := q; simp [this]))
/-- The machine has moved. -/
theorem LkM.machine {ms' : Nat → Int} (h : LkM w L c y k) (m : Moved w w' [y.M] [y.M]) (hm : Op.Mach w' y.M c.A ms') : LkM w' L c y { k with ms := ms' } ∧ Moved w w' (y.foot L) (y.foot L) := by
  obtain ⟨lab, hs⟩ := h.sep
  have ne : ∀ {b i}, lab b = i → i ≠ 2 → b ∉ [y.M] := fun e1 e2 q => e2 (e1.symm.trans (by rw [List.mem_singleton.1 q]; exact hs.m))
  refine ⟨⟨(m.block L h.b.lt (ne hs.l (by decide))).trans h.b, h.rdr.moved m ?_, h.rn, hm, h.en.moved m (ne hs.e (by decide)) (fun b q => ne (hs.sv b q) (by decide)) (fun b q => ne (hs.av b q) (by decide)), h.mr.moved m (ne hs.k (by decide)) (fun b q => ne (hs.rd b q) (by decide)), h.out.moved m (fun b q => ne (hs.ov b q) (by decide)), h.ln, lab, hs⟩, m.sub (fun b q => ?_) (fun b q => .inr q)⟩
  · intro b hb
    rcases List.mem_cons.1 hb with rfl | q
    · exact ne hs.r (by decide)
    · exact ne (hs.d b q) (by decide)
  · rw [List.mem_singleton.1 q]; exact mem_foot.2 (by simp)
/-- The end has moved. -/
theorem LkM.ending {av' : Value} {es' : Int} {dev' : ByteArray} {ag' : List Int} (h : LkM w L c y k) (hk : LkOK c k) (m : Moved w w' [y.E] [y.E]) (he : Ng.EndM w' y.E y.sv av' c.T c.D c.fs es' dev' ag') (ho : Ng.OldNew w y.E av') : LkM w' L c { y with av := av' } { k with es := es', dev := dev', ag := ag' } ∧ Moved w w' (y.foot L) (Ly.foot { y with av := av' } L) := by
  have hlt := h.lt hk
  obtain ⟨lab, hs⟩ := h.sep
  have ne : ∀ {b i}, lab b = i → i ≠ 3 → b ∉ [y.E] := fun e1 e2 q => e2 (e1.symm.trans (by rw [List.mem_singleton.1 q]; exact hs.e))
  have hfrom : ∀ b ∈ blkV av', b ∈ blkV y.av ∨ w.heap.size ≤ b := fun b q => by
    rcases ho with e | f
    · rw [h.en.c5] at e
      rw [Option.some.inj e]
      exact .inl q
    · exact .inr (f b q)
  have hs' := hs.old (w := w) hlt 3
  refine ⟨⟨(m.block L h.b.lt (ne hs.l (by decide))).trans h.b, h.rdr.moved m ?_, h.rn, h.mac.moved m (ne hs.m (by decide)), he, h.mr.moved m (ne hs.k (by decide)) (fun b q => ne (hs.rd b q) (by decide)), h.out.moved m (fun b q => ne (hs.ov b q) (by decide)), h.ln, _, hs'.l, hs'.r, hs'.d, hs'.m, hs'.e, hs'.sv, ?_, hs'.k, hs'.rd, hs'.ov⟩, ?_⟩
  · intro b hb
    rcases List.mem_cons.1 hb with rfl | q
    · exact ne hs.r (by decide)
    · exact ne (hs.d b q) (by decide)
  · intro b q
    refine lab_new ?_
    rcases hfrom b q with q | q
    · exact .inl ⟨hlt b (mem_foot.2 (by simp [q])), hs.av b q⟩
    · exact .inr q
  · refine ⟨m.os, m.tape, m.output, m.size, fun b q h2 => m.block b q (fun h3 => h2 (by rw [List.mem_singleton.1 h3]; exact mem_foot.2 (by simp))), fun b q => ?_⟩
    rcases mem_foot.1 q with q | q | q | q | q | q | q | q | q | q
    · exact .inl (mem_foot.2 (by simp [q]))
    · exact .inl (mem_foot.2 (by have : b ∈ blkV y.ov := q; simp [this]))
    · exact .inl (mem_foot.2 (by simp [show b = y.R from q]))
    · exact .inl (mem_foot.2 (by have : b ∈ blkV y.d := q; simp [this]))
    · exact .inl (mem_foot.2 (by simp [show b = y.M from q]))
    · exact .inl (mem_foot.2 (by simp [show b = y.E from q]))
    · exact .inl (mem_foot.2 (by have : b ∈ blkV y.sv := q; simp [this]))
    · rcases hfrom b q with q | q
      · exact .inl (mem_foot.2 (by simp [q]))
      · exact .inr q
    · exact .inl (mem_foot.2 (by simp [show b = y.K from q]))
    · exact .inl (mem_foot.2 (by have : b ∈ blkV y.rd := q; simp [this]))
/-- The maker has moved. -/
theorem LkM.maker {S' : List Nat} {rd' : Value} {rc' : List Int} {lg' : Bool} (h : LkM w L c y k) (hk : LkOK c k) (m : Moved w w' (y.K :: blkV y.rd) S') (hm : MkM w' y.K rd' rc' lg') (hd : ∀ b ∈ blkV rd', b ∈ S') : LkM w' L c { y with rd := rd' } { k with rc := rc', lg := lg' } ∧ Moved w w' (y.foot L) (Ly.foot { y with rd := rd' } L) := by
  have hlt := h.lt hk
  obtain ⟨lab, hs⟩ := h.sep
  have hlab : ∀ b ∈ y.K :: blkV y.rd, lab b = 4 := fun b q => by
    rcases List.mem_cons.1 q with rfl | q
    · exact hs.k
    · exact hs.rd b q
  have ne : ∀ {b i}, lab b = i → i ≠ 4 → b ∉ y.K :: blkV y.rd := fun e1 e2 q => e2 (e1.symm.trans (hlab _ q))
  have hfrom : ∀ b ∈ blkV rd', b ∈ y.K :: blkV y.rd ∨ w.heap.size ≤ b := fun b q => m.from' b (hd b q)
  have hs' := hs.old (w := w) hlt 4
  refine ⟨⟨(m.block L h.b.lt (ne hs.l (by decide))).trans h.b, h.rdr.moved m ?_, h.rn, h.mac.moved m (ne hs.m (by decide)), h.en.moved m (ne hs.e (by decide)) (fun b q => ne (hs.sv b q) (by decide)) (fun b q => ne (hs.av b q) (by decide)), hm, h.out.moved m (fun b q => ne (hs.ov b q) (by decide)), h.ln, _, hs'.l, hs'.r, hs'.d, hs'.m, hs'.e, hs'.sv, hs'.av, hs'.k, ?_, hs'.ov⟩, ?_⟩
  · intro b hb
    rcases List.mem_cons.1 hb with rfl | q
    · exact ne hs.r (by decide)
    · exact ne (hs.d b q) (by decide)
  · intro b q
    refine lab_new ?_
    rcases hfrom b q with q | q
    · refine .inl ⟨hlt b (mem_foot.2 ?_), hlab b q⟩
      rcases List.mem_cons.1 q with rfl | q
      · simp
      · simp [q]
    · exact .inr q
  · refine ⟨m.os, m.tape, m.output, m.size, fun b q h2 => m.block b q (fun h3 => h2 (mem_foot.2 ?_)), fun b q => ?_⟩
    · rcases List.mem_cons.1 h3 with rfl | q
      · simp
      · simp [q]
    rcases mem_foot.1 q with q | q | q | q | q | q | q | q | q | q
    · exact .inl (mem_foot.2 (by simp [q]))
    · exact .inl (mem_foot.2 (by have : b ∈ blkV y.ov := q; simp [this]))
    · exact .inl (mem_foot.2 (by simp [show b = y.R from q]))
    · exact .inl (mem_foot.2 (by have : b ∈ blkV y.d := q; simp [this]))
    · exact .inl (mem_foot.2 (by simp [show b = y.M from q]))
    · exact .inl (mem_foot.2 (by simp [show b = y.E from q]))
    · exact .inl (mem_foot.2 (by have : b ∈ blkV y.sv := q; simp [this]))
    · exact .inl (mem_foot.2 (by have : b ∈ blkV y.av := q; simp [this]))
    · exact .inl (mem_foot.2 (by simp [show b = y.K from q]))
    · rcases hfrom b q with q | q
      · rcases List.mem_cons.1 q with q | q
        · exact .inl (mem_foot.2 (by simp [q]))
        · exact .inl (mem_foot.2 (by simp [q]))
      · exact .inr q
/-- The link's own block, or its buffer, has changed. -/
theorem LkM.buffer {ov' : Value} {out' : List Int} {sq' : Int} (h : LkM w L c y k) (hk : LkOK c k) (m : Moved w w' (L :: blkV y.ov) (L :: blkV ov')) (hb : LkB w' L { y with ov := ov' } sq') (ho : OwnB w' ov' out') (hn : L ∉ blkV ov') : LkM w' L c { y with ov := ov' } { k with out := out', sq := sq' } ∧ Moved w w' (y.foot L) (Ly.foot { y with ov := ov' } L) := by
  have hlt := h.lt hk
  obtain ⟨lab, hs⟩ := h.sep
  have hlab : ∀ b ∈ L :: blkV y.ov, lab b = 0 := fun b q => by
    rcases List.mem_cons.1 q with rfl | q
    · exact hs.l
    · exact hs.ov b q
  have ne : ∀ {b i}, lab b = i → i ≠ 0 → b ∉ L :: blkV y.ov := fun e1 e2 q => e2 (e1.symm.trans (hlab _ q))
  have hfrom : ∀ b ∈ blkV ov', b ∈ L :: blkV y.ov ∨ w.heap.size ≤ b := fun b q => m.from' b (List.mem_cons_of_mem _ q)
  have hs' := hs.old (w := w) hlt 0
  refine ⟨⟨hb, h.rdr.moved m ?_, h.rn, h.mac.moved m (ne hs.m (by decide)), h.en.moved m (ne hs.e (by decide)) (fun b q => ne (hs.sv b q) (by decide)) (fun b q => ne (hs.av b q) (by decide)), h.mr.moved m (ne hs.k (by decide)) (fun b q => ne (hs.rd b q) (by decide)), ho, hn, _, hs'.l, hs'.r, hs'.d, hs'.m, hs'.e, hs'.sv, hs'.av, hs'.k, hs'.rd, ?_⟩, ?_⟩
  · intro b hb
    rcases List.mem_cons.1 hb with rfl | q
    · exact ne hs.r (by decide)
    · exact ne (hs.d b q) (by decide)
  · intro b q
    refine lab_new ?_
    rcases hfrom b q with q | q
    · refine .inl ⟨hlt b (mem_foot.2 ?_), hlab b q⟩
      rcases List.mem_cons.1 q with rfl | q
      · simp
      · simp [q]
    · exact .inr q
  · refine ⟨m.os, m.tape, m.output, m.size, fun b q h2 => m.block b q (fun h3 => h2 (mem_foot.2 ?_)), fun b q => ?_⟩
    · rcases List.mem_cons.1 h3 with rfl | q
      · simp
      · simp [q]
    rcases mem_foot.1 q with q | q | q | q | q | q | q | q | q | q
    · exact .inl (mem_foot.2 (by simp [q]))
    · rcases hfrom b q with q | q
      · rcases List.mem_cons.1 q with q | q
        · exact .inl (mem_foot.2 (by simp [q]))
        · exact .inl (mem_foot.2 (by simp [q]))
      · exact .inr q
    · exact .inl (mem_foot.2 (by simp [show b = y.R from q]))
    · exact .inl (mem_foot.2 (by have : b ∈ blkV y.d := q; simp [this]))
    · exact .inl (mem_foot.2 (by simp [show b = y.M from q]))
    · exact .inl (mem_foot.2 (by simp [show b = y.E from q]))
    · exact .inl (mem_foot.2 (by have : b ∈ blkV y.sv := q; simp [this]))
    · exact .inl (mem_foot.2 (by have : b ∈ blkV y.av := q; simp [this]))
    · exact .inl (mem_foot.2 (by simp [show b = y.K from q]))
    · exact .inl (mem_foot.2 (by have : b ∈ blkV y.rd := q; simp [this]))
end
end Go.Proofs.YtaanpnmgibcemaaGreatDoor
