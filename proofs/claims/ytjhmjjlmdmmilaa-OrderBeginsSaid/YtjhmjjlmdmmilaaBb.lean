/-
  What is owned, block by block: footprints; appends that tell which block they end in.
-/
import Derived.Test.YtjhmjjlmdmmilaaBa
import Derived.Deep.Onto
namespace Go.Proofs.Ytjhmjjlmdmmilaa
open Go.RowKit Go.Lib

/-- A slice's block. -/
def blkV (v : Value) : List Nat := v.ownBlock.toList
theorem blkV_nil : blkV (.slice none 0 0) = [] := rfl
theorem mem_blkV {v : Value} {k : Nat} : k ∈ blkV v ↔ v.ownBlock = some k := by simp [blkV]
/-- Only blocks of S have changed, or are new; what is then owned was, or is new. -/
structure Moved (w w' : World) (S S' : List Nat) : Prop where
  os : w'.os = w.os
  tape : w'.tape = w.tape
  output : w'.output = w.output
  size : w.heap.size ≤ w'.heap.size
  block : ∀ k, k < w.heap.size → k ∉ S → w'.heap[k]? = w.heap[k]?
  from' : ∀ k, k ∈ S' → k ∈ S ∨ w.heap.size ≤ k
theorem Moved.refl (w : World) (S : List Nat) : Moved w w S S := ⟨rfl, rfl, rfl, Nat.le_refl _, fun _ _ _ => rfl, fun _ h => .inl h⟩
theorem Moved.trans {a b c : World} {S T U : List Nat} (h : Moved a b S T) (k : Moved b c T U) : Moved a c S U :=
  ⟨k.os.trans h.os, k.tape.trans h.tape, k.output.trans h.output, Nat.le_trans h.size k.size,
    fun i hi hs => (k.block i (Nat.lt_of_lt_of_le hi h.size) (fun ht => by rcases h.from' i ht with q | q; exact hs q; omega)).trans (h.block i hi hs),
    fun i hi => by
      rcases k.from' i hi with q | q
      · exact h.from' i q
      · exact .inr (Nat.le_trans h.size q)⟩
theorem Moved.below {a b : World} (h : Below a.heap.size a b) (S : List Nat) : Moved a b S S := ⟨h.os, h.tape, h.output, h.size, fun k hk _ => h.block k hk, fun _ h => .inl h⟩
theorem Moved.alloc (a : World) (o : Obj) (S : List Nat) : Moved a (a.alloc o) S S := Moved.below ((Below.refl _ _).alloc (Nat.le_refl _) o) S
theorem Moved.set {a : World} {S : List Nat} {g : Nat} (hg : g ∈ S) (i : Nat) (u : Value) : Moved a (a.setCell ⟨g, i, none⟩ u) S S :=
  ⟨rfl, rfl, rfl, by simp [World.setCell], fun k _ hk => Go.heap_setCell_other a _ k u (fun e => hk (by rw [show k = g from e]; exact hg)), fun _ h => .inl h⟩
theorem Moved.grown {a b : World} {row : Option Nat} (h : a.grownBy b row) {S S' : List Nat} (hr : ∀ k, row = some k → k ∈ S) (hS : ∀ k, k ∈ S' → k ∈ S ∨ a.heap.size ≤ k) : Moved a b S S' :=
  ⟨h.os, h.tape, h.output, h.size, fun k hk hs => h.block k hk (fun e => hs (hr k e.symm)), hS⟩
theorem Moved.sub {a b : World} {S S' T T' : List Nat} (h : Moved a b S S') (h1 : ∀ k ∈ S, k ∈ T) (h2 : ∀ k ∈ T', k ∈ S' ∨ k ∈ T) : Moved a b T T' :=
  ⟨h.os, h.tape, h.output, h.size, fun k hk hs => h.block k hk (fun q => hs (h1 k q)), fun k hk => by
    rcases h2 k hk with q | q
    · rcases h.from' k q with r | r
      · exact .inl (h1 k r)
      · exact .inr r
    · exact .inl q⟩
theorem Moved.toBelow {a b : World} {S S' : List Nat} (h : Moved a b S S') {B : Nat} (hB : B ≤ a.heap.size) (hS : ∀ k ∈ S, B ≤ k) : Below B a b :=
  ⟨h.os, h.tape, h.output, h.size, fun k hk => h.block k (Nat.lt_of_lt_of_le hk hB) (fun q => by have := hS k q; omega)⟩
/-- A row that is no part of it stays. -/
theorem own_moved {w w' : World} {B : Nat} {t : TypeId} {sz n : Nat} {v : Value} {cs : List Value} {S S' : List Nat} (h : w.ownsRow B t sz v n cs) (m : Moved w w' S S') (hk : ∀ k ∈ blkV v, k ∉ S) : w'.ownsRow B t sz v n cs := by
  refine ⟨h.1, ?_⟩
  rcases h.2 with hn | ⟨g, cap, cur, rfl, hb, hgg, rest⟩
  · exact .inl hn
  · refine .inr ⟨g, cap, cur, rfl, hb, ?_, rest⟩
    rw [m.block g (Array.getElem?_eq_some_iff.1 hgg).1 (hk g (by simp [blkV, Value.ownBlock]))]
    exact hgg
theorem own_lt {w : World} {B : Nat} {t : TypeId} {sz n : Nat} {v : Value} {cs : List Value} (h : w.ownsRow B t sz v n cs) : ∀ k ∈ blkV v, k < w.heap.size := fun k hk => (h.lt k (mem_blkV.1 hk)).2
theorem reads_moved {w w' : World} {v : Value} {xs : List Int} {S S' : List Nat} (h : Reads w v xs) (m : Moved w w' S S') (hk : ∀ k ∈ blkV v, k ∉ S) : Reads w' v xs := by
  refine ⟨h.1, ?_⟩
  rcases h.2 with h1 | ⟨a, cap, rfl, h1, h2, h3⟩
  · exact .inl h1
  · refine .inr ⟨a, cap, rfl, h1, h2, fun i hi => ?_⟩
    have hc := h3 i hi
    have hb := World.block_lt_of_cell? w _ hc
    have e : (a.add i).block = a.block := by unfold Addr.add; split <;> rfl
    exact (World.cell?_of_block (m.block _ hb (by rw [e]; exact hk _ (by simp [blkV, Value.ownBlock])))).trans hc
/-- Bytes of one's own. -/
def OwnB (w : World) (v : Value) (xs : List Int) : Prop := (∀ x ∈ xs, 0 ≤ x ∧ x < 256) ∧ w.ownsRow 0 5 1 v xs.length (xs.map (Value.int .u8))
theorem OwnB.nil (w : World) : OwnB w (.slice none 0 0) [] := ⟨fun _ h => (by cases h), World.ownsRow_nil _ _ _ _⟩
theorem OwnB.reads {w : World} {v : Value} {xs : List Int} (h : OwnB w v xs) : Reads w v xs := by
  refine ⟨h.1, ?_⟩
  rcases h.2.2 with ⟨rfl, e⟩ | ⟨g, cap, cur, rfl, hg, hh, h1, h2, h3, h4⟩
  · exact .inl ⟨rfl, List.length_eq_zero_iff.1 e⟩
  · refine .inr ⟨⟨g, 0, none⟩, cap, rfl, h1, h2, fun i hi => ?_⟩
    rw [addr_add, Nat.zero_add, World.ownsRow.cellAt h.2 i (by omega), List.getElem?_map, List.getD, List.getElem?_eq_getElem hi]
    rfl
theorem OwnB.moved {w w' : World} {v : Value} {xs : List Int} {S S' : List Nat} (h : OwnB w v xs) (m : Moved w w' S S') (hk : ∀ k ∈ blkV v, k ∉ S) : OwnB w' v xs := ⟨h.1, own_moved h.2 m hk⟩
section
variable {P : Program} (w : World)
/-- An append onto what is owned, and the block that it ends in. -/
theorem run_append_blk (t ty e : TypeId) (i : TypeInfo) (z : Value) (size bytes : Nat) (ht : P.underlying t = some (.slice e)) (hi : P.info? e = some i) (hz : i.zero = some z)
    (hsize : i.size = size) (hby : i.bytes = bytes) (hzs : z.cells.size = size) (hsz : 0 < size)
    (v : Value) (n : Nat) (xs : List Value) (hown : w.ownsRow 0 e size v n xs)
    (a : Addr) (m c : Nat) (news : List Value) (hl : news.length = m * size) (hnews : ∀ j u, news[j]? = some u → w.cell? (a.add j) = some u) (h1 : ∀ u ∈ news, u.oneCell' = true)
    (h63 : n + m ≤ maxLen) (hbytes : (n + m) * bytes ≤ 140737488355328) :
    ∃ v' w', (Builtin.append_ #[t, t] ty #[v, .slice (some a) m c]).run P w = .ok v' w' ∧ w'.ownsRow 0 e size v' (n + m) (xs ++ news) ∧ w.grownBy w' v.ownBlock ∧
      (v' = .slice none 0 0 ↔ v = .slice none 0 0 ∧ m = 0) ∧ ∀ k ∈ blkV v', k ∈ blkV v ∨ w.heap.size ≤ k := by
  obtain ⟨v', w', hr, h2, h3, h4⟩ := run_append_own (P := P) w 0 t ty e i z size bytes ht hi hz hsize hby hzs hsz v n xs hown a m c news hl hnews h1 h63 hbytes (Nat.zero_le _)
  refine ⟨v', w', hr, h2, h3, h4, ?_⟩
  rcases hown.2 with ⟨rfl, rfl⟩ | ⟨g, cap, cur, rfl, hbg, hg, hnc, hcm, hcs, htake⟩
  · have hx : xs = [] := List.eq_nil_of_length_eq_zero (by simpa using hown.1)
    subst hx
    obtain ⟨v'', w'', hr', h2', -, -⟩ := run_append_own (P := P) w w.heap.size t ty e i z size bytes ht hi hz hsize hby hzs hsz (.slice none 0 0) 0 [] (World.ownsRow_nil _ _ _ _) a m c news hl hnews h1 h63 hbytes (Nat.le_refl _)
    rw [hr] at hr'
    injection hr' with e1 e2
    subst e1 e2
    exact fun k hk => .inr (h2'.lt k (mem_blkV.1 hk)).1
  · subst hsize
    subst hby
    by_cases hroom : n + m ≤ cap
    · have hfit : n * i.size + news.length ≤ cur.size := by rw [hl, hcs, ← Nat.add_mul]; exact Nat.mul_le_mul_right _ hroom
      have hr' := run_append_room (P := P) w t ty e i ht hi g n cap cur hg a m c news hl hnews h1 hroom hfit
      rw [hr] at hr'
      injection hr' with e1 e2
      subst e1
      intro k hk
      exact .inl hk
    · have hsmall : n + m ≤ 9223372036854775807 := by simp only [maxLen] at h63; omega
      have holds : ∀ j u, xs[j]? = some u → w.cell? ((⟨g, 0, none⟩ : Addr).add j) = some u := hown.cells (g := g) rfl
      have hr' := run_append_grow (P := P) w t ty e i z ht hi hz ⟨g, 0, none⟩ n cap xs hown.1 holds a m c news hl hnews (by omega) (by omega) (growslice_fits (by omega) hbytes)
      rw [hr] at hr'
      injection hr' with e1 e2
      subst e1
      intro k hk
      rw [mem_blkV] at hk
      right
      have : w.heap.size = k := by simpa [Value.ownBlock] using hk
      omega
theorem wpList_append_blk {ops : Array Oper} {rest : List Oper} {o : Oper} {a : Act} {Q : Exit → Act → World → Prop} (hgd : o.guard = none) (s x : Operand) (t : TypeId)
    (ho : o.op = .call { callee := .builtin .append, args := #[s, x], argTypes := #[t, t] })
    (e : TypeId) (i : TypeInfo) (z : Value) (size bytes : Nat) (ht : P.underlying t = some (.slice e)) (hi : P.info? e = some i) (hz : i.zero = some z)
    (hsize : i.size = size) (hby : i.bytes = bytes) (hzs : z.cells.size = size) (hsz : 0 < size)
    (v : Value) (n : Nat) (xs : List Value) (hs : a.eval s = v) (hown : w.ownsRow 0 e size v n xs)
    (ad : Addr) (m c : Nat) (news : List Value) (hx : a.eval x = .slice (some ad) m c) (hl : news.length = m * size) (hnews : ∀ j u, news[j]? = some u → w.cell? (ad.add j) = some u) (h1 : ∀ u ∈ news, u.oneCell' = true)
    (h63 : n + m ≤ maxLen) (hbytes : (n + m) * bytes ≤ 140737488355328)
    (h : ∀ v' w', w'.ownsRow 0 e size v' (n + m) (xs ++ news) → w.grownBy w' v.ownBlock → (v' = .slice none 0 0 ↔ v = .slice none 0 0 ∧ m = 0) → (∀ k ∈ blkV v', k ∈ blkV v ∨ w.heap.size ≤ k) → wpList P ops Q rest (a.put o.dst v') w') : wpList P ops Q (o :: rest) a w := by
  refine wpList_plain hgd fun K hK => ?_
  obtain ⟨v', w', hr, h2, h3, h4, h5⟩ := run_append_blk (P := P) w t o.type e i z size bytes ht hi hz hsize hby hzs hsz v n xs hown ad m c news hl hnews h1 h63 hbytes
  unfold Oper.wp execOp
  simp only [ho, resolve, invoke, builtin, Sem.run_bind, Sem.run_pure, Result.andThen_ok, List.map_toArray, List.map_cons, List.map_nil, hs, hx, hr]
  exact hK _ _ (h v' w' h2 h3 h4 h5)
end
end Go.Proofs.Ytjhmjjlmdmmilaa
