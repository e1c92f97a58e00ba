/-
  Bytes and rows in memory; footprints.
-/
import Derived.Test.YtdaainifnbbhiaaWb
import Derived.LoopTactic
import Derived.Below
import Derived.OwnWalk
import Derived.Laws.BytesArg
import Derived.Laws.AppendOwnNone
import Derived.Laws.OwnMore
import Derived.Deep.Onto
namespace Go.Proofs.Ytdaainifnbbhiaa
open Go.RowKit Go.Lib

/-- A slice of bytes that reads as a list: none, or a row. -/
def Reads (w : World) (v : Value) (xs : List Int) : Prop :=
  (∀ x ∈ xs, 0 ≤ x ∧ x < 256) ∧ ((v = .slice none 0 0 ∧ xs = []) ∨ ∃ a cap, v = .slice (some a) xs.length cap ∧ xs.length ≤ cap ∧ cap ≤ maxLen ∧ ∀ i, i < xs.length → w.cell? (a.add i) = some (.int .u8 (xs.getD i 0)))
theorem reads_nil (w : World) : Reads w (.slice none 0 0) [] := ⟨fun _ h => (by cases h), .inl ⟨rfl, rfl⟩⟩
theorem addr_add (g off j : Nat) : (⟨g, off, none⟩ : Addr).add j = ⟨g, off + j, none⟩ := by unfold Addr.add; split <;> simp_all
theorem reads_conv {w : World} {v : Value} {xs : List Int} (h : Reads w v xs) : (convert 32 9 v).run Try.prog w = .ok (.string (strOfNums xs)) w := by
  rcases h.2 with ⟨rfl, rfl⟩ | ⟨a, cap, rfl, h1, h2, h3⟩
  · exact run_convert_bytes_nil w 32 5 Try.underlying32 Try.underlying5 0 0 9 Try.underlying9
  · have hl : (loadCells a xs.length).run Try.prog w = .ok (xs.map (Value.int .u8)).toArray w := by
      have := run_loadCells_list (P := Try.prog) w a (xs.map (Value.int .u8)) (fun j v hj => by
        rw [List.getElem?_map] at hj
        by_cases hjl : j < xs.length
        · rw [List.getElem?_eq_getElem hjl] at hj
          simp only [Option.map_some, Option.some.injEq] at hj
          rw [h3 j hjl, List.getD, List.getElem?_eq_getElem hjl, ← hj]
          rfl
        · rw [List.getElem?_eq_none (by omega)] at hj
          simp at hj)
      simpa using this
    rw [run_convert_bytes_string w 32 9 5 _ _ cap Try.underlying32 Try.underlying5 Try.underlying9, run_bytesToString w _ _ cap xs hl, foldl_push_bytes]
    simp [strOfNums, ByteArray.empty, ByteArray.emptyWithCapacity]
    rfl
theorem reads_below {w w' : World} {v : Value} {xs : List Int} (h : Reads w v xs) (hb : Below w.heap.size w w') : Reads w' v xs := by
  refine ⟨h.1, ?_⟩
  rcases h.2 with h1 | ⟨a, cap, rfl, h1, h2, h3⟩
  · exact .inl h1
  · refine .inr ⟨a, cap, rfl, h1, h2, fun i hi => ?_⟩
    have hc := h3 i hi
    exact (hb.cell (World.block_lt_of_cell? w _ hc)).trans hc
set_option maxRecDepth 100000 in
theorem same_true (v u : Value) (xs : List Int) (w : World) (hv : Reads w v xs) (hu : Reads w u xs) : Calls Try.prog 52 #[v, u] w fun e w' => e = .returned (.bool true) ∧ w = w' := by
  have e1 := reads_conv hv
  have e2 := reads_conv hu
  generalize strOfNums xs = S at e1 e2
  clear hv hu
  go_enter Try.func52, Try.ntmps52
  go_wp2
  go_ret
  exact ⟨rfl, rfl⟩

theorem info5 : (Try.prog.info? 5).map (fun i => (i.zero, i.size, i.bytes)) = some (some (.int .u8 0), 1, 1) := by kernel_rfl
theorem reads_take {w : World} {a : Addr} {len cap : Nat} {xs : List Int} (h : Reads w (.slice (some a) len cap) xs) (hl : xs.length = len) (k : Nat) (hk : k ≤ len) : Reads w (.slice (some a) k cap) (xs.take k) := by
  refine ⟨fun x hx => h.1 x (List.mem_of_mem_take hx), ?_⟩
  rcases h.2 with ⟨e, _⟩ | ⟨a', cap', e, h1, h2, h3⟩
  · cases e
  · cases e
    have hlen : (xs.take k).length = k := by rw [List.length_take]; omega
    refine .inr ⟨a, cap, by rw [hlen], by omega, h2, fun i hi => ?_⟩
    rw [hlen] at hi
    rw [h3 i (by omega), List.getD, List.getD, List.getElem?_take, if_pos hi]
theorem reads_of_row (w : World) (y : Addr) (len cap : Nat) (zs : List Int) (hl : len ≤ cap) (hm : cap ≤ maxLen) (hz : zs.length = cap) (hcell : ∀ i, i < zs.length → w.cell? (y.add i) = some (.int .u8 (zs.getD i 0))) (hb : ∀ n ∈ zs, 0 ≤ n ∧ n < 256) : Reads w (.slice (some y) len cap) (zs.take len) := by
  have hlen : (zs.take len).length = len := by rw [List.length_take]; omega
  refine ⟨fun x hx => hb x (List.mem_of_mem_take hx), .inr ⟨y, cap, by rw [hlen], by omega, hm, fun i hi => ?_⟩⟩
  rw [hlen] at hi
  rw [hcell i (by omega), List.getD, List.getD, List.getElem?_take, if_pos hi]
/-- A slice's block. -/
def blkV (v : Value) : List Nat := v.ownBlock.toList
theorem blkV_nil : blkV (.slice none 0 0) = [] := rfl
theorem mem_blkV {v : Value} {k : Nat} : k ∈ blkV v ↔ v.ownBlock = some k := by simp [blkV]
/-- Only blocks of S have changed, or are new; what is then owned was, or is new. -/
structure Moved (w w' : World) (S S' : List Nat) : Prop where
  os : w'.os = w.os
  tape : w'.tape = w.tape
  output : w'.output = w.output
  size : w.heap.size ≤ w'.heap.size
  block : ∀ k, k < w.heap.size → k ∉ S → w'.heap[k]? = w.heap[k]?
  from' : ∀ k, k ∈ S' → k ∈ S ∨ w.heap.size ≤ k
theorem Moved.refl (w : World) (S : List Nat) : Moved w w S S := ⟨rfl, rfl, rfl, Nat.le_refl _, fun _ _ _ => rfl, fun _ h => .inl h⟩
theorem Moved.trans {a b c : World} {S T U : List Nat} (h : Moved a b S T) (k : Moved b c T U) : Moved a c S U :=
  ⟨k.os.trans h.os, k.tape.trans h.tape, k.output.trans h.output, Nat.le_trans h.size k.size,
    fun i hi hs => (k.block i (Nat.lt_of_lt_of_le hi h.size) (fun ht => by rcases h.from' i ht with q | q; exact hs q; omega)).trans (h.block i hi hs),
    fun i hi => by
      rcases k.from' i hi with q | q
      · exact h.from' i q
      · exact .inr (Nat.le_trans h.size q)⟩
theorem Moved.below {a b : World} (h : Below a.heap.size a b) (S : List Nat) : Moved a b S S := ⟨h.os, h.tape, h.output, h.size, fun k hk _ => h.block k hk, fun _ h => .inl h⟩
theorem Moved.alloc (a : World) (o : Obj) (S : List Nat) : Moved a (a.alloc o) S S := Moved.below ((Below.refl _ _).alloc (Nat.le_refl _) o) S
theorem Moved.set {a : World} {S : List Nat} {g : Nat} (hg : g ∈ S) (i : Nat) (u : Value) : Moved a (a.setCell ⟨g, i, none⟩ u) S S :=
  ⟨rfl, rfl, rfl, by simp [World.setCell], fun k _ hk => Go.heap_setCell_other a _ k u (fun e => hk (by rw [show k = g from e]; exact hg)), fun _ h => .inl h⟩
theorem Moved.grown {a b : World} {row : Option Nat} (h : a.grownBy b row) {S S' : List Nat} (hr : ∀ k, row = some k → k ∈ S) (hS : ∀ k, k ∈ S' → k ∈ S ∨ a.heap.size ≤ k) : Moved a b S S' :=
  ⟨h.os, h.tape, h.output, h.size, fun k hk hs => h.block k hk (fun e => hs (hr k e.symm)), hS⟩
theorem Moved.sub {a b : World} {S S' T T' : List Nat} (h : Moved a b S S') (h1 : ∀ k ∈ S, k ∈ T) (h2 : ∀ k ∈ T', k ∈ S' ∨ k ∈ T) : Moved a b T T' :=
  ⟨h.os, h.tape, h.output, h.size, fun k hk hs => h.block k hk (fun q => hs (h1 k q)), fun k hk => by
    rcases h2 k hk with q | q
    · rcases h.from' k q with r | r
      · exact .inl (h1 k r)
      · exact .inr r
    · exact .inl q⟩
theorem Moved.toBelow {a b : World} {S S' : List Nat} (h : Moved a b S S') {B : Nat} (hB : B ≤ a.heap.size) (hS : ∀ k ∈ S, B ≤ k) : Below B a b :=
  ⟨h.os, h.tape, h.output, h.size, fun k hk => h.block k (Nat.lt_of_lt_of_le hk hB) (fun q => by have := hS k q; omega)⟩
/-- A row that is no part of it stays. -/
theorem own_moved {w w' : World} {B : Nat} {t : TypeId} {sz n : Nat} {v : Value} {cs : List Value} {S S' : List Nat} (h : w.ownsRow B t sz v n cs) (m : Moved w w' S S') (hk : ∀ k ∈ blkV v, k ∉ S) : w'.ownsRow B t sz v n cs := by
  refine ⟨h.1, ?_⟩
  rcases h.2 with hn | ⟨g, cap, cur, rfl, hb, hgg, rest⟩
  · exact .inl hn
  · refine .inr ⟨g, cap, cur, rfl, hb, ?_, rest⟩
    rw [m.block g (Array.getElem?_eq_some_iff.1 hgg).1 (hk g (by simp [blkV, Value.ownBlock]))]
    exact hgg
theorem own_lt {w : World} {B : Nat} {t : TypeId} {sz n : Nat} {v : Value} {cs : List Value} (h : w.ownsRow B t sz v n cs) : ∀ k ∈ blkV v, k < w.heap.size := fun k hk => (h.lt k (mem_blkV.1 hk)).2
theorem reads_moved {w w' : World} {v : Value} {xs : List Int} {S S' : List Nat} (h : Reads w v xs) (m : Moved w w' S S') (hk : ∀ k ∈ blkV v, k ∉ S) : Reads w' v xs := by
  refine ⟨h.1, ?_⟩
  rcases h.2 with h1 | ⟨a, cap, rfl, h1, h2, h3⟩
  · exact .inl h1
  · refine .inr ⟨a, cap, rfl, h1, h2, fun i hi => ?_⟩
    have hc := h3 i hi
    have hb := World.block_lt_of_cell? w _ hc
    have e : (a.add i).block = a.block := by unfold Addr.add; split <;> rfl
    exact (World.cell?_of_block (m.block _ hb (by rw [e]; exact hk _ (by simp [blkV, Value.ownBlock])))).trans hc
/-- Bytes of one's own. -/
def OwnB (w : World) (v : Value) (xs : List Int) : Prop := (∀ x ∈ xs, 0 ≤ x ∧ x < 256) ∧ w.ownsRow 0 5 1 v xs.length (xs.map (Value.int .u8))
theorem OwnB.nil (w : World) : OwnB w (.slice none 0 0) [] := ⟨fun _ h => (by cases h), World.ownsRow_nil _ _ _ _⟩
theorem OwnB.reads {w : World} {v : Value} {xs : List Int} (h : OwnB w v xs) : Reads w v xs := by
  refine ⟨h.1, ?_⟩
  rcases h.2.2 with ⟨rfl, e⟩ | ⟨g, cap, cur, rfl, hg, hh, h1, h2, h3, h4⟩
  · exact .inl ⟨rfl, List.length_eq_zero_iff.1 e⟩
  · refine .inr ⟨⟨g, 0, none⟩, cap, rfl, h1, h2, fun i hi => ?_⟩
    rw [addr_add, Nat.zero_add, World.ownsRow.cellAt h.2 i (by omega), List.getElem?_map, List.getD, List.getElem?_eq_getElem hi]
    rfl
theorem OwnB.moved {w w' : World} {v : Value} {xs : List Int} {S S' : List Nat} (h : OwnB w v xs) (m : Moved w w' S S') (hk : ∀ k ∈ blkV v, k ∉ S) : OwnB w' v xs := ⟨h.1, own_moved h.2 m hk⟩
section
variable {P : Program} (w : World)
/-- An append onto what is owned, and the block that it ends in. -/
theorem run_append_blk (t ty e : TypeId) (i : TypeInfo) (z : Value) (size bytes : Nat) (ht : P.underlying t = some (.slice e)) (hi : P.info? e = some i) (hz : i.zero = some z)
    (hsize : i.size = size) (hby : i.bytes = bytes) (hzs : z.cells.size = size) (hsz : 0 < size)
    (v : Value) (n : Nat) (xs : List Value) (hown : w.ownsRow 0 e size v n xs)
    (a : Addr) (m c : Nat) (news : List Value) (hl : news.length = m * size) (hnews : ∀ j u, news[j]? = some u → w.cell? (a.add j) = some u) (h1 : ∀ u ∈ news, u.oneCell' = true)
    (h63 : n + m ≤ maxLen) (hbytes : (n + m) * bytes ≤ 140737488355328) :
    ∃ v' w', (Builtin.append_ #[t, t] ty #[v, .slice (some a) m c]).run P w = .ok v' w' ∧ w'.ownsRow 0 e size v' (n + m) (xs ++ news) ∧ w.grownBy w' v.ownBlock ∧
      (v' = .slice none 0 0 ↔ v = .slice none 0 0 ∧ m = 0) ∧ ∀ k ∈ blkV v', k ∈ blkV v ∨ w.heap.size ≤ k := by
  obtain ⟨v', w', hr, h2, h3, h4⟩ := run_append_own (P := P) w 0 t ty e i z size bytes ht hi hz hsize hby hzs hsz v n xs hown a m c news hl hnews h1 h63 hbytes (Nat.zero_le _)
  refine ⟨v', w', hr, h2, h3, h4, ?_⟩
  rcases hown.2 with ⟨rfl, rfl⟩ | ⟨g, cap, cur, rfl, hbg, hg, hnc, hcm, hcs, htake⟩
  · have hx : xs = [] := List.eq_nil_of_length_eq_zero (by simpa using hown.1)
    subst hx
    obtain ⟨v'', w'', hr', h2', -, -⟩ := run_append_own (P := P) w w.heap.size t ty e i z size bytes ht hi hz hsize hby hzs hsz (.slice none 0 0) 0 [] (World.ownsRow_nil _ _ _ _) a m c news hl hnews h1 h63 hbytes (Nat.le_refl _)
    rw [hr] at hr'
    injection hr' with e1 e2
    subst e1 e2
    exact fun k hk => .inr (h2'.lt k (mem_blkV.1 hk)).1
  · subst hsize
    subst hby
    by_cases hroom : n + m ≤ cap
    · have hfit : n * i.size + news.length ≤ cur.size := by rw [hl, hcs, ← Nat.add_mul]; exact Nat.mul_le_mul_right _ hroom
      have hr' := run_append_room (P := P) w t ty e i ht hi g n cap cur hg a m c news hl hnews h1 hroom hfit
      rw [hr] at hr'
      injection hr' with e1 e2
      subst e1
      intro k hk
      exact .inl hk
    · have hsmall : n + m ≤ 9223372036854775807 := by simp only [maxLen] at h63; omega
      have holds : ∀ j u, xs[j]? = some u → w.cell? ((⟨g, 0, none⟩ : Addr).add j) = some u := hown.cells (g := g) rfl
      have hr' := run_append_grow (P := P) w t ty e i z ht hi hz ⟨g, 0, none⟩ n cap xs hown.1 holds a m c news hl hnews (by omega) (by omega) (growslice_fits (by omega) hbytes)
      rw [hr] at hr'
      injection hr' with e1 e2
      subst e1
      intro k hk
      rw [mem_blkV] at hk
      right
      have : w.heap.size = k := by simpa [Value.ownBlock] using hk
      omega
theorem wpList_append_blk {ops : Array Oper} {rest : List Oper} {o : Oper} {a : Act} {Q : Exit → Act → World → Prop} (hgd : o.guard = none) (s x : Operand) (t : TypeId)
    (ho : o.op = .call { callee := .builtin .append, args := #[s, x], argTypes := #[t, t] })
    (e : TypeId) (i : TypeInfo) (z : Value) (size bytes : Nat) (ht : P.underlying t = some (.slice e)) (hi : P.info? e = some i) (hz : i.zero = some z)
    (hsize : i.size = size) (hby : i.bytes = bytes) (hzs : z.cells.size = size) (hsz : 0 < size)
    (v : Value) (n : Nat) (xs : List Value) (hs : a.eval s = v) (hown : w.ownsRow 0 e size v n xs)
    (ad : Addr) (m c : Nat) (news : List Value) (hx : a.eval x = .slice (some ad) m c) (hl : news.length = m * size) (hnews : ∀ j u, news[j]? = some u → w.cell? (ad.add j) = some u) (h1 : ∀ u ∈ news, u.oneCell' = true)
    (h63 : n + m ≤ maxLen) (hbytes : (n + m) * bytes ≤ 140737488355328)
    (h : ∀ v' w', w'.ownsRow 0 e size v' (n + m) (xs ++ news) → w.grownBy w' v.ownBlock → (v' = .slice none 0 0 ↔ v = .slice none 0 0 ∧ m = 0) → (∀ k ∈ blkV v', k ∈ blkV v ∨ w.heap.size ≤ k) → wpList P ops Q rest (a.put o.dst v') w') : wpList P ops Q (o :: rest) a w := by
  refine wpList_plain hgd fun K hK => ?_
  obtain ⟨v', w', hr, h2, h3, h4, h5⟩ := run_append_blk (P := P) w t o.type e i z size bytes ht hi hz hsize hby hzs hsz v n xs hown ad m c news hl hnews h1 h63 hbytes
  unfold Oper.wp execOp
  simp only [ho, resolve, invoke, builtin, Sem.run_bind, Sem.run_pure, Result.andThen_ok, List.map_toArray, List.map_cons, List.map_nil, hs, hx, hr]
  exact hK _ _ (h v' w' h2 h3 h4 h5)
end
open Go.RowKit Go.Lib


/-- Bytes that came in, as a source. -/
theorem reads_src {w : World} {a : Addr} {n cap : Nat} {xs : List Int} (h : Reads w (.slice (some a) n cap) xs) : n = xs.length ∧ ∀ j u, (xs.map (Value.int .u8))[j]? = some u → w.cell? (a.add j) = some u := by
  rcases h.2 with ⟨e, _⟩ | ⟨a', cap', e, h1, h2, h3⟩
  · cases e
  · cases e
    refine ⟨rfl, fun j u hu => ?_⟩
    rw [List.getElem?_map] at hu
    by_cases hj : j < xs.length
    · have hc := h3 j hj
      rw [List.getElem?_eq_getElem hj] at hu
      simp only [Option.map_some, Option.some.injEq] at hu
      rw [List.getD, List.getElem?_eq_getElem hj] at hc
      rw [← hu]
      exact hc
    · rw [List.getElem?_eq_none (by omega)] at hu
      simp at hu
theorem bal {a b : World} (h : Below a.heap.size a b) (o : Obj) : Below a.heap.size a (b.alloc o) := h.alloc h.size _
/-- What a call left whole stays. -/
theorem OwnB.step {w w' : World} {v : Value} {xs : List Int} (h : OwnB w v xs) (hb : Below w.heap.size w w') : OwnB w' v xs := h.moved (Moved.below hb []) (fun _ _ q => by cases q)
/-- A row that was just laid. -/
theorem own_lit (w : World) (cs : Array Value) (n : Nat) (xs : List Int) (hb : ∀ x ∈ xs, 0 ≤ x ∧ x < 256) (hc : cs.toList = xs.map (Value.int .u8)) (hn : n = xs.length) (hl : n ≤ 1000) (b : Nat) (hbk : b = w.heap.size) : OwnB (w.alloc (.cells cs 5)) (.slice (some ⟨b, 0, none⟩) n n) xs := by
  subst hbk
  refine ⟨hb, ?_⟩
  have hs : cs.size = n * 1 := by rw [← Array.length_toList, hc, List.length_map]; omega
  have := World.ownsRow_lit (e := 5) (size := 1) (base := 0) w cs n (Nat.zero_le _) (by unfold maxLen; omega) hs
  rw [hc] at this
  rw [← hn]
  exact this
theorem blk_lit (w : World) (b : Nat) (n c : Nat) (h : w.heap.size ≤ b) : ∀ k ∈ blkV (.slice (some ⟨b, 0, none⟩) n c), w.heap.size ≤ k := fun k hk => by
  have : b = k := by simpa [mem_blkV, Value.ownBlock] using hk
  omega
theorem one_src (w : World) (z : Int) (b : Nat) (hb : b = w.heap.size) : ∀ j u, ([.int .u8 z] : List Value)[j]? = some u → (w.alloc (.cells #[.int .u8 z] 5)).cell? ((⟨b, 0, none⟩ : Addr).add j) = some u := fun j u hu => by
  subst hb
  rcases j with _ | j
  · simp at hu
    subst hu
    rw [addr_add]
    simp [go_sem]
  · simp at hu
theorem OwnB.at {w : World} {g cap : Nat} {xs : List Int} (h : OwnB w (.slice (some ⟨g, 0, none⟩) xs.length cap) xs) (i : Nat) (hi : i < xs.length) : w.cell? ⟨g, i, none⟩ = some (.int .u8 (xs.getD i 0)) := by
  rw [World.ownsRow.cellAt h.2 i (by omega), List.getElem?_map, List.getD, List.getElem?_eq_getElem hi]
  rfl
theorem OwnB.slice {w : World} {v : Value} {xs : List Int} (h : OwnB w v xs) (hx : xs ≠ []) : ∃ g cap, v = .slice (some ⟨g, 0, none⟩) xs.length cap ∧ xs.length ≤ cap ∧ cap ≤ maxLen ∧ g < w.heap.size := by
  rcases h.2.2 with ⟨_, e⟩ | ⟨g, cap, cur, rfl, hg, hh, h1, h2, h3, h4⟩
  · exact absurd (List.length_eq_zero_iff.1 e) hx
  · exact ⟨g, cap, rfl, h1, h2, (Array.getElem?_eq_some_iff.1 hh).1⟩
theorem OwnB.stored {w : World} {g cap : Nat} {xs : List Int} (h : OwnB w (.slice (some ⟨g, 0, none⟩) xs.length cap) xs) (i : Nat) (z : Int) (hz : 0 ≤ z ∧ z < 256) : OwnB (w.setCell ⟨g, i, none⟩ (.int .u8 z)) (.slice (some ⟨g, 0, none⟩) xs.length cap) (xs.set i z) := by
  refine ⟨fun x hx => ?_, ?_⟩
  · rcases List.mem_or_eq_of_mem_set hx with h1 | rfl
    · exact h.1 x h1
    · exact hz
  · have q := (World.ownsRow.stored h.2 i (.int .u8 z)).1
    rw [List.map_set, List.length_set]
    exact q

theorem own_slice {w : World} {v : Value} {xs : List Int} (h : OwnB w v xs) : ∃ x n c, v = .slice x n c := by
  rcases h.2.2 with ⟨rfl, _⟩ | ⟨g, cap, cur, rfl, _⟩
  · exact ⟨_, _, _, rfl⟩
  · exact ⟨_, _, _, rfl⟩

theorem own_empty {w : World} {v : Value} (h : OwnB w v []) : ∃ x c, v = .slice x 0 c := by
  rcases h.2.2 with ⟨rfl, _⟩ | ⟨g, cap, cur, rfl, _⟩
  · exact ⟨_, _, rfl⟩
  · exact ⟨_, _, rfl⟩

theorem own_len {w : World} {v : Value} {xs : List Int} (h : OwnB w v xs) (n : Nat) (hn : xs.length = n) : ∃ x c, v = .slice x n c := by
  rcases h.2.2 with ⟨rfl, e⟩ | ⟨g, cap, cur, rfl, _⟩
  · exact ⟨none, 0, by rw [← hn, e]⟩
  · exact ⟨_, _, by rw [← hn]⟩
theorem cell_moved {w w' : World} {S S' : List Nat} (m : Moved w w' S S') {a : Addr} {v : Value} (h : w.cell? a = some v) (hs : a.block ∉ S) : w'.cell? a = some v := (World.cell?_of_block (m.block _ (World.block_lt_of_cell? w _ h) hs)).trans h
theorem OwnB.lt {w : World} {v : Value} {xs : List Int} (h : OwnB w v xs) : ∀ k ∈ blkV v, k < w.heap.size := own_lt h.2
end Go.Proofs.Ytdaainifnbbhiaa
