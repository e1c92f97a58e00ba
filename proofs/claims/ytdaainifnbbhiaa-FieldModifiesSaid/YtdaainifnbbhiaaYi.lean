/-
  What a loop over an iterator collects; slices.Collect of ints; the law's list of attributes.
-/
import Derived.Test.YtdaainifnbbhiaaYh
namespace Go.Proofs.Ytdaainifnbbhiaa
open Go.RowKit Go.Lib Go.Shelf
attribute [local go_sem] Oper.semAt_some

theorem wpListIn_append_blk {F : Fence} {n : Nat} {P : Program} (w : World) {ops : Array Oper} {rest : List Oper} {o : Oper} {a : Act} {Q : Exit → Act → World → Prop}
    (hg : o.guard = none) (s x : Operand) (t : TypeId) (hop : o.op = Op.call { callee := Callee.builtin Builtin.append, args := #[s, x], argTypes := #[t, t] })
    (e : TypeId) (i : TypeInfo) (z : Value) (size bytes : Nat) (h1 : P.underlying t = some (.slice e)) (h2 : P.info? e = some i) (h3 : i.zero = some z) (h4 : i.size = size) (h5 : i.bytes = bytes) (h6 : z.cells.size = size) (h7 : 0 < size)
    (v : Value) (k : Nat) (xs : List Value) (hs : a.eval s = v) (hown : w.ownsRow 0 e size v k xs) (ad : Addr) (m c : Nat) (news : List Value) (hx : a.eval x = .slice (some ad) m c) (hn : news.length = m * size)
    (hc : ∀ j u, news[j]? = some u → w.cell? (ad.add j) = some u) (h1c : ∀ u ∈ news, u.oneCell' = true) (b1 : k + m ≤ maxLen) (b2 : (k + m) * bytes ≤ 140737488355328)
    (hK : ∀ v' w', w'.ownsRow 0 e size v' (k + m) (xs ++ news) → w.grownBy w' v.ownBlock → (∀ k ∈ blkV v', k ∈ blkV v ∨ w.heap.size ≤ k) → wpListIn F n P ops Q rest (a.put o.dst v') w') :
    wpListIn F n P ops Q (o :: rest) a w := by
  refine wpListIn_plain hg fun K hK' => ?_
  obtain ⟨v', w', hrun, r1, r2, _, r4⟩ := run_append_blk (P := P) w t o.type e i z size bytes h1 h2 h3 h4 h5 h6 h7 v k xs hown ad m c news hn hc h1c b1 b2
  unfold Oper.wpIn
  refine ⟨?_, ?_⟩
  · simp [Oper.about, hop, resolve, Target.leads, Sem.run_pure]
  · rw [Oper.semAt_plain F _ _ (by rw [hop]; intro c hc'; cases hc')]
    simp [execOp, hop, resolve, invoke, builtin, hs, hx, hrun, Result.andThen]
    exact hK' _ _ (hK v' w' r1 r2 r4)
theorem own_block {A B : World} {t : TypeId} {sz n : Nat} {v : Value} {cs : List Value} (h : A.ownsRow 0 t sz v n cs) (hb : ∀ k ∈ blkV v, B.heap[k]? = A.heap[k]?) : B.ownsRow 0 t sz v n cs := by
  refine ⟨h.1, ?_⟩
  rcases h.2 with hn | ⟨g, cap, cur, rfl, hb', hgg, rest⟩
  · exact .inl hn
  · refine .inr ⟨g, cap, cur, rfl, hb', ?_, rest⟩
    rw [hb g (by simp [blkV, Value.ownBlock])]
    exact hgg
theorem own_cells {A : World} {t : TypeId} {sz n : Nat} {v : Value} {cs : List Value} (h : A.ownsRow 0 t sz v n cs) : ∀ k ∈ blkV v, ∃ q : Obj, A.heap[k]? = some q ∧ q.isCells = true := fun k hk => by
  rcases h.2 with ⟨rfl, _⟩ | ⟨g, cap, cur, rfl, hb', hgg, rest⟩
  · cases hk
  · have e : g = k := by simpa [mem_blkV, Value.ownBlock] using hk
    subst e
    exact ⟨_, hgg, rfl⟩
theorem own_grow {m : Nat} {A B : World} {t : TypeId} {sz n : Nat} {v : Value} {cs : List Value} (h : A.ownsRow 0 t sz v n cs) (k : Grow m A B) : B.ownsRow 0 t sz v n cs :=
  own_block h fun q hq => by
    obtain ⟨o, ho, hc⟩ := own_cells h q hq
    exact (k.block _ _ ho (.inr hc)).trans ho.symm
theorem frozen_grow {m : Nat} {A B : World} {b o : Nat} {v : Value} {z : Bool} (k : Grow m A B) (h : A.cell? ⟨b, o, none⟩ = some v) (hf : A.frozen? ⟨b, o, none⟩ = z) : B.frozen? ⟨b, o, none⟩ = z := by
  obtain ⟨q, hq, hc⟩ := cells_of_cell h
  exact (World.frozen?_of_block (a := ⟨b, o, none⟩) ((k.block _ _ hq (.inr hc)).trans hq.symm)).trans hf
theorem below_grow {n m : Nat} {w A B : World} (h : Below n w A) (k : Grow m A B) (hn : n ≤ m) (hw : n ≤ w.heap.size) : Below n w B :=
  ⟨k.os.trans h.os, k.tape.trans h.tape, k.output.trans h.output, Nat.le_trans h.size k.size, fun i hi => by
    have hi2 : i < A.heap.size := Nat.lt_of_lt_of_le hi (Nat.le_trans hw h.size)
    rw [k.block i _ (Array.getElem?_eq_getElem hi2) (.inl (Nat.lt_of_lt_of_le hi hn)), ← Array.getElem?_eq_getElem hi2]
    exact h.block i hi⟩
/-- The box ob holds a slice that owns these cells, in a row of S. -/
structure Acc (m ob : Nat) (t : TypeId) (sz : Nat) (cs : List Value) (n : Nat) (S : List Nat) (V : World) : Prop where
  ex : ∃ v, V.cell? ⟨ob, 0, none⟩ = some v ∧ V.frozen? ⟨ob, 0, none⟩ = false ∧ V.ownsRow 0 t sz v n cs ∧ ∀ k ∈ blkV v, k ∈ S
  lt : ob < m
  ms : ∀ k ∈ S, m ≤ k
section
variable {m ob : Nat} {t : TypeId} {sz n : Nat} {cs : List Value} {S : List Nat} {V : World}
theorem Acc.grow (h : Acc m ob t sz cs n S V) {m' : Nat} {B : World} (k : Grow m' V B) : Acc m ob t sz cs n S B := by
  obtain ⟨⟨v, h1, h2, h3, h4⟩, h5, h6⟩ := h
  exact ⟨⟨v, cell_grow k h1, frozen_grow k h1 h2, own_grow h3 k, h4⟩, h5, h6⟩
theorem Acc.step (h : Acc m ob t sz cs n S V) {v v' : Value} {o : Obj} {W1 : World} {news : List Value} {k : Nat} (hv : V.cell? ⟨ob, 0, none⟩ = some v) (hown : W1.ownsRow 0 t sz v' (n + k) (cs ++ news)) (hg : (V.alloc o).grownBy W1 v.ownBlock) (hb : ∀ k ∈ blkV v', k ∈ blkV v ∨ (V.alloc o).heap.size ≤ k) (hmV : m ≤ V.heap.size) :
    W1.cell? ⟨ob, 0, none⟩ = some v ∧ W1.frozen? ⟨ob, 0, none⟩ = false ∧ ob < W1.heap.size ∧ Acc m ob t sz (cs ++ news) (n + k) (blkV v') (W1.setCell ⟨ob, 0, none⟩ v') ∧ Touch m V (W1.setCell ⟨ob, 0, none⟩ v') S (blkV v') ∧ (∀ n0 w, n0 ≤ ob → Below n0 w V → Below n0 w (W1.setCell ⟨ob, 0, none⟩ v')) ∧ ∀ i, i < V.heap.size → i ≠ ob → i ∉ S → (W1.setCell ⟨ob, 0, none⟩ v').heap[i]? = V.heap[i]? := by
  obtain ⟨⟨v0, h1, h2, h3, h4⟩, h5, h6⟩ := h
  rw [hv] at h1
  cases h1
  have hlt := World.block_lt_of_cell? V _ hv
  have hz : V.heap.size ≤ W1.heap.size := Nat.le_trans (by simp) hg.size
  have hsame : ∀ i, i < V.heap.size → i ∉ S → W1.heap[i]? = V.heap[i]? := fun i hi hs => (hg.block i (by simp; omega) (fun e => hs (h4 i (mem_blkV.2 e.symm)))).trans (Below.heap_alloc _ _ _ hi)
  have hobS : ob ∉ S := fun q => by have := h6 _ q; omega
  have c1 : W1.cell? ⟨ob, 0, none⟩ = some v := (World.cell?_of_block (a := ⟨ob, 0, none⟩) (hsame ob hlt hobS)).trans hv
  have f1 : W1.frozen? ⟨ob, 0, none⟩ = false := (World.frozen?_of_block (a := ⟨ob, 0, none⟩) (hsame ob hlt hobS)).trans h2
  have hms : ∀ k ∈ blkV v', m ≤ k := fun k hk => by
    rcases hb k hk with q | q
    · exact h6 k (h4 k q)
    · simp at q; omega
  have hset : ∀ i, i ≠ ob → (W1.setCell ⟨ob, 0, none⟩ v').heap[i]? = W1.heap[i]? := fun i hi => Go.heap_setCell_other W1 ⟨ob, 0, none⟩ i v' hi
  refine ⟨c1, f1, by omega, ⟨⟨v', sc_same c1, by rw [World.frozen?_setCell]; exact f1, own_block hown fun i hi => hset i (fun e => by have := hms i hi; omega), fun _ q => q⟩, h5, hms⟩, ⟨by simp [World.setCell]; omega, fun i hm hi hs => (hset i (by omega)).trans (hsame i hi hs), fun i hi => ?_⟩, fun n0 w hn hbl => ⟨?_, ?_, ?_, ?_, fun i hi => ?_⟩, fun i hi hn hs => (hset i hn).trans (hsame i hi hs)⟩
  · rcases hb i hi with q | q
    · exact .inl (h4 i q)
    · simp at q; exact .inr (by omega)
  · exact (show W1.os = _ from hg.os.trans hbl.os)
  · exact (show W1.tape = _ from hg.tape.trans hbl.tape)
  · exact (show W1.output = _ from hg.output.trans hbl.output)
  · have := hbl.size; simp [World.setCell]; omega
  · rw [hset i (by omega), hsame i (by omega) (fun q => by have := h6 _ q; omega)]
    exact hbl.block i hi
end
theorem infoI : (Try.prog.info? 3).map (fun i => (i.zero, i.size, i.bytes)) = some (some (.int .i64 0), 1, 8) := by kernel_rfl
def intsV (xs : List Int) : List Value := xs.map (Value.int .i64)
theorem one_new (V : World) (u : Value) (t : TypeId) (b : Nat) (hb : b = V.heap.size) : ∀ j x, ([u] : List Value)[j]? = some x → (V.alloc (.cells #[u] t)).cell? ((⟨b, 0, none⟩ : Addr).add j) = some x := fun j x hx => by
  subst hb
  rcases j with _ | j
  · simp at hx
    subst hx
    rw [addr_add]
    simp [go_sem]
  · simp at hx
/-- A list of ints was made. -/
def IntsD (xs : List Int) (w : World) (e : Ending) (w' : World) : Prop := ∃ v, e = .returned v ∧ w'.ownsRow 0 3 1 v xs.length (intsV xs) ∧ (∀ k ∈ blkV v, w.heap.size ≤ k) ∧ Below w.heap.size w w'
def IColl (w : World) (m ob : Nat) (xs : List Nat) (k : Nat) (S : List Nat) (V : World) : Prop := k ≤ xs.length ∧ Acc m ob 3 1 (intsV ((xs.take k).map Int.ofNat)) k S V ∧ Below w.heap.size w V ∧ w.heap.size ≤ ob
theorem IColl.abides {w : World} {m ob : Nat} {xs : List Nat} {k : Nat} {S : List Nat} (hm : w.heap.size ≤ m) : Abides m (IColl w m ob xs k S) := fun _ _ hg ⟨h1, h2, h3, h4⟩ => ⟨h1, h2.grow hg, below_grow h3 hg hm (Nat.le_refl _), h4⟩
theorem row_any {w : World} {base : Nat} {e : TypeId} {size n : Nat} {v : Value} {xs : List Value} (h : w.ownsRow base e size v n xs) : ∃ y cap, v = .slice y n cap := by
  rcases h.2 with ⟨rfl, h0⟩ | ⟨g, cap, cur, rfl, _⟩
  · exact ⟨none, 0, by rw [h0]⟩
  · exact ⟨_, cap, rfl⟩
theorem take_one {α : Type} (xs : List α) (k : Nat) (x : α) (h : xs[k]? = some x) : xs.take (k + 1) = xs.take k ++ [x] := by
  obtain ⟨hk, e⟩ := List.getElem?_eq_some_iff.1 h
  rw [List.take_succ_eq_append_getElem hk, e]
set_option maxRecDepth 100000 in
set_option maxHeartbeats 4000000 in
theorem appendSeq_in (n : Nat) (hn : 6 ≤ n) (gf : Nat) (lb : Array Value) (xs : List Nat) (hx : xs.length ≤ 100000) (R : World → Prop) (eg : ∀ args w, (callFunc gf args).run Try.prog w = .ok (.enter gf args) w)
    (hseq : ∀ V, SeqF Fence.wide (n - 1) Try.prog gf lb encI (fun k x _ => xs[k]? = some x) xs.length R V) (w : World) (hR : ∀ V, Below w.heap.size w V → R V) :
    CallsIn Fence.wide n Try.prog 82 #[.slice none 0 0, .func (.func gf) #[] lb] w (IntsD (xs.map Int.ofNat) w) := by
  obtain ⟨i0, hi, hz0, hz1, hz2⟩ := info_parts infoI
  refine callsIn_of_wp_marks Try.func82 rfl trivial ?_ rfl
  simp only [Try.ntmps82, List.size_toArray, List.length_cons, List.length_nil, Nat.reduceAdd, Nat.reduceSub, Array.replicate_succ, Array.replicate_zero, List.push_toArray, List.append_toArray, List.nil_append, List.cons_append]
  gi_wp2
  obtain ⟨w1, hw1⟩ : ∃ w1, w.alloc (.cells #[.slice none 0 0] 56) = w1 := ⟨_, rfl⟩
  have hz : w1.heap.size = w.heap.size + 1 := by rw [← hw1]; simp
  have HI0 := hid (show IColl w w1.heap.size w.heap.size xs 0 [] w1 from ⟨Nat.zero_le _, ⟨⟨.slice none 0 0, by rw [← hw1]; simp [go_sem], by rw [← hw1]; simp [go_sem], World.ownsRow_nil _ _ _ _, fun k hk => (by cases hk)⟩, by omega, fun k hk => (by cases hk)⟩, by rw [← hw1]; exact bal (Below.refl _ _) _, Nat.le_refl _⟩)
  rw [hw1]
  clear hw1
  refine rangeFunc_seq (n := n) (w := w1) rfl (by omega) (gf := gf) (lb := lb) rfl trivial eg
    (encs := encI) (fun _ => rfl) (el := fun k x _ => xs[k]? = some x) (N := xs.length) (R := R) (IColl w w1.heap.size w.heap.size xs) (fun _ _ _ _ => False) ?hI ?hIx ?hR HI0.out
    (fun k S x a V => xs[k]? = some x ∧ IColl w w1.heap.size w.heap.size xs k S V ∧ a = { tmps := #[.slice none 0 0, .func (.func gf) #[] lb, .pointer (some ⟨w.heap.size, 0, none⟩), undef, .slice none 0 0, .int .i64 x, .func (.func gf) #[] lb, .int .i64 x, undef, undef, undef, undef, undef], defers := [] }) ?hAx ?assign ?body ?iter ?done ?stop
  case hI => exact fun k S => IColl.abides (by omega)
  case hIx => exact fun c k S A C hg h => h
  case hR => exact fun k S V h => hR V h.2.2.1
  case hAx => exact fun k S x a A C hg ⟨h1, h2, h3⟩ => ⟨h1, IColl.abides (by omega) A C hg h2, h3⟩
  case iter => exact fun o1 o2 _ _ => hseq _
  case assign =>
    rintro l' k x S V KK hk hx1 hi hsz hK
    have HK := hid hK
    have HI := hid hi
    clear hK hi
    gi_wp2
    exact HK.out _ _ (Touch.refl _ _ _) ⟨hx1, HI.out, rfl⟩
  case body =>
    rintro l' k x S a' V hk ⟨hx1, hi', rfl⟩ hsz
    obtain ⟨v, hv, hf, hrow, hbl⟩ := hi'.2.1.ex
    have hlt := World.block_lt_of_cell? V _ hv
    have HI := hid hi'
    have HROW := hid hrow
    have HV := hid hv
    have hmV : w1.heap.size ≤ V.heap.size := by omega
    clear hi' hrow hbl hz
    gi_wp2_with (gi_at_builtin; refine wpListIn_append_blk _ rfl _ _ 56 rfl 3 i0 _ 1 8 Try.underlying56 hi hz0 hz1 hz2 rfl (by decide) v k (intsV ((xs.take k).map Int.ofNat)) rfl (HROW.out.alloc _) ⟨V.heap.size, 0, none⟩ 1 1 [.int .i64 x] rfl rfl (one_new V _ _ _ rfl) (by simp [Value.oneCell']) (by unfold maxLen; omega) (by omega) ?_; intro v' W1 hown' hgrow hb'; obtain ⟨s1, s2, s3, s4, s5, s6, _⟩ := HI.out.2.1.step HV.out hown' hgrow hb' hmV; obtain ⟨g', cap', rfl⟩ := row_any hown'; have S1 := hid s4; have S2 := hid s5; have S3 := hid (s6 w.heap.size w (Nat.le_refl _) HI.out.2.2.1); clear hown' hgrow s4 s5 s6 hb')
    refine ⟨_, S2.out, by have := HI.out.1; omega, ?_, S3.out, Nat.le_refl _⟩
    rw [take_one xs k x hx1, List.map_append]
    unfold intsV at S1 ⊢
    rw [List.map_append]
    exact S1.out
  case done =>
    rintro D S V hD hi' hK
    obtain ⟨v, hv, hf, hrow, hbl⟩ := hi'.2.1.ex
    have hlt := World.block_lt_of_cell? V _ hv
    obtain ⟨y, cap, rfl⟩ := row_any hrow
    have HK := hid hK
    have HI := hid hi'
    clear hK hi'
    gi_wp2
    refine ⟨by simp, .inl ⟨_, _, rfl, run_takeDeferred HK.out, ?_⟩⟩
    have hg := Grow.put (m := w1.heap.size) (.deferred none) hD HK.out rfl
    refine ⟨.slice y xs.length cap, by simp [results, Try.f82, go_sem], .slice y xs.length cap, rfl, ?_, fun k hk => ?_, below_grow HI.out.2.2.1 hg (by omega) (Nat.le_refl _)⟩
    · rw [List.length_map]
      have := own_grow hrow hg
      rw [List.take_length] at this
      exact this
    · have := HI.out.2.1.ms k (hbl k hk)
      omega
  case stop => exact fun _ _ _ _ _ _ _ h => h.elim
set_option maxRecDepth 100000 in
set_option maxHeartbeats 4000000 in
theorem collect_any (gf : Nat) (lb : Array Value) (xs : List Nat) (hx : xs.length ≤ 100000) (R : World → Prop) (eg : ∀ args w, (callFunc gf args).run Try.prog w = .ok (.enter gf args) w)
    (hseq : ∀ V, SeqF Fence.wide 7 Try.prog gf lb encI (fun k x _ => xs[k]? = some x) xs.length R V) (w : World) (hR : ∀ V, Below w.heap.size w V → R V) :
    Calls Try.prog 48 #[.func (.func gf) #[] lb] w (IntsD (xs.map Int.ofNat) w) := by
  have HA := hid (callsIn_wide.1 (appendSeq_in 8 (by omega) gf lb xs hx R eg hseq w hR))
  clear hseq hR
  go_enter Try.func48, Try.ntmps48
  go_wp2_with fail
  with_reducible refine HA.out.mono ?_
  rintro e w1 ⟨v, rfl, h1, h2, h3⟩
  have H := hid (And.intro h1 (And.intro h2 h3))
  clear h1 h2 h3
  go_wp2
  go_ret
  exact ⟨_, rfl, H.out.1, H.out.2.1, H.out.2.2⟩
end Go.Proofs.Ytdaainifnbbhiaa
