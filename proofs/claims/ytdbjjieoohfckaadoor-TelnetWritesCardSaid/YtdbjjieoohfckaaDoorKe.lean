/-
  telnet.SubBytes, Say.
-/
import Derived.Test.YtdbjjieoohfckaaDoorKd
namespace Go.Proofs.YtdbjjieoohfckaaDoor
open Go.RowKit Go.Lib Go.Deep Go.Shelf

theorem own_below {w w' : World} {B B' : Nat} {e : TypeId} {size n : Nat} {v : Value} {xs : List Value} (h : w.ownsRow B e size v n xs) (hb : Below w.heap.size w w') (hB : B' ≤ B) : w'.ownsRow B' e size v n xs := by
  have q := own_moved h (Moved.below hb []) (fun _ _ h => by cases h)
  exact ⟨q.1, q.2.imp id fun ⟨g, cap, cur, h1, h2, h3⟩ => ⟨g, cap, cur, h1, Nat.le_trans hB h2, h3⟩⟩
theorem own_belowB {w w' : World} {B A : Nat} {e : TypeId} {size n : Nat} {v : Value} {xs : List Value} (h : w.ownsRow B e size v n xs) (hb : Below A w w') (hA : w.heap.size ≤ A) : w'.ownsRow B e size v n xs :=
  own_moved h (Moved.below (hb.mono hA) []) (fun _ _ h => by cases h)
theorem run_append_none (w : World) {B n : Nat} {v : Value} {xs : List Value} (h : w.ownsRow B 5 1 v n xs) (ty : TypeId) : (Builtin.append_ #[24, 24] ty #[v, .slice none 0 0]).run Tryd.prog w = .ok v w := by
  obtain ⟨i0, hi, hz0, hz1, hz2⟩ := info_parts info5
  rcases h.2 with ⟨rfl, _⟩ | ⟨g, cap, cur, rfl, _, _, hnc, _⟩
  · simp [Builtin.append_, run_underlying Tryd.underlying24, sizeOf, typeInfo, hi, Builtin.lenOf, Builtin.firstCells]
  · simp [Builtin.append_, run_underlying Tryd.underlying24, sizeOf, typeInfo, hi, Builtin.lenOf, Builtin.firstCells, hnc, storeCells]
theorem wpList_append_val {P : Program} {w w' : World} {ops : Array Oper} {rest : List Oper} {o : Oper} {a : Act} {Q : Exit → Act → World → Prop} (hgd : o.guard = none) (s x : Operand) (t : TypeId)
    (ho : o.op = .call { callee := .builtin .append, args := #[s, x], argTypes := #[t, t] }) (vs vx v' : Value) (hs : a.eval s = vs) (hx : a.eval x = vx) (hr : (Builtin.append_ #[t, t] o.type #[vs, vx]).run P w = .ok v' w')
    (h : wpList P ops Q rest (a.put o.dst v') w') : wpList P ops Q (o :: rest) a w :=
  wpList_plain hgd fun _ hK => by
    unfold Oper.wp execOp
    simp only [ho, resolve, invoke, builtin, Sem.run_bind, Sem.run_pure, Result.andThen_ok, List.map_toArray, List.map_cons, List.map_nil, hs, hx, hr]
    exact hK _ _ h
/-- An append of bytes onto a row of one's own, whatever the bytes are: one law for nil and the rest. -/
theorem append_bytes {w : World} {B n : Nat} {v u : Value} {ys xs : List Int} (h : w.ownsRow B 5 1 v n (ys.map (Value.int .u8))) (hu : Reads w u xs) (hn : n + xs.length ≤ 10000000) (hB : B ≤ w.heap.size) (ty : TypeId) :
    ∃ v' w', (Builtin.append_ #[24, 24] ty #[v, u]).run Tryd.prog w = .ok v' w' ∧ w'.ownsRow B 5 1 v' (n + xs.length) ((ys ++ xs).map (Value.int .u8)) ∧ w.grownBy w' v.ownBlock := by
  rcases hu.2 with ⟨rfl, rfl⟩ | ⟨a, cap, rfl, _, _, _⟩
  · exact ⟨v, w, run_append_none w h ty, by simpa using h, ⟨rfl, rfl, rfl, Nat.le_refl _, fun _ _ _ => rfl⟩⟩
  · obtain ⟨i0, hi, hz0, hz1, hz2⟩ := info_parts info5
    have hsrc := (reads_src hu).2
    obtain ⟨v', w', h1, h2, h3, _⟩ := run_append_own (P := Tryd.prog) w B 24 ty 5 i0 (.int .u8 0) 1 1 Tryd.underlying24 hi hz0 hz1 hz2 rfl (by decide) v n _ h a xs.length cap (xs.map (Value.int .u8)) (by simp) hsrc (ints_one xs) (by unfold maxLen; omega) (by omega) hB
    exact ⟨v', w', h1, by rw [List.map_append]; exact h2, h3⟩
theorem wpList_append_bytes {w : World} {ops : Array Oper} {rest : List Oper} {o : Oper} {a : Act} {Q : Exit → Act → World → Prop} (hgd : o.guard = none) (s x : Operand)
    (ho : o.op = .call { callee := .builtin .append, args := #[s, x], argTypes := #[24, 24] }) (B n : Nat) (v u : Value) (ys xs : List Int) (hs : a.eval s = v) (hx : a.eval x = u) (h : w.ownsRow B 5 1 v n (ys.map (Value.int .u8))) (hu : Reads w u xs) (hn : n + xs.length ≤ 10000000) (hB : B ≤ w.heap.size) (N : Nat) (hN : n + xs.length = N) (zs : List Int) (hz : ys ++ xs = zs)
    (hk : ∀ y cap w', w'.ownsRow B 5 1 (.slice y N cap) N (zs.map (Value.int .u8)) → w.grownBy w' v.ownBlock → wpList Tryd.prog ops Q rest (a.put o.dst (.slice y N cap)) w') : wpList Tryd.prog ops Q (o :: rest) a w := by
  subst hN hz
  obtain ⟨v', w', h1, h2, h3⟩ := append_bytes h hu hn hB o.type
  obtain ⟨y, cap, rfl⟩ := row_anyK h2
  exact wpList_append_val hgd s x 24 ho v u _ hs hx h1 (hk y cap w' h2 h3)
theorem row_done2 {w w' : World} {B N : Nat} {v : Value} {zs : List Int} (h : w.ownsRow B 5 1 v N (zs.map (Value.int .u8))) (hb : ∀ x ∈ zs, 0 ≤ x ∧ x < 256) (hB : Below w.heap.size w w') : Reads w' v zs := by
  have hN : N = zs.length := by have := h.1; rw [List.length_map, Nat.mul_one] at this; exact this.symm
  subst hN
  exact reads_below (row_reads h hb) hB
def subL (o : Int) (xs : List Int) : List Int := [255, 250, o] ++ escI xs ++ [255, 240]
theorem subL_length (o : Int) (xs : List Int) : (subL o xs).length = xs.length + xs.count 255 + 5 := by
  unfold subL
  rw [List.length_append, List.length_append, escI_length]
  show 3 + _ + 2 = _
  omega
theorem subL_bytes {o : Int} {xs : List Int} (ho : 0 ≤ o ∧ o < 256) (h : ∀ x ∈ xs, 0 ≤ x ∧ x < 256) : ∀ x ∈ subL o xs, 0 ≤ x ∧ x < 256 := by
  intro x hx
  simp only [subL, List.mem_append, List.mem_cons, List.not_mem_nil, or_false] at hx
  rcases hx with ((rfl | rfl | rfl) | hx) | (rfl | rfl)
  · omega
  · omega
  · exact ho
  · exact escI_bytes h x hx
  · omega
  · omega
/-- What is said. -/
def SaidB (zs : List Int) (w : World) (e : Ending) (w' : World) : Prop := ∃ v, e = .returned v ∧ Reads w' v zs ∧ Below w.heap.size w w'
set_option maxRecDepth 100000 in
set_option maxHeartbeats 2000000 in
theorem subBytes_any (o : Int) (ho : 0 ≤ o ∧ o < 256) (a : Addr) (n c : Nat) (xs : List Int) (w : World) (hr : Reads w (.slice (some a) n c) xs) (hn : n ≤ 1000000) : Calls Tryd.prog 9 #[.int .u8 o, .slice (some a) n c] w (SaidB (subL o xs) w) := by
  have hb : Below w.heap.size w (w.alloc (.cells #[.int .u8 255, .int .u8 250, .int .u8 o] 5)) := (Below.refl _ w).alloc (Nat.le_refl _) _
  have hes := escape_any a n c xs _ (reads_below hr hb) hn
  have hnx := (reads_src hr).1
  have hle : (escI xs).length ≤ 2000000 := by
    rw [escI_length]
    have : xs.count 255 ≤ xs.length := List.count_le_length
    omega
  have hrow : (w.alloc (.cells #[.int .u8 255, .int .u8 250, .int .u8 o] 5)).ownsRow w.heap.size 5 1 (.slice (some ⟨w.heap.size, 0, none⟩) 3 3) 3 (([255, 250, o] : List Int).map (Value.int .u8)) := World.ownsRow_lit w #[.int .u8 255, .int .u8 250, .int .u8 o] 3 (Nat.le_refl _) (by decide) rfl
  have HES := hid hes
  have HROW := hid hrow
  have HB := hid hb
  have HXB := hid hr.1
  have HLE := hid hle
  clear hes hrow hb hnx hr hle
  go_enter Tryd.func9, Tryd.ntmps9
  go_wp2_with fail
  refine HES.out.mono ?_
  rintro e w2 ⟨v2, rfl, hv2, hb2⟩
  have HV2 := hid hv2
  have HO2 := hid (own_below HROW.out hb2 (Nat.le_refl _))
  have HB2 := hid (HB.out.trans (hb2.mono HB.out.size))
  obtain ⟨x2, n2, c2, rfl⟩ := reads_any_slice hv2
  clear hv2 hb2
  go_wp2_with (first
    | (at_builtin; refine wpList_append_bytes rfl (.tmp 7) (.tmp 9) rfl w.heap.size 3 _ _ [255, 250, o] (escI xs) rfl rfl HO2.out HV2.out (by have := HLE.out; omega) HB2.out.size _ rfl _ rfl ?_; intro y3 c3 w3 h3 g3; have HO3 := hid h3; have HB3 := hid (HB2.out.grown g3 HB2.out.size (fun k e => (HO2.out.lt k e).1)); clear h3 g3)
    | (at_builtin; refine wpList_append_bytes rfl (.tmp 11) (.tmp 12) rfl w.heap.size _ _ _ _ [255, 240] rfl rfl (own_below HO3.out ((Below.refl _ _).alloc (Nat.le_refl _) _) (Nat.le_refl _)) (reads_lit w3 (0, 0) [255, 240] 2 rfl (by decide) (by decide)) (by have := HLE.out; show _ ≤ 10000000; simp; omega) (by have := HB3.out.size; simp; omega) _ rfl _ rfl ?_; intro y5 c5 w5 h5 g5; have HO5 := hid h5; have HB5 := hid ((HB3.out.alloc HB3.out.size (.cells #[.int .u8 255, .int .u8 240] 5)).grown g5 (by have := HB3.out.size; simp; omega) (fun k e => (HO3.out.lt k e).1)); clear h5 g5)
    | fail)
  go_ret
  exact ⟨_, rfl, row_done2 HO5.out (subL_bytes ho HXB.out) (Below.refl _ _), HB5.out⟩
end Go.Proofs.YtdbjjieoohfckaaDoor
