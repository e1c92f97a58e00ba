/-
  One law for every append of bytes onto bytes of one's own; an order's bytes; all orders'.
-/
import Derived.Test.YtlhaefgchmakfaaPb
namespace Go.Proofs.Ytlhaefgchmakfaa
open Go.RowKit Go.Lib

theorem run_append_nothing (w : World) {B n : Nat} {v : Value} {xs : List Value} (h : w.ownsRow B 5 1 v n xs) (ty : TypeId) : (Builtin.append_ #[31, 31] ty #[v, .slice none 0 0]).run Try.prog w = .ok v w := by
  obtain ⟨i0, hi, hz0, hz1, hz2⟩ := info_parts info5
  rcases h.2 with ⟨rfl, _⟩ | ⟨g, cap, cur, rfl, _, _, hnc, _⟩
  · simp [Builtin.append_, run_underlying Try.underlying31, sizeOf, typeInfo, hi, Builtin.lenOf, Builtin.firstCells]
  · simp [Builtin.append_, run_underlying Try.underlying31, sizeOf, typeInfo, hi, Builtin.lenOf, Builtin.firstCells, hnc, storeCells]
theorem ints_onec (xs : List Int) : ∀ u ∈ xs.map (Value.int .u8), u.oneCell' = true := by
  intro u hu
  obtain ⟨x, _, rfl⟩ := List.mem_map.1 hu
  rfl
theorem append_own {w : World} {v u : Value} {ys xs : List Int} (h : OwnB w v ys) (hu : Reads w u xs) (hn : ys.length + xs.length ≤ 10000000) (ty : TypeId) :
    ∃ y cap w', (Builtin.append_ #[31, 31] ty #[v, u]).run Try.prog w = .ok (.slice y (ys ++ xs).length cap) w' ∧ OwnB w' (.slice y (ys ++ xs).length cap) (ys ++ xs) ∧ w.grownBy w' v.ownBlock ∧ ∀ k ∈ blkV (.slice y (ys ++ xs).length cap), k ∈ blkV v ∨ w.heap.size ≤ k := by
  rcases hu.2 with ⟨rfl, rfl⟩ | ⟨a, cap, rfl, _, _, _⟩
  · obtain ⟨x, c, rfl⟩ := own_len h ys.length rfl
    rw [List.append_nil]
    exact ⟨x, c, w, run_append_nothing w h.2 ty, h, ⟨rfl, rfl, rfl, Nat.le_refl _, fun _ _ _ => rfl⟩, fun k hk => .inl hk⟩
  · obtain ⟨i0, hi, hz0, hz1, hz2⟩ := info_parts info5
    have hsrc := (reads_src hu).2
    obtain ⟨v', w', h1, h2, h3, _, h5⟩ := run_append_blk (P := Try.prog) w 31 ty 5 i0 (.int .u8 0) 1 1 Try.underlying31 hi hz0 hz1 hz2 rfl (by decide) v ys.length _ h.2 a xs.length cap (xs.map (Value.int .u8)) (by simp) hsrc (ints_onec xs) (by unfold maxLen; omega) (by omega)
    have ho : OwnB w' v' (ys ++ xs) := ⟨fun z hz => (List.mem_append.1 hz).elim (h.1 z) (hu.1 z), by rw [List.map_append, List.length_append]; exact h2⟩
    obtain ⟨y, c, rfl⟩ := own_len ho _ rfl
    exact ⟨y, c, w', h1, ho, h3, h5⟩
theorem wpList_append_at {w : World} {ops : Array Oper} {rest : List Oper} {o : Oper} {a : Act} {Q : Exit → Act → World → Prop} (hgd : o.guard = none) (s x : Operand)
    (ho : o.op = .call { callee := .builtin .append, args := #[s, x], argTypes := #[31, 31] }) (v u : Value) (ys xs zs : List Int) (n : Nat) (hs : a.eval s = v) (hx : a.eval x = u) (h : OwnB w v ys) (hu : Reads w u xs) (hn : ys.length + xs.length ≤ 10000000) (hz : ys ++ xs = zs) (hl : zs.length = n)
    (hk : ∀ y cap w', OwnB w' (.slice y n cap) zs → w.grownBy w' v.ownBlock → (∀ k ∈ blkV (.slice y n cap), k ∈ blkV v ∨ w.heap.size ≤ k) → wpList Try.prog ops Q rest (a.put o.dst (.slice y n cap)) w') : wpList Try.prog ops Q (o :: rest) a w := by
  subst hz hl
  refine wpList_plain hgd fun K hK => ?_
  obtain ⟨y, cap, w', hr, h2, h3, h4⟩ := append_own h hu hn o.type
  unfold Oper.wp execOp
  simp only [ho, resolve, invoke, builtin, Sem.run_bind, Sem.run_pure, Result.andThen_ok, List.map_toArray, List.map_cons, List.map_nil, hs, hx, hr]
  exact hK _ _ (hk y cap w' h2 h3 h4)
/-- Grown by bytes of one's own that are new: all that was stays. -/
theorem below_grown {w0 w w' : World} {v : Value} (hb : Below w0.heap.size w0 w) (hg : w.grownBy w' v.ownBlock) (hv : ∀ k ∈ blkV v, w0.heap.size ≤ k) : Below w0.heap.size w0 w' :=
  hb.grown hg hb.size (fun k hk => hv k (mem_blkV.2 hk))
theorem new_grown {w0 w : World} {v v' : Value} (hb : Below w0.heap.size w0 w) (hv : ∀ k ∈ blkV v, w0.heap.size ≤ k) (h : ∀ k ∈ blkV v', k ∈ blkV v ∨ w.heap.size ≤ k) : ∀ k ∈ blkV v', w0.heap.size ≤ k := fun k hk => by
  rcases h k hk with q | q
  · exact hv k q
  · have := hb.size; omega

/-- The rest of an order with an address. -/
theorem rest_17 (n : Int) (cd : Int) (gr : Bool) (fa : Int) (xp : Option Addr) (np cp : Nat) (xt : Option Addr) (nt ct : Nat) (w : World) :
    Calls Try.prog 109 #[.agg #[.int .i64 17, .int .i64 n, .int .u8 cd, .bool gr, .int .u8 fa, .slice xp np cp, .slice xt nt ct]] w (EncD n w) := by
  have HE := hid (fun W => enc_any n W)
  go_enter Try.func109, Try.ntmps109
  go_wp2_with fail
  with_reducible refine (HE.out _).mono ?_
  rintro e w1 ⟨v, rfl, ho, hk, hb⟩
  obtain ⟨x, c, rfl⟩ := own_len ho _ rfl
  have HF := hid (show EncD n w (.returned (.tuple #[.slice x (if okA n then encZ n else []).length c, .int .i64 (if okA n then 0 else 9)])) w1 from ⟨_, rfl, ho, fun k q => by have := hk k q; simp at this; omega, below_t (bal (Below.refl w.heap.size w) _) hb⟩)
  clear ho hk hb HE
  generalize (if okA n = true then encZ n else []).length = L at HF ⊢
  generalize (if okA n = true then (0 : Int) else 9) = er at HF ⊢
  go_wp2
  go_ret2
  exact HF.out
set_option maxRecDepth 100000 in
set_option maxHeartbeats 1000000 in
theorem opb_0 (ad cd : Int) (gr : Bool) (fa : Int) (xp : Option Addr) (np cp : Nat) (v : Value) (tx : List Int) (w : World) (ht : Reads w v tx) (hl : tx.length ≤ 1000000) :
    Calls Try.prog 87 #[.agg #[.int .i64 0, .int .i64 ad, .int .u8 cd, .bool gr, .int .u8 fa, .slice xp np cp, v]] w (BytD (opB (opT tx)) w) := by
  have HT := hid (fun W (hb : Below w.heap.size w W) => text_told v tx W (reads_below ht hb) hl)
  have HB0 := hid (fun o => bal (Below.refl w.heap.size w) o)
  obtain ⟨x, c, rfl⟩ := reads_sl ht
  generalize tx.length = nt at HT hl
  generalize opB (opT tx) = r at HT ⊢
  clear ht hl
  go_enter Try.func87, Try.ntmps87
  go_wp2_with fail
  with_reducible refine (HT.out _ (HB0.out _)).mono ?_
  rintro e w1 ⟨v, rfl, ho, hk, hb⟩
  obtain ⟨x', n', c', rfl⟩ := own_slice ho
  have HF := hid (show BytD r w (.returned (.tuple #[.slice x' n' c', .int .i64 r.1])) w1 from ⟨_, rfl, ho, fun k q => by have := hk k q; simp at this; omega, below_t (HB0.out _) hb⟩)
  clear ho hk hb HT
  go_wp2
  go_ret2
  exact HF.out
set_option maxRecDepth 100000 in
set_option maxHeartbeats 1000000 in
theorem opb_17 (n : Int) (cd : Int) (gr : Bool) (fa : Int) (xp : Option Addr) (np cp : Nat) (xt : Option Addr) (nt ct : Nat) (w : World) :
    Calls Try.prog 87 #[.agg #[.int .i64 17, .int .i64 n, .int .u8 cd, .bool gr, .int .u8 fa, .slice xp np cp, .slice xt nt ct]] w (BytD (opB (opA n)) w) := by
  have HR := hid (fun W => rest_17 n cd gr fa xp np cp xt nt ct W)
  cases hk : okA n
  · rw [opB_An hk]
    unfold EncD at HR
    rw [hk] at HR
    clear hk
    go_enter Try.func87, Try.ntmps87
    go_wp2_with fail
    with_reducible refine (HR.out _).mono ?_
    rintro e w1 ⟨v, rfl, ho, hk, hb⟩
    have HF := hid (byt_no 9 (below_t (bal (Below.refl w.heap.size w) (.cells #[.int .i64 17, .int .i64 n, .int .u8 cd, .bool gr, .int .u8 fa, .slice xp np cp, .slice xt nt ct] 144)) hb))
    obtain ⟨x', n', c', rfl⟩ := own_slice ho
    clear ho hk hb HR
    go_wp2
    go_ret2
    exact HF.out
  · rw [opB_A hk]
    unfold EncD at HR
    rw [hk] at HR
    clear hk
    go_enter Try.func87, Try.ntmps87
    go_wp2_with fail
    with_reducible refine (HR.out _).mono ?_
    rintro e w1 ⟨v, rfl, ho, hk, hb⟩
    have HC0 := hid (keepc hb (show (w.alloc (.cells #[.int .i64 17, .int .i64 n, .int .u8 cd, .bool gr, .int .u8 fa, .slice xp np cp, .slice xt nt ct] 144)).cell? ⟨w.heap.size, 0, none⟩ = some (.int .i64 17) by simp [go_sem]))
    have HB := hid (below_t (bal (Below.refl w.heap.size w) (.cells #[.int .i64 17, .int .i64 n, .int .u8 cd, .bool gr, .int .u8 fa, .slice xp np cp, .slice xt nt ct] 144)) hb)
    obtain ⟨x', c', rfl⟩ := own_len ho 2 rfl
    have HR2 := hid ho.reads
    have hc0 := HC0.out
    clear ho hk hb HR
    have HL := hid (own_lit w1 #[.int .u8 17] 1 [17] (by decide) rfl rfl (by decide) _ rfl)
    have HBL := hid (bal (Below.refl w1.heap.size w1) (.cells #[.int .u8 17] 5))
    have HSZ := hid (show [(17 : Int)].length + (encZ n).length ≤ 10000000 by simp [encZ])
    go_wp2_with (first
      | (at_builtin; refine wpList_append_at rfl (.tmp 25) (.tmp 26) rfl (.slice (some ⟨w1.heap.size, 0, none⟩) 1 1) (.slice x' 2 c') [17] (encZ n) (17 :: encZ n) 3 rfl rfl HL.out (reads_below HR2.out HBL.out) HSZ.out rfl rfl ?_; intro y3 c3 w3 h3 g3 k3; have HO3 := hid h3; have HB3 := hid (below_grown (below_t HB.out HBL.out) g3 (blk_lit w _ 1 1 HB.out.size)); have HK3 := hid (new_grown (below_t HB.out HBL.out) (blk_lit w _ 1 1 HB.out.size) k3); clear h3 g3 k3))
    go_ret2
    exact ⟨_, rfl, HO3.out, HK3.out, HB3.out⟩
theorem opb_any (d : OpD) (hd : (∃ n, d = opA n) ∨ ∃ t, d = opT t) (xp : Option Addr) (np cp : Nat) (v : Value) (w : World) (ht : Reads w v d.text) (hl : d.text.length ≤ 1000000) :
    Calls Try.prog 87 #[.agg #[.int .i64 d.kind, .int .i64 d.addr, .int .u8 d.code, .bool d.graph, .int .u8 d.fa, .slice xp np cp, v]] w (BytD (opB d) w) := by
  rcases hd with ⟨n, rfl⟩ | ⟨t, rfl⟩
  · obtain ⟨x, c, rfl⟩ := reads_sl ht
    exact opb_17 n 0 false 0 xp np cp x _ c w
  · exact opb_0 0 0 false 0 xp np cp v t w ht hl
end Go.Proofs.Ytlhaefgchmakfaa
