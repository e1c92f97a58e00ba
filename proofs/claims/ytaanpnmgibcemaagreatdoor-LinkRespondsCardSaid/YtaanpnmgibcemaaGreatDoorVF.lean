/-
  What is told, gathered: the list of events, and the loop that makes it.
-/
import Derived.Test.YtaanpnmgibcemaaGreatDoorVC
import Derived.OrdersIn
namespace Go.Proofs.YtaanpnmgibcemaaGreatDoor
open Go.RowKit Go.Lib Go.Deep

/-- An event's cells. -/
def evC (x : Evt) (dv : Value) : List Value := [.int .i64 x.kind, dv, .int .u8 x.hdr.t, .int .u8 x.hdr.r, .int .u8 x.hdr.s, .int .u16 x.hdr.q, .bool x.headed]
def cellsV (xs : List (Evt × Value)) : List Value := xs.flatMap fun x => evC x.1 x.2
theorem cellsV_append (a b : List (Evt × Value)) : cellsV (a ++ b) = cellsV a ++ cellsV b := by simp [cellsV]
theorem cellsV_length (xs : List (Evt × Value)) : (cellsV xs).length = xs.length * 7 := by
  induction xs with
  | nil => rfl
  | cons x xs ih =>
    show (evC x.1 x.2 ++ cellsV xs).length = _
    rw [List.length_append, ih, List.length_cons]
    simp [evC]
    omega
theorem cellsV_at (xs : List (Evt × Value)) (i : Nat) (hi : i < xs.length) (j : Nat) (hj : j < 7) : (cellsV xs)[i * 7 + j]? = (evC xs[i].1 xs[i].2)[j]? := by
  induction xs generalizing i with
  | nil => cases hi
  | cons x xs ih =>
    show (evC x.1 x.2 ++ cellsV xs)[i * 7 + j]? = _
    cases i with
    | zero =>
      rw [List.getElem?_append_left (by simp [evC]; omega), Nat.zero_mul, Nat.zero_add]
      rfl
    | succ i =>
      have hl : (evC x.1 x.2).length = 7 := rfl
      rw [List.getElem?_append_right (by rw [hl]; omega), hl, show (i + 1) * 7 + j - 7 = i * 7 + j by omega, ih i (by simpa using hi)]
      rfl
/-- What a loop has gathered. -/
structure TkS where
  n : Nat
  v : Value
  xs : List (Evt × Value)
/-- The blocks that an event's data lie in. -/
def datB (x : Evt × Value) : List Nat := if x.1.data = [] then [] else blkV x.2
theorem reads_dat {w w' : World} {x : Evt × Value} {S S' : List Nat} (h : Reads w x.2 x.1.data) (m : Moved w w' S S') (hk : ∀ b ∈ datB x, b ∉ S) : Reads w' x.2 x.1.data := by
  by_cases e : x.1.data = []
  · refine ⟨h.1, ?_⟩
    rcases h.2 with q | ⟨b, cap, h0, h1, h2, h3⟩
    · exact .inl q
    · exact .inr ⟨b, cap, h0, h1, h2, fun i hi => by rw [e] at hi; exact absurd hi (Nat.not_lt_zero i)⟩
  · exact reads_moved h m (fun k q => hk k (by unfold datB; rw [if_neg e]; exact q))
theorem dat_lt {w : World} {x : Evt × Value} (h : Reads w x.2 x.1.data) : ∀ b ∈ datB x, b < w.heap.size := fun b q => by
  unfold datB at q
  split at q
  · cases q
  · rename_i e; exact blk_lt_reads h e b q
theorem dat_cells {w : World} {x : Evt × Value} (h : Reads w x.2 x.1.data) : ∀ b ∈ datB x, ∃ cs t fz, w.heap[b]? = some (.cells cs t fz) := fun b q => by
  unfold datB at q
  split at q
  · cases q
  · rename_i e; exact cells_reads h e b q
structure TkU (B : World) (S : List Nat) (bo : Nat) (s : TkS) (w : World) : Prop where
  mv : Moved B w S []
  box : w.heap[bo]? = some (.cells #[s.v] 31 (0, 0))
  row : w.ownsRow 0 38 7 s.v s.xs.length (cellsV s.xs)
  nw : ∀ b ∈ blkV s.v, B.heap.size ≤ b
  dat : ∀ x ∈ s.xs, Reads w x.2 x.1.data ∧ ∃ a n d, x.2 = .slice a n d
  ap : ∀ x ∈ s.xs, ∀ b ∈ datB x, b ≠ bo ∧ b ∉ blkV s.v
def takeO (B : World) (S : List Nat) (bo : Nat) : Own TkS where
  U s w := TkU B S bo s w
  wr s := bo :: blkV s.v
  rd s := keptL B S ++ s.xs.flatMap datB
  sz s := s.xs.length
  lim := 20000
  moved h m hw hr := ⟨kept_moved h.mv m (fun b q => hr b (List.mem_append.2 (.inl q))), (m.block _ (Array.getElem?_eq_some_iff.1 h.box).1 (hw _ (by simp))).trans h.box, own_moved h.row m (fun b q => hw b (List.mem_cons_of_mem _ q)), h.nw,
    fun x hx => ⟨reads_dat (h.dat x hx).1 m (fun b q => hr b (List.mem_append.2 (.inr (List.mem_flatMap.2 ⟨x, hx, q⟩)))), (h.dat x hx).2⟩, h.ap⟩
  lt h b q := by
    rcases List.mem_cons.1 q with rfl | q
    · exact (Array.getElem?_eq_some_iff.1 h.box).1
    · exact own_lt h.row b q
  rlt h b q := by
    rcases List.mem_append.1 q with q | q
    · exact Nat.lt_of_lt_of_le (mem_kept.1 q).1 h.mv.size
    · obtain ⟨x, hx, q⟩ := List.mem_flatMap.1 q
      exact dat_lt (h.dat x hx).1 b q
theorem take_free (B : World) (S : List Nat) (bo : Nat) : Ofree (takeO B S bo) B.heap.size := fun s W l o h hl ho hc => by
  have hn : ∀ b, (∃ cs t fz, W.heap[b]? = some (.cells cs t fz)) → b ≠ l := fun b => noncell ho hc
  refine ⟨fun q => ?_, fun q => ?_⟩
  · rcases List.mem_cons.1 q with e | q
    · exact hn bo ⟨_, _, _, h.box⟩ e.symm
    · obtain ⟨c, fz, e⟩ := ownsRow_kind h.row l (mem_blkV.1 q)
      exact hn l ⟨c, _, fz, e⟩ rfl
  · rcases List.mem_append.1 q with q | q
    · have := (mem_kept.1 q).1; omega
    · obtain ⟨x, hx, q⟩ := List.mem_flatMap.1 q
      exact hn l (dat_cells (h.dat x hx).1 l q) rfl
/-- A link and the loop's own part, and what the iterator wants to find. -/
structure BH {σ : Type} (O : Own σ) (L : Nat) (c : Cf) (s : σ) (k : Lk) (y : Ly) (keep : List (Nat × Obj)) (hs : Nat) (W : World) : Prop where
  b : Both O L c s k y W
  hs : hs ≤ W.heap.size
  h1 : Held keep W (y.foot L)
  h2 : Held keep W (O.wr s)
section
variable {σ : Type} {O : Own σ} {L : Nat} {c : Cf} {s : σ} {k k' : Lk} {y y' : Ly} {keep : List (Nat × Obj)} {hs : Nat} {W W' : World}
theorem BH.below (h : BH O L c s k y keep hs W) (hb : Below W.heap.size W W') : BH O L c s k y keep hs W' := ⟨h.b.below hb, Nat.le_trans h.hs hb.size, held_below h.h1 hb, held_below h.h2 hb⟩
theorem BH.of {x : Yl σ} (h : PreY O L c x W) : BH O L c x.s x.k x.y x.keep x.hs W := ⟨h.1, h.2.2.2.2.1, h.2.2.2.2.2.1, h.2.2.2.2.2.2.1⟩
theorem BH.link (h : BH O L c s k y keep hs W) (h' : LkM W' L c y' k') (ok : LkOK c k') (m : Moved W W' (y.foot L) (y'.foot L)) : BH O L c s k' y' keep hs W' := by
  have hl : ∀ p ∈ keep, p.1 < W.heap.size := fun p hp => (Array.getElem?_eq_some_iff.1 (h.h1 p hp).1).1
  have hk : ∀ p ∈ keep, W'.heap[p.1]? = some p.2 := fun p hp => (m.block _ (hl p hp) (h.h1 p hp).2.1).trans (h.h1 p hp).1
  exact ⟨h.b.link h' ok m, Nat.le_trans h.hs m.size, fun p hp => ⟨hk p hp, foot_new m (hl p hp) (h.h1 p hp).2.1, (h.h1 p hp).2.2⟩, fun p hp => ⟨hk p hp, (h.h2 p hp).2.1, (h.h1 p hp).2.2⟩⟩
/-- The loop has written its own. -/
theorem BH.wrote (h : BH O L c s k y keep hs W) {s' : σ} (hu : O.U s' W') (m : Moved W W' (O.wr s) (O.wr s')) (hr : ∀ b ∈ O.rd s', b ∉ y.foot L) : BH O L c s' k y keep hs W' := by
  have hl : ∀ p ∈ keep, p.1 < W.heap.size := fun p hp => (Array.getElem?_eq_some_iff.1 (h.h1 p hp).1).1
  have hk : ∀ p ∈ keep, W'.heap[p.1]? = some p.2 := fun p hp => (m.block _ (hl p hp) (h.h2 p hp).2.1).trans (h.h2 p hp).1
  refine ⟨⟨h.b.lk.moved m (fun b q f => h.b.aw b f q), h.b.ok, hu, fun b q f => ?_, hr⟩, Nat.le_trans h.hs m.size, fun p hp => ⟨hk p hp, (h.h1 p hp).2.1, (h.h1 p hp).2.2⟩, fun p hp => ⟨hk p hp, fun f => ?_, (h.h1 p hp).2.2⟩⟩
  · rcases m.from' b q with r | r
    · exact h.b.aw b r f
    · have := h.b.lk.lt h.b.ok b f; omega
  · rcases m.from' _ f with r | r
    · exact (h.h2 p hp).2.1 r
    · have := hl p hp; omega
theorem BH.jy {x : Yl σ} {Bd : σ → Lk → Evt → Value → σ → Lk → Prop} {mx : Nat} {s' : σ} {k' : Lk} (h : BH O L c s' k' y' x.keep x.hs W') (hbd : Bd x.s x.k.z x.x x.dv s' k'.z) (hst : k'.st = x.k.st) (ho : k'.out.length ≤ x.k.out.length + mx) : JY O L c Bd mx x W' :=
  ⟨s', k', y', hbd, hst, ho, h.b, h.hs, h.h1, h.h2⟩
end
/-- What the loop's body does: the count, the link, one more event. -/
def BdF (f : Rsp) : TkS → Lk → Evt → Value → TkS → Lk → Prop := fun s k x dv s' k' => (s'.n, k') = f s.n k x ∧ s'.xs = s.xs ++ [(x, dv)]
theorem runU_runC {c : Cf} {f : Rsp} {s s' : TkS} {k k' : Lk} {es : List Tn.Ev} (h : RunU c (BdF f) s k es s' k') : ∃ l, runC c f s.n k es = (s'.n, k', l.map (·.1)) ∧ s'.xs = s.xs ++ l := by
  induction h with
  | nil s k => exact ⟨[], rfl, by simp⟩
  | @quiet s s2 k k2 e es h r ih =>
    obtain ⟨l, h1, h2⟩ := ih
    refine ⟨l, ?_, h2⟩
    have e1 : oneC c f s.n k e = (s.n, (procE c k e).1, []) := by unfold oneC; rw [h]
    simp only [runC, e1, h1, List.nil_append]
  | @told s s1 s2 k k1 k2 e es x dv h b r ih =>
    obtain ⟨l, h1, h2⟩ := ih
    obtain ⟨b1, b2⟩ := b
    refine ⟨(x, dv) :: l, ?_, by rw [h2, b2]; simp⟩
    have e1 : oneC c f s.n k e = (s1.n, k1, [x]) := by
      unfold oneC
      rw [h]
      simp only
      rw [← b1]
    simp only [runC, e1, h1, List.map_cons, List.cons_append, List.nil_append]
/-- One more event is gathered. -/
theorem TkU.snoc {B W V V' : World} {S : List Nat} {bo : Nat} {s : TkS} (h : TkU B S bo s W) (hb : Below W.heap.size W V) {v' : Value} {x : Evt} {dv : Value} {n' : Nat} (hg : V.grownBy V' s.v.ownBlock)
    (hrow : V'.ownsRow 0 38 7 v' (s.xs.length + 1) (cellsV s.xs ++ evC x dv)) (hfrom : ∀ b ∈ blkV v', b ∈ blkV s.v ∨ V.heap.size ≤ b) (hr : Reads W dv x.data) (hsl : ∃ a n d, dv = .slice a n d)
    (hbo : bo ∉ keptL B S) (hob : bo ∉ blkV s.v) (hdn : ∀ b ∈ datB (x, dv), b ≠ bo ∧ b ∉ blkV s.v) (hbs : bo < W.heap.size) (hBS : bo ∈ S) :
    TkU B S bo ⟨n', v', s.xs ++ [(x, dv)]⟩ (V'.setCell ⟨bo, 0, none⟩ v') ∧ Moved W (V'.setCell ⟨bo, 0, none⟩ v') (bo :: blkV s.v) (bo :: blkV v') := by
  have m1 : Moved V V' (blkV s.v) (blkV v') := Moved.grown hg (fun k e => mem_blkV.2 e) hfrom
  have m2 : Moved W V' (blkV s.v) (blkV v') := (Moved.below hb _).trans m1
  have m3 : Moved W (V'.setCell ⟨bo, 0, none⟩ v') (bo :: blkV s.v) (bo :: blkV v') := by
    refine Moved.trans (T := bo :: blkV v') ?_ (Moved.set (by simp) 0 _)
    exact m2.sub (fun k q => List.mem_cons_of_mem _ q) (fun k q => by
      rcases List.mem_cons.1 q with rfl | q
      · exact .inr (by simp)
      · exact .inl q)
  have hnb : bo ∉ blkV v' := fun q => by
    rcases hfrom bo q with r | r
    · exact hob r
    · have := hb.size; omega
  have hd : ∀ y ∈ s.xs ++ [(x, dv)], ∀ b ∈ datB y, b ≠ bo ∧ b ∉ blkV s.v := fun y hy => by
    rcases List.mem_append.1 hy with q | q
    · exact h.ap y q
    · rw [List.mem_singleton.1 q]; exact hdn
  have h1 : V'.heap[bo]? = some (.cells #[s.v] 31 (0, 0)) := (m2.block bo hbs hob).trans h.box
  refine ⟨⟨?_, ?_, ?_, ?_, ?_, ?_⟩, m3⟩
  · refine kept_moved h.mv m3 (fun b q f => ?_)
    rcases List.mem_cons.1 f with rfl | f
    · exact hbo q
    · have := h.nw b f
      have := (mem_kept.1 q).1
      omega
  · exact Go.heap_setCell_same V' bo 0 _ 31 v' h1
  · rw [List.length_append, cellsV_append]
    have e : cellsV [(x, dv)] = evC x dv := by simp [cellsV]
    rw [e]
    exact own_moved hrow (Moved.set (S := [bo]) (by simp) 0 _) (fun k q f => hnb (by simp at f; exact f ▸ q))
  · intro b q
    rcases hfrom b q with r | r
    · exact h.nw b r
    · have := h.mv.size; have := hb.size; omega
  · intro y hy
    have hdy := hd y hy
    rcases List.mem_append.1 hy with q | q
    · exact ⟨reads_dat (h.dat y q).1 m3 (fun b r f => by
        rcases List.mem_cons.1 f with f | f
        · exact (hdy b r).1 f
        · exact (hdy b r).2 f), (h.dat y q).2⟩
    · rw [List.mem_singleton.1 q] at hdy ⊢
      exact ⟨reads_dat (x := (x, dv)) hr m3 (fun b r f => by
        rcases List.mem_cons.1 f with f | f
        · exact (hdy b r).1 f
        · exact (hdy b r).2 f), hsl⟩
  · intro y hy b q
    have hlt : b < W.heap.size := by
      rcases List.mem_append.1 hy with r | r
      · exact dat_lt (h.dat y r).1 b q
      · rw [List.mem_singleton.1 r] at q
        exact dat_lt (x := (x, dv)) hr b q
    refine ⟨(hd y hy b q).1, fun f => ?_⟩
    rcases hfrom b f with r | r
    · exact (hd y hy b q).2 r
    · have := hb.size; omega
section
variable {w : World}
set_option maxRecDepth 100000 in
theorem back_any (x : Evt) (da : Option Addr) (dn dc : Nat) : Calls Tryz.prog 43 #[evV x (.slice da dn dc)] w fun e w' => e = .returned (evV x (.slice da dn dc)) ∧ Below w.heap.size w w' := by
  obtain ⟨xk, xd, ⟨ht, hr, hs, hq⟩, xh⟩ := x
  unfold evV
  dsimp only
  have _hb0 : Below w.heap.size w ((w.alloc (.cells #[.int .i64 xk, .slice da dn dc, .int .u8 ht, .int .u8 hr, .int .u8 hs, .int .u16 hq, .bool xh] 56)).alloc (.cells #[.int .i64 0, .slice none 0 0, .int .u8 0, .int .u8 0, .int .u8 0, .int .u16 0, .bool false] 38)) := bal (bal (Below.refl _ _) _) _
  clear _hb0
  go_enter Tryz.func43, Tryz.ntmps43
  go_wp2
  exact bodyPost_ret (v := .agg #[.int .i64 xk, .slice da dn dc, .int .u8 ht, .int .u8 hr, .int .u8 hs, .int .u16 hq, .bool xh]) (by simp [results, Tryz.results43, go_sem]) rfl ⟨rfl, bal (bal (Below.refl _ _) _) _⟩
end
end Go.Proofs.YtaanpnmgibcemaaGreatDoor
