/-
  Events of one's own: one more, or more data in the last; a copy of bytes.
-/
import Derived.Test.YtdbjjieoohfckaaDoorMc
import Derived.Lib.LazyBuf
namespace Go.Proofs.YtdbjjieoohfckaaDoor
open Go.RowKit Go.Lib

theorem blkV_one (v : Value) : (blkV v).Nodup := by
  unfold blkV
  cases v.ownBlock <;> simp
theorem blks_nodup {v : Value} {xs : List (Ev × Value)} : (blks v xs).Nodup ↔ (xs.flatMap fun x => blkV x.2).Nodup ∧ ∀ k ∈ blkV v, ∀ x ∈ xs, k ∉ blkV x.2 := by
  unfold blks
  rw [List.nodup_append]
  constructor
  · rintro ⟨_, h2, h3⟩
    exact ⟨h2, fun k hk x hx q => h3 k hk k (List.mem_flatMap.2 ⟨x, hx, q⟩) rfl⟩
  · rintro ⟨h2, h3⟩
    refine ⟨blkV_one v, h2, fun a ha b hb e => ?_⟩
    obtain ⟨x, hx, q⟩ := List.mem_flatMap.1 hb
    exact h3 a ha x hx (e ▸ q)
theorem OwnL.snoc {w w' : World} {v v' : Value} {xs : List (Ev × Value)} {e : Ev} {d : Value} (h : OwnL w v xs) (hd : OwnB w d e.data) (hn : ∀ k ∈ blkV d, k ∉ blks v xs)
    (hrow : w'.ownsRow 0 34 6 v' (xs.length + 1) (cellsE xs ++ evC e d)) (hg : w.grownBy w' v.ownBlock) (hb : ∀ k ∈ blkV v', k ∈ blkV v ∨ w.heap.size ≤ k) :
    OwnL w' v' (xs ++ [(e, d)]) ∧ Moved w w' (blks v xs ++ blkV d) (blks v' (xs ++ [(e, d)])) := by
  have hm : Moved w w' (blkV v) (blkV v') := Moved.grown hg (fun k hk => mem_blkV.2 hk) hb
  have ha := blks_nodup.1 h.apart
  refine ⟨⟨?_, ?_, ?_⟩, ?_⟩
  · rw [cellsE_append, List.length_append]
    show w'.ownsRow 0 34 6 v' (xs.length + 1) (cellsE xs ++ (evC e d ++ []))
    rw [List.append_nil]
    exact hrow
  · intro x hx
    rcases List.mem_append.1 hx with hx | hx
    · exact (h.data x hx).moved hm (fun k hk q => ha.2 k q x hx hk)
    · rw [List.mem_singleton.1 hx]
      exact hd.moved hm (fun k hk q => hn k hk (mem_blks.2 (.inl q)))
  · rw [blks_nodup, List.flatMap_append, List.nodup_append]
    refine ⟨⟨ha.1, by simpa using blkV_one d, fun a ha' b hb' e' => ?_⟩, fun k hk x hx q => ?_⟩
    · obtain ⟨x, hx, q⟩ := List.mem_flatMap.1 ha'
      have hb2 : b ∈ blkV d := by simpa using hb'
      exact hn b hb2 (mem_blks.2 (.inr ⟨x, hx, e' ▸ q⟩))
    · rcases List.mem_append.1 hx with hx | hx
      · rcases hb k hk with r | r
        · exact ha.2 k r x hx q
        · have := own_lt (h.data x hx).2 k q; omega
      · rw [List.mem_singleton.1 hx] at q
        rcases hb k hk with r | r
        · exact hn k q (mem_blks.2 (.inl r))
        · have := own_lt hd.2 k q; omega
  · refine hm.sub (fun k hk => List.mem_append.2 (.inl (mem_blks.2 (.inl hk)))) (fun k hk => ?_)
    rcases mem_blks.1 hk with q | ⟨x, hx, q⟩
    · exact .inl q
    · rcases List.mem_append.1 hx with hx | hx
      · exact .inr (List.mem_append.2 (.inl (mem_blks.2 (.inr ⟨x, hx, q⟩))))
      · rw [List.mem_singleton.1 hx] at q
        exact .inr (List.mem_append.2 (.inr q))
theorem cellsE_set (ys : List (Ev × Value)) (x : Ev × Value) (p : List Int) (d' : Value) : (cellsE (ys ++ [x])).set (ys.length * 6 + 3) d' = cellsE (ys ++ [({ x.1 with data := x.1.data ++ p }, d')]) := by
  rw [cellsE_append, cellsE_append, List.set_append_right _ _ (by rw [cellsE_length]; omega), cellsE_length, Nat.add_sub_cancel_left]
  rfl
theorem OwnL.ext {w w1 : World} {g n cap : Nat} {ys : List (Ev × Value)} {x : Ev × Value} {p : List Int} {d' : Value} (h : OwnL w (.slice (some ⟨g, 0, none⟩) n cap) (ys ++ [x])) (hn : n = ys.length + 1)
    (hd : OwnB w1 d' (x.1.data ++ p)) (hg : w.grownBy w1 x.2.ownBlock) (hb : ∀ k ∈ blkV d', k ∈ blkV x.2 ∨ w.heap.size ≤ k) :
    OwnL (w1.setCell ⟨g, ys.length * 6 + 3, none⟩ d') (.slice (some ⟨g, 0, none⟩) n cap) (ys ++ [({ x.1 with data := x.1.data ++ p }, d')]) ∧
    Moved w (w1.setCell ⟨g, ys.length * 6 + 3, none⟩ d') (blks (.slice (some ⟨g, 0, none⟩) n cap) (ys ++ [x])) (blks (.slice (some ⟨g, 0, none⟩) n cap) (ys ++ [({ x.1 with data := x.1.data ++ p }, d')])) := by
  have hm : Moved w w1 (blkV x.2) (blkV d') := Moved.grown hg (fun k hk => mem_blkV.2 hk) hb
  have ha := blks_nodup.1 h.apart
  have hgm : g ∈ blkV (.slice (some ⟨g, 0, none⟩) n cap) := by simp [blkV, Value.ownBlock]
  have hxm : x ∈ ys ++ [x] := by simp
  have hgx : g ∉ blkV x.2 := ha.2 g hgm x hxm
  have hgl : g < w.heap.size := h.lt g (mem_blks.2 (.inl hgm))
  have hgd : g ∉ blkV d' := fun q => by
    rcases hb g q with r | r
    · exact hgx r
    · omega
  have hs : Moved w1 (w1.setCell ⟨g, ys.length * 6 + 3, none⟩ d') [g] [g] := Moved.set (by simp) _ _
  have ha1 := ha.1
  rw [List.flatMap_append, List.nodup_append] at ha1
  have hrow := own_moved h.row hm (fun k hk q => ha.2 k hk x hxm q)
  subst hn
  rw [show (ys ++ [x]).length = ys.length + 1 by simp] at hrow
  refine ⟨⟨?_, ?_, ?_⟩, ?_⟩
  · have q := (World.ownsRow.stored hrow (ys.length * 6 + 3) d').1
    rw [cellsE_set ys x p d'] at q
    rw [List.length_append]
    exact q
  · intro y hy
    rcases List.mem_append.1 hy with hy | hy
    · have hyx : ∀ k ∈ blkV y.2, k ∉ blkV x.2 := fun k hk q => ha1.2.2 k (List.mem_flatMap.2 ⟨y, hy, hk⟩) k (by simpa using q) rfl
      refine ((h.data y (List.mem_append.2 (.inl hy))).moved hm hyx).moved hs (fun k hk q => ?_)
      rw [List.mem_singleton.1 q] at hk
      exact ha.2 g hgm y (List.mem_append.2 (.inl hy)) hk
    · rw [List.mem_singleton.1 hy]
      refine hd.moved hs (fun k hk q => ?_)
      rw [List.mem_singleton.1 q] at hk
      exact hgd hk
  · rw [blks_nodup, List.flatMap_append, List.nodup_append]
    refine ⟨⟨ha1.1, by simpa using blkV_one d', fun a ha' b hb' e' => ?_⟩, fun k hk y hy q => ?_⟩
    · obtain ⟨y, hy, q⟩ := List.mem_flatMap.1 ha'
      have hb2 : b ∈ blkV d' := by simpa using hb'
      subst e'
      rcases hb a hb2 with r | r
      · exact ha1.2.2 a ha' a (by simpa using r) rfl
      · have := own_lt (h.data y (List.mem_append.2 (.inl hy))).2 a q; omega
    · have hkg : k = g := by have := mem_blkV.1 hk; simpa [Value.ownBlock] using this.symm
      subst hkg
      rcases List.mem_append.1 hy with hy | hy
      · exact ha.2 k hgm y (List.mem_append.2 (.inl hy)) q
      · rw [List.mem_singleton.1 hy] at q
        exact hgd q
  · refine (hm.sub (T := blks (.slice (some ⟨g, 0, none⟩) (ys.length + 1) cap) (ys ++ [x])) (T' := blkV d' ++ blks (.slice (some ⟨g, 0, none⟩) (ys.length + 1) cap) (ys ++ [x])) (fun k hk => mem_blks.2 (.inr ⟨x, hxm, hk⟩)) (fun k hk => List.mem_append.1 hk)).trans ?_
    refine hs.sub (fun k hk => ?_) (fun k hk => .inr ?_)
    · rw [List.mem_singleton.1 hk]
      exact List.mem_append.2 (.inr (mem_blks.2 (.inl hgm)))
    · rcases mem_blks.1 hk with q | ⟨y, hy, q⟩
      · exact List.mem_append.2 (.inr (mem_blks.2 (.inl q)))
      · rcases List.mem_append.1 hy with hy | hy
        · exact List.mem_append.2 (.inr (mem_blks.2 (.inr ⟨y, List.mem_append.2 (.inl hy), q⟩)))
        · rw [List.mem_singleton.1 hy] at q
          exact List.mem_append.2 (.inl q)
/-- Bytes that came in, as a source. -/
theorem reads_src {w : World} {a : Addr} {n cap : Nat} {xs : List Int} (h : Reads w (.slice (some a) n cap) xs) : n = xs.length ∧ ∀ j u, (xs.map (Value.int .u8))[j]? = some u → w.cell? (a.add j) = some u := by
  rcases h.2 with ⟨e, _⟩ | ⟨a', cap', e, h1, h2, h3⟩
  · cases e
  · cases e
    refine ⟨rfl, fun j u hu => ?_⟩
    rw [List.getElem?_map] at hu
    by_cases hj : j < xs.length
    · have hc := h3 j hj
      rw [List.getElem?_eq_getElem hj] at hu
      simp only [Option.map_some, Option.some.injEq] at hu
      rw [List.getD, List.getElem?_eq_getElem hj] at hc
      rw [← hu]
      exact hc
    · rw [List.getElem?_eq_none (by omega)] at hu
      simp at hu
/-- A copy is there. -/
def CloneDone (xs : List Int) (w : World) (e : Ending) (w' : World) : Prop := ∃ v, e = .returned v ∧ OwnB w' v xs ∧ Below w.heap.size w w' ∧ ∀ k ∈ blkV v, w.heap.size ≤ k
set_option maxRecDepth 100000 in
theorem clone_any (v : Value) (xs : List Int) (w : World) (h : Reads w v xs) (hlen : xs.length ≤ 140737488355328) : Calls Tryd.prog 25 #[v] w (CloneDone xs w) := by
  obtain ⟨hb, ⟨rfl, rfl⟩ | ⟨a, cap, rfl, hlc, hcm, hcell⟩⟩ := h
  · clear hb hlen
    have hnil := fun w' => run_eql_slice_nil (P := Tryd.prog) w' 24 5 none 0 0 Tryd.underlying24
    go_enter Tryd.func25, Tryd.ntmps25
    go_wp2
    go_ret
    exact ⟨_, rfl, OwnB.nil w, Below.refl _ _, fun k hk => by cases hk⟩
  · obtain ⟨i0, hi, hz0, hz1, hz2⟩ := info_parts info5
    have HB := hid hb
    have HC := hid (reads_src (reads_below ⟨hb, .inr ⟨a, cap, rfl, hlc, hcm, hcell⟩⟩ ((Below.refl w.heap.size w).alloc (Nat.le_refl _) (.cells #[] 5)))).2
    have HM : Hid (0 + xs.length ≤ maxLen) := by show _ ≤ _; omega
    have HL : Hid ((0 + xs.length) * 1 ≤ 140737488355328) := by show _ ≤ _; omega
    have HLL : Hid ((xs.map (Value.int .u8)).length = xs.length * 1) := by show _ = _; rw [List.length_map]; omega
    clear hcell hb hlc hcm hlen
    obtain ⟨L, hL⟩ : ∃ L, L = xs.length := ⟨_, rfl⟩
    rw [← hL] at HM HL HLL ⊢
    have HLE := hid hL
    clear hL
    have hnil := fun w' => run_eql_slice_nil (P := Tryd.prog) w' 24 5 (some a) L cap Tryd.underlying24
    go_enter Tryd.func25, Tryd.ntmps25
    go_wp2_with (first
      | (at_builtin; refine wpList_append_own _ rfl _ _ 24 rfl w.heap.size 5 i0 (.int .u8 0) 1 1 Tryd.underlying24 hi hz0 hz1 hz2 rfl (by decide) _ 0 [] rfl (World.ownsRow_lit _ #[] 0 (Nat.le_refl _) (Nat.zero_le _) rfl) a L cap (xs.map (Value.int .u8)) rfl HLL.out HC.out (ints_oneCell .u8 _) HM.out HL.out (by simp) ?_; intro v1 w1 hown1 hgrow1 hnil1; have HO := hid hown1; have HG := hid hgrow1; have HNL := hid hnil1; clear hown1 hgrow1 hnil1))
    go_ret
    refine ⟨_, rfl, ⟨HB.out, ?_⟩, ((Below.refl _ _).alloc (Nat.le_refl _) _).grown HG.out (by simp) (fun k hk => by have e : w.heap.size = k := Option.some.inj hk; omega), fun k hk => (HO.out.lt k (mem_blkV.1 hk)).1⟩
    have := HO.out
    rw [Nat.zero_add, List.nil_append] at this
    rw [← HLE.out]
    exact this.mono (Nat.zero_le _)
end Go.Proofs.YtdbjjieoohfckaaDoor
