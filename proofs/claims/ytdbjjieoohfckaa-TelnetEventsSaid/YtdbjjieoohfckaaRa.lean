/-
  The reference's add.
-/
import Derived.Test.YtdbjjieoohfckaaMgw
namespace Go.Proofs.Ytdbjjieoohfckaa
open Go.RowKit Go.Lib

/-- An event behind others; data are put together. -/
def radd (l : List Ev) (e : Ev) : List Ev :=
  match l.getLast? with
  | some f => if e.kind = 0 ∧ f.kind = 0 then l.dropLast ++ [dat (f.data ++ e.data)] else l ++ [e]
  | none => l ++ [e]
theorem radd_nil (e : Ev) : radd [] e = [e] := rfl
theorem radd_snoc (l : List Ev) (f e : Ev) : radd (l ++ [f]) e = if e.kind = 0 ∧ f.kind = 0 then l ++ [dat (f.data ++ e.data)] else l ++ [f] ++ [e] := by simp [radd]
/-- What add leaves. -/
def AddR (B : Nat) (es : List Ev) (w : World) (en : Ending) (w' : World) : Prop :=
  ∃ v' xs', en = .returned v' ∧ TwoL w' B (.slice none 0 0) v' [] xs' ∧ xs'.map (·.1) = es ∧ Below B w w'
set_option maxRecDepth 100000 in
set_option maxHeartbeats 4000000 in
/-- It isn't put together. -/
theorem add_one (B : Nat) (v : Value) (xs : List (Ev × Value)) (ek ev eo : Int) (ed : List Int) (el eb : Bool) (d : Value) (w : World) (h : TwoL w B (.slice none 0 0) v [] xs) (hd : DIn w (.slice none 0 0) v d ed) (hB : B ≤ w.heap.size) (hn : xs.length ≤ 10000000)
    (hc : ek ≠ 0 ∨ xs = [] ∨ ∃ ys x, xs = ys ++ [x] ∧ x.1.kind ≠ 0) :
    Calls Try.prog 26 #[v, .agg #[.int .i64 ek, .int .u8 ev, .int .u8 eo, d, .bool el, .bool eb]] w (AddR B (xs.map (·.1) ++ [⟨ek, ev, eo, ed, el, eb⟩]) w) := by
  obtain ⟨i1, hi1, hy0, hy1, hy2⟩ := info_parts info36
  obtain ⟨ES, hes⟩ : ∃ ES, ES = xs.map (·.1) ++ [⟨ek, ev, eo, ed, el, eb⟩] := ⟨_, rfl⟩
  rw [← hes]
  have HES := hid hes
  clear hes
  obtain ⟨xd, nd, cd, hde⟩ := reads_any_slice hd.1
  subst hde
  have HD := hid hd
  have HT := hid h
  have HB := hid hB
  obtain ⟨xw, cw, hwe⟩ := row_slice h.rowW
  subst hwe
  have HX := hid ((h.below (w' := (w.alloc (.cells #[.int .i64 ek, .int .u8 ev, .int .u8 eo, .slice xd nd cd, .bool el, .bool eb] 36)).alloc (.cells #[.int .i64 ek, .int .u8 ev, .int .u8 eo, .slice xd nd cd, .bool el, .bool eb] 36)) (((Below.refl _ _).alloc (Nat.le_refl _) _).alloc (by simp) _)))
  have HDX := hid (hd.below (w' := (w.alloc (.cells #[.int .i64 ek, .int .u8 ev, .int .u8 eo, .slice xd nd cd, .bool el, .bool eb] 36)).alloc (.cells #[.int .i64 ek, .int .u8 ev, .int .u8 eo, .slice xd nd cd, .bool el, .bool eb] 36)) (((Below.refl _ _).alloc (Nat.le_refl _) _).alloc (by simp) _))
  have HNS := hid (news_six (w.alloc (.cells #[.int .i64 ek, .int .u8 ev, .int .u8 eo, .slice xd nd cd, .bool el, .bool eb] 36)) (.int .i64 ek) (.int .u8 ev) (.int .u8 eo) (.slice xd nd cd) (.bool el) (.bool eb) 36)
  rw [show (w.alloc (.cells #[.int .i64 ek, .int .u8 ev, .int .u8 eo, .slice xd nd cd, .bool el, .bool eb] 36)).heap.size = w.heap.size + 1 by simp] at HNS
  have HEND : Hid (∀ v' w3, w3.ownsRow 0 36 6 v' (xs.length + 1) (cellsE xs ++ evC ⟨ek, ev, eo, ed, el, eb⟩ (.slice xd nd cd)) → ((w.alloc (.cells #[.int .i64 ek, .int .u8 ev, .int .u8 eo, .slice xd nd cd, .bool el, .bool eb] 36)).alloc (.cells #[.int .i64 ek, .int .u8 ev, .int .u8 eo, .slice xd nd cd, .bool el, .bool eb] 36)).grownBy w3 (Value.slice xw xs.length cw).ownBlock → (∀ k ∈ blkV v', k ∈ blkV (.slice xw xs.length cw) ∨ ((w.alloc (.cells #[.int .i64 ek, .int .u8 ev, .int .u8 eo, .slice xd nd cd, .bool el, .bool eb] 36)).alloc (.cells #[.int .i64 ek, .int .u8 ev, .int .u8 eo, .slice xd nd cd, .bool el, .bool eb] 36)).heap.size ≤ k) → AddR B ES w (.returned v') w3) := fun v' w3 h1 h2 h3 => by
    have r := HX.out.addW (e := ⟨ek, ev, eo, ed, el, eb⟩) HDX.out (by have := HB.out; simp; omega) h1 h2 h3
    exact ⟨v', _, rfl, r.1, (map_snoc _ _ _).trans HES.out.symm, ((((Below.refl B w).alloc HB.out _).alloc (by have := HB.out; simp; omega) _).trans r.2)⟩
  clear h hd hB HES
  rcases hc with hc | hc | ⟨ys, x, hc, hxk⟩
  · have kz : (ek == 0) = false := by simpa using hc
    clear hc
    go_enter Try.func26, Try.ntmps26
    go_wp2_with (first
      | (at_builtin; refine wpList_append_blk _ rfl _ _ 28 rfl 36 i1 _ 6 48 Try.underlying28 hi1 hy0 hy1 hy2 rfl (by decide) _ _ _ rfl HX.out.rowW ⟨w.heap.size + 1, 0, none⟩ 1 1 (evC ⟨ek, ev, eo, ed, el, eb⟩ (.slice xd nd cd)) rfl rfl HNS.out (one_evC _ _ rfl) (by unfold maxLen; omega) (by omega) ?_; intro v' w3 ho hg hn' hk; have HO3 := hid ho; have HG3 := hid hg; have HK3 := hid hk; clear ho hg hn' hk))
    go_ret
    exact HEND.out _ _ HO3.out HG3.out HK3.out
  · subst hc
    by_cases hz : ek = 0
    · subst hz
      go_enter Try.func26, Try.ntmps26
      go_wp2_with (first
        | (at_builtin; refine wpList_append_blk _ rfl _ _ 28 rfl 36 i1 _ 6 48 Try.underlying28 hi1 hy0 hy1 hy2 rfl (by decide) _ _ _ rfl HX.out.rowW ⟨w.heap.size + 1, 0, none⟩ 1 1 (evC ⟨0, ev, eo, ed, el, eb⟩ (.slice xd nd cd)) rfl rfl HNS.out (one_evC _ _ rfl) (by unfold maxLen; decide) (by decide) ?_; intro v' w3 ho hg hn' hk; have HO3 := hid ho; have HG3 := hid hg; have HK3 := hid hk; clear ho hg hn' hk))
      go_ret
      exact HEND.out _ _ HO3.out HG3.out HK3.out
    · have kz : (ek == 0) = false := by simpa using hz
      clear hz
      go_enter Try.func26, Try.ntmps26
      go_wp2_with (first
        | (at_builtin; refine wpList_append_blk _ rfl _ _ 28 rfl 36 i1 _ 6 48 Try.underlying28 hi1 hy0 hy1 hy2 rfl (by decide) _ _ _ rfl HX.out.rowW ⟨w.heap.size + 1, 0, none⟩ 1 1 (evC ⟨ek, ev, eo, ed, el, eb⟩ (.slice xd nd cd)) rfl rfl HNS.out (one_evC _ _ rfl) (by unfold maxLen; decide) (by decide) ?_; intro v' w3 ho hg hn' hk; have HO3 := hid ho; have HG3 := hid hg; have HK3 := hid hk; clear ho hg hn' hk))
      go_ret
      exact HEND.out _ _ HO3.out HG3.out HK3.out
  · subst hc
    have hll : (ys ++ [x]).length = ys.length + 1 := by simp
    have hrw := HT.out.rowW
    rcases hrw.2 with ⟨e1, e2⟩ | ⟨gw, cap', cur, e1, -⟩
    · exact absurd e2 (by simp)
    injection e1 with q1 q2 q3
    subst q1 q3
    have x0 : w.cell? ⟨gw, ys.length * 6, none⟩ = some (.int .i64 x.1.kind) := by
      have := (World.ownsRow.cellAt hrw (ys.length * 6 + 0) (by omega)).trans (cellsE_at _ ys.length (by omega) 0 (by omega))
      simpa [evC] using this
    have l2 : (x.1.kind == 0) = false := by simpa using hxk
    have hgl := World.block_lt_of_cell? w _ x0
    clear hrw q2 cur hxk HT HD
    generalize x.1.kind = kx at x0 l2
    rw [hll] at HX HEND hn ⊢
    have HLL := hid hll
    have HMY : Hid (∃ m, m = ys.length) := ⟨_, rfl⟩
    obtain ⟨m, hme⟩ := HMY.out
    rw [← hme] at x0 HX HEND hn ⊢
    clear hll HMY
    have HRW := hid (show ((w.alloc (.cells #[.int .i64 ek, .int .u8 ev, .int .u8 eo, .slice xd nd cd, .bool el, .bool eb] 36)).alloc (.cells #[.int .i64 ek, .int .u8 ev, .int .u8 eo, .slice xd nd cd, .bool el, .bool eb] 36)).ownsRow 0 36 6 (.slice (some ⟨gw, 0, none⟩) (m + 1) cw) (m + 1) (cellsE (ys ++ [x])) from by have q := HX.out.rowW; rw [HLL.out, ← hme] at q; exact q)
    clear hme
    by_cases hz : ek = 0
    · subst hz
      go_enter Try.func26, Try.ntmps26
      go_wp2_with (first
        | (at_builtin; refine wpList_append_blk _ rfl _ _ 28 rfl 36 i1 _ 6 48 Try.underlying28 hi1 hy0 hy1 hy2 rfl (by decide) _ _ _ rfl HRW.out ⟨w.heap.size + 1, 0, none⟩ 1 1 (evC ⟨0, ev, eo, ed, el, eb⟩ (.slice xd nd cd)) rfl rfl HNS.out (one_evC _ _ rfl) (by unfold maxLen; omega) (by omega) ?_; intro v' w3 ho hg hn' hk; have HO3 := hid ho; have HG3 := hid hg; have HK3 := hid hk; clear ho hg hn' hk))
      go_ret
      exact HEND.out _ _ HO3.out HG3.out HK3.out
    · have kz : (ek == 0) = false := by simpa using hz
      clear hz
      go_enter Try.func26, Try.ntmps26
      go_wp2_with (first
        | (at_builtin; refine wpList_append_blk _ rfl _ _ 28 rfl 36 i1 _ 6 48 Try.underlying28 hi1 hy0 hy1 hy2 rfl (by decide) _ _ _ rfl HRW.out ⟨w.heap.size + 1, 0, none⟩ 1 1 (evC ⟨ek, ev, eo, ed, el, eb⟩ (.slice xd nd cd)) rfl rfl HNS.out (one_evC _ _ rfl) (by unfold maxLen; omega) (by omega) ?_; intro v' w3 ho hg hn' hk; have HO3 := hid ho; have HG3 := hid hg; have HK3 := hid hk; clear ho hg hn' hk))
      go_ret
      exact HEND.out _ _ HO3.out HG3.out HK3.out
end Go.Proofs.Ytdbjjieoohfckaa
