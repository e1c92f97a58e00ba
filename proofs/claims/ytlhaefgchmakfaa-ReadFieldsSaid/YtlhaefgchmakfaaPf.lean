/-
  Entries in memory: a row, and apart from it the texts, each apart from the others; entry.extended.
-/
import Derived.Test.YtlhaefgchmakfaaPe
namespace Go.Proofs.Ytlhaefgchmakfaa
open Go.RowKit Go.Lib

/-- An entry and where its text lies. -/
structure EnV where
  d : EnD
  tv : Value
def enC (x : EnV) : List Value := [.int .i64 x.d.addr, x.tv]
def cellsE (xs : List EnV) : List Value := xs.flatMap enC
theorem cellsE_append (a b : List EnV) : cellsE (a ++ b) = cellsE a ++ cellsE b := by simp [cellsE]
theorem cellsE_length (xs : List EnV) : (cellsE xs).length = xs.length * 2 := by
  induction xs with
  | nil => rfl
  | cons p ps ih => simp [cellsE, enC] at ih ⊢; omega
theorem cellsE_at (xs : List EnV) (i : Nat) (h : i < xs.length) (j : Nat) (hj : j < 2) : (cellsE xs)[i * 2 + j]? = (enC xs[i])[j]? := by
  have e : xs = xs.take i ++ xs[i] :: xs.drop (i + 1) := by rw [List.getElem_cons_drop, List.take_append_drop]
  have hl : (cellsE (xs.take i)).length = i * 2 := by rw [cellsE_length, List.length_take]; congr 1; omega
  conv => lhs; rw [e, cellsE_append]
  rw [List.getElem?_append_right (by omega), hl, Nat.add_sub_cancel_left]
  show (enC _ ++ cellsE _)[j]? = _
  rw [List.getElem?_append_left (by simpa [enC] using hj)]
/-- Entries of one's own, from a block on. -/
structure EntM (t : TypeId) (B : Nat) (w : World) (v : Value) (xs : List EnV) : Prop where
  row : w.ownsRow 0 t 2 v xs.length (cellsE xs)
  txt : ∀ x ∈ xs, OwnB w x.tv x.d.text
  ap : ∀ x ∈ xs, ∀ k ∈ blkV x.tv, k ∉ blkV v
  sep : xs.Pairwise fun x y => ∀ k ∈ blkV x.tv, k ∉ blkV y.tv
  bv : ∀ k ∈ blkV v, B ≤ k
  bt : ∀ x ∈ xs, ∀ k ∈ blkV x.tv, B ≤ k
theorem EntM.nil (t : TypeId) (B : Nat) (w : World) : EntM t B w (.slice none 0 0) [] := ⟨World.ownsRow_nil _ _ _ _, fun _ h => (by cases h), fun _ h => (by cases h), List.Pairwise.nil, fun _ h => (by cases h), fun _ h => (by cases h)⟩
theorem EntM.step {t : TypeId} {B : Nat} {w w' : World} {v : Value} {xs : List EnV} (h : EntM t B w v xs) (hb : Below w.heap.size w w') : EntM t B w' v xs :=
  ⟨own_moved h.row (Moved.below hb []) (fun _ _ q => by cases q), fun x hx => (h.txt x hx).step hb, h.ap, h.sep, h.bv, h.bt⟩
theorem EntM.at {t : TypeId} {B : Nat} {w : World} {v : Value} {xs : List EnV} (h : EntM t B w v xs) : ∃ x cap, v = .slice x xs.length cap ∧ xs.length ≤ cap ∧ cap ≤ 9223372036854775807 ∧ ∀ i (hi : i < xs.length), ∃ g, x = some ⟨g, 0, none⟩ ∧ g < w.heap.size ∧ w.cell? ⟨g, i * 2, none⟩ = some (.int .i64 xs[i].d.addr) ∧ w.cell? ⟨g, i * 2 + 1, none⟩ = some xs[i].tv := by
  rcases h.row.2 with ⟨rfl, e⟩ | ⟨g, cap, cur, rfl, hg, hh, h1, h2, h3, h4⟩
  · have hx : xs = [] := List.length_eq_zero_iff.1 e
    subst hx
    exact ⟨none, 0, rfl, Nat.le_refl _, by omega, fun i hi => absurd hi (Nat.not_lt_zero i)⟩
  · refine ⟨some ⟨g, 0, none⟩, cap, rfl, h1, by unfold maxLen at h2; omega, fun i hi => ⟨g, rfl, own_lt h.row g (by simp [blkV, Value.ownBlock]), ?_, ?_⟩⟩
    · have := World.ownsRow.cellAt h.row (i * 2) (by omega)
      rw [this, show i * 2 = i * 2 + 0 from rfl, cellsE_at xs i hi 0 (by omega)]
      rfl
    · rw [World.ownsRow.cellAt h.row (i * 2 + 1) (by omega), cellsE_at xs i hi 1 (by omega)]
      rfl
/-- One entry more, without characters yet. -/
theorem EntM.snoc {t : TypeId} {B : Nat} {w w' : World} {v v' : Value} {xs : List EnV} (h : EntM t B w v xs) (hB : B ≤ w.heap.size) (a : Int) (hrow : w'.ownsRow 0 t 2 v' (xs.length + 1) (cellsE xs ++ [.int .i64 a, .slice none 0 0])) (hg : w.grownBy w' v.ownBlock) (hb : ∀ k ∈ blkV v', k ∈ blkV v ∨ w.heap.size ≤ k) :
    EntM t B w' v' (xs ++ [⟨⟨a, []⟩, .slice none 0 0⟩]) := by
  have hm : Moved w w' (blkV v) (blkV v') := Moved.grown hg (fun k hk => mem_blkV.2 hk) hb
  refine ⟨?_, fun y hy => ?_, fun y hy k hk q => ?_, ?_, fun k hk => ?_, fun y hy k hk => ?_⟩
  · rw [cellsE_append, List.length_append]
    exact hrow
  · rcases List.mem_append.1 hy with hy | hy
    · exact (h.txt y hy).moved hm (h.ap y hy)
    · rw [List.mem_singleton.1 hy]; exact OwnB.nil _
  · rcases List.mem_append.1 hy with hy | hy
    · rcases hb k q with r | r
      · exact h.ap y hy k hk r
      · have := (h.txt y hy).lt k hk; omega
    · rw [List.mem_singleton.1 hy] at hk; cases hk
  · rw [List.pairwise_append]
    refine ⟨h.sep, List.pairwise_singleton _ _, fun x _ y hy k _ q => ?_⟩
    rw [List.mem_singleton.1 hy] at q; cases q
  · rcases hb k hk with r | r
    · exact h.bv k r
    · omega
  · rcases List.mem_append.1 hy with hy | hy
    · exact h.bt y hy k hk
    · rw [List.mem_singleton.1 hy] at hk; cases hk
theorem EntM.one {t : TypeId} {B : Nat} {w : World} (hB : B ≤ w.heap.size) (a : Int) : EntM t B (w.alloc (.cells #[.int .i64 a, .slice none 0 0] t)) (.slice (some ⟨w.heap.size, 0, none⟩) 1 1) ([] ++ [⟨⟨a, []⟩, .slice none 0 0⟩]) := by
  refine ⟨World.ownsRow_lit (base := 0) (size := 2) w #[.int .i64 a, .slice none 0 0] 1 (Nat.zero_le _) (by decide) rfl, fun y hy => ?_, fun y hy k hk => ?_, List.pairwise_singleton _ _, fun k hk => ?_, fun y hy k hk => ?_⟩
  · rw [List.mem_singleton.1 hy]; exact OwnB.nil _
  · rw [List.mem_singleton.1 hy] at hk; cases hk
  · have : w.heap.size = k := by simpa [mem_blkV, Value.ownBlock] using hk
    omega
  · rw [List.mem_singleton.1 hy] at hk; cases hk
/-- The last entry's text grows, and is stored. -/
theorem EntM.last {t : TypeId} {B : Nat} {w w1 : World} {g cap : Nat} {xs : List EnV} {x : EnV} (h : EntM t B w (.slice (some ⟨g, 0, none⟩) (xs.length + 1) cap) (xs ++ [x])) (hB : B ≤ w.heap.size) (tv : Value) (tx : List Int) (ho : OwnB w1 tv tx) (hg : w.grownBy w1 x.tv.ownBlock) (hb : ∀ k ∈ blkV tv, k ∈ blkV x.tv ∨ w.heap.size ≤ k) :
    EntM t B (w1.setCell ⟨g, xs.length * 2 + 1, none⟩ tv) (.slice (some ⟨g, 0, none⟩) (xs.length + 1) cap) (xs ++ [⟨⟨x.d.addr, tx⟩, tv⟩]) ∧ Below B w (w1.setCell ⟨g, xs.length * 2 + 1, none⟩ tv) := by
  have hgv : blkV (.slice (some ⟨g, 0, none⟩) (xs.length + 1) cap) = [g] := rfl
  have hx : x ∈ xs ++ [x] := List.mem_append_right _ (List.mem_singleton_self x)
  have hm1 : Moved w w1 (blkV x.tv) (blkV tv) := Moved.grown hg (fun k hk => mem_blkV.2 hk) hb
  have hgx : g ∉ blkV x.tv := fun q => h.ap x hx g q (by rw [hgv]; exact List.mem_singleton_self g)
  have hgl : g < w.heap.size := own_lt h.row g (by rw [hgv]; exact List.mem_singleton_self g)
  have hm2 : Moved w1 (w1.setCell ⟨g, xs.length * 2 + 1, none⟩ tv) [g] [g] := Moved.set (List.mem_singleton_self g) _ _
  have hgt : g ∉ blkV tv := fun q => by
    rcases hb g q with r | r
    · exact hgx r
    · omega
  have hr1 : w1.ownsRow 0 t 2 (.slice (some ⟨g, 0, none⟩) (xs.length + 1) cap) (xs.length + 1) (cellsE (xs ++ [x])) := by
    have q := own_moved h.row hm1 (fun k hk => by rw [hgv] at hk; rw [List.mem_singleton.1 hk]; exact hgx)
    rwa [List.length_append] at q
  have hr2 := (World.ownsRow.stored hr1 (xs.length * 2 + 1) tv).1
  have hcs : (cellsE (xs ++ [x])).set (xs.length * 2 + 1) tv = cellsE (xs ++ [⟨⟨x.d.addr, tx⟩, tv⟩]) := by
    rw [cellsE_append, cellsE_append, List.set_append_right _ _ (by rw [cellsE_length]; omega), cellsE_length, Nat.add_sub_cancel_left]
    rfl
  rw [hcs] at hr2
  have hsp := h.sep
  rw [List.pairwise_append] at hsp
  refine ⟨⟨by rw [List.length_append]; exact hr2, fun y hy => ?_, fun y hy k hk q => ?_, ?_, fun k hk => h.bv k hk, fun y hy k hk => ?_⟩, ?_⟩
  · rcases List.mem_append.1 hy with hy | hy
    · have hyx : y ∈ xs ++ [x] := List.mem_append_left _ hy
      exact ((h.txt y hyx).moved hm1 (hsp.2.2 y hy x (List.mem_singleton_self x))).moved hm2 (fun k hk q => by rw [List.mem_singleton.1 q] at hk; exact h.ap y hyx g hk (by rw [hgv]; exact List.mem_singleton_self g))
    · rw [List.mem_singleton.1 hy]
      exact ho.moved hm2 (fun k hk q => by rw [List.mem_singleton.1 q] at hk; exact hgt hk)
  · rw [hgv] at q
    rcases List.mem_append.1 hy with hy | hy
    · exact h.ap y (List.mem_append_left _ hy) k hk (by rw [hgv]; exact q)
    · rw [List.mem_singleton.1 hy] at hk
      rw [List.mem_singleton.1 q] at hk
      exact hgt hk
  · rw [List.pairwise_append]
    refine ⟨hsp.1, List.pairwise_singleton _ _, fun y hy z hz k hk q => ?_⟩
    rw [List.mem_singleton.1 hz] at q
    rcases hb k q with r | r
    · exact hsp.2.2 y hy x (List.mem_singleton_self x) k hk r
    · have := (h.txt y (List.mem_append_left _ hy)).lt k hk; omega
  · rcases List.mem_append.1 hy with hy | hy
    · exact h.bt y (List.mem_append_left _ hy) k hk
    · rw [List.mem_singleton.1 hy] at hk
      rcases hb k hk with r | r
      · exact h.bt x hx k r
      · omega
  · have b1 : Below B w w1 := hm1.toBelow hB (h.bt x hx)
    exact b1.trans (hm2.toBelow (by have := hm1.size; omega) (fun k hk => by rw [List.mem_singleton.1 hk]; exact h.bv g (by rw [hgv]; exact List.mem_singleton_self g)))
theorem EntM.held {t : TypeId} {B : Nat} {w w1 : World} {g cap : Nat} {xs : List EnV} {x : EnV} (h : EntM t B w (.slice (some ⟨g, 0, none⟩) (xs.length + 1) cap) (xs ++ [x])) (hg : w.grownBy w1 x.tv.ownBlock) :
    w1.cell? ⟨g, xs.length * 2 + 1, none⟩ = some x.tv ∧ w1.frozen? ⟨g, xs.length * 2 + 1, none⟩ = false ∧ g < w1.heap.size := by
  have hgv : blkV (.slice (some ⟨g, 0, none⟩) (xs.length + 1) cap) = [g] := rfl
  have hx : x ∈ xs ++ [x] := List.mem_append_right _ (List.mem_singleton_self x)
  have hgx : g ∉ blkV x.tv := fun q => h.ap x hx g q (by rw [hgv]; exact List.mem_singleton_self g)
  have hm1 : Moved w w1 (blkV x.tv) (blkV x.tv) := Moved.grown hg (fun k hk => mem_blkV.2 hk) (fun k hk => .inl hk)
  have hr1 : w1.ownsRow 0 t 2 (.slice (some ⟨g, 0, none⟩) (xs.length + 1) cap) (xs.length + 1) (cellsE (xs ++ [x])) := by
    have q := own_moved h.row hm1 (fun k hk => by rw [hgv] at hk; rw [List.mem_singleton.1 hk]; exact hgx)
    rwa [List.length_append] at q
  refine ⟨?_, World.ownsRow.frozenAt hr1 _, own_lt hr1 g (by rw [hgv]; exact List.mem_singleton_self g)⟩
  rw [World.ownsRow.cellAt hr1 _ (by omega), cellsE_at (xs ++ [x]) xs.length (by simp) 1 (by omega)]
  simp [enC]
theorem infoEn : (Try.prog.info? 107).map (fun i => (i.zero, i.size, i.bytes)) = some (some (.agg #[.int .i64 0, .slice none 0 0]), 2, 32) := by kernel_rfl
/-- Extended: the last entry has these characters behind its own. -/
def ExtD (B : Nat) (es : List EnD) (w : World) (e : Ending) (w' : World) : Prop := ∃ v xs, e = .returned v ∧ EntM 107 B w' v xs ∧ xs.map EnV.d = es ∧ Below B w w'
set_option maxRecDepth 100000 in
set_option maxHeartbeats 2000000 in
theorem extend_none (B : Nat) (x : Option Addr) (cap : Nat) (u : Value) (cs : List Int) (w : World) (hB : B ≤ w.heap.size) (hu : Reads w u cs) (hl : cs.length ≤ 1000000) :
    Calls Try.prog 92 #[.slice x 0 cap, u] w (ExtD B [⟨0, cs⟩] w) := by
  have h1 := EntM.one (t := 107) hB 0
  have HM := hid h1
  have HU := hid (reads_below hu (bal (Below.refl w.heap.size w) (.cells #[.int .i64 0, .slice none 0 0] 107)))
  have HBL := hid (show Below B w (w.alloc (.cells #[.int .i64 0, .slice none 0 0] 107)) from (Below.refl _ _).alloc hB _)
  obtain ⟨xu, cu, rfl⟩ := reads_sl hu
  obtain ⟨n, hn⟩ : ∃ n, cs.length = n := ⟨_, rfl⟩
  have HN := hid hn
  rw [hn] at HU hl ⊢
  have HL := hid hl
  clear h1 hu hn hl
  go_enter Try.func92, Try.ntmps92
  go_wp2_with (first
    | (at_builtin; refine wpList_append_at rfl (.tmp 20) (.tmp 21) rfl (.slice none 0 0) (.slice xu n cu) [] cs cs n rfl rfl (OwnB.nil _) HU.out (by have := HN.out; have := HL.out; simp; omega) rfl HN.out ?_; intro y3 c3 w3 h3 g3 k3; have HF := hid (EntM.last (xs := []) HM.out (by simp; omega) _ _ h3 g3 k3); obtain ⟨hq1, hq2, hq3⟩ := EntM.held (xs := []) HM.out g3; simp only [List.length_nil, Nat.zero_mul, Nat.zero_add] at hq1 hq2; clear h3 g3 k3))
  go_ret
  exact ⟨_, _, rfl, HF.out.1, rfl, HBL.out.trans HF.out.2⟩
set_option maxRecDepth 100000 in
set_option maxHeartbeats 2000000 in
theorem extend_some (B : Nat) (g cap k : Nat) (xs : List EnV) (x : EnV) (hk : xs.length = k) (u : Value) (cs : List Int) (w : World) (hB : B ≤ w.heap.size) (h : EntM 107 B w (.slice (some ⟨g, 0, none⟩) (k + 1) cap) (xs ++ [x])) (hu : Reads w u cs) (hl : x.d.text.length + cs.length ≤ 1000000) :
    Calls Try.prog 92 #[.slice (some ⟨g, 0, none⟩) (k + 1) cap, u] w (ExtD B (xs.map EnV.d ++ [⟨x.d.addr, x.d.text ++ cs⟩]) w) := by
  obtain ⟨x', cap', hv, hcap1, hcap2, hat⟩ := h.at
  injection hv with hv1 _ hv3
  subst hv1 hv3
  obtain ⟨g', hg', hgl, hc0, hc1⟩ := hat xs.length (by simp)
  injection hg' with hg'
  injection hg' with hg'
  subst hg'
  rw [List.length_append, List.length_singleton] at hcap1
  have hkk : (k : Int) + 1 ≤ 9223372036854775807 := by omega
  have htv := h.txt x (List.mem_append_right _ (List.mem_singleton_self x))
  have e1 : (xs ++ [x])[xs.length]'(by simp) = x := by simp
  rw [e1] at hc1
  rw [hk] at hc1
  subst hk
  have HM := hid h
  have HU := hid hu
  obtain ⟨⟨xa, xt⟩, tv⟩ := x
  dsimp only at htv hl hc1
  have HT := hid htv
  obtain ⟨xv, nv, cv, rfl⟩ := own_slice htv
  obtain ⟨xu, cu, rfl⟩ := reads_sl hu
  obtain ⟨n, hn⟩ : ∃ n, cs.length = n := ⟨_, rfl⟩
  obtain ⟨N, hN⟩ : ∃ N, (xt ++ cs).length = N := ⟨_, rfl⟩
  have HNN := hid hN
  rw [hn] at HU hl ⊢
  have HL := hid (show xt.length + cs.length ≤ 10000000 by omega)
  obtain ⟨k, hk⟩ : ∃ k, xs.length = k := ⟨_, rfl⟩
  rw [hk] at hc1 hkk ⊢
  have HK := hid hk
  have HM' := hid (show EntM 107 B w (.slice (some ⟨g, 0, none⟩) (xs.length + 1) cap) (xs ++ [⟨⟨xa, xt⟩, .slice xv nv cv⟩]) from HM.out)
  obtain ⟨n1, hn1⟩ : ∃ n1, k + 1 = n1 := ⟨_, rfl⟩
  have hs1 : (n1 : Int) - 1 = k := by omega
  have hs0 : ((n1 : Int) == 0) = false := by simp; omega
  have hs2 : (k : Int) < n1 := by omega
  have hs3 : (n1 : Int) ≤ 9223372036854775807 := by omega
  have hs4 : (1 : Int) ≤ n1 := by omega
  have HN1 := hid (show xs.length + 1 = n1 by rw [hk]; exact hn1)
  rw [hn1]
  clear hn hN hl htv hu h hat hc0 hcap1 hcap2 e1 hk HM hkk hn1
  go_enter Try.func92, Try.ntmps92
  go_wp2_with (first
    | (at_builtin; refine wpList_append_at rfl (.tmp 20) (.tmp 21) rfl (.slice xv nv cv) (.slice xu n cu) xt cs _ N rfl rfl HT.out HU.out HL.out rfl HNN.out ?_; intro y3 c3 w3 h3 g3 k3; have HF := hid (EntM.last HM'.out hB _ _ h3 g3 k3); obtain ⟨hq1, hq2, hq3⟩ := EntM.held HM'.out g3; rw [HK.out] at hq1 hq2; rw [HN1.out, HK.out] at HF; clear h3 g3 k3))
  go_ret
  exact ⟨_, _, rfl, HF.out.1, by rw [List.map_append]; rfl, HF.out.2⟩
theorem ext_any (B : Nat) (v : Value) (xs : List EnV) (u : Value) (cs : List Int) (w : World) (hB : B ≤ w.heap.size) (h : EntM 107 B w v xs) (hu : Reads w u cs) (hl : totE (xs.map EnV.d) + cs.length ≤ 1000000) :
    Calls Try.prog 92 #[v, u] w (ExtD B (extE (xs.map EnV.d) cs) w) := by
  rcases List.eq_nil_or_concat xs with rfl | ⟨r, x, rfl⟩
  · obtain ⟨x, cap, rfl, _⟩ := h.at
    exact extend_none B x cap u cs w hB hu (by omega)
  · rw [List.concat_eq_append] at h hl ⊢
    obtain ⟨x', cap, rfl, _, _, hat⟩ := h.at
    obtain ⟨g, rfl, _⟩ := hat r.length (by simp)
    rw [List.map_append]
    have e : extE (r.map EnV.d ++ [x].map EnV.d) cs = r.map EnV.d ++ [⟨x.d.addr, x.d.text ++ cs⟩] := extE_snoc _ x.d _
    rw [e]
    have hm : x.d ∈ (r ++ [x]).map EnV.d := List.mem_map_of_mem (List.mem_append_right _ (List.mem_singleton_self x))
    have ht := totE_mem hm
    have hlen : (r ++ [x]).length = r.length + 1 := by simp
    rw [hlen] at h ⊢
    exact extend_some B g cap r.length r x rfl u cs w hB h hu (by omega)
end Go.Proofs.Ytlhaefgchmakfaa
