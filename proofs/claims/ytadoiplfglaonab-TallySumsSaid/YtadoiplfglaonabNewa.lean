/-
  tally.New at any names: what it hands back, and the tally that it lays.
-/
import Derived.Test.YtadoiplfglaonabShelf
import Derived.Test.YtadoiplfglaonabNila
import Derived.Deep.OwnRows
import Derived.Deep.QuietTactic
import Derived.BigQuiet
import Derived.RegionTactic
import Derived.Sort.OwnSorted
import Derived.Lib.Hide
import Derived.WalkSmall
namespace Go.Proofs.Ytadoiplfglaonab
open Go.RowKit Go.Shelf Go.Deep Go.Lib

theorem info62 : (Try.prog.info? 62).map (fun i => (i.zero, i.size, i.bytes)) = some (some (.agg #[.int .u64 0]), 1, 8) := by kernel_rfl
/-- Is it a name? -/
def goodS (s : ByteArray) : Bool := decide (1 ≤ s.size ∧ s.size ≤ 40)

set_option maxRecDepth 100000 in
theorem new_long (v : Option Addr) (n cap : Nat) (w : World) (hn : 64 < n) (hm : n ≤ maxLen) : Calls Try.prog 8 #[.slice v n cap] w fun e w' => e = .returned (.tuple #[.pointer none, .int .i64 3]) ∧ w = w' := by
  unfold maxLen at hm
  go_enter Try.func8, Try.ntmps8
  go_wp2
  go_ret2
  exact ⟨rfl, rfl⟩

theorem ne_nil_of_size (s : ByteArray) (h : 1 ≤ s.size) : ¬ s.toList = [] := by
  rw [ByteArray.toList_eq]
  intro e
  have : s.data.toList.length = 0 := by rw [e]; rfl
  simp at this
  have h2 : s.size = s.data.size := rfl
  rw [h2, this] at h
  simp at h
theorem size_of_ne_nil (s : ByteArray) (h : ¬ s.toList = []) : 1 ≤ s.size := by
  rw [ByteArray.toList_eq] at h
  have h2 : s.size = s.data.toList.length := by simp
  rw [h2]
  exact List.length_pos_iff.2 h
/-- The names, rising. -/
def sorted (zs : List ByteArray) : List (List UInt8) := (zs.map fun s => s.data.toList).mergeSort fun x y => decide (x ≤ y)
theorem sorted_length (zs : List ByteArray) : (sorted zs).length = zs.length := by simp [sorted]
/-- Does a name stand twice, side by side, among the first k? -/
def twice (ts : List (List UInt8)) (k : Nat) : Bool := (List.range k).any fun i => decide (1 ≤ i ∧ i < ts.length ∧ ts.getD (i - 1) [] = ts.getD i [])
/-- The error's number: 0, if there is none. -/
def newErr (zs : List ByteArray) : Int := if 64 < zs.length then 3 else if zs.all goodS then (if twice (sorted zs) zs.length then 1 else 0) else 4

/-- Names that rise. -/
def Rising (ts : List (List UInt8)) : Prop := ∀ i j, i < j → j < ts.length → ts.getD i [] < ts.getD j []

/-- A tally in memory: its block t, from block B on all its own; the names ts (the slice vn), the counts cs (in block g). -/
structure TallyIn (w : World) (B t : Nat) (vn : Value) (g : Nat) (ts : List (List UInt8)) (cs : List Int) : Prop where
  block : w.heap[t]? = some (.cells #[vn, .slice (some ⟨g, 0, none⟩) ts.length ts.length] 52 (0, 0))
  base : B ≤ t
  names : w.ownsRow B 9 1 vn ts.length (ts.map encStr)
  counts : w.ownsRow B 62 1 (.slice (some ⟨g, 0, none⟩) ts.length ts.length) ts.length (cs.map (Value.int .u64))
  size : cs.length = ts.length
  few : ts.length ≤ 64
  rising : Rising ts
def TallyAt (w : World) (B t : Nat) (ts : List (List UInt8)) (cs : List Int) : Prop := ∃ vn g, TallyIn w B t vn g ts cs

theorem twice_mk {ts : List (List UInt8)} {m n : Nat} (h : m + 1 < ts.length) (hn : m + 1 < n) (e : ts.getD m [] = ts.getD (m + 1) []) : twice ts n = true := by
  unfold twice
  rw [List.any_eq_true]
  exact ⟨m + 1, by simpa using hn, by simpa using ⟨h, e⟩⟩
theorem rising_sorted (zs : List ByteArray) (h : twice (sorted zs) zs.length = false) : Rising (sorted zs) := by
  have hp : (sorted zs).Pairwise fun a b => decide (a ≤ b) = true := List.pairwise_mergeSort (le := fun x y => decide (x ≤ y)) (fun a b c h1 h2 => by simp at h1 h2 ⊢; exact List.le_trans h1 h2) (fun a b => by simp; exact List.le_total a b) _
  rw [List.pairwise_iff_getElem] at hp
  have hadj : ∀ m, m + 1 < (sorted zs).length → (sorted zs).getD m [] < (sorted zs).getD (m + 1) [] := by
    intro m hm
    have h1 : (sorted zs).getD m [] ≤ (sorted zs).getD (m + 1) [] := by
      have := hp m (m + 1) (by omega) hm (by omega)
      simpa [List.getD, List.getElem?_eq_getElem, hm, show m < (sorted zs).length by omega] using this
    have h2 : ¬ (sorted zs).getD m [] = (sorted zs).getD (m + 1) [] := by
      intro e
      rw [sorted_length] at hm
      have := twice_mk (ts := sorted zs) (m := m) (n := zs.length) (by rw [sorted_length]; exact hm) hm e
      rw [this] at h
      cases h
    exact Decidable.byContradiction fun h3 => h2 (List.le_antisymm h1 (List.not_lt.1 h3))
  intro i j hij hj
  obtain ⟨d, rfl⟩ : ∃ d, j = i + 1 + d := ⟨j - (i + 1), by omega⟩
  clear hij
  induction d with
  | zero => exact hadj i hj
  | succ d ih => exact List.lt_trans (ih (by omega)) (hadj (i + 1 + d) hj)

/-- What New leaves. -/
def NewPost (zs : List ByteArray) (w : World) (e : Ending) (w' : World) : Prop := Below w.heap.size w w' ∧
  ((newErr zs ≠ 0 ∧ e = .returned (.tuple #[.pointer none, .int .i64 (newErr zs)])) ∨
   (newErr zs = 0 ∧ ∃ t, e = .returned (.tuple #[.pointer (some ⟨t, 0, none⟩), .int .i64 0]) ∧ TallyAt w' w.heap.size t (sorted zs) (List.replicate zs.length 0)))

theorem newErr_form {zs : List ByteArray} {s : ByteArray} (hn : zs.length ≤ 64) (hs : s ∈ zs) (hb : goodS s = false) : newErr zs = 4 := by
  unfold newErr
  rw [if_neg (by omega), if_neg]
  intro h
  have := List.all_eq_true.1 h s hs
  rw [hb] at this
  cases this

theorem newErr_twice {zs : List ByteArray} (hn : zs.length ≤ 64) (hg : zs.all goodS = true) (ht : twice (sorted zs) zs.length = true) : newErr zs = 1 := by
  unfold newErr
  rw [if_neg (by omega), if_pos hg, if_pos ht]
theorem newErr_none {zs : List ByteArray} (hn : zs.length ≤ 64) (hg : zs.all goodS = true) (ht : twice (sorted zs) zs.length = false) : newErr zs = 0 := by
  unfold newErr
  rw [if_neg (by omega), if_pos hg, if_neg (by rw [ht]; simp)]
theorem all_good {zs : List ByteArray} {k : Nat} (h : ∀ s ∈ zs.take k, goodS s = true) (hk : zs.length ≤ k) : zs.all goodS = true := by
  rw [List.take_of_length_le hk] at h
  exact List.all_eq_true.2 h
theorem twice_step {ts : List (List UInt8)} {m : Nat} (h : twice ts (m + 1) = false) (e : ¬ ts.getD m [] = ts.getD (m + 1) []) : twice ts (m + 1 + 1) = false := by
  unfold twice at h ⊢
  rw [List.range_succ, List.any_append, h]
  simp only [List.any_cons, List.any_nil, Bool.or_false, Bool.false_or, decide_eq_false_iff_not]
  intro hh
  exact e (by simpa using hh.2.2)
theorem twice_le {ts : List (List UInt8)} {m n : Nat} (hm : n ≤ m) (h : twice ts m = false) : twice ts n = false := by
  unfold twice at h ⊢
  rw [List.any_eq_false] at h ⊢
  intro i hi
  exact h i (by simp at hi ⊢; omega)
theorem ownsRow_drewN {w : World} {base : Nat} {e : TypeId} {size : Nat} {v : Value} {n : Nat} {xs : List Value} (h : w.ownsRow base e size v n xs) (k : Nat) : (w.drewN k).ownsRow base e size v n xs := by
  unfold World.ownsRow at h ⊢
  simpa using h
theorem made_counts (n : Nat) : (madeCells (Value.agg #[.int .u64 0]).cells (n * 1)).toList = (List.replicate n (0 : Int)).map (Value.int .u64) := by
  show (madeCells #[Value.int .u64 0] (n * 1)).toList = _
  rw [Nat.mul_one, toList_madeCells_one]
  simp
theorem tally_mk {w3 : World} {B g2 : Nat} {vn : Value} {ts : List (List UInt8)} (hrow : w3.ownsRow B 9 1 vn ts.length (ts.map encStr))
    (hcount : w3.ownsRow B 62 1 (.slice (some ⟨g2, 0, none⟩) ts.length ts.length) ts.length (madeCells (Value.agg #[.int .u64 0]).cells (ts.length * 1)).toList) (hB : B ≤ w3.heap.size) (hf : ts.length ≤ 64) (hr : Rising ts) :
    TallyAt (w3.alloc (.cells #[vn, .slice (some ⟨g2, 0, none⟩) ts.length ts.length] 52)) B w3.heap.size ts (List.replicate ts.length 0) := by
  rw [made_counts] at hcount
  exact ⟨vn, g2, heap_alloc_new w3 _, hB, hrow.alloc _, hcount.alloc _, by simp, hf, hr⟩
set_option maxRecDepth 100000 in
set_option maxHeartbeats 1000000 in
theorem new_any (b off n cap : Nat) (zs : List ByteArray) (w : World) (hn : n ≤ 64) (hl : zs.length = n) (hs : ∀ s ∈ zs, s.size ≤ maxLen) (hc : ∀ j, j < n → w.cell? ⟨b, off + j, none⟩ = some (.string (zs.getD j ByteArray.empty))) :
    Calls Try.prog 8 #[.slice (some ⟨b, off, none⟩) n cap] w (NewPost zs w) := by
  have HL := hid hl
  have HS := hid hs
  have HC := hid hc
  clear hl hs hc
  obtain ⟨i0, hi, hz0, hz1, hz2⟩ := info_parts info62
  go_enter Try.func8, Try.ntmps8
  go_wp2
  go_loop [13] (fun i => ∃ k : Nat, k ≤ n ∧ i = .int .i64 k ∧ Hid (∀ s ∈ zs.take k, goodS s = true)) (fun i => n - (intOf i).toNat)
  case atStart => exact ⟨0, Nat.zero_le _, rfl, by simp [Hid]⟩
  case round =>
    obtain ⟨k, hk, rfl, HG⟩ := hrel
    by_cases hlt : k < n
    · have hck := HC.out k hlt
      have hmem : zs.getD k ByteArray.empty ∈ zs := by simp [List.getD, List.getElem?_eq_getElem (HL.out ▸ hlt)]
      have hsz := HS.out _ hmem
      have htk : zs.take (k + 1) = zs.take k ++ [zs.getD k ByteArray.empty] := by rw [List.take_succ_eq_append_getElem (HL.out ▸ hlt)]; simp [List.getD, List.getElem?_eq_getElem (HL.out ▸ hlt)]
      obtain ⟨s, hs⟩ : ∃ s, s = zs.getD k ByteArray.empty := ⟨_, rfl⟩
      rw [← hs] at hck hsz hmem htk
      have HM := hid hmem
      have HT := hid htk
      clear hs hmem htk
      unfold maxLen at hsz
      by_cases hg : goodS s = true
      · have h1 : 1 ≤ s.size ∧ s.size ≤ 40 := by simpa [goodS] using hg
        have h3 : ¬ s.toList = [] := ne_nil_of_size s h1.1
        have h2 : s.toList.isEmpty = false := by simpa using h3
        have HGs := hid hg
        obtain ⟨h1, h4⟩ := h1
        clear hg
        go_wp2
        go_round
        case rel => exact ⟨k + 1, by omega, by go_num, by rw [HT.out]; intro x hx; rcases List.mem_append.1 hx with h | h; exact HG.out x h; simp at h; subst h; exact HGs.out⟩
        case measure => simp [intOf]; omega
      · have HB := hid hg
        clear hg
        have fin : NewPost zs w (.returned (.tuple #[.pointer none, .int .i64 4])) w := by
          refine ⟨Below.refl _ _, .inl ?_⟩
          rw [newErr_form (by rw [HL.out]; exact hn) HM.out (by simpa using HB.out)]
          exact ⟨by decide, rfl⟩
        by_cases he : s.toList = []
        · go_wp2
          go_ret2
          exact fin
        · have h2 : s.toList.isEmpty = false := by simpa using he
          have h3 : 40 < s.size := by have h5 : ¬ (1 ≤ s.size ∧ s.size ≤ 40) := by simpa [goodS] using HB.out
                                      have h6 := size_of_ne_nil s he
                                      omega
          go_wp2
          go_ret2
          exact fin
    · go_wp2_with (first | (go_at_call 22; refine (Try.slices_Clone_string b off n cap zs _ (by rw [HL.out]; exact Nat.le_refl _) (by omega) (fun j hj => HC.out j (by rw [← HL.out]; exact hj))).mono ?_; rintro e w1 ⟨v1, rfl, hrow, hnn, hB1⟩))
      obtain ⟨g, c1, cur, rfl, hbase, hb, hc1, hc2, hc3, hc4⟩ : ∃ g c1 cur, v1 = .slice (some ⟨g, 0, none⟩) n c1 ∧ w.heap.size ≤ g ∧ w1.heap[g]? = some (.cells cur 9 (0, 0)) ∧ n ≤ c1 ∧ c1 ≤ maxLen ∧ cur.size = c1 * 1 ∧ cur.toList.take (n * 1) = (zs.take n).map Value.string := by
        rcases hrow.2 with ⟨h, _⟩ | h
        · exact absurd h hnn
        · exact h
      have hls : (zs.map fun s => s.data.toList).length = n := by simp [HL.out]
      have hH : Sort.Holds encStr w1 g 0 (zs.map fun s => s.data.toList).toArray := holds_of_block hb (by rw [hls]; rw [Nat.mul_one] at hc4; rw [hc4, List.take_of_length_le (by rw [HL.out]; exact Nat.le_refl _), List.map_map]; rfl)
      have hsort := Try.slices_Sort_string g 0 c1 (zs.map fun s => s.data.toList) w1 hH (Array.getElem?_eq_some_iff.1 hb).1 (by rw [hls]; omega)
      rw [hls] at hsort
      have HSO := hid hsort
      have HRW := hid hrow
      have HX := hid (And.intro hb (And.intro hc3 (And.intro hc4 hH)))
      clear hsort hls hb hc3 hc4 hH hrow hnn HC HS
      go_wp2_with (first | (go_at_call 23; refine HSO.out.mono ?_; rintro e w2 ⟨rfl, nd, os, hw2⟩; have HW2 := hid hw2; clear hw2))
      have hown2 : w2.ownsRow w.heap.size 9 1 (.slice (some ⟨g, 0, none⟩) n c1) n ((sorted zs).map encStr) := by
        have h := ownsRow_sorted (n := nd) (os := os) (ss := zs.map fun s => s.data.toList) (ts := sorted zs) (by simp [sorted_length]) hbase HX.out.1 (by simpa [HL.out] using hc1) hc2 HX.out.2.1
        rw [HW2.out]
        simpa [HL.out, sorted] using h
      have hB2 : Below w.heap.size w w2 := hB1.grown (row := some g) (by rw [HW2.out]; exact grownBy_sorted _) hB1.size (fun j e => by cases e; exact hbase)
      have HO := hid hown2
      have HB2 := hid hB2
      have HTL : Hid ((sorted zs).length = n) := by rw [Hid, sorted_length]; exact HL.out
      clear hown2 hB2 HX HRW HSO HW2 hB1
      obtain ⟨ts, hts⟩ : ∃ ts, ts = sorted zs := ⟨_, rfl⟩
      rw [← hts] at HO HTL
      have HTS := hid hts
      clear hts
      go_loopw [7] (fun i wr => ∃ m : Nat, (m + 1 ≤ n ∨ m = 0) ∧ i = .int .i64 ((m : Int) + 1) ∧ Hid (twice ts (m + 1) = false) ∧ Hid (wr.ownsRow w.heap.size 9 1 (.slice (some ⟨g, 0, none⟩) n c1) n (ts.map encStr)) ∧ Hid (Below w.heap.size w wr)) (fun i _ => n - (intOf i).toNat)
      case atStart => exact ⟨0, .inr rfl, rfl, by simp [Hid, twice], HO, HB2⟩
      case round =>
        obtain ⟨m, hm, rfl, HTW, HO1, HB1⟩ := hrel
        by_cases hlt2 : m + 1 < n
        · have e0 : wr.cell? ⟨g, m, none⟩ = some (encStr (ts.getD m [])) := by
            rw [HO1.out.cellAt m (by omega)]; simp [List.getD, List.getElem?_eq_getElem (show m < ts.length by rw [HTL.out]; omega)]
          have e1 : wr.cell? ⟨g, m + 1, none⟩ = some (encStr (ts.getD (m + 1) [])) := by
            rw [HO1.out.cellAt (m + 1) (by omega)]; simp [List.getD, List.getElem?_eq_getElem (show m + 1 < ts.length by rw [HTL.out]; omega)]
          obtain ⟨x, hx⟩ : ∃ x, x = ts.getD m [] := ⟨_, rfl⟩
          obtain ⟨y, hy⟩ : ∃ y, y = ts.getD (m + 1) [] := ⟨_, rfl⟩
          rw [← hx] at e0
          rw [← hy] at e1
          have HXY := hid (And.intro hx hy)
          clear hx hy
          go_wp2
          go_quiet (fail)
          go_wp2
          · have hxy : (x == y) = true := by assumption
            go_ret2
            refine ⟨below_drewN HB1.out _, .inl ?_⟩
            rw [newErr_twice (by rw [HL.out]; exact hn) (all_good HG.out (by rw [HL.out]; omega)) (by rw [← HTS.out, HL.out]; exact twice_mk (by rw [HTL.out]; exact hlt2) hlt2 (by rw [← HXY.out.1, ← HXY.out.2]; simpa using hxy))]
            exact ⟨by decide, rfl⟩
          · have hxy : (x == y) = false := by assumption
            go_roundw
            case rel => exact ⟨m + 1, .inl (by omega), by go_num, twice_step HTW.out (by rw [← HXY.out.1, ← HXY.out.2]; simpa using hxy), ownsRow_drewN HO1.out _, below_drewN HB1.out _⟩
            case measure => simp [intOf]; omega
        · have fin : twice ts n = false := twice_le (show n ≤ m + 1 by omega) HTW.out
          have HF := hid fin
          clear fin
          go_wp2_with (at_make; refine wpList_make_full _ rfl _ _ 50 rfl w.heap.size 62 i0 (.agg #[.int .u64 0]) 1 Try.underlying50 hi hz0 hz1 .i64 .i64 n n n rfl rfl rfl rfl (by rw [hz2]; omega) (by unfold maxLen; omega) HB1.out.size ?_; intro w3 hown3 hgrow3)
          go_ret2
          have hB3 : Below w.heap.size w w3 := HB1.out.grown hgrow3 HB1.out.size (fun _ e => by cases e)
          refine ⟨hB3.alloc hB3.size _, .inr ⟨newErr_none (by rw [HL.out]; exact hn) (all_good HG.out (by rw [HL.out]; omega)) (by rw [← HTS.out, HL.out]; exact HF.out), w3.heap.size, rfl, ?_⟩⟩
          rw [← HTS.out]
          have hl2 : zs.length = ts.length := by rw [HL.out, HTL.out]
          rw [hl2]
          obtain rfl : ts.length = n := HTL.out
          exact tally_mk (HO1.out.kept hgrow3 (.inr (by simp [Value.ownBlock]))) hown3 hB3.size hn (HTS.out ▸ rising_sorted zs (by rw [← HTS.out, hl2]; exact HF.out))
end Go.Proofs.Ytadoiplfglaonab
