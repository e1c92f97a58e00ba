/-
  TallyPlays: the law's walk.
-/
import Derived.Test.YtadoiplfglaonabAllc
import Derived.Test.YtadoiplfglaonabAwake
namespace Go.Proofs.Ytadoiplfglaonab
open Go.RowKit Go.Shelf Go.Deep Go.Lib

/-- A script that came in. -/
def ScrIn (w : World) (v : Value) : Prop := ∃ (o : Option Addr) (n cap : Nat), v = .slice o n cap ∧ n ≤ maxLen ∧ ∀ i, i < n → ∃ (g off d : Nat) (s : ByteArray) (m : Int), o = some ⟨g, off, none⟩ ∧ d < 256 ∧ s.size ≤ maxLen ∧ 0 ≤ m ∧ m < 18446744073709551616 ∧ w.cell? ⟨g, off + i * 3, none⟩ = some (.int .u8 d) ∧ w.cell? ⟨g, off + i * 3 + 1, none⟩ = some (.string s) ∧ w.cell? ⟨g, off + i * 3 + 2, none⟩ = some (.int .u64 m)
theorem ScrIn.below {w w' : World} {v : Value} (h : ScrIn w v) (hb : Below w.heap.size w w') : ScrIn w' v := by
  obtain ⟨o, n, cap, rfl, hl, hc⟩ := h
  refine ⟨o, n, cap, rfl, hl, fun i hi => ?_⟩
  obtain ⟨g, off, d, s, m, h1, h2, h3, h4, h5, c0, c1, c2⟩ := hc i hi
  have k := hb.block g (World.block_lt_of_cell? w _ c0)
  exact ⟨g, off, d, s, m, h1, h2, h3, h4, h5, (World.cell?_of_block k).trans c0, (World.cell?_of_block k).trans c1, (World.cell?_of_block k).trans c2⟩
theorem cutS_size (s : ByteArray) : (cutS s).size ≤ 45 := by
  unfold cutS
  split
  · assumption
  · simp [ByteArray.size_extract]; omega
theorem fewL_len (zs : List ByteArray) : (fewL zs).length ≤ 70 := by simp [fewL]; omega
theorem fewL_size (zs : List ByteArray) : ∀ s ∈ fewL zs, s.size ≤ maxLen := by
  intro s hs
  unfold fewL at hs
  obtain ⟨x, _, rfl⟩ := List.mem_map.1 hs
  exact Nat.le_trans (cutS_size x) (by decide)
/-- New at any names, at most 70. -/
theorem new_all (b off n cap : Nat) (zs : List ByteArray) (w : World) (hn : n ≤ 70) (hl : zs.length = n) (hs : ∀ s ∈ zs, s.size ≤ maxLen) (hc : ∀ j, j < n → w.cell? ⟨b, off + j, none⟩ = some (.string (zs.getD j ByteArray.empty))) :
    Calls Try.prog 8 #[.slice (some ⟨b, off, none⟩) n cap] w (NewPost zs w) := by
  by_cases h : n ≤ 64
  · exact new_any b off n cap zs w h hl hs hc
  · have hE := newErr_long (zs := zs) (by omega)
    exact (new_long _ n cap w (by omega) (by unfold maxLen; omega)).mono fun e w' ⟨h1, h2⟩ => ⟨by rw [← h2]; exact Below.refl _ _, .inl ⟨by rw [hE]; decide, by rw [hE]; exact h1⟩⟩
theorem TallyIn.lower {w : World} {B B' t : Nat} {vn : Value} {g : Nat} {ts : List (List UInt8)} {cs : List Int} (h : TallyIn w B t vn g ts cs) (hB : B' ≤ B) : TallyIn w B' t vn g ts cs := ⟨h.block, Nat.le_trans hB h.base, own_lower h.names hB, own_lower h.counts hB, h.size, h.few, h.rising⟩
/-- Both New's, at the same names. -/
theorem both_new {zs : List ByteArray} {w w1 w2 : World} {e1 e2 : Ending} (h1 : NewPost zs w e1 w1) (h2 : RefNewPost zs w1 e2 w2) : ∃ p v er ts, e1 = .returned (.tuple #[.pointer p, .int .i64 er]) ∧ e2 = .returned (.tuple #[v, .int .i64 er]) ∧ StateIn w2 w.heap.size (.pointer p) v ts ∧ Below w.heap.size w w2 ∧ (p = none ∧ ¬ er = 0 ∨ (∃ a, p = some a) ∧ er = 0) := by
  obtain ⟨hb1, h1⟩ := h1
  obtain ⟨hb2, h2⟩ := h2
  have hb := hb1.trans (hb2.mono hb1.size)
  rcases h1 with ⟨hE, rfl⟩ | ⟨hE, t, rfl, vn, g, hT⟩
  · rcases h2 with ⟨_, rfl⟩ | ⟨hE2, _⟩
    · exact ⟨none, _, _, [], rfl, rfl, .inl ⟨rfl, rfl, rfl⟩, hb, .inl ⟨rfl, hE⟩⟩
    · exact absurd hE2 hE
  · rcases h2 with ⟨hE2, _⟩ | ⟨_, v, rfl, hR⟩
    · exact absurd hE hE2
    · refine ⟨_, v, 0, sorted zs, rfl, rfl, .inr ⟨t, vn, g, List.replicate zs.length 0, rfl, ?_, ?_⟩, hb, .inr ⟨⟨_, rfl⟩, rfl⟩⟩
      · exact hT.grown (grown_of_below hb2)
      · exact ⟨own_lower hR.row hb1.size, hR.size⟩
theorem CRead.all {w : World} {u : Value} {ts : List (List UInt8)} {cs : List Int} {K : Nat} (h : CRead w u (ts.take K) (cs.take K)) (hK : ts.length ≤ K) : CRead w u ts cs := by
  rw [List.take_of_length_le hK] at h
  obtain ⟨o, cap, e, hf, hc⟩ := h
  refine ⟨o, cap, e, hf, fun i hi => ?_⟩
  obtain ⟨g, h1, h2, h3⟩ := hc i hi
  refine ⟨g, h1, h2, ?_⟩
  rw [h3]
  simp [List.getD, show i < K by omega]
theorem CRead.part {w : World} {o : Option Addr} {n cap : Nat} {ts : List (List UInt8)} {cs : List Int} {K : Nat} (h : CRead w (.slice o n cap) ts cs) (c' : Nat) : CRead w (.slice o (min n K) c') (ts.take K) (cs.take K) := by
  obtain ⟨o', cap', e, hf, hc⟩ := h
  simp only [Value.slice.injEq] at e
  obtain ⟨rfl, rfl, rfl⟩ := e
  refine ⟨o, c', by rw [List.length_take, Nat.min_comm], by rw [List.length_take]; omega, fun i hi => ?_⟩
  rw [List.length_take] at hi
  obtain ⟨g, h1, h2, h3⟩ := hc i (by omega)
  refine ⟨g, h1, ?_, ?_⟩
  · rw [h2]; simp [List.getD, show i < K by omega]
  · rw [h3]; simp [List.getD, show i < K by omega]
theorem run_append_nil9 (w : World) (g cap : Nat) (ty : TypeId) : (Builtin.append_ #[22, 22] ty #[.slice (some ⟨g, 0, none⟩) 0 cap, .slice none 0 0]).run Try.prog w = .ok (.slice (some ⟨g, 0, none⟩) 0 cap) w := by
  obtain ⟨i0, hi, hz0, hz1, hz2⟩ := info_parts info9
  simp [Builtin.append_, run_underlying Try.underlying22, sizeOf, typeInfo, hi, Builtin.lenOf, Builtin.firstCells, storeCells]
theorem wpList_append_nil {P : Program} {w : World} {ops : Array Oper} {rest : List Oper} {o : Oper} {a : Act} {Q : Exit → Act → World → Prop} (hgd : o.guard = none) (s x : Operand) (t : TypeId)
    (ho : o.op = .call { callee := .builtin .append, args := #[s, x], argTypes := #[t, t] }) (vs : Value) (hs : a.eval s = vs) (hx : a.eval x = .slice none 0 0) (hr : (Builtin.append_ #[t, t] o.type #[vs, .slice none 0 0]).run P w = .ok vs w)
    (h : wpList P ops Q rest (a.put o.dst vs) w) : wpList P ops Q (o :: rest) a w :=
  wpList_plain hgd fun _ hK => by
    unfold Oper.wp execOp
    simp only [ho, resolve, invoke, builtin, Sem.run_bind, Sem.run_pure, Result.andThen_ok, List.map_toArray, List.map_cons, List.map_nil, hs, hx, hr]
    exact hK _ _ h
/-- A row of names, in the walk's spelling. -/
theorem row_news {w : World} {B : Nat} {zs : List ByteArray} {g cap : Nat} (h : w.ownsRow B 9 1 (.slice (some ⟨g, 0, none⟩) zs.length cap) zs.length (zs.map Value.string)) : ∀ j u, (zs.map Value.string)[j]? = some u → w.cell? ((⟨g, 0, none⟩ : Addr).add j) = some u := fun j u hu => h.cells (g := g) rfl j u hu
theorem one_strs (zs : List ByteArray) : ∀ u ∈ zs.map Value.string, u.oneCell' = true := by
  intro u hu
  obtain ⟨x, _, rfl⟩ := List.mem_map.1 hu
  rfl
/-- The law's own copy of the names, in block gm, and its cells. -/
def MineIn (w : World) (B gm n cap : Nat) (zs : List ByteArray) : Prop := w.ownsRow B 9 1 (.slice (some ⟨gm, 0, none⟩) n cap) n (zs.map Value.string)

theorem new_shape {zs : List ByteArray} {w w' : World} {e : Ending} (h : NewPost zs w e w') : ∃ p er, e = .returned (.tuple #[.pointer p, .int .i64 er]) := by
  rcases h.2 with ⟨_, rfl⟩ | ⟨_, t, rfl, _⟩
  · exact ⟨_, _, rfl⟩
  · exact ⟨_, _, rfl⟩

set_option maxRecDepth 100000 in
set_option maxHeartbeats 8000000 in
theorem plays_row (v0 v1 : Value) (zs : List ByteArray) (st : Nat) (hst : st < 256) (w : World) (h0 : SRead w v0 zs) (h1 : ScrIn w v1) : Calls Try.prog 3 #[v0, v1, .int .u8 st] w fun e w' => e = .returned (.bool true) ∧ Below w.heap.size w w' := by
  obtain ⟨i9, hi9, hx0, hx1, hx2⟩ := info_parts info9
  have HS0 := hid h0
  have HS1 := hid h1
  clear h0 h1
  go_enter Try.func3, Try.ntmps3
  go_wp2_with (first
    | (go_at_call 6; refine (awake_true _).mono ?_; rintro e w1 ⟨rfl, hB1⟩; have HB1 := hid hB1; clear hB1)
    | fail)
  refine (few_any v0 zs _ (HS0.out.below HB1.out (Nat.le_refl _))).mono ?_
  rintro e w2 ⟨v2, rfl, hrow2, hb2⟩
  have HB2 := hid (HB1.out.trans (hb2.mono HB1.out.size))
  have HZL := hid (fewL_len zs)
  have HZS := hid (fewL_size zs)
  have h21 := hb2.size
  generalize fewL zs = zs' at hrow2 HZL HZS
  clear hb2 HS0
  have hB12 := HB1.out.size
  rcases hrow2.2 with ⟨rfl, hz⟩ | ⟨g2, c2, cur, rfl, hg2, hcur, _⟩
  · have hzn : zs' = [] := List.eq_nil_of_length_eq_zero hz
    subst hzn
    have HM0 : Hid (MineIn (w2.alloc (.cells #[] 9)) w1.heap.size w2.heap.size 0 0 []) := World.ownsRow_lit _ #[] 0 h21 (Nat.zero_le _) rfl
    go_wp2_with (first
      | (at_builtin; refine wpList_append_nil rfl _ _ _ rfl _ rfl rfl (run_append_nil9 _ _ _ _) ?_)
      | fail)
    have HM := HM0
    have HSR : Hid (SRead (w2.alloc (.cells #[] 9)) (.slice none 0 0) []) := ⟨none, 0, rfl, by simp, fun i hi => absurd hi (Nat.not_lt_zero i)⟩
    have HB3 := hid (HB2.out.alloc HB2.out.size (.cells #[] 9))
    have hgm : w2.heap.size < (w2.alloc (.cells #[] 9)).heap.size := by simp
    have hgl : w.heap.size ≤ w2.heap.size := HB2.out.size
    clear HM0 hrow2
    have HCM : Hid (∀ j, j < 0 → (w2.alloc (.cells #[] 9)).cell? ⟨w2.heap.size, 0 + j, none⟩ = some (.string (([] : List ByteArray).getD j ByteArray.empty))) := fun j hj => by
      exact absurd hj (Nat.not_lt_zero j)
    go_wp2_with (first
      | (go_at_call 8; refine (new_all w2.heap.size 0 0 0 ([] : List ByteArray) _ (by omega) rfl HZS.out HCM.out).mono ?_; rintro e w4 hn4; obtain ⟨p, er, he⟩ := new_shape hn4; subst he; have HN4 := hid hn4; clear hn4)
      | fail)
    refine (refNew_any _ ([] : List ByteArray) _ (HSR.out.below HN4.out.1 (Nat.le_refl _)) (by simp)).mono ?_
    rintro e w5 hn5
    obtain ⟨p', v, er', ts, e1, e2, hS, hb, hcase⟩ := both_new HN4.out hn5
    simp only [Ending.returned.injEq, Value.tuple.injEq, Array.mk.injEq, List.cons.injEq, Value.pointer.injEq, Value.int.injEq, and_true, true_and] at e1
    obtain ⟨rfl, rfl⟩ := e1
    subst e2
    obtain ⟨_, yv, cv, hv⟩ := hS.slice
    subst hv
    have HST := hid hS
    have hb5 := hb
    have HB5 := hid (HB3.out.trans (hb.mono HB3.out.size))
    have HM5 : Hid (∃ xs, w5.ownsRow w1.heap.size 9 1 (.slice (some ⟨w2.heap.size, 0, none⟩) 0 0) 0 xs) := ⟨_, srow_kept HM.out (grown_of_below hb) (by simp)⟩
    have hW3 : w.heap.size ≤ (w2.alloc (.cells #[] 9)).heap.size := HB3.out.size
    have HSC := HS1
    have HS64 := hid hS.few
    clear hS hb hn5 HN4 HSR HCM HM
    have HBZ : Hid ((w2.alloc (.cells #[] 9)).heap.size ≤ w5.heap.size) := hb5.size
    generalize (w2.alloc (.cells #[] 9)).heap.size = B at HST hgm hW3 HBZ
    obtain ⟨N, hN⟩ : ∃ N, N = ts.length := ⟨_, rfl⟩
    have HNT := hid hN
    rw [← hN] at HST ⊢
    rw [← hN] at HS64
    have h64 := HS64.out
    clear hN HS64
    obtain ⟨o1, n1, cap1, hv1, hn1, hsc⟩ := HSC.out
    subst hv1
    have HC1 := hid hsc
    unfold maxLen at hn1
    clear hsc HSC HS1 HB3 hb5
    rcases hcase with ⟨rfl, hez⟩ | ⟨⟨a, rfl⟩, rfl⟩
    · have hez2 : (er != 0) = true := by simpa using hez
      obtain ⟨rfl, rfl, rfl⟩ : yv = none ∧ N = 0 ∧ cv = 0 := by
        rcases HST.out with ⟨_, h2, _⟩ | ⟨t, vn, g, cs, h2, _⟩
        · simpa using h2
        · simp at h2
      obtain ⟨KK, hKK⟩ : ∃ KK : Nat, KK = 1 + st % 5 := ⟨_, rfl⟩
      have HKE := hid (show (1 : Int) + (st : Int) % 5 = (KK : Int) by omega)
      have hK1 : 1 ≤ KK := by omega
      have hK5 : KK ≤ 5 := by omega
      clear hKK
      obtain ⟨M, hMN⟩ : ∃ M, M = min 0 KK := ⟨_, rfl⟩
      have HMI := hid (show min (0 : Int) (KK : Int) = 0 by omega)
      obtain rfl : M = 0 := by omega
      have HMN := hid hMN
      clear hMN
      go_wp2
      go_loopw [45] (fun i wr => ∃ k : Nat, k ≤ 0 ∧ i = .int .i64 k ∧ Hid (∃ xs, wr.ownsRow w1.heap.size 9 1 (.slice (some ⟨w2.heap.size, 0, none⟩) 0 0) 0 xs) ∧ Hid (StateIn wr B (.pointer none) (.slice none 0 0) ts) ∧ Hid (Below w.heap.size w wr) ∧ Hid (B ≤ wr.heap.size)) (fun i _ => 0 - (intOf i).toNat)
      case atStart => exact ⟨0, Nat.zero_le _, rfl, HM5, HST, HB5, HBZ⟩
      case round =>
        obtain ⟨k, hk, rfl, HMK, HSK, HBK, HZK⟩ := hrel
        by_cases hlt : k < 0
        · exact absurd hlt (Nat.not_lt_zero k)
        · clear HMK HM5 HST HB5
          go_wp2
          go_loopw [54] (fun i wr => ∃ k : Nat, k ≤ n1 ∧ i = .int .i64 k ∧ Hid (StateIn wr B (.pointer none) (.slice none 0 0) ts) ∧ Hid (Below w.heap.size w wr) ∧ Hid (B ≤ wr.heap.size)) (fun i _ => n1 - (intOf i).toNat)
          case atStart => exact ⟨0, Nat.zero_le _, rfl, HSK, HBK, HZK⟩
          case round =>
            obtain ⟨q, hq, rfl, HSQ, HBQ, HZQ⟩ := hrel
            by_cases hlt2 : q < n1
            · obtain ⟨g3, off3, d, s, m, rfl, hd, hs, hm0, hm1, c0, c1, c2⟩ := HC1.out q hlt2
              have kb := HBQ.out.block g3 (World.block_lt_of_cell? w _ c0)
              have c0' := (World.cell?_of_block (a := ⟨g3, off3 + q * 3, none⟩) kb).trans c0
              have c1' := (World.cell?_of_block (a := ⟨g3, off3 + q * 3 + 1, none⟩) kb).trans c1
              have c2' := (World.cell?_of_block (a := ⟨g3, off3 + q * 3 + 2, none⟩) kb).trans c2
              have hg3 : g3 < wr.heap.size := World.block_lt_of_cell? wr _ c0'
              have HSA := hid (HSQ.out.grown (World.grownBy_alloc wr (.cells #[.int .u8 d, .string s, .int .u64 m] 35) none))
              have HBA := hid (HBQ.out.alloc HBQ.out.size (.cells #[.int .u8 d, .string s, .int .u64 m] 35))
              have HZA : Hid (B ≤ (wr.alloc (.cells #[.int .u8 d, .string s, .int .u64 m] 35)).heap.size) := by have := HZQ.out; simp [Hid]; omega
              clear kb c0 c1 c2 HC1
              by_cases h40 : 40 ≤ q
              · go_wp2_with fail
                have HSF := HSA
                have HBF := HBA
                clear HSA HBA HZA HSQ HBQ HZQ
                rw [HKE.out]
                have hM := HMI.out
                refine wp_region_held_drew (S := fun _ => True) (by kernel_rfl) trivial (fun hHeld => ?_)
                refine takeD (i := 0) (v := ?_) 78 rfl rfl (by kernel_rfl) (by kernel_rfl) (by kernel_rfl) (fun _ _ _ h => h) (by assumption) (Or.inl ⟨by rfl, ?_⟩) ?_
                rotate_left
                · intro w hSw
                  (try dsimp only at hSw)
                  go_simp
                  try with_reducible rfl
                simp only [List.setIfInBounds_toArray, List.set_cons_zero, List.set_cons_succ]
                refine takeD (i := 1) (v := ?_) 79 rfl rfl (by kernel_rfl) (by kernel_rfl) (by kernel_rfl) (fun _ _ _ h => h) (by assumption) (Or.inl ⟨by rfl, ?_⟩) ?_
                rotate_left
                · intro w hSw
                  (try dsimp only at hSw)
                  go_simp
                  try with_reducible rfl
                simp only [List.setIfInBounds_toArray, List.set_cons_zero, List.set_cons_succ]
                refine takeD (i := 3) (v := ?_) 81 rfl rfl (by kernel_rfl) (by kernel_rfl) (by kernel_rfl) (fun _ _ _ h => h) (by assumption) (Or.inl ⟨by rfl, ?_⟩) ?_
                rotate_left
                · intro w hSw
                  (try dsimp only at hSw)
                  go_simp
                  try with_reducible rfl
                simp only [List.setIfInBounds_toArray, List.set_cons_zero, List.set_cons_succ]
                refine takeD (i := 4) (v := ?_) 82 rfl rfl (by kernel_rfl) (by kernel_rfl) (by kernel_rfl) (fun _ _ _ h => h) (by assumption) (Or.inl ⟨by rfl, ?_⟩) ?_
                rotate_left
                · intro w hSw
                  (try dsimp only at hSw)
                  go_simp
                  try with_reducible rfl
                simp only [List.setIfInBounds_toArray, List.set_cons_zero, List.set_cons_succ]
                refine takeD (i := 5) (v := ?_) 83 rfl rfl (by kernel_rfl) (by kernel_rfl) (by kernel_rfl) (fun _ _ _ h => h) (by assumption) (Or.inl ⟨by rfl, ?_⟩) ?_
                rotate_left
                · intro w hSw
                  (try dsimp only at hSw)
                  go_simp
                  try with_reducible rfl
                simp only [List.setIfInBounds_toArray, List.set_cons_zero, List.set_cons_succ]
                refine takeD (i := 6) (v := ?_) 84 rfl rfl (by kernel_rfl) (by kernel_rfl) (by kernel_rfl) (fun _ _ _ h => h) (by assumption) (Or.inl ⟨by rfl, ?_⟩) ?_
                rotate_left
                · intro w hSw
                  (try dsimp only at hSw)
                  go_simp
                  try with_reducible rfl
                simp only [List.setIfInBounds_toArray, List.set_cons_zero, List.set_cons_succ]
                refine takeD (i := 7) (v := .int .i64 0) 85 rfl rfl (by kernel_rfl) (by kernel_rfl) (by kernel_rfl) (fun _ _ _ h => h) (by assumption) (Or.inl ⟨by rfl, ?_⟩) ?_
                · intro w hSw
                  go_simp
                  first | done | (simp only [hM]) | (rw [hM]) | omega
                simp only [List.setIfInBounds_toArray, List.set_cons_zero, List.set_cons_succ]
                refine takeD (i := 8) (v := ?_) 86 rfl rfl (by kernel_rfl) (by kernel_rfl) (by kernel_rfl) (fun _ _ _ h => h) (by assumption) (Or.inl ⟨by rfl, ?_⟩) ?_
                rotate_left
                · intro w hSw
                  (try dsimp only at hSw)
                  go_simp
                  try with_reducible rfl
                simp only [List.setIfInBounds_toArray, List.set_cons_zero, List.set_cons_succ]
                refine wpAnyH_ready (rs := [2]) (by kernel_rfl) (by simp) ?_
                refine AllReadyH.cons (by simp only [List.getElem?_toArray, List.getElem?_cons_succ, List.getElem?_cons_zero]; rfl) (fun K hK => ?_) AllReadyH.nil
                go_simp
                refine (all_any KK hK1 (by omega) (HSF.out.grown (grown_drw _))).mono ?_
                rintro e w7 ⟨u, cs, rfl, hcu, hcv, hs7, hb7⟩
                have HCU := hid hcu
                have HCV := hid (hcv.part (K := KK) 0)
                rw [← HMN.out] at HCV
                have HB7 := hid (HBF.out.drew.trans (hb7.mono HBF.out.size))
                clear hcu hcv hs7 hb7
                refine hK.out _ _ trivial (fun hHeldN => ?_)
                clear hK K hHeldN
                (try simp only [Act.put, List.setIfInBounds_toArray, List.set_cons_zero, List.set_cons_succ])
                refine wpAnyH_ready (rs := [9]) (by kernel_rfl) (by simp) ?_
                refine AllReadyH.cons (by simp only [List.getElem?_toArray, List.getElem?_cons_succ, List.getElem?_cons_zero]; rfl) (fun K hK => ?_) AllReadyH.nil
                go_simp
                refine (same_true _ _ _ _ _ HCU.out HCV.out).mono ?_
                rintro e w8 ⟨rfl, q8, rfl⟩
                refine hK.out _ _ trivial (fun hHeldN => ?_)
                clear hK K hHeldN
                (try simp only [Act.put, List.setIfInBounds_toArray, List.set_cons_zero, List.set_cons_succ])
                refine takeD (i := 10) (v := ?_) 6 rfl rfl (by kernel_rfl) (by kernel_rfl) (by kernel_rfl) (fun _ _ _ h => h) (by assumption) (Or.inl ⟨by rfl, ?_⟩) ?_
                rotate_left
                · intro w hSw
                  (try dsimp only at hSw)
                  go_simp
                  try with_reducible rfl
                simp only [List.setIfInBounds_toArray, List.set_cons_zero, List.set_cons_succ]
                refine wpAnyH_done (by kernel_rfl) ?_ _
                go_wp2
                go_ret
                exact ⟨rfl, below_drewN HB7.out _⟩
              · have HDO := hid (do_any d hd s hs m hm0 hm1 HSA.out HZA.out)
                clear HSQ HBQ HZQ
                go_wp2_with (first
                  | (go_at_call 10; refine HDO.out.mono ?_; rintro e w6 ⟨rfl, hs6, hb6⟩; have HS6 := hid hs6; have HB6 := hid (HBA.out.trans (hb6.mono hW3)); have HZ6 := hid (Nat.le_trans HZA.out hb6.size); clear hs6 hb6 HDO HSA HBA HZA)
                  | (go_at_call 12; refine (all_any 1000 (by omega) (by omega) HS6.out).mono ?_; rintro e w7 ⟨u, cs, rfl, hcu, hcv, hs7, hb7⟩; have HCU := hid (hcu.all (by have := HNT.out; omega)); have HCV := hid hcv; have HS7 := hid hs7; have HB7 := hid (HB6.out.trans (hb7.mono HB6.out.size)); have HZ7 := hid (Nat.le_trans HZ6.out hb7.size); clear hcu hcv hs7 hb7 HS6 HB6 HZ6)
                  | (go_at_call 11; refine (same_true _ _ ts cs _ HCU.out HCV.out).mono ?_; rintro e w8 ⟨rfl, q8, rfl⟩)
                  | fail)
                go_roundw
                case rel => exact ⟨q + 1, by omega, by go_num, HS7.out.grown (grown_dr _ _ none), below_drewN HB7.out _, HZ7.out⟩
                case measure => simp [intOf]; omega
            · clear HC1
              go_wp2_with fail
              have HSF := HSQ
              have HBF := HBQ
              clear HSQ HBQ HZQ
              rw [HKE.out]
              have hM := HMI.out
              refine wp_region_held_drew (S := fun _ => True) (by kernel_rfl) trivial (fun hHeld => ?_)
              refine takeD (i := 0) (v := ?_) 78 rfl rfl (by kernel_rfl) (by kernel_rfl) (by kernel_rfl) (fun _ _ _ h => h) (by assumption) (Or.inl ⟨by rfl, ?_⟩) ?_
              rotate_left
              · intro w hSw
                (try dsimp only at hSw)
                go_simp
                try with_reducible rfl
              simp only [List.setIfInBounds_toArray, List.set_cons_zero, List.set_cons_succ]
              refine takeD (i := 1) (v := ?_) 79 rfl rfl (by kernel_rfl) (by kernel_rfl) (by kernel_rfl) (fun _ _ _ h => h) (by assumption) (Or.inl ⟨by rfl, ?_⟩) ?_
              rotate_left
              · intro w hSw
                (try dsimp only at hSw)
                go_simp
                try with_reducible rfl
              simp only [List.setIfInBounds_toArray, List.set_cons_zero, List.set_cons_succ]
              refine takeD (i := 3) (v := ?_) 81 rfl rfl (by kernel_rfl) (by kernel_rfl) (by kernel_rfl) (fun _ _ _ h => h) (by assumption) (Or.inl ⟨by rfl, ?_⟩) ?_
              rotate_left
              · intro w hSw
                (try dsimp only at hSw)
                go_simp
                try with_reducible rfl
              simp only [List.setIfInBounds_toArray, List.set_cons_zero, List.set_cons_succ]
              refine takeD (i := 4) (v := ?_) 82 rfl rfl (by kernel_rfl) (by kernel_rfl) (by kernel_rfl) (fun _ _ _ h => h) (by assumption) (Or.inl ⟨by rfl, ?_⟩) ?_
              rotate_left
              · intro w hSw
                (try dsimp only at hSw)
                go_simp
                try with_reducible rfl
              simp only [List.setIfInBounds_toArray, List.set_cons_zero, List.set_cons_succ]
              refine takeD (i := 5) (v := ?_) 83 rfl rfl (by kernel_rfl) (by kernel_rfl) (by kernel_rfl) (fun _ _ _ h => h) (by assumption) (Or.inl ⟨by rfl, ?_⟩) ?_
              rotate_left
              · intro w hSw
                (try dsimp only at hSw)
                go_simp
                try with_reducible rfl
              simp only [List.setIfInBounds_toArray, List.set_cons_zero, List.set_cons_succ]
              refine takeD (i := 6) (v := ?_) 84 rfl rfl (by kernel_rfl) (by kernel_rfl) (by kernel_rfl) (fun _ _ _ h => h) (by assumption) (Or.inl ⟨by rfl, ?_⟩) ?_
              rotate_left
              · intro w hSw
                (try dsimp only at hSw)
                go_simp
                try with_reducible rfl
              simp only [List.setIfInBounds_toArray, List.set_cons_zero, List.set_cons_succ]
              refine takeD (i := 7) (v := .int .i64 0) 85 rfl rfl (by kernel_rfl) (by kernel_rfl) (by kernel_rfl) (fun _ _ _ h => h) (by assumption) (Or.inl ⟨by rfl, ?_⟩) ?_
              · intro w hSw
                go_simp
                first | done | (simp only [hM]) | (rw [hM]) | omega
              simp only [List.setIfInBounds_toArray, List.set_cons_zero, List.set_cons_succ]
              refine takeD (i := 8) (v := ?_) 86 rfl rfl (by kernel_rfl) (by kernel_rfl) (by kernel_rfl) (fun _ _ _ h => h) (by assumption) (Or.inl ⟨by rfl, ?_⟩) ?_
              rotate_left
              · intro w hSw
                (try dsimp only at hSw)
                go_simp
                try with_reducible rfl
              simp only [List.setIfInBounds_toArray, List.set_cons_zero, List.set_cons_succ]
              refine wpAnyH_ready (rs := [2]) (by kernel_rfl) (by simp) ?_
              refine AllReadyH.cons (by simp only [List.getElem?_toArray, List.getElem?_cons_succ, List.getElem?_cons_zero]; rfl) (fun K hK => ?_) AllReadyH.nil
              go_simp
              refine (all_any KK hK1 (by omega) (HSF.out.grown (grown_drw _))).mono ?_
              rintro e w7 ⟨u, cs, rfl, hcu, hcv, hs7, hb7⟩
              have HCU := hid hcu
              have HCV := hid (hcv.part (K := KK) 0)
              rw [← HMN.out] at HCV
              have HB7 := hid (HBF.out.drew.trans (hb7.mono HBF.out.size))
              clear hcu hcv hs7 hb7
              refine hK.out _ _ trivial (fun hHeldN => ?_)
              clear hK K hHeldN
              (try simp only [Act.put, List.setIfInBounds_toArray, List.set_cons_zero, List.set_cons_succ])
              refine wpAnyH_ready (rs := [9]) (by kernel_rfl) (by simp) ?_
              refine AllReadyH.cons (by simp only [List.getElem?_toArray, List.getElem?_cons_succ, List.getElem?_cons_zero]; rfl) (fun K hK => ?_) AllReadyH.nil
              go_simp
              refine (same_true _ _ _ _ _ HCU.out HCV.out).mono ?_
              rintro e w8 ⟨rfl, q8, rfl⟩
              refine hK.out _ _ trivial (fun hHeldN => ?_)
              clear hK K hHeldN
              (try simp only [Act.put, List.setIfInBounds_toArray, List.set_cons_zero, List.set_cons_succ])
              refine takeD (i := 10) (v := ?_) 6 rfl rfl (by kernel_rfl) (by kernel_rfl) (by kernel_rfl) (fun _ _ _ h => h) (by assumption) (Or.inl ⟨by rfl, ?_⟩) ?_
              rotate_left
              · intro w hSw
                (try dsimp only at hSw)
                go_simp
                try with_reducible rfl
              simp only [List.setIfInBounds_toArray, List.set_cons_zero, List.set_cons_succ]
              refine wpAnyH_done (by kernel_rfl) ?_ _
              go_wp2
              go_ret
              exact ⟨rfl, below_drewN HB7.out _⟩
    · have hsp : (yv = none ∧ N = 0 ∧ cv = 0) ∨ ∃ gl, yv = some ⟨gl, 0, none⟩ ∧ N ≤ cv ∧ cv ≤ maxLen := by
        rcases HST.out with ⟨h2, _, _⟩ | ⟨t, vn, g, cs, h2, h3⟩
        · simp at h2
        · rcases h3.ref.row.2 with ⟨h4, _⟩ | ⟨g', c', cur, h4, _, _, h5, h6, _⟩
          · exact .inl (by simpa using h4)
          · simp only [Value.slice.injEq] at h4
            obtain ⟨rfl, _, rfl⟩ := h4
            exact .inr ⟨g', rfl, by rw [HNT.out]; exact h5, h6⟩
      rcases hsp with ⟨rfl, rfl, rfl⟩ | ⟨gl, rfl, hcv1, hcv2⟩
      · obtain ⟨KK, hKK⟩ : ∃ KK : Nat, KK = 1 + st % 5 := ⟨_, rfl⟩
        have HKE := hid (show (1 : Int) + (st : Int) % 5 = (KK : Int) by omega)
        have hK1 : 1 ≤ KK := by omega
        have hK5 : KK ≤ 5 := by omega
        clear hKK
        obtain ⟨M, hMN⟩ : ∃ M, M = min 0 KK := ⟨_, rfl⟩
        have HMI := hid (show min (0 : Int) (KK : Int) = 0 by omega)
        obtain rfl : M = 0 := by omega
        have HMN := hid hMN
        clear hMN
        go_wp2
        go_loopw [45] (fun i wr => ∃ k : Nat, k ≤ 0 ∧ i = .int .i64 k ∧ Hid (∃ xs, wr.ownsRow w1.heap.size 9 1 (.slice (some ⟨w2.heap.size, 0, none⟩) 0 0) 0 xs) ∧ Hid (StateIn wr B (.pointer (some a)) (.slice none 0 0) ts) ∧ Hid (Below w.heap.size w wr) ∧ Hid (B ≤ wr.heap.size)) (fun i _ => 0 - (intOf i).toNat)
        case atStart => exact ⟨0, Nat.zero_le _, rfl, HM5, HST, HB5, HBZ⟩
        case round =>
          obtain ⟨k, hk, rfl, HMK, HSK, HBK, HZK⟩ := hrel
          by_cases hlt : k < 0
          · exact absurd hlt (Nat.not_lt_zero k)
          · clear HMK HM5 HST HB5
            go_wp2
            go_loopw [54] (fun i wr => ∃ k : Nat, k ≤ n1 ∧ i = .int .i64 k ∧ Hid (StateIn wr B (.pointer (some a)) (.slice none 0 0) ts) ∧ Hid (Below w.heap.size w wr) ∧ Hid (B ≤ wr.heap.size)) (fun i _ => n1 - (intOf i).toNat)
            case atStart => exact ⟨0, Nat.zero_le _, rfl, HSK, HBK, HZK⟩
            case round =>
              obtain ⟨q, hq, rfl, HSQ, HBQ, HZQ⟩ := hrel
              by_cases hlt2 : q < n1
              · obtain ⟨g3, off3, d, s, m, rfl, hd, hs, hm0, hm1, c0, c1, c2⟩ := HC1.out q hlt2
                have kb := HBQ.out.block g3 (World.block_lt_of_cell? w _ c0)
                have c0' := (World.cell?_of_block (a := ⟨g3, off3 + q * 3, none⟩) kb).trans c0
                have c1' := (World.cell?_of_block (a := ⟨g3, off3 + q * 3 + 1, none⟩) kb).trans c1
                have c2' := (World.cell?_of_block (a := ⟨g3, off3 + q * 3 + 2, none⟩) kb).trans c2
                have hg3 : g3 < wr.heap.size := World.block_lt_of_cell? wr _ c0'
                have HSA := hid (HSQ.out.grown (World.grownBy_alloc wr (.cells #[.int .u8 d, .string s, .int .u64 m] 35) none))
                have HBA := hid (HBQ.out.alloc HBQ.out.size (.cells #[.int .u8 d, .string s, .int .u64 m] 35))
                have HZA : Hid (B ≤ (wr.alloc (.cells #[.int .u8 d, .string s, .int .u64 m] 35)).heap.size) := by have := HZQ.out; simp [Hid]; omega
                clear kb c0 c1 c2 HC1
                by_cases h40 : 40 ≤ q
                · go_wp2_with fail
                  have HSF := HSA
                  have HBF := HBA
                  clear HSA HBA HZA HSQ HBQ HZQ
                  rw [HKE.out]
                  have hM := HMI.out
                  refine wp_region_held_drew (S := fun _ => True) (by kernel_rfl) trivial (fun hHeld => ?_)
                  refine takeD (i := 0) (v := ?_) 78 rfl rfl (by kernel_rfl) (by kernel_rfl) (by kernel_rfl) (fun _ _ _ h => h) (by assumption) (Or.inl ⟨by rfl, ?_⟩) ?_
                  rotate_left
                  · intro w hSw
                    (try dsimp only at hSw)
                    go_simp
                    try with_reducible rfl
                  simp only [List.setIfInBounds_toArray, List.set_cons_zero, List.set_cons_succ]
                  refine takeD (i := 1) (v := ?_) 79 rfl rfl (by kernel_rfl) (by kernel_rfl) (by kernel_rfl) (fun _ _ _ h => h) (by assumption) (Or.inl ⟨by rfl, ?_⟩) ?_
                  rotate_left
                  · intro w hSw
                    (try dsimp only at hSw)
                    go_simp
                    try with_reducible rfl
                  simp only [List.setIfInBounds_toArray, List.set_cons_zero, List.set_cons_succ]
                  refine takeD (i := 3) (v := ?_) 81 rfl rfl (by kernel_rfl) (by kernel_rfl) (by kernel_rfl) (fun _ _ _ h => h) (by assumption) (Or.inl ⟨by rfl, ?_⟩) ?_
                  rotate_left
                  · intro w hSw
                    (try dsimp only at hSw)
                    go_simp
                    try with_reducible rfl
                  simp only [List.setIfInBounds_toArray, List.set_cons_zero, List.set_cons_succ]
                  refine takeD (i := 4) (v := ?_) 82 rfl rfl (by kernel_rfl) (by kernel_rfl) (by kernel_rfl) (fun _ _ _ h => h) (by assumption) (Or.inl ⟨by rfl, ?_⟩) ?_
                  rotate_left
                  · intro w hSw
                    (try dsimp only at hSw)
                    go_simp
                    try with_reducible rfl
                  simp only [List.setIfInBounds_toArray, List.set_cons_zero, List.set_cons_succ]
                  refine takeD (i := 5) (v := ?_) 83 rfl rfl (by kernel_rfl) (by kernel_rfl) (by kernel_rfl) (fun _ _ _ h => h) (by assumption) (Or.inl ⟨by rfl, ?_⟩) ?_
                  rotate_left
                  · intro w hSw
                    (try dsimp only at hSw)
                    go_simp
                    try with_reducible rfl
                  simp only [List.setIfInBounds_toArray, List.set_cons_zero, List.set_cons_succ]
                  refine takeD (i := 6) (v := ?_) 84 rfl rfl (by kernel_rfl) (by kernel_rfl) (by kernel_rfl) (fun _ _ _ h => h) (by assumption) (Or.inl ⟨by rfl, ?_⟩) ?_
                  rotate_left
                  · intro w hSw
                    (try dsimp only at hSw)
                    go_simp
                    try with_reducible rfl
                  simp only [List.setIfInBounds_toArray, List.set_cons_zero, List.set_cons_succ]
                  refine takeD (i := 7) (v := .int .i64 0) 85 rfl rfl (by kernel_rfl) (by kernel_rfl) (by kernel_rfl) (fun _ _ _ h => h) (by assumption) (Or.inl ⟨by rfl, ?_⟩) ?_
                  · intro w hSw
                    go_simp
                    first | done | (simp only [hM]) | (rw [hM]) | omega
                  simp only [List.setIfInBounds_toArray, List.set_cons_zero, List.set_cons_succ]
                  refine takeD (i := 8) (v := ?_) 86 rfl rfl (by kernel_rfl) (by kernel_rfl) (by kernel_rfl) (fun _ _ _ h => h) (by assumption) (Or.inl ⟨by rfl, ?_⟩) ?_
                  rotate_left
                  · intro w hSw
                    (try dsimp only at hSw)
                    go_simp
                    try with_reducible rfl
                  simp only [List.setIfInBounds_toArray, List.set_cons_zero, List.set_cons_succ]
                  refine wpAnyH_ready (rs := [2]) (by kernel_rfl) (by simp) ?_
                  refine AllReadyH.cons (by simp only [List.getElem?_toArray, List.getElem?_cons_succ, List.getElem?_cons_zero]; rfl) (fun K hK => ?_) AllReadyH.nil
                  go_simp
                  refine (all_any KK hK1 (by omega) (HSF.out.grown (grown_drw _))).mono ?_
                  rintro e w7 ⟨u, cs, rfl, hcu, hcv, hs7, hb7⟩
                  have HCU := hid hcu
                  have HCV := hid (hcv.part (K := KK) 0)
                  rw [← HMN.out] at HCV
                  have HB7 := hid (HBF.out.drew.trans (hb7.mono HBF.out.size))
                  clear hcu hcv hs7 hb7
                  refine hK.out _ _ trivial (fun hHeldN => ?_)
                  clear hK K hHeldN
                  (try simp only [Act.put, List.setIfInBounds_toArray, List.set_cons_zero, List.set_cons_succ])
                  refine wpAnyH_ready (rs := [9]) (by kernel_rfl) (by simp) ?_
                  refine AllReadyH.cons (by simp only [List.getElem?_toArray, List.getElem?_cons_succ, List.getElem?_cons_zero]; rfl) (fun K hK => ?_) AllReadyH.nil
                  go_simp
                  refine (same_true _ _ _ _ _ HCU.out HCV.out).mono ?_
                  rintro e w8 ⟨rfl, q8, rfl⟩
                  refine hK.out _ _ trivial (fun hHeldN => ?_)
                  clear hK K hHeldN
                  (try simp only [Act.put, List.setIfInBounds_toArray, List.set_cons_zero, List.set_cons_succ])
                  refine takeD (i := 10) (v := ?_) 6 rfl rfl (by kernel_rfl) (by kernel_rfl) (by kernel_rfl) (fun _ _ _ h => h) (by assumption) (Or.inl ⟨by rfl, ?_⟩) ?_
                  rotate_left
                  · intro w hSw
                    (try dsimp only at hSw)
                    go_simp
                    try with_reducible rfl
                  simp only [List.setIfInBounds_toArray, List.set_cons_zero, List.set_cons_succ]
                  refine wpAnyH_done (by kernel_rfl) ?_ _
                  go_wp2
                  go_ret
                  exact ⟨rfl, below_drewN HB7.out _⟩
                · have HDO := hid (do_any d hd s hs m hm0 hm1 HSA.out HZA.out)
                  clear HSQ HBQ HZQ
                  go_wp2_with (first
                    | (go_at_call 10; refine HDO.out.mono ?_; rintro e w6 ⟨rfl, hs6, hb6⟩; have HS6 := hid hs6; have HB6 := hid (HBA.out.trans (hb6.mono hW3)); have HZ6 := hid (Nat.le_trans HZA.out hb6.size); clear hs6 hb6 HDO HSA HBA HZA)
                    | (go_at_call 12; refine (all_any 1000 (by omega) (by omega) HS6.out).mono ?_; rintro e w7 ⟨u, cs, rfl, hcu, hcv, hs7, hb7⟩; have HCU := hid (hcu.all (by have := HNT.out; omega)); have HCV := hid hcv; have HS7 := hid hs7; have HB7 := hid (HB6.out.trans (hb7.mono HB6.out.size)); have HZ7 := hid (Nat.le_trans HZ6.out hb7.size); clear hcu hcv hs7 hb7 HS6 HB6 HZ6)
                    | (go_at_call 11; refine (same_true _ _ ts cs _ HCU.out HCV.out).mono ?_; rintro e w8 ⟨rfl, q8, rfl⟩)
                    | fail)
                  go_roundw
                  case rel => exact ⟨q + 1, by omega, by go_num, HS7.out.grown (grown_dr _ _ none), below_drewN HB7.out _, HZ7.out⟩
                  case measure => simp [intOf]; omega
              · clear HC1
                go_wp2_with fail
                have HSF := HSQ
                have HBF := HBQ
                clear HSQ HBQ HZQ
                rw [HKE.out]
                have hM := HMI.out
                refine wp_region_held_drew (S := fun _ => True) (by kernel_rfl) trivial (fun hHeld => ?_)
                refine takeD (i := 0) (v := ?_) 78 rfl rfl (by kernel_rfl) (by kernel_rfl) (by kernel_rfl) (fun _ _ _ h => h) (by assumption) (Or.inl ⟨by rfl, ?_⟩) ?_
                rotate_left
                · intro w hSw
                  (try dsimp only at hSw)
                  go_simp
                  try with_reducible rfl
                simp only [List.setIfInBounds_toArray, List.set_cons_zero, List.set_cons_succ]
                refine takeD (i := 1) (v := ?_) 79 rfl rfl (by kernel_rfl) (by kernel_rfl) (by kernel_rfl) (fun _ _ _ h => h) (by assumption) (Or.inl ⟨by rfl, ?_⟩) ?_
                rotate_left
                · intro w hSw
                  (try dsimp only at hSw)
                  go_simp
                  try with_reducible rfl
                simp only [List.setIfInBounds_toArray, List.set_cons_zero, List.set_cons_succ]
                refine takeD (i := 3) (v := ?_) 81 rfl rfl (by kernel_rfl) (by kernel_rfl) (by kernel_rfl) (fun _ _ _ h => h) (by assumption) (Or.inl ⟨by rfl, ?_⟩) ?_
                rotate_left
                · intro w hSw
                  (try dsimp only at hSw)
                  go_simp
                  try with_reducible rfl
                simp only [List.setIfInBounds_toArray, List.set_cons_zero, List.set_cons_succ]
                refine takeD (i := 4) (v := ?_) 82 rfl rfl (by kernel_rfl) (by kernel_rfl) (by kernel_rfl) (fun _ _ _ h => h) (by assumption) (Or.inl ⟨by rfl, ?_⟩) ?_
                rotate_left
                · intro w hSw
                  (try dsimp only at hSw)
                  go_simp
                  try with_reducible rfl
                simp only [List.setIfInBounds_toArray, List.set_cons_zero, List.set_cons_succ]
                refine takeD (i := 5) (v := ?_) 83 rfl rfl (by kernel_rfl) (by kernel_rfl) (by kernel_rfl) (fun _ _ _ h => h) (by assumption) (Or.inl ⟨by rfl, ?_⟩) ?_
                rotate_left
                · intro w hSw
                  (try dsimp only at hSw)
                  go_simp
                  try with_reducible rfl
                simp only [List.setIfInBounds_toArray, List.set_cons_zero, List.set_cons_succ]
                refine takeD (i := 6) (v := ?_) 84 rfl rfl (by kernel_rfl) (by kernel_rfl) (by kernel_rfl) (fun _ _ _ h => h) (by assumption) (Or.inl ⟨by rfl, ?_⟩) ?_
                rotate_left
                · intro w hSw
                  (try dsimp only at hSw)
                  go_simp
                  try with_reducible rfl
                simp only [List.setIfInBounds_toArray, List.set_cons_zero, List.set_cons_succ]
                refine takeD (i := 7) (v := .int .i64 0) 85 rfl rfl (by kernel_rfl) (by kernel_rfl) (by kernel_rfl) (fun _ _ _ h => h) (by assumption) (Or.inl ⟨by rfl, ?_⟩) ?_
                · intro w hSw
                  go_simp
                  first | done | (simp only [hM]) | (rw [hM]) | omega
                simp only [List.setIfInBounds_toArray, List.set_cons_zero, List.set_cons_succ]
                refine takeD (i := 8) (v := ?_) 86 rfl rfl (by kernel_rfl) (by kernel_rfl) (by kernel_rfl) (fun _ _ _ h => h) (by assumption) (Or.inl ⟨by rfl, ?_⟩) ?_
                rotate_left
                · intro w hSw
                  (try dsimp only at hSw)
                  go_simp
                  try with_reducible rfl
                simp only [List.setIfInBounds_toArray, List.set_cons_zero, List.set_cons_succ]
                refine wpAnyH_ready (rs := [2]) (by kernel_rfl) (by simp) ?_
                refine AllReadyH.cons (by simp only [List.getElem?_toArray, List.getElem?_cons_succ, List.getElem?_cons_zero]; rfl) (fun K hK => ?_) AllReadyH.nil
                go_simp
                refine (all_any KK hK1 (by omega) (HSF.out.grown (grown_drw _))).mono ?_
                rintro e w7 ⟨u, cs, rfl, hcu, hcv, hs7, hb7⟩
                have HCU := hid hcu
                have HCV := hid (hcv.part (K := KK) 0)
                rw [← HMN.out] at HCV
                have HB7 := hid (HBF.out.drew.trans (hb7.mono HBF.out.size))
                clear hcu hcv hs7 hb7
                refine hK.out _ _ trivial (fun hHeldN => ?_)
                clear hK K hHeldN
                (try simp only [Act.put, List.setIfInBounds_toArray, List.set_cons_zero, List.set_cons_succ])
                refine wpAnyH_ready (rs := [9]) (by kernel_rfl) (by simp) ?_
                refine AllReadyH.cons (by simp only [List.getElem?_toArray, List.getElem?_cons_succ, List.getElem?_cons_zero]; rfl) (fun K hK => ?_) AllReadyH.nil
                go_simp
                refine (same_true _ _ _ _ _ HCU.out HCV.out).mono ?_
                rintro e w8 ⟨rfl, q8, rfl⟩
                refine hK.out _ _ trivial (fun hHeldN => ?_)
                clear hK K hHeldN
                (try simp only [Act.put, List.setIfInBounds_toArray, List.set_cons_zero, List.set_cons_succ])
                refine takeD (i := 10) (v := ?_) 6 rfl rfl (by kernel_rfl) (by kernel_rfl) (by kernel_rfl) (fun _ _ _ h => h) (by assumption) (Or.inl ⟨by rfl, ?_⟩) ?_
                rotate_left
                · intro w hSw
                  (try dsimp only at hSw)
                  go_simp
                  try with_reducible rfl
                simp only [List.setIfInBounds_toArray, List.set_cons_zero, List.set_cons_succ]
                refine wpAnyH_done (by kernel_rfl) ?_ _
                go_wp2
                go_ret
                exact ⟨rfl, below_drewN HB7.out _⟩
      · unfold maxLen at hcv2
        obtain ⟨KK, hKK⟩ : ∃ KK : Nat, KK = 1 + st % 5 := ⟨_, rfl⟩
        have HKE := hid (show (1 : Int) + (st : Int) % 5 = (KK : Int) by omega)
        have hK1 : 1 ≤ KK := by omega
        have hK5 : KK ≤ 5 := by omega
        clear hKK
        obtain ⟨M, hMN⟩ : ∃ M, M = min N KK := ⟨_, rfl⟩
        have HMI := hid (show min (N : Int) (KK : Int) = (M : Int) by omega)
        have hMc : M ≤ cv := by omega
        have HMN := hid hMN
        clear hMN
        go_wp2
        go_loopw [45] (fun i wr => ∃ k : Nat, k ≤ 0 ∧ i = .int .i64 k ∧ Hid (∃ xs, wr.ownsRow w1.heap.size 9 1 (.slice (some ⟨w2.heap.size, 0, none⟩) 0 0) 0 xs) ∧ Hid (StateIn wr B (.pointer (some a)) (.slice (some ⟨gl, 0, none⟩) N cv) ts) ∧ Hid (Below w.heap.size w wr) ∧ Hid (B ≤ wr.heap.size)) (fun i _ => 0 - (intOf i).toNat)
        case atStart => exact ⟨0, Nat.zero_le _, rfl, HM5, HST, HB5, HBZ⟩
        case round =>
          obtain ⟨k, hk, rfl, HMK, HSK, HBK, HZK⟩ := hrel
          by_cases hlt : k < 0
          · exact absurd hlt (Nat.not_lt_zero k)
          · clear HMK HM5 HST HB5
            go_wp2
            go_loopw [54] (fun i wr => ∃ k : Nat, k ≤ n1 ∧ i = .int .i64 k ∧ Hid (StateIn wr B (.pointer (some a)) (.slice (some ⟨gl, 0, none⟩) N cv) ts) ∧ Hid (Below w.heap.size w wr) ∧ Hid (B ≤ wr.heap.size)) (fun i _ => n1 - (intOf i).toNat)
            case atStart => exact ⟨0, Nat.zero_le _, rfl, HSK, HBK, HZK⟩
            case round =>
              obtain ⟨q, hq, rfl, HSQ, HBQ, HZQ⟩ := hrel
              by_cases hlt2 : q < n1
              · obtain ⟨g3, off3, d, s, m, rfl, hd, hs, hm0, hm1, c0, c1, c2⟩ := HC1.out q hlt2
                have kb := HBQ.out.block g3 (World.block_lt_of_cell? w _ c0)
                have c0' := (World.cell?_of_block (a := ⟨g3, off3 + q * 3, none⟩) kb).trans c0
                have c1' := (World.cell?_of_block (a := ⟨g3, off3 + q * 3 + 1, none⟩) kb).trans c1
                have c2' := (World.cell?_of_block (a := ⟨g3, off3 + q * 3 + 2, none⟩) kb).trans c2
                have hg3 : g3 < wr.heap.size := World.block_lt_of_cell? wr _ c0'
                have HSA := hid (HSQ.out.grown (World.grownBy_alloc wr (.cells #[.int .u8 d, .string s, .int .u64 m] 35) none))
                have HBA := hid (HBQ.out.alloc HBQ.out.size (.cells #[.int .u8 d, .string s, .int .u64 m] 35))
                have HZA : Hid (B ≤ (wr.alloc (.cells #[.int .u8 d, .string s, .int .u64 m] 35)).heap.size) := by have := HZQ.out; simp [Hid]; omega
                clear kb c0 c1 c2 HC1
                by_cases h40 : 40 ≤ q
                · go_wp2_with fail
                  have HSF := HSA
                  have HBF := HBA
                  clear HSA HBA HZA HSQ HBQ HZQ
                  rw [HKE.out]
                  have hM := HMI.out
                  refine wp_region_held_drew (S := fun _ => True) (by kernel_rfl) trivial (fun hHeld => ?_)
                  refine takeD (i := 0) (v := ?_) 78 rfl rfl (by kernel_rfl) (by kernel_rfl) (by kernel_rfl) (fun _ _ _ h => h) (by assumption) (Or.inl ⟨by rfl, ?_⟩) ?_
                  rotate_left
                  · intro w hSw
                    (try dsimp only at hSw)
                    go_simp
                    try with_reducible rfl
                  simp only [List.setIfInBounds_toArray, List.set_cons_zero, List.set_cons_succ]
                  refine takeD (i := 1) (v := ?_) 79 rfl rfl (by kernel_rfl) (by kernel_rfl) (by kernel_rfl) (fun _ _ _ h => h) (by assumption) (Or.inl ⟨by rfl, ?_⟩) ?_
                  rotate_left
                  · intro w hSw
                    (try dsimp only at hSw)
                    go_simp
                    try with_reducible rfl
                  simp only [List.setIfInBounds_toArray, List.set_cons_zero, List.set_cons_succ]
                  refine takeD (i := 3) (v := ?_) 81 rfl rfl (by kernel_rfl) (by kernel_rfl) (by kernel_rfl) (fun _ _ _ h => h) (by assumption) (Or.inl ⟨by rfl, ?_⟩) ?_
                  rotate_left
                  · intro w hSw
                    (try dsimp only at hSw)
                    go_simp
                    try with_reducible rfl
                  simp only [List.setIfInBounds_toArray, List.set_cons_zero, List.set_cons_succ]
                  refine takeD (i := 4) (v := ?_) 82 rfl rfl (by kernel_rfl) (by kernel_rfl) (by kernel_rfl) (fun _ _ _ h => h) (by assumption) (Or.inl ⟨by rfl, ?_⟩) ?_
                  rotate_left
                  · intro w hSw
                    (try dsimp only at hSw)
                    go_simp
                    try with_reducible rfl
                  simp only [List.setIfInBounds_toArray, List.set_cons_zero, List.set_cons_succ]
                  refine takeD (i := 5) (v := ?_) 83 rfl rfl (by kernel_rfl) (by kernel_rfl) (by kernel_rfl) (fun _ _ _ h => h) (by assumption) (Or.inl ⟨by rfl, ?_⟩) ?_
                  rotate_left
                  · intro w hSw
                    (try dsimp only at hSw)
                    go_simp
                    try with_reducible rfl
                  simp only [List.setIfInBounds_toArray, List.set_cons_zero, List.set_cons_succ]
                  refine takeD (i := 6) (v := ?_) 84 rfl rfl (by kernel_rfl) (by kernel_rfl) (by kernel_rfl) (fun _ _ _ h => h) (by assumption) (Or.inl ⟨by rfl, ?_⟩) ?_
                  rotate_left
                  · intro w hSw
                    (try dsimp only at hSw)
                    go_simp
                    try with_reducible rfl
                  simp only [List.setIfInBounds_toArray, List.set_cons_zero, List.set_cons_succ]
                  refine takeD (i := 7) (v := .int .i64 (M : Int)) 85 rfl rfl (by kernel_rfl) (by kernel_rfl) (by kernel_rfl) (fun _ _ _ h => h) (by assumption) (Or.inl ⟨by rfl, ?_⟩) ?_
                  · intro w hSw
                    go_simp
                    first | done | (simp only [hM]) | (rw [hM]) | omega
                  simp only [List.setIfInBounds_toArray, List.set_cons_zero, List.set_cons_succ]
                  refine takeD (i := 8) (v := ?_) 86 rfl rfl (by kernel_rfl) (by kernel_rfl) (by kernel_rfl) (fun _ _ _ h => h) (by assumption) (Or.inl ⟨by rfl, ?_⟩) ?_
                  rotate_left
                  · intro w hSw
                    (try dsimp only at hSw)
                    go_simp
                    try with_reducible rfl
                  simp only [List.setIfInBounds_toArray, List.set_cons_zero, List.set_cons_succ]
                  refine wpAnyH_ready (rs := [2]) (by kernel_rfl) (by simp) ?_
                  refine AllReadyH.cons (by simp only [List.getElem?_toArray, List.getElem?_cons_succ, List.getElem?_cons_zero]; rfl) (fun K hK => ?_) AllReadyH.nil
                  go_simp
                  refine (all_any KK hK1 (by omega) (HSF.out.grown (grown_drw _))).mono ?_
                  rintro e w7 ⟨u, cs, rfl, hcu, hcv, hs7, hb7⟩
                  have HCU := hid hcu
                  have HCV := hid (hcv.part (K := KK) cv)
                  rw [← HMN.out] at HCV
                  have HB7 := hid (HBF.out.drew.trans (hb7.mono HBF.out.size))
                  clear hcu hcv hs7 hb7
                  refine hK.out _ _ trivial (fun hHeldN => ?_)
                  clear hK K hHeldN
                  (try simp only [Act.put, List.setIfInBounds_toArray, List.set_cons_zero, List.set_cons_succ])
                  refine wpAnyH_ready (rs := [9]) (by kernel_rfl) (by simp) ?_
                  refine AllReadyH.cons (by simp only [List.getElem?_toArray, List.getElem?_cons_succ, List.getElem?_cons_zero]; rfl) (fun K hK => ?_) AllReadyH.nil
                  go_simp
                  refine (same_true _ _ _ _ _ HCU.out HCV.out).mono ?_
                  rintro e w8 ⟨rfl, q8, rfl⟩
                  refine hK.out _ _ trivial (fun hHeldN => ?_)
                  clear hK K hHeldN
                  (try simp only [Act.put, List.setIfInBounds_toArray, List.set_cons_zero, List.set_cons_succ])
                  refine takeD (i := 10) (v := ?_) 6 rfl rfl (by kernel_rfl) (by kernel_rfl) (by kernel_rfl) (fun _ _ _ h => h) (by assumption) (Or.inl ⟨by rfl, ?_⟩) ?_
                  rotate_left
                  · intro w hSw
                    (try dsimp only at hSw)
                    go_simp
                    try with_reducible rfl
                  simp only [List.setIfInBounds_toArray, List.set_cons_zero, List.set_cons_succ]
                  refine wpAnyH_done (by kernel_rfl) ?_ _
                  go_wp2
                  go_ret
                  exact ⟨rfl, below_drewN HB7.out _⟩
                · have HDO := hid (do_any d hd s hs m hm0 hm1 HSA.out HZA.out)
                  clear HSQ HBQ HZQ
                  go_wp2_with (first
                    | (go_at_call 10; refine HDO.out.mono ?_; rintro e w6 ⟨rfl, hs6, hb6⟩; have HS6 := hid hs6; have HB6 := hid (HBA.out.trans (hb6.mono hW3)); have HZ6 := hid (Nat.le_trans HZA.out hb6.size); clear hs6 hb6 HDO HSA HBA HZA)
                    | (go_at_call 12; refine (all_any 1000 (by omega) (by omega) HS6.out).mono ?_; rintro e w7 ⟨u, cs, rfl, hcu, hcv, hs7, hb7⟩; have HCU := hid (hcu.all (by have := HNT.out; omega)); have HCV := hid hcv; have HS7 := hid hs7; have HB7 := hid (HB6.out.trans (hb7.mono HB6.out.size)); have HZ7 := hid (Nat.le_trans HZ6.out hb7.size); clear hcu hcv hs7 hb7 HS6 HB6 HZ6)
                    | (go_at_call 11; refine (same_true _ _ ts cs _ HCU.out HCV.out).mono ?_; rintro e w8 ⟨rfl, q8, rfl⟩)
                    | fail)
                  go_roundw
                  case rel => exact ⟨q + 1, by omega, by go_num, HS7.out.grown (grown_dr _ _ none), below_drewN HB7.out _, HZ7.out⟩
                  case measure => simp [intOf]; omega
              · clear HC1
                go_wp2_with fail
                have HSF := HSQ
                have HBF := HBQ
                clear HSQ HBQ HZQ
                rw [HKE.out]
                have hM := HMI.out
                refine wp_region_held_drew (S := fun _ => True) (by kernel_rfl) trivial (fun hHeld => ?_)
                refine takeD (i := 0) (v := ?_) 78 rfl rfl (by kernel_rfl) (by kernel_rfl) (by kernel_rfl) (fun _ _ _ h => h) (by assumption) (Or.inl ⟨by rfl, ?_⟩) ?_
                rotate_left
                · intro w hSw
                  (try dsimp only at hSw)
                  go_simp
                  try with_reducible rfl
                simp only [List.setIfInBounds_toArray, List.set_cons_zero, List.set_cons_succ]
                refine takeD (i := 1) (v := ?_) 79 rfl rfl (by kernel_rfl) (by kernel_rfl) (by kernel_rfl) (fun _ _ _ h => h) (by assumption) (Or.inl ⟨by rfl, ?_⟩) ?_
                rotate_left
                · intro w hSw
                  (try dsimp only at hSw)
                  go_simp
                  try with_reducible rfl
                simp only [List.setIfInBounds_toArray, List.set_cons_zero, List.set_cons_succ]
                refine takeD (i := 3) (v := ?_) 81 rfl rfl (by kernel_rfl) (by kernel_rfl) (by kernel_rfl) (fun _ _ _ h => h) (by assumption) (Or.inl ⟨by rfl, ?_⟩) ?_
                rotate_left
                · intro w hSw
                  (try dsimp only at hSw)
                  go_simp
                  try with_reducible rfl
                simp only [List.setIfInBounds_toArray, List.set_cons_zero, List.set_cons_succ]
                refine takeD (i := 4) (v := ?_) 82 rfl rfl (by kernel_rfl) (by kernel_rfl) (by kernel_rfl) (fun _ _ _ h => h) (by assumption) (Or.inl ⟨by rfl, ?_⟩) ?_
                rotate_left
                · intro w hSw
                  (try dsimp only at hSw)
                  go_simp
                  try with_reducible rfl
                simp only [List.setIfInBounds_toArray, List.set_cons_zero, List.set_cons_succ]
                refine takeD (i := 5) (v := ?_) 83 rfl rfl (by kernel_rfl) (by kernel_rfl) (by kernel_rfl) (fun _ _ _ h => h) (by assumption) (Or.inl ⟨by rfl, ?_⟩) ?_
                rotate_left
                · intro w hSw
                  (try dsimp only at hSw)
                  go_simp
                  try with_reducible rfl
                simp only [List.setIfInBounds_toArray, List.set_cons_zero, List.set_cons_succ]
                refine takeD (i := 6) (v := ?_) 84 rfl rfl (by kernel_rfl) (by kernel_rfl) (by kernel_rfl) (fun _ _ _ h => h) (by assumption) (Or.inl ⟨by rfl, ?_⟩) ?_
                rotate_left
                · intro w hSw
                  (try dsimp only at hSw)
                  go_simp
                  try with_reducible rfl
                simp only [List.setIfInBounds_toArray, List.set_cons_zero, List.set_cons_succ]
                refine takeD (i := 7) (v := .int .i64 (M : Int)) 85 rfl rfl (by kernel_rfl) (by kernel_rfl) (by kernel_rfl) (fun _ _ _ h => h) (by assumption) (Or.inl ⟨by rfl, ?_⟩) ?_
                · intro w hSw
                  go_simp
                  first | done | (simp only [hM]) | (rw [hM]) | omega
                simp only [List.setIfInBounds_toArray, List.set_cons_zero, List.set_cons_succ]
                refine takeD (i := 8) (v := ?_) 86 rfl rfl (by kernel_rfl) (by kernel_rfl) (by kernel_rfl) (fun _ _ _ h => h) (by assumption) (Or.inl ⟨by rfl, ?_⟩) ?_
                rotate_left
                · intro w hSw
                  (try dsimp only at hSw)
                  go_simp
                  try with_reducible rfl
                simp only [List.setIfInBounds_toArray, List.set_cons_zero, List.set_cons_succ]
                refine wpAnyH_ready (rs := [2]) (by kernel_rfl) (by simp) ?_
                refine AllReadyH.cons (by simp only [List.getElem?_toArray, List.getElem?_cons_succ, List.getElem?_cons_zero]; rfl) (fun K hK => ?_) AllReadyH.nil
                go_simp
                refine (all_any KK hK1 (by omega) (HSF.out.grown (grown_drw _))).mono ?_
                rintro e w7 ⟨u, cs, rfl, hcu, hcv, hs7, hb7⟩
                have HCU := hid hcu
                have HCV := hid (hcv.part (K := KK) cv)
                rw [← HMN.out] at HCV
                have HB7 := hid (HBF.out.drew.trans (hb7.mono HBF.out.size))
                clear hcu hcv hs7 hb7
                refine hK.out _ _ trivial (fun hHeldN => ?_)
                clear hK K hHeldN
                (try simp only [Act.put, List.setIfInBounds_toArray, List.set_cons_zero, List.set_cons_succ])
                refine wpAnyH_ready (rs := [9]) (by kernel_rfl) (by simp) ?_
                refine AllReadyH.cons (by simp only [List.getElem?_toArray, List.getElem?_cons_succ, List.getElem?_cons_zero]; rfl) (fun K hK => ?_) AllReadyH.nil
                go_simp
                refine (same_true _ _ _ _ _ HCU.out HCV.out).mono ?_
                rintro e w8 ⟨rfl, q8, rfl⟩
                refine hK.out _ _ trivial (fun hHeldN => ?_)
                clear hK K hHeldN
                (try simp only [Act.put, List.setIfInBounds_toArray, List.set_cons_zero, List.set_cons_succ])
                refine takeD (i := 10) (v := ?_) 6 rfl rfl (by kernel_rfl) (by kernel_rfl) (by kernel_rfl) (fun _ _ _ h => h) (by assumption) (Or.inl ⟨by rfl, ?_⟩) ?_
                rotate_left
                · intro w hSw
                  (try dsimp only at hSw)
                  go_simp
                  try with_reducible rfl
                simp only [List.setIfInBounds_toArray, List.set_cons_zero, List.set_cons_succ]
                refine wpAnyH_done (by kernel_rfl) ?_ _
                go_wp2
                go_ret
                exact ⟨rfl, below_drewN HB7.out _⟩
  · obtain ⟨n, hn⟩ : ∃ n, n = zs'.length := ⟨_, rfl⟩
    have HNZ := hid hn
    rw [← hn] at hrow2 HZL ⊢
    have hn70 := HZL.out
    have HL0 : Hid ((w2.alloc (.cells #[] 9)).ownsRow w1.heap.size 9 1 (.slice (some ⟨w2.heap.size, 0, none⟩) 0 0) 0 []) := World.ownsRow_lit _ #[] 0 h21 (Nat.zero_le _) rfl
    have HRA := hid (hrow2.alloc (.cells #[] 9))
    have HNEW : Hid (∀ j u, (zs'.map Value.string)[j]? = some u → (w2.alloc (.cells #[] 9)).cell? ((⟨g2, 0, none⟩ : Addr).add j) = some u) := fun j u hu => HRA.out.cells (g := g2) rfl j u hu
    have HLN : Hid ((zs'.map Value.string).length = n * 1) := by rw [Hid, List.length_map, HNZ.out]; omega
    have hg2l : g2 < w2.heap.size := (Array.getElem?_eq_some_iff.1 hcur).1
    clear hn hcur
    go_wp2_with (first
      | (at_builtin; refine wpList_append_own _ rfl _ _ 22 rfl w1.heap.size 9 i9 (.string ByteArray.empty) 1 16 Try.underlying22 hi9 hx0 hx1 hx2 rfl (by decide) _ 0 [] rfl HL0.out ⟨g2, 0, none⟩ n _ (zs'.map Value.string) rfl HLN.out HNEW.out (one_strs zs') (by unfold maxLen; omega) (by omega) (by simp; omega) ?_; intro v3 w3 hown3 hgrow3 hnil3; have HO3 := hid hown3; have HG3 := hid hgrow3; have HV3 := hid (show v3 ≠ .slice none 0 0 from fun e => by have := (hnil3.1 e).1; cases this); clear hown3 hgrow3 hnil3; obtain ⟨gm, cm, rfl, hgm, hgB⟩ : ∃ gm cm, v3 = .slice (some ⟨gm, 0, none⟩) n cm ∧ gm < w3.heap.size ∧ w1.heap.size ≤ gm := (by rcases HO3.out.2 with ⟨h, _⟩ | ⟨g, cap, cur, h, hb, hh, _⟩; exact absurd h HV3.out; exact ⟨g, cap, by rw [h, Nat.zero_add], (Array.getElem?_eq_some_iff.1 hh).1, hb⟩))
      | fail)
    have HM : Hid (MineIn w3 w1.heap.size gm n cm zs') := by have q := HO3.out; rwa [Nat.zero_add, List.nil_append] at q
    have HB3 : Hid (Below w.heap.size w w3) := (HB2.out.alloc HB2.out.size (.cells #[] 9)).grown HG3.out (by have := HB2.out.size; simp; omega) (fun k e => by have := (HL0.out.lt k e).1; omega)
    have HSR : Hid (SRead w3 (.slice (some ⟨g2, 0, none⟩) n c2) zs') := by
      refine ⟨_, c2, by rw [HNZ.out], by unfold maxLen; have := HNZ.out; omega, fun i hi => ⟨g2, 0, rfl, ?_, ?_⟩⟩
      · rw [← HNZ.out] at hi
        rw [World.cell?_of_block (a := ⟨g2, 0 + i, none⟩) (HG3.out.block g2 (by simp; omega) (fun e => by have e' := Option.some.inj (show some g2 = some w2.heap.size from e); omega)), Nat.zero_add, HRA.out.cellAt i (by omega)]
        simp [List.getD, List.getElem?_eq_getElem (show i < zs'.length by have := HNZ.out; omega)]
      · exact HZS.out _ (by simp [List.getD, List.getElem?_eq_getElem hi])
    have hgl : w.heap.size ≤ gm := by omega
    clear HO3 HG3 HL0 HNEW HLN HRA hrow2
    have HCM : Hid (∀ j, j < n → (w3).cell? ⟨gm, 0 + j, none⟩ = some (.string (zs'.getD j ByteArray.empty))) := fun j hj => by
      rw [Nat.zero_add, HM.out.cellAt j (by omega)]
      simp [List.getD, List.getElem?_eq_getElem (show j < zs'.length by have := HNZ.out; omega)]
    go_wp2_with (first
      | (go_at_call 8; refine (new_all gm 0 n cm zs' _ (by omega) HNZ.out.symm HZS.out HCM.out).mono ?_; rintro e w4 hn4; obtain ⟨p, er, he⟩ := new_shape hn4; subst he; have HN4 := hid hn4; clear hn4)
      | fail)
    refine (refNew_any _ zs' _ (HSR.out.below HN4.out.1 (Nat.le_refl _)) (by have := HNZ.out; omega)).mono ?_
    rintro e w5 hn5
    obtain ⟨p', v, er', ts, e1, e2, hS, hb, hcase⟩ := both_new HN4.out hn5
    simp only [Ending.returned.injEq, Value.tuple.injEq, Array.mk.injEq, List.cons.injEq, Value.pointer.injEq, Value.int.injEq, and_true, true_and] at e1
    obtain ⟨rfl, rfl⟩ := e1
    subst e2
    obtain ⟨_, yv, cv, hv⟩ := hS.slice
    subst hv
    have HST := hid hS
    have hb5 := hb
    have HB5 := hid (HB3.out.trans (hb.mono HB3.out.size))
    have HM5 : Hid (∃ xs, w5.ownsRow w1.heap.size 9 1 (.slice (some ⟨gm, 0, none⟩) n cm) n xs) := ⟨_, srow_kept HM.out (grown_of_below hb) (by simp)⟩
    have hW3 : w.heap.size ≤ (w3).heap.size := HB3.out.size
    have HSC := HS1
    have HS64 := hid hS.few
    clear hS hb hn5 HN4 HSR HCM HM
    have HBZ : Hid ((w3).heap.size ≤ w5.heap.size) := hb5.size
    generalize (w3).heap.size = B at HST hgm hW3 HBZ
    obtain ⟨N, hN⟩ : ∃ N, N = ts.length := ⟨_, rfl⟩
    have HNT := hid hN
    rw [← hN] at HST ⊢
    rw [← hN] at HS64
    have h64 := HS64.out
    clear hN HS64
    obtain ⟨o1, n1, cap1, hv1, hn1, hsc⟩ := HSC.out
    subst hv1
    have HC1 := hid hsc
    unfold maxLen at hn1
    clear hsc HSC HS1 HB3 hb5
    rcases hcase with ⟨rfl, hez⟩ | ⟨⟨a, rfl⟩, rfl⟩
    · have hez2 : (er != 0) = true := by simpa using hez
      obtain ⟨rfl, rfl, rfl⟩ : yv = none ∧ N = 0 ∧ cv = 0 := by
        rcases HST.out with ⟨_, h2, _⟩ | ⟨t, vn, g, cs, h2, _⟩
        · simpa using h2
        · simp at h2
      obtain ⟨KK, hKK⟩ : ∃ KK : Nat, KK = 1 + st % 5 := ⟨_, rfl⟩
      have HKE := hid (show (1 : Int) + (st : Int) % 5 = (KK : Int) by omega)
      have hK1 : 1 ≤ KK := by omega
      have hK5 : KK ≤ 5 := by omega
      clear hKK
      obtain ⟨M, hMN⟩ : ∃ M, M = min 0 KK := ⟨_, rfl⟩
      have HMI := hid (show min (0 : Int) (KK : Int) = 0 by omega)
      obtain rfl : M = 0 := by omega
      have HMN := hid hMN
      clear hMN
      go_wp2
      go_loopw [45] (fun i wr => ∃ k : Nat, k ≤ n ∧ i = .int .i64 k ∧ Hid (∃ xs, wr.ownsRow w1.heap.size 9 1 (.slice (some ⟨gm, 0, none⟩) n cm) n xs) ∧ Hid (StateIn wr B (.pointer none) (.slice none 0 0) ts) ∧ Hid (Below w.heap.size w wr) ∧ Hid (B ≤ wr.heap.size)) (fun i _ => n - (intOf i).toNat)
      case atStart => exact ⟨0, Nat.zero_le _, rfl, HM5, HST, HB5, HBZ⟩
      case round =>
        obtain ⟨k, hk, rfl, HMK, HSK, HBK, HZK⟩ := hrel
        by_cases hlt : k < n
        · obtain ⟨xs, hxs⟩ := HMK.out
          have hxl := hxs.1
          have m1 : wr.cell? ⟨gm, k, none⟩ = some xs[k] := by rw [hxs.cellAt k (by omega)]; exact List.getElem?_eq_getElem (by omega)
          have m2 : wr.frozen? ⟨gm, k, none⟩ = false := hxs.frozenAt k
          have HXS := hid hxs
          generalize xs[k] = xk at m1
          clear hxs hxl HMK
          go_wp2
          go_roundw
          case rel => exact ⟨k + 1, by omega, by go_num, ⟨_, (HXS.out.stored k (.string ⟨#[120]⟩)).1⟩, HSK.out.put gm k (.string ⟨#[120]⟩) hgm, HBK.out.setCell (p := ⟨gm, k, none⟩) hgl _, by have := HZK.out; simpa [Hid, World.setCell] using this⟩
          case measure => simp [intOf]; omega
        · clear HMK HM5 HST HB5
          go_wp2
          go_loopw [54] (fun i wr => ∃ k : Nat, k ≤ n1 ∧ i = .int .i64 k ∧ Hid (StateIn wr B (.pointer none) (.slice none 0 0) ts) ∧ Hid (Below w.heap.size w wr) ∧ Hid (B ≤ wr.heap.size)) (fun i _ => n1 - (intOf i).toNat)
          case atStart => exact ⟨0, Nat.zero_le _, rfl, HSK, HBK, HZK⟩
          case round =>
            obtain ⟨q, hq, rfl, HSQ, HBQ, HZQ⟩ := hrel
            by_cases hlt2 : q < n1
            · obtain ⟨g3, off3, d, s, m, rfl, hd, hs, hm0, hm1, c0, c1, c2⟩ := HC1.out q hlt2
              have kb := HBQ.out.block g3 (World.block_lt_of_cell? w _ c0)
              have c0' := (World.cell?_of_block (a := ⟨g3, off3 + q * 3, none⟩) kb).trans c0
              have c1' := (World.cell?_of_block (a := ⟨g3, off3 + q * 3 + 1, none⟩) kb).trans c1
              have c2' := (World.cell?_of_block (a := ⟨g3, off3 + q * 3 + 2, none⟩) kb).trans c2
              have hg3 : g3 < wr.heap.size := World.block_lt_of_cell? wr _ c0'
              have HSA := hid (HSQ.out.grown (World.grownBy_alloc wr (.cells #[.int .u8 d, .string s, .int .u64 m] 35) none))
              have HBA := hid (HBQ.out.alloc HBQ.out.size (.cells #[.int .u8 d, .string s, .int .u64 m] 35))
              have HZA : Hid (B ≤ (wr.alloc (.cells #[.int .u8 d, .string s, .int .u64 m] 35)).heap.size) := by have := HZQ.out; simp [Hid]; omega
              clear kb c0 c1 c2 HC1
              by_cases h40 : 40 ≤ q
              · go_wp2_with fail
                have HSF := HSA
                have HBF := HBA
                clear HSA HBA HZA HSQ HBQ HZQ
                rw [HKE.out]
                have hM := HMI.out
                refine wp_region_held_drew (S := fun _ => True) (by kernel_rfl) trivial (fun hHeld => ?_)
                refine takeD (i := 0) (v := ?_) 78 rfl rfl (by kernel_rfl) (by kernel_rfl) (by kernel_rfl) (fun _ _ _ h => h) (by assumption) (Or.inl ⟨by rfl, ?_⟩) ?_
                rotate_left
                · intro w hSw
                  (try dsimp only at hSw)
                  go_simp
                  try with_reducible rfl
                simp only [List.setIfInBounds_toArray, List.set_cons_zero, List.set_cons_succ]
                refine takeD (i := 1) (v := ?_) 79 rfl rfl (by kernel_rfl) (by kernel_rfl) (by kernel_rfl) (fun _ _ _ h => h) (by assumption) (Or.inl ⟨by rfl, ?_⟩) ?_
                rotate_left
                · intro w hSw
                  (try dsimp only at hSw)
                  go_simp
                  try with_reducible rfl
                simp only [List.setIfInBounds_toArray, List.set_cons_zero, List.set_cons_succ]
                refine takeD (i := 3) (v := ?_) 81 rfl rfl (by kernel_rfl) (by kernel_rfl) (by kernel_rfl) (fun _ _ _ h => h) (by assumption) (Or.inl ⟨by rfl, ?_⟩) ?_
                rotate_left
                · intro w hSw
                  (try dsimp only at hSw)
                  go_simp
                  try with_reducible rfl
                simp only [List.setIfInBounds_toArray, List.set_cons_zero, List.set_cons_succ]
                refine takeD (i := 4) (v := ?_) 82 rfl rfl (by kernel_rfl) (by kernel_rfl) (by kernel_rfl) (fun _ _ _ h => h) (by assumption) (Or.inl ⟨by rfl, ?_⟩) ?_
                rotate_left
                · intro w hSw
                  (try dsimp only at hSw)
                  go_simp
                  try with_reducible rfl
                simp only [List.setIfInBounds_toArray, List.set_cons_zero, List.set_cons_succ]
                refine takeD (i := 5) (v := ?_) 83 rfl rfl (by kernel_rfl) (by kernel_rfl) (by kernel_rfl) (fun _ _ _ h => h) (by assumption) (Or.inl ⟨by rfl, ?_⟩) ?_
                rotate_left
                · intro w hSw
                  (try dsimp only at hSw)
                  go_simp
                  try with_reducible rfl
                simp only [List.setIfInBounds_toArray, List.set_cons_zero, List.set_cons_succ]
                refine takeD (i := 6) (v := ?_) 84 rfl rfl (by kernel_rfl) (by kernel_rfl) (by kernel_rfl) (fun _ _ _ h => h) (by assumption) (Or.inl ⟨by rfl, ?_⟩) ?_
                rotate_left
                · intro w hSw
                  (try dsimp only at hSw)
                  go_simp
                  try with_reducible rfl
                simp only [List.setIfInBounds_toArray, List.set_cons_zero, List.set_cons_succ]
                refine takeD (i := 7) (v := .int .i64 0) 85 rfl rfl (by kernel_rfl) (by kernel_rfl) (by kernel_rfl) (fun _ _ _ h => h) (by assumption) (Or.inl ⟨by rfl, ?_⟩) ?_
                · intro w hSw
                  go_simp
                  first | done | (simp only [hM]) | (rw [hM]) | omega
                simp only [List.setIfInBounds_toArray, List.set_cons_zero, List.set_cons_succ]
                refine takeD (i := 8) (v := ?_) 86 rfl rfl (by kernel_rfl) (by kernel_rfl) (by kernel_rfl) (fun _ _ _ h => h) (by assumption) (Or.inl ⟨by rfl, ?_⟩) ?_
                rotate_left
                · intro w hSw
                  (try dsimp only at hSw)
                  go_simp
                  try with_reducible rfl
                simp only [List.setIfInBounds_toArray, List.set_cons_zero, List.set_cons_succ]
                refine wpAnyH_ready (rs := [2]) (by kernel_rfl) (by simp) ?_
                refine AllReadyH.cons (by simp only [List.getElem?_toArray, List.getElem?_cons_succ, List.getElem?_cons_zero]; rfl) (fun K hK => ?_) AllReadyH.nil
                go_simp
                refine (all_any KK hK1 (by omega) (HSF.out.grown (grown_drw _))).mono ?_
                rintro e w7 ⟨u, cs, rfl, hcu, hcv, hs7, hb7⟩
                have HCU := hid hcu
                have HCV := hid (hcv.part (K := KK) 0)
                rw [← HMN.out] at HCV
                have HB7 := hid (HBF.out.drew.trans (hb7.mono HBF.out.size))
                clear hcu hcv hs7 hb7
                refine hK.out _ _ trivial (fun hHeldN => ?_)
                clear hK K hHeldN
                (try simp only [Act.put, List.setIfInBounds_toArray, List.set_cons_zero, List.set_cons_succ])
                refine wpAnyH_ready (rs := [9]) (by kernel_rfl) (by simp) ?_
                refine AllReadyH.cons (by simp only [List.getElem?_toArray, List.getElem?_cons_succ, List.getElem?_cons_zero]; rfl) (fun K hK => ?_) AllReadyH.nil
                go_simp
                refine (same_true _ _ _ _ _ HCU.out HCV.out).mono ?_
                rintro e w8 ⟨rfl, q8, rfl⟩
                refine hK.out _ _ trivial (fun hHeldN => ?_)
                clear hK K hHeldN
                (try simp only [Act.put, List.setIfInBounds_toArray, List.set_cons_zero, List.set_cons_succ])
                refine takeD (i := 10) (v := ?_) 6 rfl rfl (by kernel_rfl) (by kernel_rfl) (by kernel_rfl) (fun _ _ _ h => h) (by assumption) (Or.inl ⟨by rfl, ?_⟩) ?_
                rotate_left
                · intro w hSw
                  (try dsimp only at hSw)
                  go_simp
                  try with_reducible rfl
                simp only [List.setIfInBounds_toArray, List.set_cons_zero, List.set_cons_succ]
                refine wpAnyH_done (by kernel_rfl) ?_ _
                go_wp2
                go_ret
                exact ⟨rfl, below_drewN HB7.out _⟩
              · have HDO := hid (do_any d hd s hs m hm0 hm1 HSA.out HZA.out)
                clear HSQ HBQ HZQ
                go_wp2_with (first
                  | (go_at_call 10; refine HDO.out.mono ?_; rintro e w6 ⟨rfl, hs6, hb6⟩; have HS6 := hid hs6; have HB6 := hid (HBA.out.trans (hb6.mono hW3)); have HZ6 := hid (Nat.le_trans HZA.out hb6.size); clear hs6 hb6 HDO HSA HBA HZA)
                  | (go_at_call 12; refine (all_any 1000 (by omega) (by omega) HS6.out).mono ?_; rintro e w7 ⟨u, cs, rfl, hcu, hcv, hs7, hb7⟩; have HCU := hid (hcu.all (by have := HNT.out; omega)); have HCV := hid hcv; have HS7 := hid hs7; have HB7 := hid (HB6.out.trans (hb7.mono HB6.out.size)); have HZ7 := hid (Nat.le_trans HZ6.out hb7.size); clear hcu hcv hs7 hb7 HS6 HB6 HZ6)
                  | (go_at_call 11; refine (same_true _ _ ts cs _ HCU.out HCV.out).mono ?_; rintro e w8 ⟨rfl, q8, rfl⟩)
                  | fail)
                go_roundw
                case rel => exact ⟨q + 1, by omega, by go_num, HS7.out.grown (grown_dr _ _ none), below_drewN HB7.out _, HZ7.out⟩
                case measure => simp [intOf]; omega
            · clear HC1
              go_wp2_with fail
              have HSF := HSQ
              have HBF := HBQ
              clear HSQ HBQ HZQ
              rw [HKE.out]
              have hM := HMI.out
              refine wp_region_held_drew (S := fun _ => True) (by kernel_rfl) trivial (fun hHeld => ?_)
              refine takeD (i := 0) (v := ?_) 78 rfl rfl (by kernel_rfl) (by kernel_rfl) (by kernel_rfl) (fun _ _ _ h => h) (by assumption) (Or.inl ⟨by rfl, ?_⟩) ?_
              rotate_left
              · intro w hSw
                (try dsimp only at hSw)
                go_simp
                try with_reducible rfl
              simp only [List.setIfInBounds_toArray, List.set_cons_zero, List.set_cons_succ]
              refine takeD (i := 1) (v := ?_) 79 rfl rfl (by kernel_rfl) (by kernel_rfl) (by kernel_rfl) (fun _ _ _ h => h) (by assumption) (Or.inl ⟨by rfl, ?_⟩) ?_
              rotate_left
              · intro w hSw
                (try dsimp only at hSw)
                go_simp
                try with_reducible rfl
              simp only [List.setIfInBounds_toArray, List.set_cons_zero, List.set_cons_succ]
              refine takeD (i := 3) (v := ?_) 81 rfl rfl (by kernel_rfl) (by kernel_rfl) (by kernel_rfl) (fun _ _ _ h => h) (by assumption) (Or.inl ⟨by rfl, ?_⟩) ?_
              rotate_left
              · intro w hSw
                (try dsimp only at hSw)
                go_simp
                try with_reducible rfl
              simp only [List.setIfInBounds_toArray, List.set_cons_zero, List.set_cons_succ]
              refine takeD (i := 4) (v := ?_) 82 rfl rfl (by kernel_rfl) (by kernel_rfl) (by kernel_rfl) (fun _ _ _ h => h) (by assumption) (Or.inl ⟨by rfl, ?_⟩) ?_
              rotate_left
              · intro w hSw
                (try dsimp only at hSw)
                go_simp
                try with_reducible rfl
              simp only [List.setIfInBounds_toArray, List.set_cons_zero, List.set_cons_succ]
              refine takeD (i := 5) (v := ?_) 83 rfl rfl (by kernel_rfl) (by kernel_rfl) (by kernel_rfl) (fun _ _ _ h => h) (by assumption) (Or.inl ⟨by rfl, ?_⟩) ?_
              rotate_left
              · intro w hSw
                (try dsimp only at hSw)
                go_simp
                try with_reducible rfl
              simp only [List.setIfInBounds_toArray, List.set_cons_zero, List.set_cons_succ]
              refine takeD (i := 6) (v := ?_) 84 rfl rfl (by kernel_rfl) (by kernel_rfl) (by kernel_rfl) (fun _ _ _ h => h) (by assumption) (Or.inl ⟨by rfl, ?_⟩) ?_
              rotate_left
              · intro w hSw
                (try dsimp only at hSw)
                go_simp
                try with_reducible rfl
              simp only [List.setIfInBounds_toArray, List.set_cons_zero, List.set_cons_succ]
              refine takeD (i := 7) (v := .int .i64 0) 85 rfl rfl (by kernel_rfl) (by kernel_rfl) (by kernel_rfl) (fun _ _ _ h => h) (by assumption) (Or.inl ⟨by rfl, ?_⟩) ?_
              · intro w hSw
                go_simp
                first | done | (simp only [hM]) | (rw [hM]) | omega
              simp only [List.setIfInBounds_toArray, List.set_cons_zero, List.set_cons_succ]
              refine takeD (i := 8) (v := ?_) 86 rfl rfl (by kernel_rfl) (by kernel_rfl) (by kernel_rfl) (fun _ _ _ h => h) (by assumption) (Or.inl ⟨by rfl, ?_⟩) ?_
              rotate_left
              · intro w hSw
                (try dsimp only at hSw)
                go_simp
                try with_reducible rfl
              simp only [List.setIfInBounds_toArray, List.set_cons_zero, List.set_cons_succ]
              refine wpAnyH_ready (rs := [2]) (by kernel_rfl) (by simp) ?_
              refine AllReadyH.cons (by simp only [List.getElem?_toArray, List.getElem?_cons_succ, List.getElem?_cons_zero]; rfl) (fun K hK => ?_) AllReadyH.nil
              go_simp
              refine (all_any KK hK1 (by omega) (HSF.out.grown (grown_drw _))).mono ?_
              rintro e w7 ⟨u, cs, rfl, hcu, hcv, hs7, hb7⟩
              have HCU := hid hcu
              have HCV := hid (hcv.part (K := KK) 0)
              rw [← HMN.out] at HCV
              have HB7 := hid (HBF.out.drew.trans (hb7.mono HBF.out.size))
              clear hcu hcv hs7 hb7
              refine hK.out _ _ trivial (fun hHeldN => ?_)
              clear hK K hHeldN
              (try simp only [Act.put, List.setIfInBounds_toArray, List.set_cons_zero, List.set_cons_succ])
              refine wpAnyH_ready (rs := [9]) (by kernel_rfl) (by simp) ?_
              refine AllReadyH.cons (by simp only [List.getElem?_toArray, List.getElem?_cons_succ, List.getElem?_cons_zero]; rfl) (fun K hK => ?_) AllReadyH.nil
              go_simp
              refine (same_true _ _ _ _ _ HCU.out HCV.out).mono ?_
              rintro e w8 ⟨rfl, q8, rfl⟩
              refine hK.out _ _ trivial (fun hHeldN => ?_)
              clear hK K hHeldN
              (try simp only [Act.put, List.setIfInBounds_toArray, List.set_cons_zero, List.set_cons_succ])
              refine takeD (i := 10) (v := ?_) 6 rfl rfl (by kernel_rfl) (by kernel_rfl) (by kernel_rfl) (fun _ _ _ h => h) (by assumption) (Or.inl ⟨by rfl, ?_⟩) ?_
              rotate_left
              · intro w hSw
                (try dsimp only at hSw)
                go_simp
                try with_reducible rfl
              simp only [List.setIfInBounds_toArray, List.set_cons_zero, List.set_cons_succ]
              refine wpAnyH_done (by kernel_rfl) ?_ _
              go_wp2
              go_ret
              exact ⟨rfl, below_drewN HB7.out _⟩
    · have hsp : (yv = none ∧ N = 0 ∧ cv = 0) ∨ ∃ gl, yv = some ⟨gl, 0, none⟩ ∧ N ≤ cv ∧ cv ≤ maxLen := by
        rcases HST.out with ⟨h2, _, _⟩ | ⟨t, vn, g, cs, h2, h3⟩
        · simp at h2
        · rcases h3.ref.row.2 with ⟨h4, _⟩ | ⟨g', c', cur, h4, _, _, h5, h6, _⟩
          · exact .inl (by simpa using h4)
          · simp only [Value.slice.injEq] at h4
            obtain ⟨rfl, _, rfl⟩ := h4
            exact .inr ⟨g', rfl, by rw [HNT.out]; exact h5, h6⟩
      rcases hsp with ⟨rfl, rfl, rfl⟩ | ⟨gl, rfl, hcv1, hcv2⟩
      · obtain ⟨KK, hKK⟩ : ∃ KK : Nat, KK = 1 + st % 5 := ⟨_, rfl⟩
        have HKE := hid (show (1 : Int) + (st : Int) % 5 = (KK : Int) by omega)
        have hK1 : 1 ≤ KK := by omega
        have hK5 : KK ≤ 5 := by omega
        clear hKK
        obtain ⟨M, hMN⟩ : ∃ M, M = min 0 KK := ⟨_, rfl⟩
        have HMI := hid (show min (0 : Int) (KK : Int) = 0 by omega)
        obtain rfl : M = 0 := by omega
        have HMN := hid hMN
        clear hMN
        go_wp2
        go_loopw [45] (fun i wr => ∃ k : Nat, k ≤ n ∧ i = .int .i64 k ∧ Hid (∃ xs, wr.ownsRow w1.heap.size 9 1 (.slice (some ⟨gm, 0, none⟩) n cm) n xs) ∧ Hid (StateIn wr B (.pointer (some a)) (.slice none 0 0) ts) ∧ Hid (Below w.heap.size w wr) ∧ Hid (B ≤ wr.heap.size)) (fun i _ => n - (intOf i).toNat)
        case atStart => exact ⟨0, Nat.zero_le _, rfl, HM5, HST, HB5, HBZ⟩
        case round =>
          obtain ⟨k, hk, rfl, HMK, HSK, HBK, HZK⟩ := hrel
          by_cases hlt : k < n
          · obtain ⟨xs, hxs⟩ := HMK.out
            have hxl := hxs.1
            have m1 : wr.cell? ⟨gm, k, none⟩ = some xs[k] := by rw [hxs.cellAt k (by omega)]; exact List.getElem?_eq_getElem (by omega)
            have m2 : wr.frozen? ⟨gm, k, none⟩ = false := hxs.frozenAt k
            have HXS := hid hxs
            generalize xs[k] = xk at m1
            clear hxs hxl HMK
            go_wp2
            go_roundw
            case rel => exact ⟨k + 1, by omega, by go_num, ⟨_, (HXS.out.stored k (.string ⟨#[120]⟩)).1⟩, HSK.out.put gm k (.string ⟨#[120]⟩) hgm, HBK.out.setCell (p := ⟨gm, k, none⟩) hgl _, by have := HZK.out; simpa [Hid, World.setCell] using this⟩
            case measure => simp [intOf]; omega
          · clear HMK HM5 HST HB5
            go_wp2
            go_loopw [54] (fun i wr => ∃ k : Nat, k ≤ n1 ∧ i = .int .i64 k ∧ Hid (StateIn wr B (.pointer (some a)) (.slice none 0 0) ts) ∧ Hid (Below w.heap.size w wr) ∧ Hid (B ≤ wr.heap.size)) (fun i _ => n1 - (intOf i).toNat)
            case atStart => exact ⟨0, Nat.zero_le _, rfl, HSK, HBK, HZK⟩
            case round =>
              obtain ⟨q, hq, rfl, HSQ, HBQ, HZQ⟩ := hrel
              by_cases hlt2 : q < n1
              · obtain ⟨g3, off3, d, s, m, rfl, hd, hs, hm0, hm1, c0, c1, c2⟩ := HC1.out q hlt2
                have kb := HBQ.out.block g3 (World.block_lt_of_cell? w _ c0)
                have c0' := (World.cell?_of_block (a := ⟨g3, off3 + q * 3, none⟩) kb).trans c0
                have c1' := (World.cell?_of_block (a := ⟨g3, off3 + q * 3 + 1, none⟩) kb).trans c1
                have c2' := (World.cell?_of_block (a := ⟨g3, off3 + q * 3 + 2, none⟩) kb).trans c2
                have hg3 : g3 < wr.heap.size := World.block_lt_of_cell? wr _ c0'
                have HSA := hid (HSQ.out.grown (World.grownBy_alloc wr (.cells #[.int .u8 d, .string s, .int .u64 m] 35) none))
                have HBA := hid (HBQ.out.alloc HBQ.out.size (.cells #[.int .u8 d, .string s, .int .u64 m] 35))
                have HZA : Hid (B ≤ (wr.alloc (.cells #[.int .u8 d, .string s, .int .u64 m] 35)).heap.size) := by have := HZQ.out; simp [Hid]; omega
                clear kb c0 c1 c2 HC1
                by_cases h40 : 40 ≤ q
                · go_wp2_with fail
                  have HSF := HSA
                  have HBF := HBA
                  clear HSA HBA HZA HSQ HBQ HZQ
                  rw [HKE.out]
                  have hM := HMI.out
                  refine wp_region_held_drew (S := fun _ => True) (by kernel_rfl) trivial (fun hHeld => ?_)
                  refine takeD (i := 0) (v := ?_) 78 rfl rfl (by kernel_rfl) (by kernel_rfl) (by kernel_rfl) (fun _ _ _ h => h) (by assumption) (Or.inl ⟨by rfl, ?_⟩) ?_
                  rotate_left
                  · intro w hSw
                    (try dsimp only at hSw)
                    go_simp
                    try with_reducible rfl
                  simp only [List.setIfInBounds_toArray, List.set_cons_zero, List.set_cons_succ]
                  refine takeD (i := 1) (v := ?_) 79 rfl rfl (by kernel_rfl) (by kernel_rfl) (by kernel_rfl) (fun _ _ _ h => h) (by assumption) (Or.inl ⟨by rfl, ?_⟩) ?_
                  rotate_left
                  · intro w hSw
                    (try dsimp only at hSw)
                    go_simp
                    try with_reducible rfl
                  simp only [List.setIfInBounds_toArray, List.set_cons_zero, List.set_cons_succ]
                  refine takeD (i := 3) (v := ?_) 81 rfl rfl (by kernel_rfl) (by kernel_rfl) (by kernel_rfl) (fun _ _ _ h => h) (by assumption) (Or.inl ⟨by rfl, ?_⟩) ?_
                  rotate_left
                  · intro w hSw
                    (try dsimp only at hSw)
                    go_simp
                    try with_reducible rfl
                  simp only [List.setIfInBounds_toArray, List.set_cons_zero, List.set_cons_succ]
                  refine takeD (i := 4) (v := ?_) 82 rfl rfl (by kernel_rfl) (by kernel_rfl) (by kernel_rfl) (fun _ _ _ h => h) (by assumption) (Or.inl ⟨by rfl, ?_⟩) ?_
                  rotate_left
                  · intro w hSw
                    (try dsimp only at hSw)
                    go_simp
                    try with_reducible rfl
                  simp only [List.setIfInBounds_toArray, List.set_cons_zero, List.set_cons_succ]
                  refine takeD (i := 5) (v := ?_) 83 rfl rfl (by kernel_rfl) (by kernel_rfl) (by kernel_rfl) (fun _ _ _ h => h) (by assumption) (Or.inl ⟨by rfl, ?_⟩) ?_
                  rotate_left
                  · intro w hSw
                    (try dsimp only at hSw)
                    go_simp
                    try with_reducible rfl
                  simp only [List.setIfInBounds_toArray, List.set_cons_zero, List.set_cons_succ]
                  refine takeD (i := 6) (v := ?_) 84 rfl rfl (by kernel_rfl) (by kernel_rfl) (by kernel_rfl) (fun _ _ _ h => h) (by assumption) (Or.inl ⟨by rfl, ?_⟩) ?_
                  rotate_left
                  · intro w hSw
                    (try dsimp only at hSw)
                    go_simp
                    try with_reducible rfl
                  simp only [List.setIfInBounds_toArray, List.set_cons_zero, List.set_cons_succ]
                  refine takeD (i := 7) (v := .int .i64 0) 85 rfl rfl (by kernel_rfl) (by kernel_rfl) (by kernel_rfl) (fun _ _ _ h => h) (by assumption) (Or.inl ⟨by rfl, ?_⟩) ?_
                  · intro w hSw
                    go_simp
                    first | done | (simp only [hM]) | (rw [hM]) | omega
                  simp only [List.setIfInBounds_toArray, List.set_cons_zero, List.set_cons_succ]
                  refine takeD (i := 8) (v := ?_) 86 rfl rfl (by kernel_rfl) (by kernel_rfl) (by kernel_rfl) (fun _ _ _ h => h) (by assumption) (Or.inl ⟨by rfl, ?_⟩) ?_
                  rotate_left
                  · intro w hSw
                    (try dsimp only at hSw)
                    go_simp
                    try with_reducible rfl
                  simp only [List.setIfInBounds_toArray, List.set_cons_zero, List.set_cons_succ]
                  refine wpAnyH_ready (rs := [2]) (by kernel_rfl) (by simp) ?_
                  refine AllReadyH.cons (by simp only [List.getElem?_toArray, List.getElem?_cons_succ, List.getElem?_cons_zero]; rfl) (fun K hK => ?_) AllReadyH.nil
                  go_simp
                  refine (all_any KK hK1 (by omega) (HSF.out.grown (grown_drw _))).mono ?_
                  rintro e w7 ⟨u, cs, rfl, hcu, hcv, hs7, hb7⟩
                  have HCU := hid hcu
                  have HCV := hid (hcv.part (K := KK) 0)
                  rw [← HMN.out] at HCV
                  have HB7 := hid (HBF.out.drew.trans (hb7.mono HBF.out.size))
                  clear hcu hcv hs7 hb7
                  refine hK.out _ _ trivial (fun hHeldN => ?_)
                  clear hK K hHeldN
                  (try simp only [Act.put, List.setIfInBounds_toArray, List.set_cons_zero, List.set_cons_succ])
                  refine wpAnyH_ready (rs := [9]) (by kernel_rfl) (by simp) ?_
                  refine AllReadyH.cons (by simp only [List.getElem?_toArray, List.getElem?_cons_succ, List.getElem?_cons_zero]; rfl) (fun K hK => ?_) AllReadyH.nil
                  go_simp
                  refine (same_true _ _ _ _ _ HCU.out HCV.out).mono ?_
                  rintro e w8 ⟨rfl, q8, rfl⟩
                  refine hK.out _ _ trivial (fun hHeldN => ?_)
                  clear hK K hHeldN
                  (try simp only [Act.put, List.setIfInBounds_toArray, List.set_cons_zero, List.set_cons_succ])
                  refine takeD (i := 10) (v := ?_) 6 rfl rfl (by kernel_rfl) (by kernel_rfl) (by kernel_rfl) (fun _ _ _ h => h) (by assumption) (Or.inl ⟨by rfl, ?_⟩) ?_
                  rotate_left
                  · intro w hSw
                    (try dsimp only at hSw)
                    go_simp
                    try with_reducible rfl
                  simp only [List.setIfInBounds_toArray, List.set_cons_zero, List.set_cons_succ]
                  refine wpAnyH_done (by kernel_rfl) ?_ _
                  go_wp2
                  go_ret
                  exact ⟨rfl, below_drewN HB7.out _⟩
                · have HDO := hid (do_any d hd s hs m hm0 hm1 HSA.out HZA.out)
                  clear HSQ HBQ HZQ
                  go_wp2_with (first
                    | (go_at_call 10; refine HDO.out.mono ?_; rintro e w6 ⟨rfl, hs6, hb6⟩; have HS6 := hid hs6; have HB6 := hid (HBA.out.trans (hb6.mono hW3)); have HZ6 := hid (Nat.le_trans HZA.out hb6.size); clear hs6 hb6 HDO HSA HBA HZA)
                    | (go_at_call 12; refine (all_any 1000 (by omega) (by omega) HS6.out).mono ?_; rintro e w7 ⟨u, cs, rfl, hcu, hcv, hs7, hb7⟩; have HCU := hid (hcu.all (by have := HNT.out; omega)); have HCV := hid hcv; have HS7 := hid hs7; have HB7 := hid (HB6.out.trans (hb7.mono HB6.out.size)); have HZ7 := hid (Nat.le_trans HZ6.out hb7.size); clear hcu hcv hs7 hb7 HS6 HB6 HZ6)
                    | (go_at_call 11; refine (same_true _ _ ts cs _ HCU.out HCV.out).mono ?_; rintro e w8 ⟨rfl, q8, rfl⟩)
                    | fail)
                  go_roundw
                  case rel => exact ⟨q + 1, by omega, by go_num, HS7.out.grown (grown_dr _ _ none), below_drewN HB7.out _, HZ7.out⟩
                  case measure => simp [intOf]; omega
              · clear HC1
                go_wp2_with fail
                have HSF := HSQ
                have HBF := HBQ
                clear HSQ HBQ HZQ
                rw [HKE.out]
                have hM := HMI.out
                refine wp_region_held_drew (S := fun _ => True) (by kernel_rfl) trivial (fun hHeld => ?_)
                refine takeD (i := 0) (v := ?_) 78 rfl rfl (by kernel_rfl) (by kernel_rfl) (by kernel_rfl) (fun _ _ _ h => h) (by assumption) (Or.inl ⟨by rfl, ?_⟩) ?_
                rotate_left
                · intro w hSw
                  (try dsimp only at hSw)
                  go_simp
                  try with_reducible rfl
                simp only [List.setIfInBounds_toArray, List.set_cons_zero, List.set_cons_succ]
                refine takeD (i := 1) (v := ?_) 79 rfl rfl (by kernel_rfl) (by kernel_rfl) (by kernel_rfl) (fun _ _ _ h => h) (by assumption) (Or.inl ⟨by rfl, ?_⟩) ?_
                rotate_left
                · intro w hSw
                  (try dsimp only at hSw)
                  go_simp
                  try with_reducible rfl
                simp only [List.setIfInBounds_toArray, List.set_cons_zero, List.set_cons_succ]
                refine takeD (i := 3) (v := ?_) 81 rfl rfl (by kernel_rfl) (by kernel_rfl) (by kernel_rfl) (fun _ _ _ h => h) (by assumption) (Or.inl ⟨by rfl, ?_⟩) ?_
                rotate_left
                · intro w hSw
                  (try dsimp only at hSw)
                  go_simp
                  try with_reducible rfl
                simp only [List.setIfInBounds_toArray, List.set_cons_zero, List.set_cons_succ]
                refine takeD (i := 4) (v := ?_) 82 rfl rfl (by kernel_rfl) (by kernel_rfl) (by kernel_rfl) (fun _ _ _ h => h) (by assumption) (Or.inl ⟨by rfl, ?_⟩) ?_
                rotate_left
                · intro w hSw
                  (try dsimp only at hSw)
                  go_simp
                  try with_reducible rfl
                simp only [List.setIfInBounds_toArray, List.set_cons_zero, List.set_cons_succ]
                refine takeD (i := 5) (v := ?_) 83 rfl rfl (by kernel_rfl) (by kernel_rfl) (by kernel_rfl) (fun _ _ _ h => h) (by assumption) (Or.inl ⟨by rfl, ?_⟩) ?_
                rotate_left
                · intro w hSw
                  (try dsimp only at hSw)
                  go_simp
                  try with_reducible rfl
                simp only [List.setIfInBounds_toArray, List.set_cons_zero, List.set_cons_succ]
                refine takeD (i := 6) (v := ?_) 84 rfl rfl (by kernel_rfl) (by kernel_rfl) (by kernel_rfl) (fun _ _ _ h => h) (by assumption) (Or.inl ⟨by rfl, ?_⟩) ?_
                rotate_left
                · intro w hSw
                  (try dsimp only at hSw)
                  go_simp
                  try with_reducible rfl
                simp only [List.setIfInBounds_toArray, List.set_cons_zero, List.set_cons_succ]
                refine takeD (i := 7) (v := .int .i64 0) 85 rfl rfl (by kernel_rfl) (by kernel_rfl) (by kernel_rfl) (fun _ _ _ h => h) (by assumption) (Or.inl ⟨by rfl, ?_⟩) ?_
                · intro w hSw
                  go_simp
                  first | done | (simp only [hM]) | (rw [hM]) | omega
                simp only [List.setIfInBounds_toArray, List.set_cons_zero, List.set_cons_succ]
                refine takeD (i := 8) (v := ?_) 86 rfl rfl (by kernel_rfl) (by kernel_rfl) (by kernel_rfl) (fun _ _ _ h => h) (by assumption) (Or.inl ⟨by rfl, ?_⟩) ?_
                rotate_left
                · intro w hSw
                  (try dsimp only at hSw)
                  go_simp
                  try with_reducible rfl
                simp only [List.setIfInBounds_toArray, List.set_cons_zero, List.set_cons_succ]
                refine wpAnyH_ready (rs := [2]) (by kernel_rfl) (by simp) ?_
                refine AllReadyH.cons (by simp only [List.getElem?_toArray, List.getElem?_cons_succ, List.getElem?_cons_zero]; rfl) (fun K hK => ?_) AllReadyH.nil
                go_simp
                refine (all_any KK hK1 (by omega) (HSF.out.grown (grown_drw _))).mono ?_
                rintro e w7 ⟨u, cs, rfl, hcu, hcv, hs7, hb7⟩
                have HCU := hid hcu
                have HCV := hid (hcv.part (K := KK) 0)
                rw [← HMN.out] at HCV
                have HB7 := hid (HBF.out.drew.trans (hb7.mono HBF.out.size))
                clear hcu hcv hs7 hb7
                refine hK.out _ _ trivial (fun hHeldN => ?_)
                clear hK K hHeldN
                (try simp only [Act.put, List.setIfInBounds_toArray, List.set_cons_zero, List.set_cons_succ])
                refine wpAnyH_ready (rs := [9]) (by kernel_rfl) (by simp) ?_
                refine AllReadyH.cons (by simp only [List.getElem?_toArray, List.getElem?_cons_succ, List.getElem?_cons_zero]; rfl) (fun K hK => ?_) AllReadyH.nil
                go_simp
                refine (same_true _ _ _ _ _ HCU.out HCV.out).mono ?_
                rintro e w8 ⟨rfl, q8, rfl⟩
                refine hK.out _ _ trivial (fun hHeldN => ?_)
                clear hK K hHeldN
                (try simp only [Act.put, List.setIfInBounds_toArray, List.set_cons_zero, List.set_cons_succ])
                refine takeD (i := 10) (v := ?_) 6 rfl rfl (by kernel_rfl) (by kernel_rfl) (by kernel_rfl) (fun _ _ _ h => h) (by assumption) (Or.inl ⟨by rfl, ?_⟩) ?_
                rotate_left
                · intro w hSw
                  (try dsimp only at hSw)
                  go_simp
                  try with_reducible rfl
                simp only [List.setIfInBounds_toArray, List.set_cons_zero, List.set_cons_succ]
                refine wpAnyH_done (by kernel_rfl) ?_ _
                go_wp2
                go_ret
                exact ⟨rfl, below_drewN HB7.out _⟩
      · unfold maxLen at hcv2
        obtain ⟨KK, hKK⟩ : ∃ KK : Nat, KK = 1 + st % 5 := ⟨_, rfl⟩
        have HKE := hid (show (1 : Int) + (st : Int) % 5 = (KK : Int) by omega)
        have hK1 : 1 ≤ KK := by omega
        have hK5 : KK ≤ 5 := by omega
        clear hKK
        obtain ⟨M, hMN⟩ : ∃ M, M = min N KK := ⟨_, rfl⟩
        have HMI := hid (show min (N : Int) (KK : Int) = (M : Int) by omega)
        have hMc : M ≤ cv := by omega
        have HMN := hid hMN
        clear hMN
        go_wp2
        go_loopw [45] (fun i wr => ∃ k : Nat, k ≤ n ∧ i = .int .i64 k ∧ Hid (∃ xs, wr.ownsRow w1.heap.size 9 1 (.slice (some ⟨gm, 0, none⟩) n cm) n xs) ∧ Hid (StateIn wr B (.pointer (some a)) (.slice (some ⟨gl, 0, none⟩) N cv) ts) ∧ Hid (Below w.heap.size w wr) ∧ Hid (B ≤ wr.heap.size)) (fun i _ => n - (intOf i).toNat)
        case atStart => exact ⟨0, Nat.zero_le _, rfl, HM5, HST, HB5, HBZ⟩
        case round =>
          obtain ⟨k, hk, rfl, HMK, HSK, HBK, HZK⟩ := hrel
          by_cases hlt : k < n
          · obtain ⟨xs, hxs⟩ := HMK.out
            have hxl := hxs.1
            have m1 : wr.cell? ⟨gm, k, none⟩ = some xs[k] := by rw [hxs.cellAt k (by omega)]; exact List.getElem?_eq_getElem (by omega)
            have m2 : wr.frozen? ⟨gm, k, none⟩ = false := hxs.frozenAt k
            have HXS := hid hxs
            generalize xs[k] = xk at m1
            clear hxs hxl HMK
            go_wp2
            go_roundw
            case rel => exact ⟨k + 1, by omega, by go_num, ⟨_, (HXS.out.stored k (.string ⟨#[120]⟩)).1⟩, HSK.out.put gm k (.string ⟨#[120]⟩) hgm, HBK.out.setCell (p := ⟨gm, k, none⟩) hgl _, by have := HZK.out; simpa [Hid, World.setCell] using this⟩
            case measure => simp [intOf]; omega
          · clear HMK HM5 HST HB5
            go_wp2
            go_loopw [54] (fun i wr => ∃ k : Nat, k ≤ n1 ∧ i = .int .i64 k ∧ Hid (StateIn wr B (.pointer (some a)) (.slice (some ⟨gl, 0, none⟩) N cv) ts) ∧ Hid (Below w.heap.size w wr) ∧ Hid (B ≤ wr.heap.size)) (fun i _ => n1 - (intOf i).toNat)
            case atStart => exact ⟨0, Nat.zero_le _, rfl, HSK, HBK, HZK⟩
            case round =>
              obtain ⟨q, hq, rfl, HSQ, HBQ, HZQ⟩ := hrel
              by_cases hlt2 : q < n1
              · obtain ⟨g3, off3, d, s, m, rfl, hd, hs, hm0, hm1, c0, c1, c2⟩ := HC1.out q hlt2
                have kb := HBQ.out.block g3 (World.block_lt_of_cell? w _ c0)
                have c0' := (World.cell?_of_block (a := ⟨g3, off3 + q * 3, none⟩) kb).trans c0
                have c1' := (World.cell?_of_block (a := ⟨g3, off3 + q * 3 + 1, none⟩) kb).trans c1
                have c2' := (World.cell?_of_block (a := ⟨g3, off3 + q * 3 + 2, none⟩) kb).trans c2
                have hg3 : g3 < wr.heap.size := World.block_lt_of_cell? wr _ c0'
                have HSA := hid (HSQ.out.grown (World.grownBy_alloc wr (.cells #[.int .u8 d, .string s, .int .u64 m] 35) none))
                have HBA := hid (HBQ.out.alloc HBQ.out.size (.cells #[.int .u8 d, .string s, .int .u64 m] 35))
                have HZA : Hid (B ≤ (wr.alloc (.cells #[.int .u8 d, .string s, .int .u64 m] 35)).heap.size) := by have := HZQ.out; simp [Hid]; omega
                clear kb c0 c1 c2 HC1
                by_cases h40 : 40 ≤ q
                · go_wp2_with fail
                  have HSF := HSA
                  have HBF := HBA
                  clear HSA HBA HZA HSQ HBQ HZQ
                  rw [HKE.out]
                  have hM := HMI.out
                  refine wp_region_held_drew (S := fun _ => True) (by kernel_rfl) trivial (fun hHeld => ?_)
                  refine takeD (i := 0) (v := ?_) 78 rfl rfl (by kernel_rfl) (by kernel_rfl) (by kernel_rfl) (fun _ _ _ h => h) (by assumption) (Or.inl ⟨by rfl, ?_⟩) ?_
                  rotate_left
                  · intro w hSw
                    (try dsimp only at hSw)
                    go_simp
                    try with_reducible rfl
                  simp only [List.setIfInBounds_toArray, List.set_cons_zero, List.set_cons_succ]
                  refine takeD (i := 1) (v := ?_) 79 rfl rfl (by kernel_rfl) (by kernel_rfl) (by kernel_rfl) (fun _ _ _ h => h) (by assumption) (Or.inl ⟨by rfl, ?_⟩) ?_
                  rotate_left
                  · intro w hSw
                    (try dsimp only at hSw)
                    go_simp
                    try with_reducible rfl
                  simp only [List.setIfInBounds_toArray, List.set_cons_zero, List.set_cons_succ]
                  refine takeD (i := 3) (v := ?_) 81 rfl rfl (by kernel_rfl) (by kernel_rfl) (by kernel_rfl) (fun _ _ _ h => h) (by assumption) (Or.inl ⟨by rfl, ?_⟩) ?_
                  rotate_left
                  · intro w hSw
                    (try dsimp only at hSw)
                    go_simp
                    try with_reducible rfl
                  simp only [List.setIfInBounds_toArray, List.set_cons_zero, List.set_cons_succ]
                  refine takeD (i := 4) (v := ?_) 82 rfl rfl (by kernel_rfl) (by kernel_rfl) (by kernel_rfl) (fun _ _ _ h => h) (by assumption) (Or.inl ⟨by rfl, ?_⟩) ?_
                  rotate_left
                  · intro w hSw
                    (try dsimp only at hSw)
                    go_simp
                    try with_reducible rfl
                  simp only [List.setIfInBounds_toArray, List.set_cons_zero, List.set_cons_succ]
                  refine takeD (i := 5) (v := ?_) 83 rfl rfl (by kernel_rfl) (by kernel_rfl) (by kernel_rfl) (fun _ _ _ h => h) (by assumption) (Or.inl ⟨by rfl, ?_⟩) ?_
                  rotate_left
                  · intro w hSw
                    (try dsimp only at hSw)
                    go_simp
                    try with_reducible rfl
                  simp only [List.setIfInBounds_toArray, List.set_cons_zero, List.set_cons_succ]
                  refine takeD (i := 6) (v := ?_) 84 rfl rfl (by kernel_rfl) (by kernel_rfl) (by kernel_rfl) (fun _ _ _ h => h) (by assumption) (Or.inl ⟨by rfl, ?_⟩) ?_
                  rotate_left
                  · intro w hSw
                    (try dsimp only at hSw)
                    go_simp
                    try with_reducible rfl
                  simp only [List.setIfInBounds_toArray, List.set_cons_zero, List.set_cons_succ]
                  refine takeD (i := 7) (v := .int .i64 (M : Int)) 85 rfl rfl (by kernel_rfl) (by kernel_rfl) (by kernel_rfl) (fun _ _ _ h => h) (by assumption) (Or.inl ⟨by rfl, ?_⟩) ?_
                  · intro w hSw
                    go_simp
                    first | done | (simp only [hM]) | (rw [hM]) | omega
                  simp only [List.setIfInBounds_toArray, List.set_cons_zero, List.set_cons_succ]
                  refine takeD (i := 8) (v := ?_) 86 rfl rfl (by kernel_rfl) (by kernel_rfl) (by kernel_rfl) (fun _ _ _ h => h) (by assumption) (Or.inl ⟨by rfl, ?_⟩) ?_
                  rotate_left
                  · intro w hSw
                    (try dsimp only at hSw)
                    go_simp
                    try with_reducible rfl
                  simp only [List.setIfInBounds_toArray, List.set_cons_zero, List.set_cons_succ]
                  refine wpAnyH_ready (rs := [2]) (by kernel_rfl) (by simp) ?_
                  refine AllReadyH.cons (by simp only [List.getElem?_toArray, List.getElem?_cons_succ, List.getElem?_cons_zero]; rfl) (fun K hK => ?_) AllReadyH.nil
                  go_simp
                  refine (all_any KK hK1 (by omega) (HSF.out.grown (grown_drw _))).mono ?_
                  rintro e w7 ⟨u, cs, rfl, hcu, hcv, hs7, hb7⟩
                  have HCU := hid hcu
                  have HCV := hid (hcv.part (K := KK) cv)
                  rw [← HMN.out] at HCV
                  have HB7 := hid (HBF.out.drew.trans (hb7.mono HBF.out.size))
                  clear hcu hcv hs7 hb7
                  refine hK.out _ _ trivial (fun hHeldN => ?_)
                  clear hK K hHeldN
                  (try simp only [Act.put, List.setIfInBounds_toArray, List.set_cons_zero, List.set_cons_succ])
                  refine wpAnyH_ready (rs := [9]) (by kernel_rfl) (by simp) ?_
                  refine AllReadyH.cons (by simp only [List.getElem?_toArray, List.getElem?_cons_succ, List.getElem?_cons_zero]; rfl) (fun K hK => ?_) AllReadyH.nil
                  go_simp
                  refine (same_true _ _ _ _ _ HCU.out HCV.out).mono ?_
                  rintro e w8 ⟨rfl, q8, rfl⟩
                  refine hK.out _ _ trivial (fun hHeldN => ?_)
                  clear hK K hHeldN
                  (try simp only [Act.put, List.setIfInBounds_toArray, List.set_cons_zero, List.set_cons_succ])
                  refine takeD (i := 10) (v := ?_) 6 rfl rfl (by kernel_rfl) (by kernel_rfl) (by kernel_rfl) (fun _ _ _ h => h) (by assumption) (Or.inl ⟨by rfl, ?_⟩) ?_
                  rotate_left
                  · intro w hSw
                    (try dsimp only at hSw)
                    go_simp
                    try with_reducible rfl
                  simp only [List.setIfInBounds_toArray, List.set_cons_zero, List.set_cons_succ]
                  refine wpAnyH_done (by kernel_rfl) ?_ _
                  go_wp2
                  go_ret
                  exact ⟨rfl, below_drewN HB7.out _⟩
                · have HDO := hid (do_any d hd s hs m hm0 hm1 HSA.out HZA.out)
                  clear HSQ HBQ HZQ
                  go_wp2_with (first
                    | (go_at_call 10; refine HDO.out.mono ?_; rintro e w6 ⟨rfl, hs6, hb6⟩; have HS6 := hid hs6; have HB6 := hid (HBA.out.trans (hb6.mono hW3)); have HZ6 := hid (Nat.le_trans HZA.out hb6.size); clear hs6 hb6 HDO HSA HBA HZA)
                    | (go_at_call 12; refine (all_any 1000 (by omega) (by omega) HS6.out).mono ?_; rintro e w7 ⟨u, cs, rfl, hcu, hcv, hs7, hb7⟩; have HCU := hid (hcu.all (by have := HNT.out; omega)); have HCV := hid hcv; have HS7 := hid hs7; have HB7 := hid (HB6.out.trans (hb7.mono HB6.out.size)); have HZ7 := hid (Nat.le_trans HZ6.out hb7.size); clear hcu hcv hs7 hb7 HS6 HB6 HZ6)
                    | (go_at_call 11; refine (same_true _ _ ts cs _ HCU.out HCV.out).mono ?_; rintro e w8 ⟨rfl, q8, rfl⟩)
                    | fail)
                  go_roundw
                  case rel => exact ⟨q + 1, by omega, by go_num, HS7.out.grown (grown_dr _ _ none), below_drewN HB7.out _, HZ7.out⟩
                  case measure => simp [intOf]; omega
              · clear HC1
                go_wp2_with fail
                have HSF := HSQ
                have HBF := HBQ
                clear HSQ HBQ HZQ
                rw [HKE.out]
                have hM := HMI.out
                refine wp_region_held_drew (S := fun _ => True) (by kernel_rfl) trivial (fun hHeld => ?_)
                refine takeD (i := 0) (v := ?_) 78 rfl rfl (by kernel_rfl) (by kernel_rfl) (by kernel_rfl) (fun _ _ _ h => h) (by assumption) (Or.inl ⟨by rfl, ?_⟩) ?_
                rotate_left
                · intro w hSw
                  (try dsimp only at hSw)
                  go_simp
                  try with_reducible rfl
                simp only [List.setIfInBounds_toArray, List.set_cons_zero, List.set_cons_succ]
                refine takeD (i := 1) (v := ?_) 79 rfl rfl (by kernel_rfl) (by kernel_rfl) (by kernel_rfl) (fun _ _ _ h => h) (by assumption) (Or.inl ⟨by rfl, ?_⟩) ?_
                rotate_left
                · intro w hSw
                  (try dsimp only at hSw)
                  go_simp
                  try with_reducible rfl
                simp only [List.setIfInBounds_toArray, List.set_cons_zero, List.set_cons_succ]
                refine takeD (i := 3) (v := ?_) 81 rfl rfl (by kernel_rfl) (by kernel_rfl) (by kernel_rfl) (fun _ _ _ h => h) (by assumption) (Or.inl ⟨by rfl, ?_⟩) ?_
                rotate_left
                · intro w hSw
                  (try dsimp only at hSw)
                  go_simp
                  try with_reducible rfl
                simp only [List.setIfInBounds_toArray, List.set_cons_zero, List.set_cons_succ]
                refine takeD (i := 4) (v := ?_) 82 rfl rfl (by kernel_rfl) (by kernel_rfl) (by kernel_rfl) (fun _ _ _ h => h) (by assumption) (Or.inl ⟨by rfl, ?_⟩) ?_
                rotate_left
                · intro w hSw
                  (try dsimp only at hSw)
                  go_simp
                  try with_reducible rfl
                simp only [List.setIfInBounds_toArray, List.set_cons_zero, List.set_cons_succ]
                refine takeD (i := 5) (v := ?_) 83 rfl rfl (by kernel_rfl) (by kernel_rfl) (by kernel_rfl) (fun _ _ _ h => h) (by assumption) (Or.inl ⟨by rfl, ?_⟩) ?_
                rotate_left
                · intro w hSw
                  (try dsimp only at hSw)
                  go_simp
                  try with_reducible rfl
                simp only [List.setIfInBounds_toArray, List.set_cons_zero, List.set_cons_succ]
                refine takeD (i := 6) (v := ?_) 84 rfl rfl (by kernel_rfl) (by kernel_rfl) (by kernel_rfl) (fun _ _ _ h => h) (by assumption) (Or.inl ⟨by rfl, ?_⟩) ?_
                rotate_left
                · intro w hSw
                  (try dsimp only at hSw)
                  go_simp
                  try with_reducible rfl
                simp only [List.setIfInBounds_toArray, List.set_cons_zero, List.set_cons_succ]
                refine takeD (i := 7) (v := .int .i64 (M : Int)) 85 rfl rfl (by kernel_rfl) (by kernel_rfl) (by kernel_rfl) (fun _ _ _ h => h) (by assumption) (Or.inl ⟨by rfl, ?_⟩) ?_
                · intro w hSw
                  go_simp
                  first | done | (simp only [hM]) | (rw [hM]) | omega
                simp only [List.setIfInBounds_toArray, List.set_cons_zero, List.set_cons_succ]
                refine takeD (i := 8) (v := ?_) 86 rfl rfl (by kernel_rfl) (by kernel_rfl) (by kernel_rfl) (fun _ _ _ h => h) (by assumption) (Or.inl ⟨by rfl, ?_⟩) ?_
                rotate_left
                · intro w hSw
                  (try dsimp only at hSw)
                  go_simp
                  try with_reducible rfl
                simp only [List.setIfInBounds_toArray, List.set_cons_zero, List.set_cons_succ]
                refine wpAnyH_ready (rs := [2]) (by kernel_rfl) (by simp) ?_
                refine AllReadyH.cons (by simp only [List.getElem?_toArray, List.getElem?_cons_succ, List.getElem?_cons_zero]; rfl) (fun K hK => ?_) AllReadyH.nil
                go_simp
                refine (all_any KK hK1 (by omega) (HSF.out.grown (grown_drw _))).mono ?_
                rintro e w7 ⟨u, cs, rfl, hcu, hcv, hs7, hb7⟩
                have HCU := hid hcu
                have HCV := hid (hcv.part (K := KK) cv)
                rw [← HMN.out] at HCV
                have HB7 := hid (HBF.out.drew.trans (hb7.mono HBF.out.size))
                clear hcu hcv hs7 hb7
                refine hK.out _ _ trivial (fun hHeldN => ?_)
                clear hK K hHeldN
                (try simp only [Act.put, List.setIfInBounds_toArray, List.set_cons_zero, List.set_cons_succ])
                refine wpAnyH_ready (rs := [9]) (by kernel_rfl) (by simp) ?_
                refine AllReadyH.cons (by simp only [List.getElem?_toArray, List.getElem?_cons_succ, List.getElem?_cons_zero]; rfl) (fun K hK => ?_) AllReadyH.nil
                go_simp
                refine (same_true _ _ _ _ _ HCU.out HCV.out).mono ?_
                rintro e w8 ⟨rfl, q8, rfl⟩
                refine hK.out _ _ trivial (fun hHeldN => ?_)
                clear hK K hHeldN
                (try simp only [Act.put, List.setIfInBounds_toArray, List.set_cons_zero, List.set_cons_succ])
                refine takeD (i := 10) (v := ?_) 6 rfl rfl (by kernel_rfl) (by kernel_rfl) (by kernel_rfl) (fun _ _ _ h => h) (by assumption) (Or.inl ⟨by rfl, ?_⟩) ?_
                rotate_left
                · intro w hSw
                  (try dsimp only at hSw)
                  go_simp
                  try with_reducible rfl
                simp only [List.setIfInBounds_toArray, List.set_cons_zero, List.set_cons_succ]
                refine wpAnyH_done (by kernel_rfl) ?_ _
                go_wp2
                go_ret
                exact ⟨rfl, below_drewN HB7.out _⟩
end Go.Proofs.Ytadoiplfglaonab
