/-
  query: what the replies hold.
-/
import Derived.Test.YtdpgmepblmlaaaaDoorTf
import Derived.Lib.BytesEntry
import Derived.Shelf.Bytes.SlIndexAt
namespace Go.Proofs.YtdpgmepblmlaaaaDoor
open Go.RowKit Go.Lib Go.Deep

theorem byte_eqG {x c : Int} (h : 0 ≤ x ∧ x < 256) (hc : 0 ≤ c ∧ c < 256) : (UInt8.ofNat x.toNat == c.toNat.toUInt8) = decide (x = c) := by
  obtain ⟨k, hk, rfl⟩ : ∃ k : Nat, k < 256 ∧ x = (k : Int) := ⟨x.toNat, by omega, by omega⟩
  obtain ⟨m, hm, rfl⟩ : ∃ k : Nat, k < 256 ∧ c = (k : Int) := ⟨c.toNat, by omega, by omega⟩
  rw [Int.toNat_natCast, Int.toNat_natCast, Bool.eq_iff_iff, beq_iff_eq, decide_eq_true_eq]
  constructor
  · intro e
    have e2 := congrArg UInt8.toNat e
    rw [UInt8.toNat_ofNat', show m.toUInt8 = UInt8.ofNat m from rfl, UInt8.toNat_ofNat'] at e2
    omega
  · intro e
    have : k = m := by omega
    rw [this]
theorem ix_neg {c : Int} (hc : 0 ≤ c ∧ c < 256) : ∀ {xs : List Int}, BytL xs → ((indexByte (bytesOf xs) c.toNat.toUInt8 < 0) ↔ c ∉ xs)
  | [], _ => by
    unfold bytesOf
    simp [indexByte]
  | x :: xs, h => by
    have ih := ix_neg hc (xs := xs) (fun y hy => h y (List.mem_cons_of_mem _ hy))
    have hge := indexByte_ge (bytesOf xs) c.toNat.toUInt8
    have e : indexByte (bytesOf (x :: xs)) c.toNat.toUInt8 = if (UInt8.ofNat x.toNat == c.toNat.toUInt8) = true then 0 else if (indexByte (bytesOf xs) c.toNat.toUInt8 == -1) = true then -1 else indexByte (bytesOf xs) c.toNat.toUInt8 + 1 := rfl
    rw [e, byte_eqG (h x List.mem_cons_self) hc]
    by_cases hx : x = c
    · rw [if_pos (decide_eq_true hx)]
      subst hx
      simp
    · rw [if_neg (by simpa using hx)]
      by_cases hm : c ∈ xs
      · have hn : ¬ indexByte (bytesOf xs) c.toNat.toUInt8 < 0 := fun q => ih.1 q hm
        rw [if_neg (fun q => by have := beq_iff_eq.1 q; omega)]
        constructor
        · intro q; omega
        · intro q; exact absurd (List.mem_cons_of_mem _ hm) q
      · have hn := ih.2 hm
        rw [if_pos (beq_iff_eq.2 (by omega))]
        constructor
        · intro _ q
          rcases List.mem_cons.1 q with r | r
          · exact hx r.symm
          · exact hm r
        · intro _; decide
set_option maxRecDepth 100000 in
set_option maxHeartbeats 4000000 in
theorem ib_zero {P : Program} {w : World} (a : Addr) (c : Nat) (cv : Int) : (Extern.BytealgIndexByte.indexByte #[.slice (some a) 0 c, .int .u8 cv]).run P w = .ok (.int .i64 (-1)) w := by
  have q := Go.Lib.run_indexByteAt (P := P) w a 0 c [] rfl (fun i hi => absurd hi (Nat.not_lt_zero i)) cv
  exact q
set_option maxRecDepth 100000 in
set_option maxHeartbeats 4000000 in
theorem ib_any (v : Value) (xs : List Int) (c : Int) (hc : 0 ≤ c ∧ c < 256) (w : World) (h : Reads w v xs) : Calls Tryd.prog 79 #[v, .int .u8 c] w fun e w' => (∃ r : Int, e = .returned (.int .i64 r) ∧ (r < 0 ↔ c ∉ xs)) ∧ w = w' := by
  rcases h.2 with ⟨rfl, rfl⟩ | ⟨a, cap, rfl, hl, hm, hcell⟩
  · go_enter Tryd.func79, Tryd.ntmps79
    go_wp2_with fail
    rw [run_callFunc_extern Tryd.func86 (by kernel_rfl) (by kernel_rfl) (by kernel_rfl) (e := Extern.BytealgIndexByte.indexByte) (by kernel_rfl), run_indexByteNil]
    simp only [Result.andThen]
    rw [Oper.upon_value]
    go_wp2
    go_ret
    exact ⟨⟨-1, rfl, by simp⟩, rfl⟩
  · by_cases hz : xs = []
    · subst hz
      go_enter Tryd.func79, Tryd.ntmps79
      go_wp2_with fail
      rw [run_callFunc_extern Tryd.func86 (by kernel_rfl) (by kernel_rfl) (by kernel_rfl) (e := Extern.BytealgIndexByte.indexByte) (by kernel_rfl), ib_zero]
      simp only [Result.andThen]
      rw [Oper.upon_value]
      go_wp2
      go_ret
      exact ⟨⟨-1, rfl, by simp⟩, rfl⟩
    have hp : 0 < xs.length := List.length_pos_iff.2 hz
    obtain ⟨g, o, e, -, -, -⟩ := reads_at h 0 hp
    injection e with e
    subst e
    have HC := hid (fun i (hi : i < xs.length) => (show w.cell? ⟨g, o + i, none⟩ = some (.int .u8 (xs.getD i 0)) from by
      have q := hcell i hi
      rwa [addr_add] at q))
    have HIX := hid (ix_neg hc h.1)
    have HN := hid (show xs.length = xs.length from rfl)
    clear h hcell hl hm
    go_enter Tryd.func79, Tryd.ntmps79
    go_wp2_with fail
    rw [run_callFunc_extern Tryd.func86 (by kernel_rfl) (by kernel_rfl) (by kernel_rfl) (e := Extern.BytealgIndexByte.indexByte) (by kernel_rfl), run_indexByteSlice w g o xs.length cap xs rfl HC.out c]
    simp only [Result.andThen]
    rw [Oper.upon_value]
    go_wp2
    go_ret
    exact ⟨⟨_, rfl, HIX.out⟩, rfl⟩
/-- Bytes of one's own, that are new. -/
structure NewB (w0 w : World) (v : Value) (ys : List Int) : Prop where
  own : OwnB w v ys
  bel : Below w0.heap.size w0 w
  fr : ∀ k ∈ blkV v, w0.heap.size ≤ k
def NewD (w0 : World) (ys : List Int) (e : Ending) (w' : World) : Prop := ∃ v, e = .returned v ∧ NewB w0 w' v ys
def twoB (n : Int) : List Int := [n / 256, n % 256]
theorem NewB.len {w0 w : World} {v : Value} {ys : List Int} (h : NewB w0 w v ys) (n : Nat) (hn : ys.length = n) : ∃ x c, v = .slice x n c := own_len h.own n hn
theorem NewB.row {w0 w : World} {v : Value} {ys : List Int} (h : NewB w0 w v ys) : w.ownsRow w0.heap.size 5 1 v ys.length (ys.map (Value.int .u8)) := own_base2 h.own.2 h.fr
theorem NewB.made {w0 w w' : World} {v : Value} {y : Option Addr} {n cap : Nat} {zs : List Int} (h : w'.ownsRow w0.heap.size 5 1 (.slice y n cap) n (zs.map (Value.int .u8))) (hg : w.grownBy w' v.ownBlock) (hb : Below w0.heap.size w0 w) (hv : ∀ k ∈ blkV v, w0.heap.size ≤ k) (hz : BytL zs) (hn : zs.length = n) : NewB w0 w' (.slice y n cap) zs :=
  ⟨⟨hz, by rw [hn]; exact h.mono (Nat.zero_le _)⟩, hb.grown hg hb.size (fun k hk => hv k (mem_blkV.2 hk)), fun k hk => (h.lt k (mem_blkV.1 hk)).1⟩
theorem NewB.lit {w0 w : World} (hb : Below w0.heap.size w0 w) (cs : Array Value) (n : Nat) (xs : List Int) (hx : ∀ x ∈ xs, 0 ≤ x ∧ x < 256) (hc : cs.toList = xs.map (Value.int .u8)) (hn : n = xs.length) (hl : n ≤ 1000) (b : Nat) (hbk : b = w.heap.size) : NewB w0 (w.alloc (.cells cs 5)) (.slice (some ⟨b, 0, none⟩) n n) xs :=
  ⟨own_lit w cs n xs hx hc hn hl b hbk, bal hb _, fun k hk => by
    have e : k = b := by simpa [blkV, Value.ownBlock] using hk
    have := hb.size
    omega⟩
theorem NewB.after {w0 w w' : World} {v : Value} {ys : List Int} (h : NewB w0 w v ys) (hb : Below w.heap.size w w') : NewB w0 w' v ys := ⟨h.own.step hb, below_t h.bel hb, h.fr⟩
set_option maxRecDepth 100000 in
set_option maxHeartbeats 4000000 in
theorem appn_any (v : Value) (ys : List Int) (n : Int) (w0 w : World) (h : NewB w0 w v ys) (hn : 0 ≤ n ∧ n < 65536) (hl : ys.length ≤ 1000) : Calls Tryd.prog 93 #[v, .int .i64 n] w (NewD w0 (ys ++ twoB n)) := by
  obtain ⟨N, hN⟩ : ∃ N, ys.length = N := ⟨_, rfl⟩
  have HY := hid (show BytL ys from h.own.1)
  have HV := hid h.fr
  have hrow := h.row
  have hbel := h.bel
  obtain ⟨x, c, rfl⟩ := h.len N hN
  rw [hN] at hrow hl
  have HN := hid hN
  obtain ⟨n0, n1⟩ := hn
  have e1 : n / 256 % 256 = n / 256 := by omega
  have hal : Below w.heap.size w (w.alloc (.cells #[.int .u8 (n / 256), .int .u8 (n % 256)] 5)) := bal (Below.refl _ _) _
  have HO := hid (own_moved hrow (Moved.below hal []) (fun _ _ q => by cases q))
  have HB := hid (below_t hbel hal)
  have HT := hid (show BytL (twoB n) from by
    intro y hy
    unfold twoB at hy
    simp only [List.mem_cons, List.not_mem_nil, or_false] at hy
    rcases hy with rfl | rfl <;> omega)
  have HU := hid (own_lit w #[.int .u8 (n / 256), .int .u8 (n % 256)] 2 (twoB n) HT.out rfl rfl (by omega) w.heap.size rfl).reads
  have HLE := hid (show N + (twoB n).length ≤ 10000000 by show N + 2 ≤ 10000000; omega)
  clear h hrow hbel hal hN
  go_enter Tryd.func93, Tryd.ntmps93
  go_wp2_with (at_builtin; refine wpList_append_bytes rfl (.tmp 5) (.tmp 11) rfl w0.heap.size N _ _ ys (twoB n) rfl rfl HO.out HU.out HLE.out HB.out.size (N + 2) rfl (ys ++ twoB n) rfl ?_; intro y cap w' hown hgrow; have HF := hid (NewB.made hown hgrow HB.out HV.out (HY.out.append HT.out) (by rw [List.length_append, HN.out]; rfl)); clear hown hgrow)
  go_ret
  exact ⟨_, rfl, HF.out⟩
def areaL (r c : Int) : List Int := [1, 0] ++ twoB c ++ twoB r ++ [1, 0, 10, 2, 229, 0, 2, 0, 111, 9, 12] ++ twoB (r * c)
def setsL (n : Int) : List Int := [130, 0, 9, 12, 0, 0, 0, 0, 7, 0, 0, 0] ++ twoB n ++ [2, 241, 3, 1, 54]
def colorL : List Int := [0, 8, 0, 244, 241, 241, 242, 242, 243, 243, 244, 244, 245, 245, 246, 246, 247, 247]
def partL (r c : Int) : List Int := [0, 0, 11, 1, 0, 0, 80, 0, 24] ++ twoB c ++ twoB r
theorem size2_cells (w : World) (r c : Int) : (w.alloc (.cells #[.int .i64 r, .int .i64 c] 155)).cell? ⟨w.heap.size, 0, none⟩ = some (.int .i64 r) ∧ (w.alloc (.cells #[.int .i64 r, .int .i64 c] 155)).cell? ⟨w.heap.size, 1, none⟩ = some (.int .i64 c) := ⟨by simp [go_sem], by simp [go_sem]⟩
theorem NewB.up {w w0 w1 : World} {v : Value} {ys : List Int} (h : NewB w0 w1 v ys) (hb : Below w.heap.size w w0) : NewB w w1 v ys := ⟨h.own, below_t hb h.bel, fun k hk => Nat.le_trans hb.size (h.fr k hk)⟩
set_option maxRecDepth 100000 in
set_option maxHeartbeats 4000000 in
theorem part_of (r c : Int) (hr : 0 ≤ r ∧ r < 65536) (hc : 0 ≤ c ∧ c < 65536) (w : World) : Calls Tryd.prog 92 #[.agg #[.int .i64 r, .int .i64 c]] w (NewD w (partL r c)) := by
  obtain ⟨w0, hw0⟩ : ∃ w0, w.alloc (.cells #[.int .i64 r, .int .i64 c] 155) = w0 := ⟨_, rfl⟩
  have hz := size2_cells w r c
  rw [hw0] at hz
  have hb0 : Below w.heap.size w w0 := by rw [← hw0]; exact bal (Below.refl _ _) _
  have hlt : w.heap.size < w0.heap.size := by rw [← hw0]; simp
  have HN0 := hid (show NewB w0 (w0.alloc (.cells #[.int .u8 0, .int .u8 0, .int .u8 11, .int .u8 1, .int .u8 0, .int .u8 0, .int .u8 80, .int .u8 0, .int .u8 24] 5)) (.slice (some ⟨w0.heap.size, 0, none⟩) 9 9) [0, 0, 11, 1, 0, 0, 80, 0, 24] from NewB.lit (Below.refl _ _) #[.int .u8 0, .int .u8 0, .int .u8 11, .int .u8 1, .int .u8 0, .int .u8 0, .int .u8 80, .int .u8 0, .int .u8 24] 9 [0, 0, 11, 1, 0, 0, 80, 0, 24] (by decide) rfl rfl (by omega) _ rfl)
  have HA1 := hid (appn_any _ _ c w0 _ HN0.out hc (by decide))
  have HA2 := hid (fun v w1 (h : NewB w0 w1 v ([0, 0, 11, 1, 0, 0, 80, 0, 24] ++ twoB c)) => appn_any v _ r w0 w1 h hr (by show 11 ≤ 1000; omega))
  have HUP := hid (fun v w1 (h : NewB w0 w1 v (partL r c)) => h.up hb0)
  go_enter Tryd.func92, Tryd.ntmps92
  obtain ⟨z0, z1⟩ := hz
  go_wp2_with fail
  (try rw [hw0])
  with_reducible refine HA1.out.mono ?_
  rintro e w1 ⟨v, rfl, h1⟩
  have HA20 := hid (HA2.out v w1 h1)
  have z0 := keepc (show Below w0.heap.size w0 w1 from h1.bel) z0
  have hlt1 := Nat.lt_of_lt_of_le hlt h1.bel.size
  obtain ⟨x, cp, rfl⟩ := h1.len 11 rfl
  clear h1 z1 HA1 hw0
  go_wp2_with fail
  with_reducible refine HA20.out.mono ?_
  rintro e w2 ⟨v, rfl, h2⟩
  have HF := hid (HUP.out v w2 h2)
  obtain ⟨x, cp, rfl⟩ := h2.len 13 rfl
  clear h2
  go_wp2
  go_ret
  exact ⟨_, rfl, HF.out⟩
set_option maxRecDepth 100000 in
set_option maxHeartbeats 4000000 in
theorem area_of (r c : Int) (hok : Ok r c) (w : World) : Calls Tryd.prog 89 #[.agg #[.int .i64 r, .int .i64 c]] w (NewD w (areaL r c)) := by
  have hr : 0 ≤ r ∧ r < 65536 := ⟨by have := hok.r1; omega, by have := hok.r2; omega⟩
  have hc : 0 ≤ c ∧ c < 65536 := ⟨by have := hok.c1; omega, by have := hok.c2; omega⟩
  have hrc : 0 ≤ r * c ∧ r * c < 65536 := ⟨by have := (ok_pos hok).1; omega, by have := (ok_pos hok).2; omega⟩
  have HCE := hid (fun W => cells_ok r c hok W)
  obtain ⟨w0, hw0⟩ : ∃ w0, w.alloc (.cells #[.int .i64 r, .int .i64 c] 155) = w0 := ⟨_, rfl⟩
  have hz := size2_cells w r c
  rw [hw0] at hz
  have hb0 : Below w.heap.size w w0 := by rw [← hw0]; exact bal (Below.refl _ _) _
  have hlt : w.heap.size < w0.heap.size := by rw [← hw0]; simp
  have HN0 := hid (show NewB w0 (w0.alloc (.cells #[.int .u8 1, .int .u8 0] 5)) (.slice (some ⟨w0.heap.size, 0, none⟩) 2 2) [1, 0] from NewB.lit (Below.refl _ _) #[.int .u8 1, .int .u8 0] 2 [1, 0] (by decide) rfl rfl (by omega) _ rfl)
  have HA1 := hid (appn_any _ _ c w0 _ HN0.out hc (by decide))
  have HA2 := hid (fun v w1 (h : NewB w0 w1 v ([1, 0] ++ twoB c)) => appn_any v _ r w0 w1 h hr (by show 4 ≤ 1000; omega))
  have HA3 := hid (fun v w1 (h : NewB w0 w1 v ([1, 0] ++ twoB c ++ twoB r ++ [1, 0, 10, 2, 229, 0, 2, 0, 111, 9, 12])) => appn_any v _ (r * c) w0 w1 h hrc (by show 17 ≤ 1000; omega))
  have HUP := hid (fun v w1 (h : NewB w0 w1 v ([1, 0] ++ twoB c ++ twoB r ++ [1, 0, 10, 2, 229, 0, 2, 0, 111, 9, 12] ++ twoB (r * c))) => (show NewB w w1 v (areaL r c) from h.up hb0))
  generalize r * c = rc at HCE HA3 HUP
  have HZ := hid hz
  clear hz
  go_enter Tryd.func89, Tryd.ntmps89
  obtain ⟨z0, z1⟩ := HZ.out
  go_wp2_with fail
  (try rw [hw0])
  with_reducible refine HA1.out.mono ?_
  rintro e w1 ⟨v, rfl, h1⟩
  have HA20 := hid (HA2.out v w1 h1)
  have hb1 : Below w0.heap.size w0 w1 := h1.bel
  have z0 := keepc hb1 HZ.out.1
  have hlt1 := Nat.lt_of_lt_of_le hlt hb1.size
  obtain ⟨x, cp, rfl⟩ := h1.len 4 rfl
  clear h1 hb1 HA1 hw0 z1
  go_wp2_with fail
  with_reducible refine HA20.out.mono ?_
  rintro e w2 ⟨v, rfl, h2⟩
  have H2 := hid h2
  have HB2 := hid (show Below w0.heap.size w0 w2 from h2.bel)
  obtain ⟨x, cp, rfl⟩ := h2.len 6 rfl
  have hal : Below w2.heap.size w2 (w2.alloc (.cells #[.int .u8 1, .int .u8 0, .int .u8 10, .int .u8 2, .int .u8 229, .int .u8 0, .int .u8 2, .int .u8 0, .int .u8 111, .int .u8 9, .int .u8 12] 5)) := bal (Below.refl _ _) _
  have HO := hid (own_moved H2.out.row (Moved.below hal []) (fun _ _ q => by cases q))
  have HBA := hid (below_t HB2.out hal)
  have HU := hid (own_lit w2 #[.int .u8 1, .int .u8 0, .int .u8 10, .int .u8 2, .int .u8 229, .int .u8 0, .int .u8 2, .int .u8 0, .int .u8 111, .int .u8 9, .int .u8 12] 11 [1, 0, 10, 2, 229, 0, 2, 0, 111, 9, 12] (by decide) rfl rfl (by omega) w2.heap.size rfl).reads
  have HFR := hid h2.fr
  have HBL := hid (show BytL ([1, 0] ++ twoB c ++ twoB r ++ [1, 0, 10, 2, 229, 0, 2, 0, 111, 9, 12]) from (show BytL ([1, 0] ++ twoB c ++ twoB r) from H2.out.own.1).append (by decide : ∀ x ∈ ([1, 0, 10, 2, 229, 0, 2, 0, 111, 9, 12] : List Int), 0 ≤ x ∧ x < 256))
  clear h2 hal z0 hlt1
  go_wp2_with (at_builtin; refine wpList_append_bytes rfl (.tmp 12) (.tmp 13) rfl w0.heap.size 6 _ _ ([1, 0] ++ twoB c ++ twoB r) [1, 0, 10, 2, 229, 0, 2, 0, 111, 9, 12] rfl rfl HO.out HU.out (by show 17 ≤ 10000000; omega) HBA.out.size 17 rfl ([1, 0] ++ twoB c ++ twoB r ++ [1, 0, 10, 2, 229, 0, 2, 0, 111, 9, 12]) rfl ?_; intro y cap w3 hown hgrow; have HN3 := hid (NewB.made hown hgrow HBA.out HFR.out HBL.out rfl); have hb3 : Below w0.heap.size w0 w3 := HN3.out.bel; have z0 := keepc hb3 HZ.out.1; have z1 := keepc hb3 HZ.out.2; clear hown hgrow)
  have HC0 := hid (HCE.out w3)
  have hlt3 := Nat.lt_of_lt_of_le hlt hb3.size
  with_reducible refine HC0.out.mono ?_
  rintro e w4 ⟨rfl, hb4⟩
  have HA30 := hid (HA3.out _ w4 (HN3.out.after hb4))
  clear hb3 hb4 z0 z1 HC0
  go_wp2_with fail
  with_reducible refine HA30.out.mono ?_
  rintro e w5 ⟨v, rfl, h5⟩
  have HF := hid (HUP.out v w5 h5)
  obtain ⟨x, cp, rfl⟩ := h5.len 19 rfl
  clear h5
  go_wp2
  go_ret
  exact ⟨_, rfl, HF.out⟩
theorem page_number (b : Nat) (num : Int) (w : World) (hc : w.cell? ⟨b, 0, none⟩ = some (.int .i64 num)) : Calls Tryd.prog 95 #[.pointer (some ⟨b, 0, none⟩)] w fun e w' => e = .returned (.int .i64 num) ∧ w = w' := by
  go_enter Tryd.func95, Tryd.ntmps95
  go_wp2
  go_ret
  exact ⟨rfl, rfl⟩
/-- A page, or none, that stands for a number. -/
def PgV (w : World) (pv : Value) (num : Int) : Prop := (0 ≤ num ∧ num < 65536) ∧ ((pv = .pointer none ∧ num = 37) ∨ ∃ b, pv = .pointer (some ⟨b, 0, none⟩) ∧ w.cell? ⟨b, 0, none⟩ = some (.int .i64 num))
theorem PgV.go {w w' : World} {pv : Value} {num : Int} (h : PgV w pv num) (hb : Below w.heap.size w w') : PgV w' pv num := ⟨h.1, h.2.imp id (fun ⟨b, e, c⟩ => ⟨b, e, keepc hb c⟩)⟩
set_option maxRecDepth 100000 in
set_option maxHeartbeats 4000000 in
theorem sets_of (pv : Value) (num : Int) (w : World) (h : PgV w pv num) : Calls Tryd.prog 90 #[pv] w (NewD w (setsL num)) := by
  have HN0 := hid (show NewB w (w.alloc (.cells #[.int .u8 130, .int .u8 0, .int .u8 9, .int .u8 12, .int .u8 0, .int .u8 0, .int .u8 0, .int .u8 0, .int .u8 7, .int .u8 0, .int .u8 0, .int .u8 0] 5)) (.slice (some ⟨w.heap.size, 0, none⟩) 12 12) [130, 0, 9, 12, 0, 0, 0, 0, 7, 0, 0, 0] from NewB.lit (Below.refl _ _) #[.int .u8 130, .int .u8 0, .int .u8 9, .int .u8 12, .int .u8 0, .int .u8 0, .int .u8 0, .int .u8 0, .int .u8 7, .int .u8 0, .int .u8 0, .int .u8 0] 12 [130, 0, 9, 12, 0, 0, 0, 0, 7, 0, 0, 0] (by decide) rfl rfl (by omega) _ rfl)
  have HA1 := hid (appn_any _ _ num w _ HN0.out h.1 (by decide))
  have HEND := hid (fun v w1 (h1 : NewB w w1 v ([130, 0, 9, 12, 0, 0, 0, 0, 7, 0, 0, 0] ++ twoB num)) => h1)
  obtain ⟨hnb, ⟨rfl, rfl⟩ | ⟨b, rfl, hc⟩⟩ := h
  · go_enter Tryd.func90, Tryd.ntmps90
    go_wp2_with fail
    with_reducible refine HA1.out.mono ?_
    rintro e w1 ⟨v, rfl, h1⟩
    have H1 := hid h1
    obtain ⟨x, cp, rfl⟩ := h1.len 14 rfl
    have hal : Below w1.heap.size w1 (w1.alloc (.cells #[.int .u8 2, .int .u8 241, .int .u8 3, .int .u8 1, .int .u8 54] 5)) := bal (Below.refl _ _) _
    have HO := hid (own_moved H1.out.row (Moved.below hal []) (fun _ _ q => by cases q))
    have HBA := hid (below_t H1.out.bel hal)
    have HU := hid (own_lit w1 #[.int .u8 2, .int .u8 241, .int .u8 3, .int .u8 1, .int .u8 54] 5 [2, 241, 3, 1, 54] (by decide) rfl rfl (by omega) w1.heap.size rfl).reads
    have HFR := hid h1.fr
    have HBL := hid (show BytL (setsL _) from (show BytL ([130, 0, 9, 12, 0, 0, 0, 0, 7, 0, 0, 0] ++ twoB _) from H1.out.own.1).append (by decide : ∀ x ∈ ([2, 241, 3, 1, 54] : List Int), 0 ≤ x ∧ x < 256))
    clear h1 hal
    go_wp2_with (at_builtin; refine wpList_append_bytes rfl (.tmp 12) (.tmp 13) rfl w.heap.size 14 _ _ ([130, 0, 9, 12, 0, 0, 0, 0, 7, 0, 0, 0] ++ twoB _) [2, 241, 3, 1, 54] rfl rfl HO.out HU.out (by show 19 ≤ 10000000; omega) HBA.out.size 19 rfl (setsL _) rfl ?_; intro y cap w3 hown hgrow; have HF := hid (NewB.made hown hgrow HBA.out HFR.out HBL.out rfl); clear hown hgrow)
    go_ret
    exact ⟨_, rfl, HF.out⟩
  · have hlt := World.block_lt_of_cell? w _ hc
    have HNB := hid (page_number b num w hc)
    go_enter Tryd.func90, Tryd.ntmps90
    go_wp2_with fail
    with_reducible refine HNB.out.mono ?_
    rintro e w0 ⟨rfl, rfl⟩
    go_wp2_with fail
    with_reducible refine HA1.out.mono ?_
    rintro e w1 ⟨v, rfl, h1⟩
    have H1 := hid h1
    obtain ⟨x, cp, rfl⟩ := h1.len 14 rfl
    have hal : Below w1.heap.size w1 (w1.alloc (.cells #[.int .u8 2, .int .u8 241, .int .u8 3, .int .u8 1, .int .u8 54] 5)) := bal (Below.refl _ _) _
    have HO := hid (own_moved H1.out.row (Moved.below hal []) (fun _ _ q => by cases q))
    have HBA := hid (below_t H1.out.bel hal)
    have HU := hid (own_lit w1 #[.int .u8 2, .int .u8 241, .int .u8 3, .int .u8 1, .int .u8 54] 5 [2, 241, 3, 1, 54] (by decide) rfl rfl (by omega) w1.heap.size rfl).reads
    have HFR := hid h1.fr
    have HBL := hid (show BytL (setsL _) from (show BytL ([130, 0, 9, 12, 0, 0, 0, 0, 7, 0, 0, 0] ++ twoB _) from H1.out.own.1).append (by decide : ∀ x ∈ ([2, 241, 3, 1, 54] : List Int), 0 ≤ x ∧ x < 256))
    clear h1 hal
    go_wp2_with (at_builtin; refine wpList_append_bytes rfl (.tmp 12) (.tmp 13) rfl w.heap.size 14 _ _ ([130, 0, 9, 12, 0, 0, 0, 0, 7, 0, 0, 0] ++ twoB _) [2, 241, 3, 1, 54] rfl rfl HO.out HU.out (by show 19 ≤ 10000000; omega) HBA.out.size 19 rfl (setsL _) rfl ?_; intro y cap w3 hown hgrow; have HF := hid (NewB.made hown hgrow HBA.out HFR.out HBL.out rfl); clear hown hgrow)
    go_ret
    exact ⟨_, rfl, HF.out⟩
def colK : Nat → List Int
  | 0 => [0, 8, 0, 244]
  | k + 1 => colK k ++ [241 + (k : Int), 241 + (k : Int)]
theorem colK_succ (k : Nat) : colK (k + 1) = colK k ++ [241 + (k : Int), 241 + (k : Int)] := rfl
theorem colK_len (k : Nat) : (colK k).length = 4 + 2 * k := by
  induction k with
  | zero => rfl
  | succ k ih => rw [colK_succ, List.length_append, ih]; show 4 + 2 * k + 2 = _; omega
theorem colK_byt (k : Nat) (hk : k ≤ 7) : BytL (colK k) := by
  induction k with
  | zero => exact (by decide : ∀ x ∈ ([0, 8, 0, 244] : List Int), 0 ≤ x ∧ x < 256)
  | succ k ih =>
    rw [colK_succ]
    refine (ih (by omega)).append ?_
    intro x hx
    simp only [List.mem_cons, List.not_mem_nil, or_false] at hx
    omega
set_option maxRecDepth 100000 in
set_option maxHeartbeats 4000000 in
theorem colors_of (w : World) : Calls Tryd.prog 91 #[] w (NewD w colorL) := by
  have HS := hid (fun k => colK_succ k)
  have HL := hid (fun k => colK_len k)
  have HBT := hid (fun k hk => colK_byt k hk)
  have HE := hid (show colK 7 = colorL from by decide)
  have HN0 := hid (show NewB w (w.alloc (.cells #[.int .u8 0, .int .u8 8, .int .u8 0, .int .u8 244] 5)) (.slice (some ⟨w.heap.size, 0, none⟩) 4 4) (colK 0) from NewB.lit (Below.refl _ _) #[.int .u8 0, .int .u8 8, .int .u8 0, .int .u8 244] 4 [0, 8, 0, 244] (by decide) rfl rfl (by omega) _ rfl)
  go_enter Tryd.func91, Tryd.ntmps91
  go_wp2_with fail
  go_loopw [1, 5] (fun b i wr => ∃ k : Nat, k ≤ 7 ∧ i = .int .i64 k ∧ Hid (NewB w wr b (colK k))) (fun _ i _ => 7 - (RowKit.intOf i).toNat)
  case atStart => exact ⟨0, by omega, rfl, HN0⟩
  case round =>
    obtain ⟨k, hk, rfl, HN⟩ := hrel
    obtain ⟨x, cp, rfl⟩ := HN.out.len (4 + 2 * k) (HL.out k)
    by_cases hlt : k < 7
    · have hki : (k : Int) < 7 := by omega
      have hk0 : (0 : Int) ≤ k := by omega
      have hm1 : (k : Int) % 256 = k := by omega
      have hm2 : (241 + (k : Int)) % 256 = 241 + k := by omega
      have hal : Below wr.heap.size wr (wr.alloc (.cells #[.int .u8 (241 + (k : Int)), .int .u8 (241 + (k : Int))] 5)) := bal (Below.refl _ _) _
      have HRW := hid (show wr.ownsRow w.heap.size 5 1 (.slice x (4 + 2 * k) cp) (4 + 2 * k) ((colK k).map (Value.int .u8)) from by have q := HN.out.row; rwa [HL.out k] at q)
      have HO := hid (own_moved HRW.out (Moved.below hal []) (fun _ _ q => by cases q))
      have HBA := hid (below_t HN.out.bel hal)
      have HU := hid (own_lit wr #[.int .u8 (241 + (k : Int)), .int .u8 (241 + (k : Int))] 2 [241 + (k : Int), 241 + (k : Int)] (by intro y hy; simp only [List.mem_cons, List.not_mem_nil, or_false] at hy; omega) rfl rfl (by omega) wr.heap.size rfl).reads
      have HFR := hid HN.out.fr
      have HBL := hid (HBT.out (k + 1) (by omega))
      have HLE := hid (show 4 + 2 * k + ([241 + (k : Int), 241 + (k : Int)] : List Int).length ≤ 10000000 by show 4 + 2 * k + 2 ≤ 10000000; omega)
      clear hal
      go_wp2_with (at_builtin; refine wpList_append_bytes rfl (.tmp 11) (.tmp 14) rfl w.heap.size (4 + 2 * k) _ _ (colK k) [241 + (k : Int), 241 + (k : Int)] rfl rfl HO.out HU.out HLE.out HBA.out.size (4 + 2 * (k + 1)) (by show 4 + 2 * k + 2 = _; omega) (colK (k + 1)) (HS.out k).symm ?_; intro y cap w3 hown hgrow; have HF := hid (NewB.made hown hgrow HBA.out HFR.out HBL.out (HL.out (k + 1))); clear hown hgrow)
      go_roundw
      case rel => exact ⟨k + 1, by omega, by go_num, HF⟩
      case measure => simp [RowKit.intOf]; omega
    · obtain rfl : k = 7 := by omega
      have HF := hid (show NewD w colorL (.returned (.slice x (4 + 2 * 7) cp)) wr from ⟨_, rfl, by rw [← HE.out]; exact HN.out⟩)
      go_wp2
      go_ret
      exact HF.out
end Go.Proofs.YtdpgmepblmlaaaaDoor
