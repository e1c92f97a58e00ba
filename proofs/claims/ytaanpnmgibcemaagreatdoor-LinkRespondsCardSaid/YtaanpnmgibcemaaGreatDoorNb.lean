/-
  nego: a message is read.
-/
import Derived.Test.YtaanpnmgibcemaaGreatDoorNa
namespace Go.Proofs.YtaanpnmgibcemaaGreatDoor.Ng
/-! XNg -/
section
open Go.RowKit Go.Lib
/-- Name CONNECT name. -/
def namesOk (r : List Int) : Bool := decide (at1 r < r.length) && nameB (strOfNums (r.take (at1 r))) && nameB (strOfNums (r.drop (at1 r + 1)))
def secondN (r : List Int) : ByteArray := strOfNums (r.drop (at1 r + 1))
/-- Which message it is: 0 none, 1 SEND, 2 DEVICE-TYPE IS, 3 REJECT, 4 FUNCTIONS IS, 5 FUNCTIONS REQUEST. -/
def kindD (b : Int) (r : List Int) : Int := if b = 4 then (if namesOk r = true then 2 else 0) else if b = 6 then (if r.length = 2 ∧ r.getD 0 0 = 5 then 3 else 0) else 0
def kindF (b : Int) (r : List Int) : Int := if onceL r = true then (if b = 4 then 4 else if b = 7 then 5 else 0) else 0
def kindS (b : Int) (r : List Int) : Int := if b = 2 ∧ r.length = 0 then 1 else 0
def kind2 (a b : Int) (r : List Int) : Int := if a = 8 then kindS b r else if a = 2 then kindD b r else if a = 3 then kindF b r else 0
def kindL (xs : List Int) : Int := if xs.length < 2 then 0 else kind2 (xs.getD 0 0) (xs.getD 1 0) (xs.drop 2)
def emptyS : ByteArray := ⟨#[]⟩
/-- A message that was read. -/
def MsgD (k : Int) (_r : List Int) (d : ByteArray) (p : Value) (w : World) (e : Ending) (w' : World) : Prop :=
  ∃ v d', e = .returned (.agg #[.int .i64 k, .string d', v]) ∧ Below w.heap.size w w' ∧ (k = 2 → d' = d) ∧ ((k = 4 ∨ k = 5) → v = p) ∧ ∃ x n c, v = .slice x n c
theorem strOf_size (xs : List Int) : (strOfNums xs).size = xs.length := by
  unfold strOfNums
  show (Array.size _) = _
  simp
theorem msgD_plain {k : Int} {r : List Int} {d d' : ByteArray} {p : Value} {w w' : World} {x : Option Addr} {n c : Nat} (h2 : k ≠ 2) (h4 : k ≠ 4) (h5 : k ≠ 5) (hb : Below w.heap.size w w') : MsgD k r d p w (.returned (.agg #[.int .i64 k, .string d', .slice x n c])) w' :=
  ⟨_, _, rfl, hb, (fun h => absurd h h2), (fun h => by rcases h with h | h; exact absurd h h4; exact absurd h h5), _, _, _, rfl⟩
theorem msgD_names {r : List Int} {d : ByteArray} {p : Value} {w w' : World} {x : Option Addr} {n c : Nat} (hb : Below w.heap.size w w') : MsgD 2 r d p w (.returned (.agg #[.int .i64 2, .string d, .slice x n c])) w' :=
  ⟨_, _, rfl, hb, (fun _ => rfl), (fun h => by rcases h with h | h <;> exact absurd h (by decide)), _, _, _, rfl⟩
theorem msgD_funs {k : Int} {r : List Int} {d d' : ByteArray} {w w' : World} {x : Option Addr} {n c : Nat} (h2 : k ≠ 2) (hb : Below w.heap.size w w') : MsgD k r d (.slice x n c) w (.returned (.agg #[.int .i64 k, .string d', .slice x n c])) w' :=
  ⟨_, _, rfl, hb, (fun h => absurd h h2), (fun _ => rfl), _, _, _, rfl⟩
theorem MsgD.since {k : Int} {r : List Int} {d : ByteArray} {p : Value} {w w1 w' : World} {e : Ending} (hb : Below w.heap.size w w1) (h : MsgD k r d p w1 e w') : MsgD k r d p w e w' := by
  obtain ⟨v, d', he, hb', rest⟩ := h
  exact ⟨v, d', he, below_t hb hb', rest⟩
/-- Three stores into a result's block. -/
def put3 (w : World) (b : Nat) (c0 c1 c2 : Value) : World := ((w.setCell ⟨b, 0, none⟩ c0).setCell ⟨b, 1, none⟩ c1).setCell ⟨b, 2, none⟩ c2
theorem put3_end {w0 w : World} {b : Nat} {u0 u1 u2 : Value} (z0 : w.cell? ⟨b, 0, none⟩ = some u0) (z1 : w.cell? ⟨b, 1, none⟩ = some u1) (z2 : w.cell? ⟨b, 2, none⟩ = some u2) (hb : Below w0.heap.size w0 w) (hB : w0.heap.size ≤ b) (c0 c1 c2 : Value) : (put3 w b c0 c1 c2).cell? ⟨b, 0, none⟩ = some c0 ∧ (put3 w b c0 c1 c2).cell? ⟨b, 1, none⟩ = some c1 ∧ (put3 w b c0 c1 c2).cell? ⟨b, 2, none⟩ = some c2 ∧ Below w0.heap.size w0 (put3 w b c0 c1 c2) := by
  unfold put3
  refine ⟨?_, ?_, ?_, ((hb.setCell (by exact hB) _).setCell (by exact hB) _).setCell (by exact hB) _⟩
  · exact set_other (by omega) (set_other (by omega) (World.cell?_setCell_same _ _ _ z0))
  · exact set_other (by omega) (World.cell?_setCell_same _ _ _ (set_other (by omega) z1))
  · exact World.cell?_setCell_same _ _ _ (set_other (by omega) (set_other (by omega) z2))
/-- A result's block behind a call. -/
theorem res_block {w w1 : World} (hb : Below (w.alloc (.cells #[.int .i64 0, .string ⟨#[]⟩, .slice none 0 0] 206)).heap.size (w.alloc (.cells #[.int .i64 0, .string ⟨#[]⟩, .slice none 0 0] 206)) w1) : w1.cell? ⟨w.heap.size, 0, none⟩ = some (.int .i64 0) ∧ w1.cell? ⟨w.heap.size, 1, none⟩ = some (.string ⟨#[]⟩) ∧ w1.cell? ⟨w.heap.size, 2, none⟩ = some (.slice none 0 0) ∧ w1.frozen? ⟨w.heap.size, 0, none⟩ = false ∧ w1.frozen? ⟨w.heap.size, 1, none⟩ = false ∧ w1.frozen? ⟨w.heap.size, 2, none⟩ = false ∧ Below w.heap.size w w1 := by
  have hl : w.heap.size < (w.alloc (.cells #[.int .i64 0, .string ⟨#[]⟩, .slice none 0 0] 206)).heap.size := by simp
  refine ⟨keepc hb (by simp [go_sem]), keepc hb (by simp [go_sem]), keepc hb (by simp [go_sem]), (hb.frozen hl).trans (by simp [go_sem]), (hb.frozen hl).trans (by simp [go_sem]), (hb.frozen hl).trans (by simp [go_sem]), below_t (bal (Below.refl _ _) _) hb⟩
set_option maxHeartbeats 2000000 in
set_option maxRecDepth 100000 in
theorem parseSend_any (b : Int) (x : Option Addr) (n c : Nat) (r : List Int) (hn : n = r.length) (d : ByteArray) (w : World) : Calls Tryz.prog 140 #[.int .u8 b, .slice x n c] w (MsgD (kindS b r) r d (.slice x n c) w) := by
  unfold kindS
  rw [← hn]
  clear hn
  by_cases hb : b = 2
  · subst hb
    by_cases h0 : n = 0
    · subst h0
      rw [if_pos ⟨rfl, rfl⟩]
      go_enter Tryz.func140, Tryz.ntmps140
      go_wp2
      exact bodyPost_ret (v := .agg #[.int .i64 1, .string ⟨#[]⟩, .slice none 0 0]) (by simp [results, Tryz.results140, go_sem]) rfl (msgD_plain (by decide) (by decide) (by decide) (bal (Below.refl _ _) _))
    · rw [if_neg (fun q => h0 q.2)]
      have hb0 : ((n : Int) != 0) = true := by simp; omega
      go_enter Tryz.func140, Tryz.ntmps140
      go_wp2
      exact bodyPost_ret (v := .agg #[.int .i64 0, .string ⟨#[]⟩, .slice none 0 0]) (by simp [results, Tryz.results140, go_sem]) rfl (msgD_plain (by decide) (by decide) (by decide) (bal (Below.refl _ _) _))
  · rw [if_neg (fun q => hb q.1)]
    have hb0 : (b != 2) = true := by simpa using hb
    go_enter Tryz.func140, Tryz.ntmps140
    go_wp2
    exact bodyPost_ret (v := .agg #[.int .i64 0, .string ⟨#[]⟩, .slice none 0 0]) (by simp [results, Tryz.results140, go_sem]) rfl (msgD_plain (by decide) (by decide) (by decide) (bal (Below.refl _ _) _))
set_option maxHeartbeats 2000000 in
set_option maxRecDepth 100000 in
theorem parseNames_any (x : Option Addr) (n c : Nat) (r : List Int) (hn : n = r.length) (hl : n ≤ 1000) (w : World) (h : RdG w (.slice x n c) r) : Calls Tryz.prog 147 #[.slice x n c] w (MsgD (if namesOk r = true then 2 else 0) r (secondN r) (.slice x n c) w) := by
  have hA1 : Below w.heap.size w ((w.alloc (.cells #[.int .i64 0, .string ⟨#[]⟩, .slice none 0 0] 206)).alloc (.cells #[.int .u8 1] 5)) := bal (bal (Below.refl _ _) _) _
  have hA0 : Below (w.alloc (.cells #[.int .i64 0, .string ⟨#[]⟩, .slice none 0 0] 206)).heap.size (w.alloc (.cells #[.int .i64 0, .string ⟨#[]⟩, .slice none 0 0] 206)) ((w.alloc (.cells #[.int .i64 0, .string ⟨#[]⟩, .slice none 0 0] 206)).alloc (.cells #[.int .u8 1] 5)) := bal (Below.refl _ _) _
  have hc1 : ((w.alloc (.cells #[.int .i64 0, .string ⟨#[]⟩, .slice none 0 0] 206)).alloc (.cells #[.int .u8 1] 5)).cell? ⟨w.heap.size + 1, 0, none⟩ = some (.int .u8 1) := by simp [go_sem]
  have hR := h.step hA1
  by_cases hf : at1 r < n
  · have HCUT := hid (cut_found x n c (at1 r) r (w.heap.size + 1) _ hR hn rfl hf (by omega) hc1)
    have HNM := hid (name_any (strOfNums (r.take (at1 r))) · (by rw [strOf_size, List.length_take]; unfold maxLen; omega))
    have HNN := hid (name_any (strOfNums (r.drop (at1 r + 1))) · (by rw [strOf_size, List.length_drop]; unfold maxLen; omega))
    have HOK := hid (show namesOk r = (nameB (strOfNums (r.take (at1 r))) && nameB (strOfNums (r.drop (at1 r + 1)))) by unfold namesOk; rw [show decide (at1 r < r.length) = true from decide_eq_true (by omega), Bool.true_and])
    have HK1 := hid (fun W (hb : Below ((w.alloc (.cells #[.int .i64 0, .string ⟨#[]⟩, .slice none 0 0] 206)).alloc (.cells #[.int .u8 1] 5)).heap.size ((w.alloc (.cells #[.int .i64 0, .string ⟨#[]⟩, .slice none 0 0] 206)).alloc (.cells #[.int .u8 1] 5)) W) => reads_conv ((hR.step hb).take hn (at1 r) (by omega)).reads)
    have HK2 := hid (fun W (hb : Below ((w.alloc (.cells #[.int .i64 0, .string ⟨#[]⟩, .slice none 0 0] 206)).alloc (.cells #[.int .u8 1] 5)).heap.size ((w.alloc (.cells #[.int .i64 0, .string ⟨#[]⟩, .slice none 0 0] 206)).alloc (.cells #[.int .u8 1] 5)) W) => reads_conv ((hR.step hb).from' hn (at1 r + 1) (by omega)).reads)
    have HA0 := hid hA0
    unfold secondN
    rw [HOK.out]
    clear h hR hA1 hA0 hc1 hn HOK
    generalize strOfNums (r.take (at1 r)) = s1 at *
    generalize strOfNums (r.drop (at1 r + 1)) = s2 at *
    cases h1 : nameB s1
    · rw [h1] at HNM
      clear h1
      rw [Bool.false_and, if_neg (by decide)]
      go_enter Tryz.func147, Tryz.ntmps147
      go_wp2_with fail
      with_reducible refine HCUT.out.mono ?_
      rintro e w1 ⟨rfl, hb⟩
      have k1 := HK1.out w1 hb
      have k2 := HK2.out w1 hb
      obtain ⟨z0, z1, z2, y0, y1, y2, zb⟩ := res_block (below_t HA0.out hb)
      have hww : w.heap.size < w1.heap.size := World.block_lt_of_cell? w1 _ z0
      clear hb HCUT HK1 HK2 HA0
      generalize fromA x c (at1 r + 1) = yy at *
      go_wp2_with fail
      with_reducible refine (HNM.out _).mono ?_
      rintro e w2 ⟨rfl, rfl⟩
      go_wp2
      obtain ⟨q0, q1, q2, qb⟩ := put3_end z0 z1 z2 zb (Nat.le_refl _) (.int .i64 0) (.string ⟨#[]⟩) (.slice none 0 0)
      revert q0 q1 q2 qb
      generalize hW : put3 w1 w.heap.size (.int .i64 0) (.string ⟨#[]⟩) (.slice none 0 0) = Wf
      intro q0 q1 q2 qb
      unfold put3 at hW
      rw [hW]
      clear hW
      exact bodyPost_ret (v := .agg #[.int .i64 0, .string ⟨#[]⟩, .slice none 0 0]) (by simp [results, Tryz.results147, go_sem, q0, q1, q2]) rfl (msgD_plain (by decide) (by decide) (by decide) qb)
    · rw [h1] at HNM
      clear h1
      cases h2 : nameB s2
      · rw [h2] at HNN
        clear h2
        rw [Bool.and_false, if_neg (by decide)]
        go_enter Tryz.func147, Tryz.ntmps147
        go_wp2_with fail
        with_reducible refine HCUT.out.mono ?_
        rintro e w1 ⟨rfl, hb⟩
        have k1 := HK1.out w1 hb
        have k2 := HK2.out w1 hb
        obtain ⟨z0, z1, z2, y0, y1, y2, zb⟩ := res_block (below_t HA0.out hb)
        have hww : w.heap.size < w1.heap.size := World.block_lt_of_cell? w1 _ z0
        clear hb HCUT HK1 HK2 HA0
        generalize fromA x c (at1 r + 1) = yy at *
        go_wp2_with fail
        with_reducible refine (HNM.out _).mono ?_
        rintro e w2 ⟨rfl, rfl⟩
        go_wp2_with fail
        with_reducible refine (HNN.out _).mono ?_
        rintro e w2 ⟨rfl, rfl⟩
        go_wp2
        obtain ⟨q0, q1, q2, qb⟩ := put3_end z0 z1 z2 zb (Nat.le_refl _) (.int .i64 0) (.string ⟨#[]⟩) (.slice none 0 0)
        revert q0 q1 q2 qb
        generalize hW : put3 w1 w.heap.size (.int .i64 0) (.string ⟨#[]⟩) (.slice none 0 0) = Wf
        intro q0 q1 q2 qb
        unfold put3 at hW
        rw [hW]
        clear hW
        exact bodyPost_ret (v := .agg #[.int .i64 0, .string ⟨#[]⟩, .slice none 0 0]) (by simp [results, Tryz.results147, go_sem, q0, q1, q2]) rfl (msgD_plain (by decide) (by decide) (by decide) qb)
      · rw [h2] at HNN
        clear h2
        rw [Bool.and_true, if_pos rfl]
        go_enter Tryz.func147, Tryz.ntmps147
        go_wp2_with fail
        with_reducible refine HCUT.out.mono ?_
        rintro e w1 ⟨rfl, hb⟩
        have k1 := HK1.out w1 hb
        have k2 := HK2.out w1 hb
        obtain ⟨z0, z1, z2, y0, y1, y2, zb⟩ := res_block (below_t HA0.out hb)
        have hww : w.heap.size < w1.heap.size := World.block_lt_of_cell? w1 _ z0
        clear hb HCUT HK1 HK2 HA0
        generalize fromA x c (at1 r + 1) = yy at *
        go_wp2_with fail
        with_reducible refine (HNM.out _).mono ?_
        rintro e w2 ⟨rfl, rfl⟩
        go_wp2_with fail
        with_reducible refine (HNN.out _).mono ?_
        rintro e w2 ⟨rfl, rfl⟩
        go_wp2
        obtain ⟨q0, q1, q2, qb⟩ := put3_end z0 z1 z2 zb (Nat.le_refl _) (.int .i64 2) (.string s2) (.slice none 0 0)
        revert q0 q1 q2 qb
        generalize hW : put3 w1 w.heap.size (.int .i64 2) (.string s2) (.slice none 0 0) = Wf
        intro q0 q1 q2 qb
        unfold put3 at hW
        rw [hW]
        clear hW
        exact bodyPost_ret (v := .agg #[.int .i64 2, .string s2, .slice none 0 0]) (by simp [results, Tryz.results147, go_sem, q0, q1, q2]) rfl (msgD_names qb)
  · have HCUT := hid (cut_none x n c r (w.heap.size + 1) _ hR hn hf hc1)
    have HOK := hid (show namesOk r = false by unfold namesOk; rw [show decide (at1 r < r.length) = false from decide_eq_false (by omega), Bool.false_and, Bool.false_and])
    have HA1 := hid hA1
    rw [HOK.out, if_neg (by decide)]
    clear h hR hA1 hA0 hc1 hn HOK
    go_enter Tryz.func147, Tryz.ntmps147
    go_wp2_with fail
    with_reducible refine HCUT.out.mono ?_
    rintro e w1 ⟨rfl, rfl⟩
    go_wp2
    exact bodyPost_ret (v := .agg #[.int .i64 0, .string ⟨#[]⟩, .slice none 0 0]) (by simp [results, Tryz.results147, go_sem]) rfl (msgD_plain (by decide) (by decide) (by decide) HA1.out)
set_option maxHeartbeats 2000000 in
set_option maxRecDepth 100000 in
theorem parseDevice_any (b : Int) (x : Option Addr) (n c : Nat) (r : List Int) (hn : n = r.length) (hl : n ≤ 1000) (w : World) (h : RdG w (.slice x n c) r) : Calls Tryz.prog 141 #[.int .u8 b, .slice x n c] w (MsgD (kindD b r) r (secondN r) (.slice x n c) w) := by
  unfold kindD
  by_cases hb : b = 4
  · subst hb
    rw [if_pos rfl]
    have H := hid (parseNames_any x n c r hn hl _ (h.step (bal (Below.refl w.heap.size w) (.cells #[.int .i64 0, .string ⟨#[]⟩, .slice none 0 0] 206))))
    generalize (if namesOk r = true then (2 : Int) else 0) = K at *
    generalize secondN r = S2 at *
    clear h hn
    go_enter Tryz.func141, Tryz.ntmps141
    go_wp2_with fail
    with_reducible refine H.out.mono ?_
    rintro e w1 ⟨v, d', rfl, hb, hd, hv, x', n', c', rfl⟩
    obtain ⟨z0, z1, z2, y0, y1, y2, zb⟩ := res_block hb
    have HD := hid hd
    have HV := hid hv
    clear hb hd hv H
    go_wp2
    obtain ⟨q0, q1, q2, qb⟩ := put3_end z0 z1 z2 zb (Nat.le_refl _) (.int .i64 K) (.string d') ((.slice x' n' c'))
    revert q0 q1 q2 qb
    generalize hW : put3 w1 w.heap.size (.int .i64 K) (.string d') ((.slice x' n' c')) = Wf
    intro q0 q1 q2 qb
    unfold put3 at hW
    rw [hW]
    clear hW
    exact bodyPost_ret (v := .agg #[.int .i64 K, .string d', (.slice x' n' c')]) (by simp [results, Tryz.results141, go_sem, q0, q1, q2]) rfl (⟨_, _, rfl, qb, HD.out, HV.out, _, _, _, rfl⟩)
  · by_cases hb6 : b = 6
    · subst hb6
      rw [if_neg hb, if_pos rfl]
      clear hb
      by_cases h2 : n = 2
      · have hne : r ≠ [] := fun q => by subst q; simp at hn; omega
        obtain ⟨g, off, cap, e, h1, h3, h4⟩ := h.row hne
        cases e
        have c0 := h4 0 (by omega)
        rw [Nat.add_zero] at c0
        have hg : g < w.heap.size := World.block_lt_of_cell? w _ c0
        rw [h2]
        by_cases h5 : r.getD 0 0 = 5
        · rw [if_pos ⟨rfl, h5⟩]
          rw [h5] at c0
          clear h h4 hn hne h5 h1 h2 h3
          go_enter Tryz.func141, Tryz.ntmps141
          go_wp2
          exact bodyPost_ret (v := .agg #[.int .i64 3, .string ⟨#[]⟩, .slice none 0 0]) (by simp [results, Tryz.results141, go_sem]) rfl (msgD_plain (by decide) (by decide) (by decide) (bal (Below.refl _ _) _))
        · rw [if_neg (fun q => h5 q.2)]
          have hb5 : (r.getD 0 0 == 5) = false := by simpa using h5
          generalize r.getD 0 0 = z at *
          clear h h4 hn hne h5 h1 h2 h3
          go_enter Tryz.func141, Tryz.ntmps141
          go_wp2
          exact bodyPost_ret (v := .agg #[.int .i64 0, .string ⟨#[]⟩, .slice none 0 0]) (by simp [results, Tryz.results141, go_sem]) rfl (msgD_plain (by decide) (by decide) (by decide) (bal (Below.refl _ _) _))
      · rw [if_neg (fun q => h2 (hn.trans q.1))]
        have hb2 : ((n : Int) == 2) = false := by simp; omega
        clear h hn h2
        go_enter Tryz.func141, Tryz.ntmps141
        go_wp2
        exact bodyPost_ret (v := .agg #[.int .i64 0, .string ⟨#[]⟩, .slice none 0 0]) (by simp [results, Tryz.results141, go_sem]) rfl (msgD_plain (by decide) (by decide) (by decide) (bal (Below.refl _ _) _))
    · rw [if_neg hb, if_neg hb6]
      have hb4' : (b == 4) = false := by simpa using hb
      have hb6' : (b == 6) = false := by simpa using hb6
      clear h hn hb hb6
      go_enter Tryz.func141, Tryz.ntmps141
      go_wp2
      exact bodyPost_ret (v := .agg #[.int .i64 0, .string ⟨#[]⟩, .slice none 0 0]) (by simp [results, Tryz.results141, go_sem]) rfl (msgD_plain (by decide) (by decide) (by decide) (bal (Below.refl _ _) _))
set_option maxHeartbeats 2000000 in
set_option maxRecDepth 100000 in
theorem parseFunctions_any (b : Int) (x : Option Addr) (n c : Nat) (r : List Int) (hn : n = r.length) (hl : n ≤ 1000) (d : ByteArray) (w : World) (h : RdG w (.slice x n c) r) : Calls Tryz.prog 142 #[.int .u8 b, .slice x n c] w (MsgD (kindF b r) r d (.slice x n c) w) := by
  unfold kindF
  have H := hid (eachOnce_any _ r _ (h.step (bal (Below.refl w.heap.size w) (.cells #[.int .i64 0, .string ⟨#[]⟩, .slice none 0 0] 206))) (by omega))
  clear h hn
  cases ho : onceL r
  · rw [ho] at H
    clear ho
    rw [if_neg (by decide)]
    go_enter Tryz.func142, Tryz.ntmps142
    go_wp2_with fail
    with_reducible refine H.out.mono ?_
    rintro e w1 ⟨rfl, hb⟩
    obtain ⟨z0, z1, z2, y0, y1, y2, zb⟩ := res_block hb
    clear hb H
    go_wp2
    obtain ⟨q0, q1, q2, qb⟩ := put3_end z0 z1 z2 zb (Nat.le_refl _) (.int .i64 0) (.string ⟨#[]⟩) (.slice none 0 0)
    revert q0 q1 q2 qb
    generalize hW : put3 w1 w.heap.size (.int .i64 0) (.string ⟨#[]⟩) (.slice none 0 0) = Wf
    intro q0 q1 q2 qb
    unfold put3 at hW
    rw [hW]
    clear hW
    exact bodyPost_ret (v := .agg #[.int .i64 0, .string ⟨#[]⟩, .slice none 0 0]) (by simp [results, Tryz.results142, go_sem, q0, q1, q2]) rfl (msgD_plain (by decide) (by decide) (by decide) qb)
  · rw [ho] at H
    clear ho
    rw [if_pos rfl]
    by_cases h4 : b = 4
    · subst h4
      rw [if_pos rfl]
      go_enter Tryz.func142, Tryz.ntmps142
      go_wp2_with fail
      with_reducible refine H.out.mono ?_
      rintro e w1 ⟨rfl, hb⟩
      obtain ⟨z0, z1, z2, y0, y1, y2, zb⟩ := res_block hb
      clear hb H
      go_wp2
      obtain ⟨q0, q1, q2, qb⟩ := put3_end z0 z1 z2 zb (Nat.le_refl _) (.int .i64 4) (.string ⟨#[]⟩) ((.slice x n c))
      revert q0 q1 q2 qb
      generalize hW : put3 w1 w.heap.size (.int .i64 4) (.string ⟨#[]⟩) ((.slice x n c)) = Wf
      intro q0 q1 q2 qb
      unfold put3 at hW
      rw [hW]
      clear hW
      exact bodyPost_ret (v := .agg #[.int .i64 4, .string ⟨#[]⟩, (.slice x n c)]) (by simp [results, Tryz.results142, go_sem, q0, q1, q2]) rfl (msgD_funs (by decide) qb)
    · rw [if_neg h4]
      have h4' : (b == 4) = false := by simpa using h4
      clear h4
      by_cases h7 : b = 7
      · subst h7
        rw [if_pos rfl]
        go_enter Tryz.func142, Tryz.ntmps142
        go_wp2_with fail
        with_reducible refine H.out.mono ?_
        rintro e w1 ⟨rfl, hb⟩
        obtain ⟨z0, z1, z2, y0, y1, y2, zb⟩ := res_block hb
        clear hb H
        go_wp2
        obtain ⟨q0, q1, q2, qb⟩ := put3_end z0 z1 z2 zb (Nat.le_refl _) (.int .i64 5) (.string ⟨#[]⟩) ((.slice x n c))
        revert q0 q1 q2 qb
        generalize hW : put3 w1 w.heap.size (.int .i64 5) (.string ⟨#[]⟩) ((.slice x n c)) = Wf
        intro q0 q1 q2 qb
        unfold put3 at hW
        rw [hW]
        clear hW
        exact bodyPost_ret (v := .agg #[.int .i64 5, .string ⟨#[]⟩, (.slice x n c)]) (by simp [results, Tryz.results142, go_sem, q0, q1, q2]) rfl (msgD_funs (by decide) qb)
      · rw [if_neg h7]
        have h7' : (b == 7) = false := by simpa using h7
        clear h7
        go_enter Tryz.func142, Tryz.ntmps142
        go_wp2_with fail
        with_reducible refine H.out.mono ?_
        rintro e w1 ⟨rfl, hb⟩
        obtain ⟨z0, z1, z2, y0, y1, y2, zb⟩ := res_block hb
        clear hb H
        go_wp2
        obtain ⟨q0, q1, q2, qb⟩ := put3_end z0 z1 z2 zb (Nat.le_refl _) (.int .i64 0) (.string ⟨#[]⟩) (.slice none 0 0)
        revert q0 q1 q2 qb
        generalize hW : put3 w1 w.heap.size (.int .i64 0) (.string ⟨#[]⟩) (.slice none 0 0) = Wf
        intro q0 q1 q2 qb
        unfold put3 at hW
        rw [hW]
        clear hW
        exact bodyPost_ret (v := .agg #[.int .i64 0, .string ⟨#[]⟩, .slice none 0 0]) (by simp [results, Tryz.results142, go_sem, q0, q1, q2]) rfl (msgD_plain (by decide) (by decide) (by decide) qb)
end
/-! XNh -/
section
open Go.RowKit Go.Lib
set_option maxHeartbeats 2000000 in
set_option maxRecDepth 100000 in
theorem parse_any (x : Option Addr) (n c : Nat) (xs : List Int) (hn : n = xs.length) (hl : n ≤ 1000) (w : World) (h : RdG w (.slice x n c) xs) : Calls Tryz.prog 130 #[.slice x n c] w (MsgD (kindL xs) (xs.drop 2) (secondN (xs.drop 2)) (.slice (fromA x c 2) (n - 2) (c - 2)) w) := by
  unfold kindL
  by_cases h2 : n < 2
  · rw [if_pos (by omega)]
    clear h hn
    go_enter Tryz.func130, Tryz.ntmps130
    go_wp2
    exact bodyPost_ret (v := .agg #[.int .i64 0, .string ⟨#[]⟩, .slice none 0 0]) (by simp [results, Tryz.results130, go_sem]) rfl (msgD_plain (by decide) (by decide) (by decide) (bal (Below.refl _ _) _))
  · rw [if_neg (by omega)]
    have hne : xs ≠ [] := fun q => by subst q; simp at hn; omega
    have hx0 : x ≠ none := fun q => by subst q; have := h.none'; omega
    have hsl : ∀ w, (Instr.sliceAt 22 (.slice x n c) (some (.int .i64 2)) none none).run Tryz.prog w = .ok (.slice (fromA x c 2) (n - 2) (c - 2)) w := run_fromA x n c 2 (by omega) (fun q => absurd q hx0)
    have hR := h.from' hn 2 (by omega)
    have hnd : n - 2 = (xs.drop 2).length := by rw [List.length_drop, hn]
    obtain ⟨g, off, cap, e, h1, h3, h4⟩ := h.row hne
    cases e
    have c0 := h4 0 (by omega)
    have c1 := h4 1 (by omega)
    rw [Nat.add_zero] at c0
    have hg : g < w.heap.size := World.block_lt_of_cell? w _ c0
    have l1 : ¬ xs.length < 2 := by omega
    have i0 : (0 : Int) < xs.length := by omega
    have i1 : (1 : Int) < xs.length := by omega
    have j1 : 1 < xs.length := by omega
    have j0 : 0 < xs.length := by omega
    have HA := hid (hR.step (bal (Below.refl w.heap.size w) (.cells #[.int .i64 0, .string ⟨#[]⟩, .slice none 0 0] 206)))
    unfold kind2
    generalize xs.getD 0 0 = a at *
    generalize xs.getD 1 0 = b at *
    generalize fromA (some ⟨g, off, none⟩) c 2 = y at *
    have hl2 : xs.length - 2 ≤ 1000 := by omega
    have HND := hid hnd
    clear h h4 hR hne hx0 hnd h2 h1 h3
    generalize xs.length - 2 = m at *
    generalize xs.drop 2 = r at *
    generalize xs.length = N at *
    by_cases h8 : a = 8
    · subst h8
      rw [if_pos rfl]
      have H := hid (parseSend_any b y m (c - 2) r HND.out (secondN r) (w.alloc (.cells #[.int .i64 0, .string ⟨#[]⟩, .slice none 0 0] 206)))
      generalize kindS b r = K at *
      go_enter Tryz.func130, Tryz.ntmps130
      go_wp2_with fail
      with_reducible refine H.out.mono ?_
      rintro e w1 ⟨v, d', rfl, hb, hd, hv, x', n', c', rfl⟩
      obtain ⟨z0, z1, z2, y0, y1, y2, zb⟩ := res_block hb
      have HD := hid hd
      have HV := hid hv
      clear hb hd hv H
      go_wp2
      obtain ⟨q0, q1, q2, qb⟩ := put3_end z0 z1 z2 zb (Nat.le_refl _) (.int .i64 K) (.string d') ((.slice x' n' c'))
      revert q0 q1 q2 qb
      generalize hW : put3 w1 w.heap.size (.int .i64 K) (.string d') ((.slice x' n' c')) = Wf
      intro q0 q1 q2 qb
      unfold put3 at hW
      rw [hW]
      clear hW
      exact bodyPost_ret (v := .agg #[.int .i64 K, .string d', (.slice x' n' c')]) (by simp [results, Tryz.results130, go_sem, q0, q1, q2]) rfl (⟨_, _, rfl, qb, HD.out, HV.out, _, _, _, rfl⟩)
    · rw [if_neg h8]
      have h8' : (a == 8) = false := by simpa using h8
      clear h8
      by_cases h2 : a = 2
      · subst h2
        rw [if_pos rfl]
        have H := hid (parseDevice_any b y m (c - 2) r HND.out hl2 _ HA.out)
        generalize kindD b r = K at *
        go_enter Tryz.func130, Tryz.ntmps130
        go_wp2_with fail
        with_reducible refine H.out.mono ?_
        rintro e w1 ⟨v, d', rfl, hb, hd, hv, x', n', c', rfl⟩
        obtain ⟨z0, z1, z2, y0, y1, y2, zb⟩ := res_block hb
        have HD := hid hd
        have HV := hid hv
        clear hb hd hv H
        go_wp2
        obtain ⟨q0, q1, q2, qb⟩ := put3_end z0 z1 z2 zb (Nat.le_refl _) (.int .i64 K) (.string d') ((.slice x' n' c'))
        revert q0 q1 q2 qb
        generalize hW : put3 w1 w.heap.size (.int .i64 K) (.string d') ((.slice x' n' c')) = Wf
        intro q0 q1 q2 qb
        unfold put3 at hW
        rw [hW]
        clear hW
        exact bodyPost_ret (v := .agg #[.int .i64 K, .string d', (.slice x' n' c')]) (by simp [results, Tryz.results130, go_sem, q0, q1, q2]) rfl (⟨_, _, rfl, qb, HD.out, HV.out, _, _, _, rfl⟩)
      · rw [if_neg h2]
        have h2' : (a == 2) = false := by simpa using h2
        clear h2
        by_cases h3 : a = 3
        · subst h3
          rw [if_pos rfl]
          have H := hid (parseFunctions_any b y m (c - 2) r HND.out hl2 (secondN r) _ HA.out)
          generalize kindF b r = K at *
          go_enter Tryz.func130, Tryz.ntmps130
          go_wp2_with fail
          with_reducible refine H.out.mono ?_
          rintro e w1 ⟨v, d', rfl, hb, hd, hv, x', n', c', rfl⟩
          obtain ⟨z0, z1, z2, y0, y1, y2, zb⟩ := res_block hb
          have HD := hid hd
          have HV := hid hv
          clear hb hd hv H
          go_wp2
          obtain ⟨q0, q1, q2, qb⟩ := put3_end z0 z1 z2 zb (Nat.le_refl _) (.int .i64 K) (.string d') ((.slice x' n' c'))
          revert q0 q1 q2 qb
          generalize hW : put3 w1 w.heap.size (.int .i64 K) (.string d') ((.slice x' n' c')) = Wf
          intro q0 q1 q2 qb
          unfold put3 at hW
          rw [hW]
          clear hW
          exact bodyPost_ret (v := .agg #[.int .i64 K, .string d', (.slice x' n' c')]) (by simp [results, Tryz.results130, go_sem, q0, q1, q2]) rfl (⟨_, _, rfl, qb, HD.out, HV.out, _, _, _, rfl⟩)
        · rw [if_neg h3]
          have h3' : (a == 3) = false := by simpa using h3
          clear h3
          go_enter Tryz.func130, Tryz.ntmps130
          go_wp2
          exact bodyPost_ret (v := .agg #[.int .i64 0, .string ⟨#[]⟩, .slice none 0 0]) (by simp [results, Tryz.results130, go_sem]) rfl (msgD_plain (by decide) (by decide) (by decide) (bal (Below.refl _ _) _))
end
end Go.Proofs.YtaanpnmgibcemaaGreatDoor.Ng
