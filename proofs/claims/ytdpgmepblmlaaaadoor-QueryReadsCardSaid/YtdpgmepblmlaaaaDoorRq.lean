/-
  The document's reading of a field: queries and reads; all fields.
-/
import Derived.Test.YtdpgmepblmlaaaaDoorRp
namespace Go.Proofs.YtdpgmepblmlaaaaDoor
open Go.RowKit Go.Lib Go.Deep

/-- A query list's state: two bytes, a box whose cells 0, 4, 5 are written, and a box that may be written. -/
abbrev Lst (w0 w : World) (g o : Nat) (b0 q : Int) (B1 B2 : Nat) : Prop := w.cell? ⟨g, o, none⟩ = some (.int .u8 b0) ∧ w.cell? ⟨g, o + 2, none⟩ = some (.int .u8 q) ∧ w.cell? ⟨B2, 1, none⟩ = some (.int .i64 0) ∧ w.cell? ⟨B2, 2, none⟩ = some (.int .i64 0) ∧ w.cell? ⟨B2, 3, none⟩ = some (.bool false) ∧ w.cell? ⟨B2, 6, none⟩ = some (.slice none 0 0) ∧ Opn7 w B2 ∧ Opn7 w B1 ∧ Below w0.heap.size w0 w
theorem lst_step {w0 w w' : World} {g o : Nat} {b0 q : Int} {B1 B2 : Nat} (h : Lst w0 w g o b0 q B1 B2) (hb : Below w.heap.size w w') : Lst w0 w' g o b0 q B1 B2 := by
  obtain ⟨h0, h1, h2, h3, h4, h5, h6, h7, h8⟩ := h
  exact ⟨keepc hb h0, keepc hb h1, keepc hb h2, keepc hb h3, keepc hb h4, keepc hb h5, h6.step hb, h7.step hb, below_t h8 hb⟩
theorem Opn7.set {w : World} {b : Nat} (h : Opn7 w b) (i : Nat) (u : Value) (hi : i = 0 ∨ i = 4 ∨ i = 5) : Opn7 (w.setCell ⟨b, i, none⟩ u) b := by
  obtain ⟨v0, v1, v2, v3, v4, v5, v6, h⟩ := h
  rcases hi with rfl | rfl | rfl
  · exact ⟨u, v1, v2, v3, v4, v5, v6, h.set1 u⟩
  · exact ⟨v0, v1, v2, v3, u, v5, v6, ⟨set_o (by omega) h.c0, set_o (by omega) h.c1, set_o (by omega) h.c2, set_o (by omega) h.c3, set_s h.c4, set_o (by omega) h.c5, set_o (by omega) h.c6, fun i hi => by simp [h.fr i hi]⟩⟩
  · exact ⟨v0, v1, v2, v3, v4, u, v6, ⟨set_o (by omega) h.c0, set_o (by omega) h.c1, set_o (by omega) h.c2, set_o (by omega) h.c3, set_o (by omega) h.c4, set_s h.c5, set_o (by omega) h.c6, fun i hi => by simp [h.fr i hi]⟩⟩
theorem lst_set {w0 w : World} {g o : Nat} {b0 q : Int} {B1 B2 : Nat} (h : Lst w0 w g o b0 q B1 B2) (i : Nat) (u : Value) (hi : i = 0 ∨ i = 4 ∨ i = 5) (hg : g < B2) (h12 : B1 < B2) (hB : w0.heap.size ≤ B2) : Lst w0 (w.setCell ⟨B2, i, none⟩ u) g o b0 q B1 B2 := by
  obtain ⟨h0, h1, h2, h3, h4, h5, h6, h7, h8⟩ := h
  have m : Moved w (w.setCell ⟨B2, i, none⟩ u) [B2] [B2] := Moved.set (by simp) _ _
  have n : g ∉ [B2] := fun q => by have := List.mem_singleton.1 q; omega
  exact ⟨cell_moved m h0 n, cell_moved m h1 n, set_o (by omega) h2, set_o (by omega) h3, set_o (by omega) h4, set_o (by omega) h5, h6.set i u hi, h7.moved m (fun q => by have := List.mem_singleton.1 q; omega), h8.setCell (by exact hB) _⟩
theorem lst_below {w0 w : World} {g o : Nat} {b0 q : Int} {B1 B2 : Nat} (h : Lst w0 w g o b0 q B1 B2) : Below w0.heap.size w0 w := h.2.2.2.2.2.2.2.2
/-- A query list was written. -/
structure LstE (w0 w : World) (g o : Nat) (b0 q : Int) (r : List Int) (B1 B2 : Nat) (v : Value) : Prop where
  bx : Box7 w B2 (.int .i64 2) (.int .i64 0) (.int .i64 0) (.bool false) (.int .u8 q) v (.slice none 0 0)
  op : Opn7 w B1
  ow : OwnB w v r
  fr : ∀ j ∈ blkV v, B2 < j
  c0 : w.cell? ⟨g, o, none⟩ = some (.int .u8 b0)
  be : Below w0.heap.size w0 w
theorem lst_end {w0 w2 : World} {g o : Nat} {b0 q : Int} {r : List Int} {B1 B2 : Nat} {v : Value} (h2 : Opn7 w2 B2) (ho : OwnB w2 v r) (hf : ∀ j ∈ blkV v, B2 < j) (h : Lst w0 (((w2.setCell ⟨B2, 0, none⟩ (.int .i64 2)).setCell ⟨B2, 4, none⟩ (.int .u8 q)).setCell ⟨B2, 5, none⟩ v) g o b0 q B1 B2) :
    LstE w0 (((w2.setCell ⟨B2, 0, none⟩ (.int .i64 2)).setCell ⟨B2, 4, none⟩ (.int .u8 q)).setCell ⟨B2, 5, none⟩ v) g o b0 q r B1 B2 v := by
  obtain ⟨a0, a1, a2, a3, a4, a5, a6, k⟩ := h2
  obtain ⟨h0, h1, h2, h3, h4, h5, h6, h7, h8⟩ := h
  have b := k.set045 (.int .i64 2) (.int .u8 q) v
  exact ⟨⟨b.c0, h2, h3, h4, b.c4, b.c5, h5, b.fr⟩, h7, ho.moved (((Moved.set (S := [B2]) (by simp) _ _).trans (Moved.set (by simp) _ _)).trans (Moved.set (by simp) _ _)) (fun j q q2 => by have := hf j q; have := List.mem_singleton.1 q2; omega), hf, h0, h8⟩
set_option maxRecDepth 100000 in
set_option maxHeartbeats 4000000 in
theorem rof_q (dv : Value) (b0 : Int) (r : List Int) (w : World) (h : Reads w dv (b0 :: 2 :: r)) : Calls Tryd.prog 17 #[.agg #[.int .u8 1, dv]] w (ErD (inP readM (b0 :: 2 :: r)) w) := by
  have HE := hid (fun (m : Int × AcD) (e : inP readM (b0 :: 2 :: r) = m) (h1 : m.2.codes = []) (h2 : m.2.rcd = []) w' (hb : Below w.heap.size w w') => (show ErD (inP readM (b0 :: 2 :: r)) w (.returned (.tuple #[acV m.2 (.slice none 0 0) (.slice none 0 0), .int .i64 m.1])) w' from by rw [e]; exact er_plain (m := m) (w := w) (w' := w') h1 h2 hb))
  obtain ⟨x, c, rfl, hop⟩ := reads_open h
  obtain ⟨g, o, rfl, hgl, hc, hm, hcell⟩ := hop (by simp)
  have hgl1 : g < w.heap.size + 1 := by omega
  have hgl2 : g < w.heap.size + 1 + 1 := by omega
  have k0 := h.1 b0 (by simp)
  have c0 : w.cell? ⟨g, o, none⟩ = some (.int .u8 b0) := hcell 0 (by simp)
  have c1 : w.cell? ⟨g, o + 1, none⟩ = some (.int .u8 2) := hcell 1 (by simp)
  obtain ⟨b0, rfl⟩ : ∃ n : Nat, b0 = n := ⟨b0.toNat, by omega⟩
  have hM := inP_cons readM (b0 : Int) (2 :: r)
  have hR : readM (2 :: r) = (acK 1, r.isEmpty) := rfl
  have HCM := hid (fun W => (show Calls Tryd.prog 56 #[.int .u8 2] W fun e w' => e = .returned (.int .i64 5) ∧ w' = W from rcommand_any 2 (by omega) W))
  clear hcell hc hm hop
  by_cases hr : r = []
  · subst hr
    simp only [List.length_cons, List.length_nil, Nat.zero_add, Nat.reduceAdd] at *
    by_cases hp : (b0 : Int) = 255
    · obtain rfl : b0 = 255 := by omega
      have HE1 := hid (HE.out (0, acK 1) (by rw [hM, hR, if_pos (show ([] : List Int).isEmpty = true from rfl)]; exact if_pos rfl) rfl rfl)
      clear h hM HE hp hR 
      go_enter Tryd.func17, Tryd.ntmps17
      go_wp2_with fail
      with_reducible refine (HCM.out _).mono ?_
      rintro e w1 ⟨rfl, hw⟩
      obtain rfl := hw
      go_wp2
      refine bodyPost_ret (v := .tuple #[.agg #[.int .i64 1, .int .i64 0, .int .i64 0, .bool false, .int .u8 0, .slice none 0 0, .slice none 0 0], .int .i64 0]) (by simp [results, Tryd.results17, go_sem]) rfl (HE1.out _ ?_)
      exact bal (bal (bal (Below.refl _ _) _) _) _
    · have HE1 := hid (HE.out (1, acZ) (by rw [hM, hR, if_pos (show ([] : List Int).isEmpty = true from rfl)]; exact if_neg hp) rfl rfl)
      have e1 : ((b0 : Int) == 255) = false := by simpa using hp
      clear h hM HE hp hR 
      go_enter Tryd.func17, Tryd.ntmps17
      go_wp2_with fail
      with_reducible refine (HCM.out _).mono ?_
      rintro e w1 ⟨rfl, hw⟩
      obtain rfl := hw
      go_wp2
      refine bodyPost_ret (v := .tuple #[.agg #[.int .i64 0, .int .i64 0, .int .i64 0, .bool false, .int .u8 0, .slice none 0 0, .slice none 0 0], .int .i64 1]) (by simp [results, Tryd.results17, go_sem]) rfl (HE1.out _ ?_)
      exact bal (bal (bal (Below.refl _ _) _) _) _
  · have hr0 : 0 < r.length := List.length_pos_iff.2 hr
    have hre : r.isEmpty = false := List.isEmpty_eq_false_iff.2 hr
    obtain ⟨N, hN⟩ : ∃ N, ((b0 : Int) :: 2 :: r).length = N := ⟨_, rfl⟩
    rw [hN]
    rw [List.length_cons, List.length_cons] at hN
    have n1 : 1 < N := by omega
    have n0 : 0 < N := by omega
    have i1 : (1 : Int) < N := by omega
    have i2 : ¬ (N : Int) < 2 := by omega
    have i0 : (0 : Int) < N := by omega
    have i3 : ((N : Int) == 2) = false := by simp; omega
    have i4 : ((N : Int) != 2) = true := by simp; omega
    rw [hre] at hR
    clear hN hr hr0 hre
    have HE1 := hid (HE.out (4, acZ) (by rw [hM, hR, if_neg Bool.false_ne_true]) rfl rfl)
    clear h hM HE hR 
    go_enter Tryd.func17, Tryd.ntmps17
    go_wp2_with fail
    with_reducible refine (HCM.out _).mono ?_
    rintro e w1 ⟨rfl, hw⟩
    obtain rfl := hw
    go_wp2
    refine bodyPost_ret (v := .tuple #[.agg #[.int .i64 0, .int .i64 0, .int .i64 0, .bool false, .int .u8 0, .slice none 0 0, .slice none 0 0], .int .i64 4]) (by simp [results, Tryd.results17, go_sem]) rfl (HE1.out _ ?_)
    exact bal (bal (bal (Below.refl _ _) _) _) _
theorem cmd_three : cmdF 3 = (0, true) := by decide +kernel
set_option maxRecDepth 100000 in
set_option maxHeartbeats 4000000 in
theorem rof_c (dv : Value) (b0 b1 : Int) (r : List Int) (w : World) (h : Reads w dv (b0 :: b1 :: r)) (h2 : b1 ≠ 2) (h3 : b1 ≠ 3) : Calls Tryd.prog 17 #[.agg #[.int .u8 1, dv]] w (ErD (inP readM (b0 :: b1 :: r)) w) := by
  have HE := hid (fun (m : Int × AcD) (e : inP readM (b0 :: b1 :: r) = m) (h1 : m.2.codes = []) (h2 : m.2.rcd = []) w' (hb : Below w.heap.size w w') => (show ErD (inP readM (b0 :: b1 :: r)) w (.returned (.tuple #[acV m.2 (.slice none 0 0) (.slice none 0 0), .int .i64 m.1])) w' from by rw [e]; exact er_plain (m := m) (w := w) (w' := w') h1 h2 hb))
  obtain ⟨x, c, rfl, hop⟩ := reads_open h
  obtain ⟨g, o, rfl, hgl, hc, hm, hcell⟩ := hop (by simp)
  have hgl1 : g < w.heap.size + 1 := by omega
  have hgl2 : g < w.heap.size + 1 + 1 := by omega
  have k0 := h.1 b0 (by simp)
  have k1 := h.1 b1 (by simp)
  have c0 : w.cell? ⟨g, o, none⟩ = some (.int .u8 b0) := hcell 0 (by simp)
  have c1 : w.cell? ⟨g, o + 1, none⟩ = some (.int .u8 b1) := hcell 1 (by simp)
  obtain ⟨b0, rfl⟩ : ∃ n : Nat, b0 = n := ⟨b0.toNat, by omega⟩
  obtain ⟨b1, rfl⟩ : ∃ n : Nat, b1 = n := ⟨b1.toNat, by omega⟩
  have hM := inP_cons readM (b0 : Int) ((b1 : Int) :: r)
  have hR : readM ((b1 : Int) :: r) = (⟨3, (cmdF b1).1, 0, false, 0, [], []⟩, cmdOK b1 && r.isEmpty) := by rw [readM_cons, if_neg h2, if_neg h3]
  have HCM := hid (fun W => rcommand_any b1 (by omega) W)
  have q2 : ((b1 : Int) == 2) = false := by simpa using h2
  have q3 : ((b1 : Int) == 3) = false := by simpa using h3
  obtain ⟨N, hN⟩ : ∃ N, ((b0 : Int) :: (b1 : Int) :: r).length = N := ⟨_, rfl⟩
  rw [hN]
  rw [List.length_cons, List.length_cons] at hN
  have n1 : 1 < N := by omega
  have n0 : 0 < N := by omega
  have i1 : (1 : Int) < N := by omega
  have i2 : ¬ (N : Int) < 2 := by omega
  have i0 : (0 : Int) < N := by omega
  clear hcell hc hm hop h2 h3
  cases ho : cmdOK (b1 : Int)
  · rw [ho, Bool.false_and] at hR
    have hc : (if (cmdF (b1 : Int)).2 then (cmdF (b1 : Int)).1 else -1) < 5 ∨ 7 < (if (cmdF (b1 : Int)).2 then (cmdF (b1 : Int)).1 else -1) := by
      unfold cmdOK at ho
      cases h2 : (cmdF (b1 : Int)).2
      · rw [if_neg Bool.false_ne_true]
        omega
      · rw [h2] at ho
        rw [if_pos rfl]
        have : 5 ≤ (cmdF (b1 : Int)).1 → ¬ (cmdF (b1 : Int)).1 ≤ 7 := by simpa using ho
        omega
    generalize (if (cmdF (b1 : Int)).2 then (cmdF (b1 : Int)).1 else -1) = cm at HCM hc
    have HE1 := hid (HE.out (4, acZ) (by rw [hM, hR, if_neg Bool.false_ne_true]) rfl rfl)
    clear h hM HE hR ho hN
    by_cases h5 : 5 ≤ cm
    · have h7 : ¬ cm ≤ 7 := by omega
      have d7 : decide (cm ≤ 7) = false := by simpa using h7
      clear hc
      go_enter Tryd.func17, Tryd.ntmps17
      go_wp2_with fail
      with_reducible refine (HCM.out _).mono ?_
      rintro e w1 ⟨rfl, hw⟩
      obtain rfl := hw
      go_wp2
      refine bodyPost_ret (v := .tuple #[.agg #[.int .i64 0, .int .i64 0, .int .i64 0, .bool false, .int .u8 0, .slice none 0 0, .slice none 0 0], .int .i64 4]) (by simp [results, Tryd.results17, go_sem]) rfl (HE1.out _ ?_)
      exact bal (bal (bal (Below.refl _ _) _) _) _
    have d5 : decide (5 ≤ cm) = false := by simpa using h5
    clear hc
    go_enter Tryd.func17, Tryd.ntmps17
    go_wp2_with fail
    with_reducible refine (HCM.out _).mono ?_
    rintro e w1 ⟨rfl, hw⟩
    obtain rfl := hw
    go_wp2
    refine bodyPost_ret (v := .tuple #[.agg #[.int .i64 0, .int .i64 0, .int .i64 0, .bool false, .int .u8 0, .slice none 0 0, .slice none 0 0], .int .i64 4]) (by simp [results, Tryd.results17, go_sem]) rfl (HE1.out _ ?_)
    exact bal (bal (bal (Below.refl _ _) _) _) _
  rw [ho, Bool.true_and] at hR
  have hc : (if (cmdF (b1 : Int)).2 then (cmdF (b1 : Int)).1 else -1) = (cmdF (b1 : Int)).1 ∧ 5 ≤ (cmdF (b1 : Int)).1 ∧ (cmdF (b1 : Int)).1 ≤ 7 := by
    unfold cmdOK at ho
    cases h2 : (cmdF (b1 : Int)).2
    · rw [h2] at ho
      simp at ho
    · rw [h2] at ho
      rw [if_pos rfl]
      simpa using ho
  rw [hc.1] at HCM
  obtain ⟨-, h5, h7⟩ := hc
  generalize (cmdF (b1 : Int)).1 = C at HCM h5 h7 hR
  by_cases hr : r = []
  · subst hr
    obtain rfl : N = 2 := by simpa using hN.symm
    clear hN ho
    by_cases hp : (b0 : Int) = 0
    · obtain rfl : b0 = 0 := by omega
      have HE1 := hid (HE.out (0, ⟨3, C, 0, false, 0, [], []⟩) (by rw [hM, hR, if_pos (show ([] : List Int).isEmpty = true from rfl)]; exact if_pos rfl) rfl rfl)
      clear h hM HE hp hR 
      go_enter Tryd.func17, Tryd.ntmps17
      go_wp2_with fail
      with_reducible refine (HCM.out _).mono ?_
      rintro e w1 ⟨rfl, hw⟩
      obtain rfl := hw
      go_wp2
      refine bodyPost_ret (v := .tuple #[.agg #[.int .i64 3, .int .i64 C, .int .i64 0, .bool false, .int .u8 0, .slice none 0 0, .slice none 0 0], .int .i64 0]) (by simp [results, Tryd.results17, go_sem]) rfl (HE1.out _ ?_)
      exact bal (bal (bal (Below.refl _ _) _) _) _
    · have HE1 := hid (HE.out (1, acZ) (by rw [hM, hR, if_pos (show ([] : List Int).isEmpty = true from rfl)]; exact if_neg hp) rfl rfl)
      have e1 : ((b0 : Int) == 0) = false := by simpa using hp
      clear h hM HE hp hR 
      go_enter Tryd.func17, Tryd.ntmps17
      go_wp2_with fail
      with_reducible refine (HCM.out _).mono ?_
      rintro e w1 ⟨rfl, hw⟩
      obtain rfl := hw
      go_wp2
      refine bodyPost_ret (v := .tuple #[.agg #[.int .i64 0, .int .i64 0, .int .i64 0, .bool false, .int .u8 0, .slice none 0 0, .slice none 0 0], .int .i64 1]) (by simp [results, Tryd.results17, go_sem]) rfl (HE1.out _ ?_)
      exact bal (bal (bal (Below.refl _ _) _) _) _
  · have hr0 : 0 < r.length := List.length_pos_iff.2 hr
    have hre : r.isEmpty = false := List.isEmpty_eq_false_iff.2 hr
    have i3 : ((N : Int) == 2) = false := by simp; omega
    rw [hre] at hR
    clear hN hr hr0 hre ho
    have HE1 := hid (HE.out (4, acZ) (by rw [hM, hR, if_neg Bool.false_ne_true]) rfl rfl)
    clear h hM HE hR 
    go_enter Tryd.func17, Tryd.ntmps17
    go_wp2_with fail
    with_reducible refine (HCM.out _).mono ?_
    rintro e w1 ⟨rfl, hw⟩
    obtain rfl := hw
    go_wp2
    refine bodyPost_ret (v := .tuple #[.agg #[.int .i64 0, .int .i64 0, .int .i64 0, .bool false, .int .u8 0, .slice none 0 0, .slice none 0 0], .int .i64 4]) (by simp [results, Tryd.results17, go_sem]) rfl (HE1.out _ ?_)
    exact bal (bal (bal (Below.refl _ _) _) _) _
set_option maxRecDepth 100000 in
set_option maxHeartbeats 4000000 in
theorem rof_l (dv : Value) (b0 : Int) (r : List Int) (w : World) (h : Reads w dv (b0 :: 3 :: r)) (hl : (b0 :: 3 :: r).length ≤ 10000000) : Calls Tryd.prog 17 #[.agg #[.int .u8 1, dv]] w (ErD (inP readM (b0 :: 3 :: r)) w) := by
  have HE := hid (fun (m : Int × AcD) (e : inP readM (b0 :: 3 :: r) = m) (h1 : m.2.codes = []) (h2 : m.2.rcd = []) w' (hb : Below w.heap.size w w') => (show ErD (inP readM (b0 :: 3 :: r)) w (.returned (.tuple #[acV m.2 (.slice none 0 0) (.slice none 0 0), .int .i64 m.1])) w' from by rw [e]; exact er_plain (m := m) (w := w) (w' := w') h1 h2 hb))
  obtain ⟨x, c, rfl, hop⟩ := reads_open h
  obtain ⟨g, o, rfl, hgl, hc, hm, hcell⟩ := hop (by simp)
  have hgl1 : g < w.heap.size + 1 := by omega
  have hgl2 : g < w.heap.size + 1 + 1 := by omega
  have k0 := h.1 b0 (by simp)
  have c0 : w.cell? ⟨g, o, none⟩ = some (.int .u8 b0) := hcell 0 (by simp)
  have c1 : w.cell? ⟨g, o + 1, none⟩ = some (.int .u8 3) := hcell 1 (by simp)
  obtain ⟨b0, rfl⟩ : ∃ n : Nat, b0 = n := ⟨b0.toNat, by omega⟩
  have hM := inP_cons readM (b0 : Int) (3 :: r)
  have hR : readM (3 :: r) = listM r := by rw [readM_cons, if_neg (by decide), if_pos rfl]
  have HCM := hid (fun W => (show Calls Tryd.prog 56 #[.int .u8 3] W fun e w' => e = .returned (.int .i64 0) ∧ w' = W from by
    have q := rcommand_any 3 (by omega) W
    rw [show cmdF ((3 : Nat) : Int) = (0, true) from cmd_three] at q
    exact q))
  match r, h, hcell, hR, hM, HE, hl with
  | [], h, hcell, hR, hM, HE, hl =>
    have hR : readM [3] = (acZ, false) := hR
    simp only [List.length_cons, List.length_nil, Nat.zero_add, Nat.reduceAdd] at *
    clear hcell hc hm hop hl
    have HE1 := hid (HE.out (4, acZ) (by rw [hM, hR, if_neg Bool.false_ne_true]) rfl rfl)
    clear h hM HE hR 
    go_enter Tryd.func17, Tryd.ntmps17
    go_wp2_with fail
    with_reducible refine (HCM.out _).mono ?_
    rintro e w1 ⟨rfl, hw⟩
    obtain rfl := hw
    go_wp2
    refine bodyPost_ret (v := .tuple #[.agg #[.int .i64 0, .int .i64 0, .int .i64 0, .bool false, .int .u8 0, .slice none 0 0, .slice none 0 0], .int .i64 4]) (by simp [results, Tryd.results17, go_sem]) rfl (HE1.out _ ?_)
    exact bal (bal (bal (Below.refl _ _) _) _) _
  | q :: r, h, hcell, hR, hM, HE, hl =>
    have kq := h.1 q (by simp)
    have c2 : w.cell? ⟨g, o + 2, none⟩ = some (.int .u8 q) := hcell 2 (by simp)
    obtain ⟨q, rfl⟩ : ∃ n : Nat, q = n := ⟨q.toNat, by omega⟩
    obtain ⟨xs, cs, hsl0, hrd⟩ := from_all h 3 (by simp)
    have hdr : ((b0 : Int) :: 3 :: (q : Int) :: r).drop 3 = r := rfl
    rw [hdr] at hrd
    have HRD := hid h
    obtain ⟨N, hN⟩ : ∃ N, ((b0 : Int) :: 3 :: (q : Int) :: r).length = N := ⟨_, rfl⟩
    rw [hN] at hsl0 hrd hl HRD ⊢
    rw [List.length_cons, List.length_cons, List.length_cons] at hN
    have n1 : 1 < N := by omega
    have n0 : 0 < N := by omega
    have n2 : 2 < N := by omega
    have n3 : 3 ≤ N := by omega
    have i0 : (0 : Int) < N := by omega
    have i1 : (1 : Int) < N := by omega
    have i2 : ¬ (N : Int) < 2 := by omega
    have i3 : ¬ (N : Int) < 3 := by omega
    have i4 : (2 : Int) < N := by omega
    have i5 : (3 : Int) ≤ N := by omega
    clear hcell hc hm hop h
    by_cases hq : (q : Int) = 0 ∨ (q : Int) = 64 ∨ (q : Int) = 128
    · have hL : listM ((q : Int) :: r) = (⟨2, 0, 0, false, q, r, []⟩, true) := by rw [listM_cons, if_pos hq]
      rw [hR, hL, if_pos rfl] at hM
      have HM := hid hM
      generalize inP readM ((b0 : Int) :: 3 :: (q : Int) :: r) = R at HM ⊢
      have HCP := hid (fun W (hW : Below w.heap.size w W) => rcopy_own _ r W (hrd W (reads_below HRD.out hW)) (by omega))
      have hsl : ∀ w', (Instr.sliceAt 22 (.slice (some ⟨g, o, none⟩) N c) (some (.int .i64 3)) none none).run Tryd.prog w' = .ok (.slice xs (N - 3) cs) w' := hsl0
      have hn3 : (3 : Nat) ≤ N := by omega
      obtain ⟨w0, hw0⟩ : ∃ w0, ((w.alloc (.cells #[.int .u8 1, .slice (some ⟨g, o, none⟩) N c] 36)).alloc (.cells #[.int .i64 0, .int .i64 0, .int .i64 0, .bool false, .int .u8 0, .slice none 0 0, .slice none 0 0] 41)).alloc (.cells #[.int .i64 0, .int .i64 0, .int .i64 0, .bool false, .int .u8 0, .slice none 0 0, .slice none 0 0] 41) = w0 := ⟨_, rfl⟩
      have hb0 : Below w.heap.size w w0 := by rw [← hw0]; exact bal (bal (bal (Below.refl _ _) _) _) _
      have hz0 : w0.heap.size = w.heap.size + 3 := by rw [← hw0]; simp
      have HA0 := hid (show Box7 w0 (w.heap.size + 1 + 1) (.int .i64 0) (.int .i64 0) (.int .i64 0) (.bool false) (.int .u8 0) (.slice none 0 0) (.slice none 0 0) from by
        rw [← hw0]
        exact ⟨by simp [go_sem], by simp [go_sem], by simp [go_sem], by simp [go_sem], by simp [go_sem], by simp [go_sem], by simp [go_sem], fun i _ => by simp [go_sem]⟩)
      have HR0 := hid (show Opn7 w0 (w.heap.size + 1) from by
        rw [← hw0]
        exact ⟨_, _, _, _, _, _, _, ⟨by simp [go_sem]; rfl, by simp [go_sem]; rfl, by simp [go_sem]; rfl, by simp [go_sem]; rfl, by simp [go_sem]; rfl, by simp [go_sem]; rfl, by simp [go_sem]; rfl, fun i _ => by simp [go_sem]⟩⟩)
      have HX0 := hid (show Lst w w0 g o b0 q (w.heap.size + 1) (w.heap.size + 1 + 1) from ⟨keepc hb0 c0, keepc hb0 c2, HA0.out.c1, HA0.out.c2, HA0.out.c3, HA0.out.c6, ⟨_, _, _, _, _, _, _, HA0.out⟩, HR0.out, hb0⟩)
      have HX1 := hid (lst_step HX0.out (Below.refl w0.heap.size w0).drew)
      have HW0 := hid hw0
      have hlt2 : w.heap.size + 1 + 1 < w0.heap.size := by omega
      have hf : ((q : Int) != 0) = false ∨ ((q : Int) != 0) = true ∧ ((q : Int) != 64) = false ∨ ((q : Int) != 0) = true ∧ ((q : Int) != 64) = true ∧ ((q : Int) != 128) = false := by
        rcases hq with hq | hq | hq <;> rw [hq] <;> decide
      have HSL := hid hsl
      clear hsl hsl0 hrd hdr hM HE hR hL hN hl hw0 hb0 hq HRD
      rcases hf with u0 | ⟨u0, u1⟩ | ⟨u0, u1, u2⟩
      all_goals
        go_enter Tryd.func17, Tryd.ntmps17
        go_wp2_with fail
        with_reducible refine (HCM.out _).mono ?_
        rintro e w1 ⟨rfl, hw⟩
        obtain rfl := hw
        go_upto_region 19 with fail
        rw [HW0.out]
        have hsl := HSL.out
        have hw2 : w.heap.size ≤ w.heap.size + 1 + 1 := by omega
        have hB12 : w.heap.size + 1 < w.heap.size + 1 + 1 := by omega
        go_region_held3 (fun w' => w'.cell? ⟨g, o, none⟩ = some (.int .u8 b0) ∧ w'.cell? ⟨g, o + 2, none⟩ = some (.int .u8 q) ∧ w'.cell? ⟨w.heap.size + 1 + 1, 1, none⟩ = some (.int .i64 0) ∧ w'.cell? ⟨w.heap.size + 1 + 1, 2, none⟩ = some (.int .i64 0) ∧ w'.cell? ⟨w.heap.size + 1 + 1, 3, none⟩ = some (.bool false) ∧ w'.cell? ⟨w.heap.size + 1 + 1, 6, none⟩ = some (.slice none 0 0) ∧ Opn7 w' (w.heap.size + 1 + 1) ∧ Opn7 w' (w.heap.size + 1) ∧ Below w.heap.size w w') (first | with_reducible exact HX1.out | with_reducible exact lst_step (by assumption) (by assumption) | with_reducible exact lst_set (by assumption) 0 _ (.inl rfl) hgl2 hB12 hw2 | with_reducible exact lst_set (by assumption) 4 _ (.inr (.inl rfl)) hgl2 hB12 hw2 | with_reducible exact lst_set (by assumption) 5 _ (.inr (.inr rfl)) hgl2 hB12 hw2 | fail) (first | (go_at_call 12; (with_reducible refine (HCP.out _ (lst_below (by first | assumption | with_reducible exact HX1.out))).mono ?_); rintro e w2 ⟨vc, rfl, ho, hb2, hk⟩; have HS2 := hid (lst_step (by first | assumption | with_reducible exact HX1.out) hb2); have HFR := hid (fun j (qj : j ∈ blkV vc) => Nat.lt_of_lt_of_le (Opn7.lt (by first | exact HX1.out.2.2.2.2.2.2.1 | (rename_i hs; exact hs.2.2.2.2.2.2.1))) (hk j qj)); obtain ⟨xv, nv, cv, rfl⟩ := own_slice ho; have HO2 := hid ho; clear ho hk; obtain ⟨z0, z1, z2, z3, z4, z5, z6, y0, y1, y2, y3, y4, y5, y6, y7, y8, y9, ya, yb, yc, yd⟩ := HS2.out.2.2.2.2.2.2.1.out))
        all_goals
          have HE9 := hid (lst_end HS2.out.2.2.2.2.2.2.1 HO2.out HFR.out (by assumption))
          obtain ⟨w3, hw3⟩ : ∃ w3, ((w2.setCell ⟨w.heap.size + 1 + 1, 0, none⟩ (.int .i64 2)).setCell ⟨w.heap.size + 1 + 1, 4, none⟩ (.int .u8 q)).setCell ⟨w.heap.size + 1 + 1, 5, none⟩ (.slice xv nv cv) = w3 := ⟨_, rfl⟩
          rw [hw3] at HE9 ⊢
          have HA3 := hid HE9.out.bx
          have HOP := hid HE9.out.op
          have HO3 := hid HE9.out.ow
          have HK2 := hid HE9.out.fr
          have HB3 := hid HE9.out.be
          have c0 := HE9.out.c0
          clear hw3 y0 y1 y2 y3 y4 y5 y6 y7 y8 y9 ya yb yc yd
          go_upto_region 43 with fail
          obtain ⟨x0, x1, x2, x3, x4, x5, x6, -⟩ := HA3.out
          obtain ⟨z0, z1, z2, z3, z4, z5, z6, y0, y1, y2, y3, y4, y5, y6, y7, y8, y9, ya, yb, yc, yd⟩ := HOP.out.out
          by_cases hp : (b0 : Int) = 255
          · obtain rfl : b0 = 255 := by omega
            obtain rfl : R = (0, ⟨2, 0, 0, false, q, r, []⟩) := HM.out.trans (if_pos rfl)
            clear hp
            go_wp2
            obtain ⟨k0, k1, k2, k3, k4, k5, k6, -⟩ := Opn7.put (w := w3) (b := (w.heap.size + 1)) HOP.out (.int .i64 2) (.int .i64 0) (.int .i64 0) (.bool false) (.int .u8 q) (.slice xv nv cv) (.slice none 0 0)
            have HF := hid (show ErD (0, ⟨2, 0, 0, false, q, r, []⟩) w (.returned (.tuple #[acV ⟨2, 0, 0, false, q, r, []⟩ (.slice xv nv cv) (.slice none 0 0), .int .i64 0])) (put7 w3 (w.heap.size + 1) (.int .i64 2) (.int .i64 0) (.int .i64 0) (.bool false) (.int .u8 q) (.slice xv nv cv) (.slice none 0 0)) from ⟨_, _, rfl, put7_own HO3.out (fun j qq => by have := HK2.out j qq; omega) _ _ _ _ _ _ _, OwnB.nil _, put7_below HB3.out (by omega) _ _ _ _ _ _ _, fun j qq => by have := HK2.out j qq; omega, fun _ qq => (by cases qq)⟩)
            revert HF k0 k1 k2 k3 k4 k5 k6
            generalize hW : put7 w3 (w.heap.size + 1) (.int .i64 2) (.int .i64 0) (.int .i64 0) (.bool false) (.int .u8 q) (.slice xv nv cv) (.slice none 0 0) = Wf
            intro k0 k1 k2 k3 k4 k5 k6 HF
            unfold put7 at hW
            rw [hW]
            exact bodyPost_ret (v := .tuple #[.agg #[.int .i64 2, .int .i64 0, .int .i64 0, .bool false, .int .u8 q, .slice xv nv cv, .slice none 0 0], .int .i64 0]) (by simp [results, Tryd.results17, go_sem, k0, k1, k2, k3, k4, k5, k6]) rfl HF.out
          · obtain rfl : R = (1, acZ) := HM.out.trans (if_neg hp)
            have e1 : ((b0 : Int) == 255) = false := by simpa using hp
            clear hp
            go_wp2
            obtain ⟨k0, k1, k2, k3, k4, k5, k6, -⟩ := Opn7.put (w := w3) (b := (w.heap.size + 1)) HOP.out (.int .i64 0) (.int .i64 0) (.int .i64 0) (.bool false) (.int .u8 0) (.slice none 0 0) (.slice none 0 0)
            have HF := hid (show ErD (1, acZ) w (.returned (.tuple #[acV acZ (.slice none 0 0) (.slice none 0 0), .int .i64 1])) (put7 w3 (w.heap.size + 1) (.int .i64 0) (.int .i64 0) (.int .i64 0) (.bool false) (.int .u8 0) (.slice none 0 0) (.slice none 0 0)) from Opn7.putZ (m := (1, acZ)) HB3.out (by omega) rfl)
            revert HF k0 k1 k2 k3 k4 k5 k6
            generalize hW : put7 w3 (w.heap.size + 1) (.int .i64 0) (.int .i64 0) (.int .i64 0) (.bool false) (.int .u8 0) (.slice none 0 0) (.slice none 0 0) = Wf
            intro k0 k1 k2 k3 k4 k5 k6 HF
            unfold put7 at hW
            rw [hW]
            exact bodyPost_ret (v := .tuple #[.agg #[.int .i64 0, .int .i64 0, .int .i64 0, .bool false, .int .u8 0, .slice none 0 0, .slice none 0 0], .int .i64 1]) (by simp [results, Tryd.results17, go_sem, k0, k1, k2, k3, k4, k5, k6]) rfl HF.out
    · have hL : listM ((q : Int) :: r) = (acZ, false) := by rw [listM_cons, if_neg hq]
      rw [hL] at hR
      have u0 : ((q : Int) != 0) = true := by simp; omega
      have u1 : ((q : Int) != 64) = true := by simp; omega
      have u2 : ((q : Int) != 128) = true := by simp; omega
      clear hN hq hL hrd hsl0 hdr hl HRD
      have HE1 := hid (HE.out (4, acZ) (by rw [hM, hR, if_neg Bool.false_ne_true]) rfl rfl)
      clear hM HE hR 
      go_enter Tryd.func17, Tryd.ntmps17
      go_wp2_with fail
      with_reducible refine (HCM.out _).mono ?_
      rintro e w1 ⟨rfl, hw⟩
      obtain rfl := hw
      go_wp2
      refine bodyPost_ret (v := .tuple #[.agg #[.int .i64 0, .int .i64 0, .int .i64 0, .bool false, .int .u8 0, .slice none 0 0, .slice none 0 0], .int .i64 4]) (by simp [results, Tryd.results17, go_sem]) rfl (HE1.out _ ?_)
      exact bal (bal (bal (Below.refl _ _) _) _) _
set_option maxRecDepth 100000 in
set_option maxHeartbeats 4000000 in
theorem rof_1 (dv : Value) (xs : List Int) (w : World) (h : Reads w dv xs) (hl : xs.length ≤ 10000000) : Calls Tryd.prog 17 #[.agg #[.int .u8 1, dv]] w (ErD (inP readM xs) w) := by
  have HE := hid (fun (m : Int × AcD) (e : inP readM xs = m) (h1 : m.2.codes = []) (h2 : m.2.rcd = []) w' (hb : Below w.heap.size w w') => (show ErD (inP readM xs) w (.returned (.tuple #[acV m.2 (.slice none 0 0) (.slice none 0 0), .int .i64 m.1])) w' from by rw [e]; exact er_plain (m := m) (w := w) (w' := w') h1 h2 hb))
  obtain ⟨x, c, rfl, hop⟩ := reads_open h
  match xs, h, hop, HE with
  | [], h, hop, HE =>
    have HE1 := hid (HE.out (4, acZ) rfl rfl rfl)
    clear h HE hop
    go_enter Tryd.func17, Tryd.ntmps17
    go_wp2
    refine bodyPost_ret (v := .tuple #[.agg #[.int .i64 0, .int .i64 0, .int .i64 0, .bool false, .int .u8 0, .slice none 0 0, .slice none 0 0], .int .i64 4]) (by simp [results, Tryd.results17, go_sem]) rfl (HE1.out _ ?_)
    exact bal (bal (bal (Below.refl _ _) _) _) _
  | [b], h, hop, HE =>
    have HE1 := hid (HE.out (4, acZ) rfl rfl rfl)
    clear h HE hop
    go_enter Tryd.func17, Tryd.ntmps17
    go_wp2
    refine bodyPost_ret (v := .tuple #[.agg #[.int .i64 0, .int .i64 0, .int .i64 0, .bool false, .int .u8 0, .slice none 0 0, .slice none 0 0], .int .i64 4]) (by simp [results, Tryd.results17, go_sem]) rfl (HE1.out _ ?_)
    exact bal (bal (bal (Below.refl _ _) _) _) _
  | b0 :: b1 :: r, h, hop, HE =>
    by_cases h2 : b1 = 2
    · subst h2
      exact rof_q _ b0 r w h
    by_cases h3 : b1 = 3
    · subst h3
      exact rof_l _ b0 r w h hl
    exact rof_c _ b0 b1 r w h h2 h3
theorem rof_any (d : SfD) (dv : Value) (w : World) (h : Reads w dv d.data) (hl : d.data.length ≤ 10000000) : Calls Tryd.prog 17 #[.agg #[.int .u8 d.id, dv]] w (ErD (actF d) w) := by
  obtain ⟨id, xs⟩ := d
  dsimp only at h hl ⊢
  by_cases h1 : id = 1
  · subst h1
    exact rof_1 dv xs w h hl
  by_cases h3 : id = 3
  · subst h3
    exact rof_3 dv xs w h
  by_cases h9 : id = 9
  · subst h9
    exact rof_9 dv xs w h
  by_cases h12 : id = 12
  · subst h12
    exact rof_12 dv xs w h
  by_cases h13 : id = 13
  · subst h13
    exact rof_13 dv xs w h
  by_cases h14 : id = 14
  · subst h14
    exact rof_14 dv xs w h
  by_cases h64 : id = 64
  · subst h64
    exact rof_64 dv xs w h hl
  have e : actF ⟨id, xs⟩ = (10, acZ) := by
    unfold actF
    simp only [h1, h3, h9, h12, h13, h14, h64, if_false]
  rw [e]
  exact rof_no id dv xs w h h1 h3 h9 h12 h13 h14 h64
end Go.Proofs.YtdpgmepblmlaaaaDoor
