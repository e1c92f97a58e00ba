/-
  Names of types, numbers that go on; awake.
-/
import Derived.Test.YtahminbgedmgcaaDoorHd
import Derived.Test.YtahminbgedmgcaaDoorHe
namespace Go.Proofs.YtahminbgedmgcaaDoor
open Go.RowKit Go.Lib

/-- The names, as bytes. -/
def nameL : List ByteArray := [⟨#[51, 50, 55, 48, 45, 68, 65, 84, 65]⟩, ⟨#[83, 67, 83, 45, 68, 65, 84, 65]⟩, ⟨#[82, 69, 83, 80, 79, 78, 83, 69]⟩, ⟨#[66, 73, 78, 68, 45, 73, 77, 65, 71, 69]⟩, ⟨#[85, 78, 66, 73, 78, 68]⟩, ⟨#[78, 86, 84, 45, 68, 65, 84, 65]⟩, ⟨#[82, 69, 81, 85, 69, 83, 84]⟩, ⟨#[83, 83, 67, 80, 45, 76, 85, 45, 68, 65, 84, 65]⟩, ⟨#[80, 82, 73, 78, 84, 45, 69, 79, 74]⟩]
def nameS (t : Nat) : ByteArray := nameL.getD t ⟨#[]⟩
/-- The program's variable holds them. -/
def Names (w : World) : Prop := 0 < w.heap.size ∧ ∀ j, j < 9 → w.cell? ⟨0, j, none⟩ = some (.string (nameS j))
theorem Names.step {w w' : World} (h : Names w) (hb : Below w.heap.size w w') : Names w' := ⟨Nat.lt_of_lt_of_le h.1 hb.size, fun j hj => keepc hb (h.2 j hj)⟩
set_option maxRecDepth 100000 in
theorem name_any (t : Nat) (ht : t < 256) (w : World) (h : Names w) : Calls Tryd.prog 22 #[.int .u8 t] w fun e w' => e = .returned (.string (nameS t)) ∧ w = w' := by
  by_cases h9 : t < 9
  · have c := h.2 t h9
    have hlt := h.1
    have i9 : ¬ (9 : Int) ≤ t := by omega
    clear h
    generalize nameS t = S at c ⊢
    go_enter Tryd.func22, Tryd.ntmps22
    go_wp2
    go_ret
    exact ⟨rfl, rfl⟩
  · have i9 : (9 : Int) ≤ t := by omega
    have hn : nameS t = ⟨#[]⟩ := by
      unfold nameS
      rw [List.getD, List.getElem?_eq_none (by simp [nameL]; omega)]
      rfl
    rw [hn]
    clear hn h
    go_enter Tryd.func22, Tryd.ntmps22
    go_wp2
    go_ret
    exact ⟨rfl, rfl⟩
def nameC : Array Value := (nameL.map Value.string).toArray
theorem nameC_at (t : Nat) (h : t < 9) : nameC[t]? = some (.string (nameS t)) := by
  have h' : t = 0 ∨ t = 1 ∨ t = 2 ∨ t = 3 ∨ t = 4 ∨ t = 5 ∨ t = 6 ∨ t = 7 ∨ t = 8 := by omega
  rcases h' with rfl | rfl | rfl | rfl | rfl | rfl | rfl | rfl | rfl <;> rfl
set_option maxRecDepth 100000 in
theorem rname_any (t : Nat) (ht : t < 256) (w : World) : Calls Tryd.prog 23 #[.int .u8 t] w fun e w' => e = .returned (.string (nameS t)) ∧ Below w.heap.size w w' := by
  by_cases h9 : t < 9
  · have c0 : (w.alloc (.cells nameC 9)).cell? ⟨w.heap.size, t, none⟩ = some (.string (nameS t)) := by
      rw [World.cell?_alloc_new]
      exact nameC_at t h9
    have c1 := c0
    unfold nameC nameL at c1
    simp only [List.map_cons, List.map_nil] at c1
    clear c0
    generalize nameS t = S at c1 ⊢
    have i8 : (t : Int) ≤ 8 := by omega
    have i9 : (t : Int) < 9 := by omega
    go_enter Tryd.func23, Tryd.ntmps23
    go_wp2
    go_ret
    exact ⟨rfl, (Below.refl _ _).alloc (Nat.le_refl _) _⟩
  · have i9 : ¬ (t : Int) ≤ 8 := by omega
    have hn : nameS t = ⟨#[]⟩ := by
      unfold nameS
      rw [List.getD, List.getElem?_eq_none (by simp [nameL]; omega)]
      rfl
    rw [hn]
    clear hn
    go_enter Tryd.func23, Tryd.ntmps23
    go_wp2
    go_ret
    exact ⟨rfl, (Below.refl _ _).alloc (Nat.le_refl _) _⟩
set_option maxRecDepth 100000 in
theorem next_any (q : Int) (q0 : 0 ≤ q) (q1 : q < 65536) (w : World) : Calls Tryd.prog 24 #[.int .u16 q] w fun e w' => e = .returned (.int .u16 (if q < 32767 then q + 1 else 0)) ∧ w = w' := by
  by_cases h : q < 32767
  · rw [if_pos h]
    have h' : ¬ 32767 ≤ q := by omega
    go_enter Tryd.func24, Tryd.ntmps24
    go_wp2
    go_ret
    exact ⟨rfl, rfl⟩
  · rw [if_neg h]
    have h' : 32767 ≤ q := by omega
    go_enter Tryd.func24, Tryd.ntmps24
    go_wp2
    go_ret
    exact ⟨rfl, rfl⟩
/-- A header's bytes in memory: what may be read of them. -/
theorem five_own {w : World} {g cap : Nat} {t r s a b : Int} {rest : List Int} (h : OwnB w (.slice (some ⟨g, 0, none⟩) (t :: r :: s :: a :: b :: rest).length cap) (t :: r :: s :: a :: b :: rest)) : Five w w g 0 t r s a b :=
  ⟨h.at 0 (by simp), h.at 1 (by simp), h.at 2 (by simp), h.at 3 (by simp), h.at 4 (by simp), Below.refl _ _⟩
theorem parse_own {w : World} {v : Value} {t r s a b : Int} {rest : List Int} (h : OwnB w v (t :: r :: s :: a :: b :: rest)) (hl : rest.length ≤ 1000) (hk : okH t s = true) : Calls Tryd.prog 11 #[v] w (ParseE t r s (256 * a + b) rest 0 w) := by
  obtain ⟨g, cap, rfl, h1, h2, _⟩ := h.slice (by simp)
  have hb := h.1
  simp at hb
  obtain ⟨ht, hr, hs, ha, hb', _⟩ := hb
  simp at h1
  exact parse_ok g 0 _ cap t r s a b rest w (five_own h) (by simp) (by simpa using h1) h2 ⟨ht.1, ht.2, hr.1, hr.2, hs.1, hs.2, by omega, by omega⟩ ha hb' h.reads (by simp; omega) hk
theorem parse_own_no {w : World} {v : Value} {t r s a b : Int} {rest : List Int} (h : OwnB w v (t :: r :: s :: a :: b :: rest)) (hl : rest.length ≤ 1000) (hk : okH t s = false) : Calls Tryd.prog 11 #[v] w (ParseE 0 0 0 0 [] 1 w) := by
  obtain ⟨g, cap, rfl, h1, h2, _⟩ := h.slice (by simp)
  have hb := h.1
  simp at hb
  obtain ⟨ht, hr, hs, ha, hb', _⟩ := hb
  simp at h1
  exact parse_no g 0 _ cap t r s a b rest w (five_own h) (by simp) (by simpa using h1) h2 ⟨ht.1, ht.2, hr.1, hr.2, hs.1, hs.2, by omega, by omega⟩ ha hb' h.reads (by simp; omega) hk
theorem parse_own_short {w : World} {v : Value} {xs : List Int} (h : OwnB w v xs) (hl : xs.length < 5) : Calls Tryd.prog 11 #[v] w (ParseE 0 0 0 0 [] 2 w) := by
  rcases h.2.2 with ⟨rfl, _⟩ | ⟨g, cap, cur, rfl, _⟩
  · exact parse_short none 0 0 w (by omega)
  · exact parse_short _ _ cap w hl
theorem rparse_own {w : World} {v : Value} {t r s a b : Int} {rest : List Int} (h : OwnB w v (t :: r :: s :: a :: b :: rest)) (hl : rest.length ≤ 1000) (hk : okH t s = true) : Calls Tryd.prog 13 #[v] w (ParseE t r s (256 * a + b) rest 0 w) := by
  obtain ⟨g, cap, rfl, h1, h2, _⟩ := h.slice (by simp)
  have hb := h.1
  simp at hb
  obtain ⟨ht, hr, hs, ha, hb', _⟩ := hb
  simp at h1
  exact rparse_ok g 0 _ cap t r s a b rest w (five_own h) (by simp) (by simpa using h1) h2 ⟨ht.1, ht.2, hr.1, hr.2, hs.1, hs.2, by omega, by omega⟩ ha hb' h.reads (by simp; omega) hk
theorem rparse_own_no {w : World} {v : Value} {t r s a b : Int} {rest : List Int} (h : OwnB w v (t :: r :: s :: a :: b :: rest)) (hl : rest.length ≤ 1000) (hk : okH t s = false) : Calls Tryd.prog 13 #[v] w (ParseE 0 0 0 0 [] 1 w) := by
  obtain ⟨g, cap, rfl, h1, h2, _⟩ := h.slice (by simp)
  have hb := h.1
  simp at hb
  obtain ⟨ht, hr, hs, ha, hb', _⟩ := hb
  simp at h1
  exact rparse_no g 0 _ cap t r s a b rest w (five_own h) (by simp) (by simpa using h1) h2 ⟨ht.1, ht.2, hr.1, hr.2, hs.1, hs.2, by omega, by omega⟩ ha hb' h.reads (by simp; omega) hk
theorem rparse_own_short {w : World} {v : Value} {xs : List Int} (h : OwnB w v xs) (hl : xs.length < 5) : Calls Tryd.prog 13 #[v] w (ParseE 0 0 0 0 [] 2 w) := by
  rcases h.2.2 with ⟨rfl, _⟩ | ⟨g, cap, cur, rfl, _⟩
  · exact rparse_short none 0 0 w (by omega)
  · exact rparse_short _ _ cap w hl
/-- What a call left whole stays. -/
theorem OwnB.step {w w' : World} {v : Value} {xs : List Int} (h : OwnB w v xs) (hb : Below w.heap.size w w') : OwnB w' v xs := h.moved (Moved.below hb []) (fun _ _ q => by cases q)
theorem bal {a b : World} (h : Below a.heap.size a b) (o : Obj) : Below a.heap.size a (b.alloc o) := h.alloc h.size _
set_option maxRecDepth 100000 in
set_option maxHeartbeats 2000000 in
theorem hawake_true (w : World) (hN : Names w) : Calls Tryd.prog 6 #[] w fun e w' => e = .returned (.bool true) ∧ Below w.heap.size w w' := by
  have HL : Hid (OwnB (w.alloc (.cells #[.int .u8 0, .int .u8 0, .int .u8 2, .int .u8 0, .int .u8 5, .int .u8 241] 5)) (.slice (some ⟨w.heap.size, 0, none⟩) 6 6) [0, 0, 2, 0, 5, 241]) := own_lit w _ 6 [0, 0, 2, 0, 5, 241] (by decide) rfl rfl (by omega) _ rfl
  have HP := hid (show Calls Tryd.prog 11 _ _ (ParseE 0 0 2 5 [241] 0 _) from parse_own HL.out (by decide) (by decide))
  have HA := hid (fun W => show Calls Tryd.prog 15 #[hdrV 0 0 2 5, .int .i64 0] W (BytesB [2, 0, 0, 0, 5, 0] true W) from answer_any 0 0 2 5 0 W ⟨by decide, by decide, by decide, by decide, by decide, by decide, by decide, by decide⟩)
  have HNM := hid (fun W (h : Names W) => show Calls Tryd.prog 22 #[.int .u8 0] W (fun e w' => e = .returned (.string ⟨#[51, 50, 55, 48, 45, 68, 65, 84, 65]⟩) ∧ W = w') from name_any 0 (by decide) W h)
  have HN := hid hN
  clear hN
  go_enter Tryd.func6, Tryd.ntmps6
  go_wp2_with fail
  with_reducible refine HP.out.mono ?_
  rintro e w1 ⟨v1, rfl, ho1, hb1, hk1⟩
  obtain ⟨x1, n1, c1, rfl⟩ := own_slice ho1
  have HO1 := hid ho1
  have HB1 := hid (below_t (bal (Below.refl w.heap.size w) _) hb1)
  clear ho1 hb1 hk1
  go_wp2_with fail
  with_reducible refine (HA.out _).mono ?_
  rintro e w2 ⟨v2, rfl, ho2, hb2, hk2⟩
  obtain ⟨x2, n2, c2, rfl⟩ := own_slice ho2
  have q3 := keepc (a := ⟨w1.heap.size, 3, none⟩) (v := .int .u16 5) hb2 (by simp [go_sem])
  have HO2 := hid ho2
  have HO1b := hid (OwnB.step HO1.out (below_t (bal (Below.refl w1.heap.size w1) _) hb2))
  have HB2 := hid (below_t (bal HB1.out _) hb2)
  clear ho2 hb2 hk2
  go_wp2_with fail
  have h3 := own_lit w2 #[.int .u8 241] 1 [241] (by decide) rfl rfl (by omega) _ rfl
  with_reducible refine (same_true _ _ [241] _ (OwnB.step HO1b.out (bal (Below.refl w2.heap.size w2) _)).reads h3.reads).mono ?_
  rintro e w3 ⟨rfl, rfl⟩
  clear h3
  go_wp2_with fail
  have h4 := own_lit (w2.alloc (.cells #[.int .u8 241] 5)) #[.int .u8 2, .int .u8 0, .int .u8 0, .int .u8 0, .int .u8 5, .int .u8 0] 6 [2, 0, 0, 0, 5, 0] (by decide) rfl rfl (by omega) (w2.heap.size + 1) (by simp)
  with_reducible refine (same_true _ _ [2, 0, 0, 0, 5, 0] _ (OwnB.step HO2.out (bal (bal (Below.refl w2.heap.size w2) _) _)).reads h4.reads).mono ?_
  rintro e w3 ⟨rfl, rfl⟩
  clear h4
  go_wp2_with fail
  with_reducible refine (HNM.out _ (HN.out.step (bal (bal HB2.out _) _))).mono ?_
  rintro e w3 ⟨rfl, rfl⟩
  go_wp2
  go_ret
  exact ⟨rfl, bal (bal HB2.out _) _⟩
end Go.Proofs.YtahminbgedmgcaaDoor
