/-
  Reads of no screen; a read's beginning; a character that isn't null.
-/
import Derived.Test.YtlhaefgchmakfaaQb
namespace Go.Proofs.Ytlhaefgchmakfaa
open Go.RowKit Go.Lib Go.Deep

section
variable {q : Nat} {v : Value} {bs : List Int} {md : Int} {lk : Cel}
set_option maxRecDepth 100000 in
set_option maxHeartbeats 2000000 in
theorem mdc_any (c : Cel) (hc : c.OK) (hmd : (md == 2) = false) (w : World) (h : DtM w q v bs md lk) (hl : bs.length ≤ 90000000000) : Calls Try.prog 51 #[.pointer (some ⟨q, 0, none⟩), c.v] w (DtD q v (bs ++ mdcB c) md lk w) := by
  have HC := hid (fun W hd => chr_any (q := q) (v := v) (bs := bs) (lk := lk) c hc hmd W hd hl)
  obtain ⟨ch, at_, fa, hi, co, se⟩ := c
  have HB := hid (bal (Below.refl w.heap.size w) (.cells #[.int .u8 ch, .bool at_, .int .u8 fa, .int .u8 hi, .int .u8 co, .int .u8 se] 48))
  have HD := hid (h.step HB.out)
  clear h hc
  show Calls Try.prog 51 #[.pointer (some ⟨q, 0, none⟩), .agg #[.int .u8 ch, .bool at_, .int .u8 fa, .int .u8 hi, .int .u8 co, .int .u8 se]] w _
  by_cases hch : ch = 0
  · subst hch
    have hE : bs ++ mdcB ⟨0, at_, fa, hi, co, se⟩ = bs := by simp [mdcB]
    rw [hE]
    go_enter Try.func51, Try.ntmps51
    go_wp2_with fail
    go_end0
    exact ⟨⟨_, rfl⟩, v, HD.out, Moved.below HB.out _⟩
  · have ech : (ch == 0) = false := by simpa using hch
    have hE : mdcB ⟨ch, at_, fa, hi, co, se⟩ = chrB ⟨ch, at_, fa, hi, co, se⟩ := by unfold mdcB; exact if_neg hch
    rw [hE]
    clear hE
    have HCC := hid (show Calls Try.prog 82 #[.pointer (some ⟨q, 0, none⟩), .agg #[.int .u8 ch, .bool at_, .int .u8 fa, .int .u8 hi, .int .u8 co, .int .u8 se]] _ _ from HC.out _ HD.out)
    go_enter Try.func51, Try.ntmps51
    go_wp2_with fail
    with_reducible refine HCC.out.mono ?_
    rintro e w5 hd5
    have hf := dtd_moved HB.out hd5
    obtain ⟨⟨u, rfl⟩, hf2⟩ := hf
    have HF := hid (show DtD q v (bs ++ chrB ⟨ch, at_, fa, hi, co, se⟩) md lk w (.returned (.tuple #[])) w5 from ⟨⟨_, rfl⟩, hf2⟩)
    clear hd5 hf2
    go_wp2
    go_end0
    exact HF.out
end
/-- Nothing is sent, for this reason. -/
def NoD (er : Int) (w : World) (e : Ending) (w' : World) : Prop := e = .returned (.tuple #[.slice none 0 0, .int .i64 er]) ∧ Below w.heap.size w w'
set_option maxRecDepth 100000 in
theorem check_nil (md : Int) (w : World) : Calls Try.prog 40 #[.pointer none, .int .i64 md] w fun e w' => e = .returned (.int .i64 5) ∧ w = w' := by
  go_enter Try.func40, Try.ntmps40
  go_wp2
  go_ret
  exact ⟨rfl, rfl⟩
set_option maxRecDepth 100000 in
theorem check_ok (md : Int) (h0 : 0 ≤ md) (h2 : md ≤ 2) (b : Nat) (w : World) : Calls Try.prog 40 #[.pointer (some ⟨b, 0, none⟩), .int .i64 md] w fun e w' => e = .returned (.int .i64 0) ∧ w = w' := by
  have e1 : decide (md < 0) = false := by simp; omega
  have e2 : decide (2 < md) = false := by simp; omega
  go_enter Try.func40, Try.ntmps40
  go_wp2
  go_ret
  exact ⟨rfl, rfl⟩
set_option maxRecDepth 100000 in
theorem begin_nil (aid md : Int) (w : World) : Calls Try.prog 47 #[.pointer none, .int .u8 aid, .int .i64 md] w fun e w' => e = .returned (.tuple #[.pointer none, .int .i64 5]) ∧ w = w' := by
  have HC := hid (check_nil md)
  go_enter Try.func47, Try.ntmps47
  go_wp2_with fail
  with_reducible refine (HC.out _).mono ?_
  rintro e w1 ⟨rfl, rfl⟩
  go_wp2_with fail
  go_ret2
  exact ⟨rfl, rfl⟩
set_option maxRecDepth 100000 in
theorem rall_nil (aid md : Int) (w : World) : Calls Try.prog 19 #[.pointer none, .int .u8 aid, .int .i64 md] w (NoD 5 w) := by
  have HC := hid (begin_nil aid md)
  go_enter Try.func19, Try.ntmps19
  go_wp2_with fail
  with_reducible refine (HC.out _).mono ?_
  rintro e w1 ⟨rfl, rfl⟩
  go_wp2_with fail
  go_ret2
  exact ⟨rfl, bal (Below.refl _ _) _⟩
set_option maxRecDepth 100000 in
theorem rbuf_nil (aid md : Int) (w : World) : Calls Try.prog 21 #[.pointer none, .int .u8 aid, .int .i64 md] w (NoD 5 w) := by
  have HC := hid (begin_nil aid md)
  go_enter Try.func21, Try.ntmps21
  go_wp2_with fail
  with_reducible refine (HC.out _).mono ?_
  rintro e w1 ⟨rfl, rfl⟩
  go_wp2_with fail
  go_ret2
  exact ⟨rfl, bal (Below.refl _ _) _⟩
/-- The AIDs of a short read. -/
def shZ (a : Int) : Bool := a == 109 || a == 108 || a == 110 || a == 107
set_option maxRecDepth 100000 in
theorem rmod_nil (hs : ∀ a (w : World), U8 a → Calls Try.prog 39 #[.int .u8 a] w fun e w' => e = .returned (.bool (shZ a)) ∧ w = w') (aid md : Int) (ha : U8 aid) (w : World) : Calls Try.prog 12 #[.pointer none, .int .u8 aid, .int .i64 md] w (NoD 5 w) := by
  have HC := hid (check_nil md)
  have HA := hid (rall_nil aid md)
  have HS := hid (fun w => hs aid w ha)
  cases hsh : shZ aid
  · rw [hsh] at HS
    go_enter Try.func12, Try.ntmps12
    go_wp2_with fail
    with_reducible refine (HS.out _).mono ?_
    rintro e w1 ⟨rfl, rfl⟩
    go_wp2_with fail
    with_reducible refine (HA.out _).mono ?_
    rintro e w1 ⟨rfl, hb⟩
    have HB := hid hb
    clear hb
    go_wp2_with fail
    go_ret2
    exact ⟨rfl, HB.out⟩
  · rw [hsh] at HS
    go_enter Try.func12, Try.ntmps12
    go_wp2_with fail
    with_reducible refine (HS.out _).mono ?_
    rintro e w1 ⟨rfl, rfl⟩
    go_wp2_with fail
    with_reducible refine (HC.out _).mono ?_
    rintro e w1 ⟨rfl, rfl⟩
    go_wp2_with fail
    go_ret2
    exact ⟨rfl, Below.refl _ _⟩
set_option maxRecDepth 100000 in
theorem rlen_nil (md : Int) (w : World) : Calls Try.prog 23 #[.pointer none, .int .i64 md] w fun e w' => e = .returned (.int .i64 0) ∧ Below w.heap.size w w' := by
  have HC := hid (rbuf_nil 0 md)
  go_enter Try.func23, Try.ntmps23
  go_wp2_with fail
  with_reducible refine (HC.out _).mono ?_
  rintro e w1 ⟨rfl, hb⟩
  have HB := hid hb
  clear hb
  go_wp2_with fail
  go_ret
  exact ⟨rfl, HB.out⟩
set_option maxRecDepth 100000 in
theorem rmost_nil (w : World) : Calls Try.prog 24 #[.pointer none] w fun e w' => e = .returned (.int .i64 3) ∧ Below w.heap.size w w' := by
  have HC := hid size_nil
  have HN := hid (cells_no 0 0 (by decide))
  go_enter Try.func24, Try.ntmps24
  go_wp2_with fail
  with_reducible refine (HC.out _).mono ?_
  rintro e w1 ⟨rfl, hb⟩
  have HB := hid hb
  clear hb
  unfold sizeV
  go_wp2_with fail
  with_reducible refine (HN.out _).mono ?_
  rintro e w2 ⟨rfl, hb⟩
  have HB2 := hid (below_t HB.out hb)
  clear hb
  go_wp2_with fail
  go_ret
  exact ⟨rfl, HB2.out⟩
/-- The error of a command's read of no screen. -/
def forE (k : Int) : Int := if k = 5 then 5 else if k = 6 then 5 else if k = 7 then 5 else 11
set_option maxRecDepth 100000 in
set_option maxHeartbeats 2000000 in
theorem rfor_nil (hs : ∀ a (w : World), U8 a → Calls Try.prog 39 #[.int .u8 a] w fun e w' => e = .returned (.bool (shZ a)) ∧ w = w') (k aid md : Int) (ha : U8 aid) (w : World) : Calls Try.prog 22 #[.pointer none, .int .i64 k, .int .u8 aid, .int .i64 md] w (NoD (forE k) w) := by
  have HA := hid (rall_nil aid md)
  have HU := hid (rbuf_nil aid md)
  have HM := hid (rmod_nil hs aid md ha)
  by_cases h5 : k = 5
  · subst h5
    go_enter Try.func22, Try.ntmps22
    go_wp2_with fail
    with_reducible refine (HU.out _).mono ?_
    rintro e w1 ⟨rfl, hb⟩
    have HB := hid hb
    clear hb
    go_wp2_with fail
    go_ret2
    exact ⟨rfl, HB.out⟩
  · have e5 : (k == 5) = false := by simpa using h5
    by_cases h6 : k = 6
    · subst h6
      go_enter Try.func22, Try.ntmps22
      go_wp2_with fail
      with_reducible refine (HM.out _).mono ?_
      rintro e w1 ⟨rfl, hb⟩
      have HB := hid hb
      clear hb
      go_wp2_with fail
      go_ret2
      exact ⟨rfl, HB.out⟩
    · have e6 : (k == 6) = false := by simpa using h6
      by_cases h7 : k = 7
      · subst h7
        go_enter Try.func22, Try.ntmps22
        go_wp2_with fail
        with_reducible refine (HA.out _).mono ?_
        rintro e w1 ⟨rfl, hb⟩
        have HB := hid hb
        clear hb
        go_wp2_with fail
        go_ret2
        exact ⟨rfl, HB.out⟩
      · have e7 : (k == 7) = false := by simpa using h7
        have hE : forE k = 11 := by unfold forE; simp [h5, h6, h7]
        rw [hE]
        clear hE h5 h6 h7
        go_enter Try.func22, Try.ntmps22
        go_wp2_with fail
        go_ret2
        exact ⟨rfl, Below.refl _ _⟩
end Go.Proofs.Ytlhaefgchmakfaa
