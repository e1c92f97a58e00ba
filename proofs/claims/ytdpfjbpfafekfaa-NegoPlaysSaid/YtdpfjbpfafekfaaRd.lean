/-
  The reference hears a message of TN3270E.
-/
import Derived.Test.YtdpfjbpfafekfaaRc
namespace Go.Proofs.Ytdpfjbpfafekfaa
open Go.RowKit Go.Lib

theorem kindL_two (a b : Int) (r : List Int) : kindL (a :: b :: r) = kind2 a b r := by
  unfold kindL
  rw [if_neg (by simp)]
  rfl
set_option maxRecDepth 100000 in
set_option maxHeartbeats 4000000 in
theorem rrej_len (g : Nat) (sv av : Value) (T D : ByteArray) (fs : List Int) (st : Int) (dev : ByteArray) (ag : List Int) (w : World) (h : EndM w g sv av T D fs st dev ag) (hT : T.size ≤ 1000) (hD : D.size ≤ 1000) (hfl : fs.length ≤ 1000) (hf : ∀ x ∈ fs, 0 ≤ x ∧ x ≤ 4) (hst : 0 ≤ st ∧ st ≤ 4) (y : Option Addr) (n c : Nat) (r : List Int) (hr : RdG w (.slice y n c) (2 :: 6 :: r)) (hn : n = r.length + 2) (hl : n ≤ 1000) (hg : g ∉ blkV (.slice y n c)) (h4n : n ≠ 4) : Calls Try.prog 39 #[.pointer (some ⟨g, 0, none⟩), .int .u8 40, .slice y n c] w (HDone g sv T D fs st dev ag [] 4 w) := by
  have kc := reads_conv hr.reads
  have e82 : ((strOfNums (2 :: 6 :: r)).toList == [8, 2]) = false := (eq_bytes hr.1 (ys := [8, 2]) (l := [8, 2]) (by decide) rfl).trans (decide_eq_false (by simp))
  have hE := ext2 2 6 r
  have hS2 : 2 ≤ (strOfNums (2 :: 6 :: r)).size := by rw [strOf_size]; simp
  have hS2i : (2 : Int) ≤ (strOfNums (2 :: 6 :: r)).size := by omega
  have hy0 : y ≠ none := fun q => by subst q; have := hr.none'; omega
  have hsl : ∀ w, (Instr.sliceAt 22 (.slice y n c) (some (.int .i64 2)) none none).run Try.prog w = .ok (.slice (fromA y c 2) (n - 2) (c - 2)) w := run_fromA y n c 2 (by omega) (fun q => absurd q hy0)
  have HRR := hid (show RdG w (.slice (fromA y c 2) (n - 2) (c - 2)) r from hr.from' (by simp; omega) 2 (by omega))
  have HGR := hid (show g ∉ blkV (.slice (fromA y c 2) (n - 2) (c - 2)) from fun q => hg (blk_from g q))
  have n2 : ¬ n < 2 := by omega
  have n2i : ¬ (n : Int) < 2 := by omega
  obtain ⟨m, hm⟩ : ∃ m, n - 2 = m := ⟨_, rfl⟩
  have hmr : m = r.length := by omega
  have hrl : r.length ≤ 998 := by omega
  rw [hm] at hsl HRR HGR
  rw [show strOfNums [2, 6] = ⟨#[2, 6]⟩ by decide] at hE
  generalize strOfNums (2 :: 6 :: r) = S at *
  generalize fromA y c 2 = y2 at *
  have HX := hid (fun W (hb : Below w.heap.size w W) => show HDone g sv T D fs st dev ag [] 4 w (.returned (.tuple #[.slice none 0 0, .int .i64 4])) W from ⟨_, _, rfl, OwnB.nil _, h.step hb, Moved.below hb _, (fun k q => by cases q), .inl h.c5⟩)
  have n4 : ((n : Int) != 4) = true := by simp; omega
  clear hr hn hg hy0 hm hmr
  clear h
  go_enter Try.func39, Try.ntmps39
  go_wp2
  go_ret2
  exact HX.out _ (Below.refl _ _)
set_option maxRecDepth 100000 in
set_option maxHeartbeats 4000000 in
theorem rrej_five (g : Nat) (sv av : Value) (T D : ByteArray) (fs : List Int) (st : Int) (dev : ByteArray) (ag : List Int) (w : World) (h : EndM w g sv av T D fs st dev ag) (hT : T.size ≤ 1000) (hD : D.size ≤ 1000) (hfl : fs.length ≤ 1000) (hf : ∀ x ∈ fs, 0 ≤ x ∧ x ≤ 4) (hst : 0 ≤ st ∧ st ≤ 4) (y : Option Addr) (n c : Nat) (r : List Int) (hr : RdG w (.slice y n c) (2 :: 6 :: r)) (hn : n = r.length + 2) (hl : n ≤ 1000) (hg : g ∉ blkV (.slice y n c)) (h4n : n = 4) (h5 : r.getD 0 0 ≠ 5) : Calls Try.prog 39 #[.pointer (some ⟨g, 0, none⟩), .int .u8 40, .slice y n c] w (HDone g sv T D fs st dev ag [] 4 w) := by
  have hcell : ∃ g2 off, y = some ⟨g2, off, none⟩ ∧ w.cell? ⟨g2, off + 2, none⟩ = some (.int .u8 (r.getD 0 0)) := by
    obtain ⟨g2, off, cap, e, _, _, h4⟩ := hr.row (by simp)
    cases e
    have c2 := h4 2 (by simp; omega)
    exact ⟨_, _, rfl, c2⟩
  have kc := reads_conv hr.reads
  have e82 : ((strOfNums (2 :: 6 :: r)).toList == [8, 2]) = false := (eq_bytes hr.1 (ys := [8, 2]) (l := [8, 2]) (by decide) rfl).trans (decide_eq_false (by simp))
  have hE := ext2 2 6 r
  have hS2 : 2 ≤ (strOfNums (2 :: 6 :: r)).size := by rw [strOf_size]; simp
  have hS2i : (2 : Int) ≤ (strOfNums (2 :: 6 :: r)).size := by omega
  have hy0 : y ≠ none := fun q => by subst q; have := hr.none'; omega
  have hsl : ∀ w, (Instr.sliceAt 22 (.slice y n c) (some (.int .i64 2)) none none).run Try.prog w = .ok (.slice (fromA y c 2) (n - 2) (c - 2)) w := run_fromA y n c 2 (by omega) (fun q => absurd q hy0)
  have HRR := hid (show RdG w (.slice (fromA y c 2) (n - 2) (c - 2)) r from hr.from' (by simp; omega) 2 (by omega))
  have HGR := hid (show g ∉ blkV (.slice (fromA y c 2) (n - 2) (c - 2)) from fun q => hg (blk_from g q))
  have n2 : ¬ n < 2 := by omega
  have n2i : ¬ (n : Int) < 2 := by omega
  obtain ⟨m, hm⟩ : ∃ m, n - 2 = m := ⟨_, rfl⟩
  have hmr : m = r.length := by omega
  have hrl : r.length ≤ 998 := by omega
  rw [hm] at hsl HRR HGR
  rw [show strOfNums [2, 6] = ⟨#[2, 6]⟩ by decide] at hE
  generalize strOfNums (2 :: 6 :: r) = S at *
  generalize fromA y c 2 = y2 at *
  have HX := hid (fun W (hb : Below w.heap.size w W) => show HDone g sv T D fs st dev ag [] 4 w (.returned (.tuple #[.slice none 0 0, .int .i64 4])) W from ⟨_, _, rfl, OwnB.nil _, h.step hb, Moved.below hb _, (fun k q => by cases q), .inl h.c5⟩)
  subst h4n
  obtain ⟨g2, off, rfl, c2⟩ := hcell
  have n4 : ((4 : Int) != 4) = false := rfl
  have b5 : (r.getD 0 0 != 5) = true := by simpa using h5
  clear hr hn hg hy0 hm hmr
  clear h h5
  generalize r.getD 0 0 = z at *
  go_enter Try.func39, Try.ntmps39
  go_wp2
  go_ret2
  exact HX.out _ (Below.refl _ _)
set_option maxRecDepth 100000 in
set_option maxHeartbeats 4000000 in
theorem rrej_state (g : Nat) (sv av : Value) (T D : ByteArray) (fs : List Int) (st : Int) (dev : ByteArray) (ag : List Int) (w : World) (h : EndM w g sv av T D fs st dev ag) (hT : T.size ≤ 1000) (hD : D.size ≤ 1000) (hfl : fs.length ≤ 1000) (hf : ∀ x ∈ fs, 0 ≤ x ∧ x ≤ 4) (hst : 0 ≤ st ∧ st ≤ 4) (y : Option Addr) (n c : Nat) (r : List Int) (hr : RdG w (.slice y n c) (2 :: 6 :: r)) (hn : n = r.length + 2) (hl : n ≤ 1000) (hg : g ∉ blkV (.slice y n c)) (h4n : n = 4) (h5 : r.getD 0 0 = 5) (hs : st ≠ 1) : Calls Try.prog 39 #[.pointer (some ⟨g, 0, none⟩), .int .u8 40, .slice y n c] w (HDone g sv T D fs st dev ag [] 6 w) := by
  have hcell : ∃ g2 off, y = some ⟨g2, off, none⟩ ∧ w.cell? ⟨g2, off + 2, none⟩ = some (.int .u8 (r.getD 0 0)) := by
    obtain ⟨g2, off, cap, e, _, _, h4⟩ := hr.row (by simp)
    cases e
    have c2 := h4 2 (by simp; omega)
    exact ⟨_, _, rfl, c2⟩
  have kc := reads_conv hr.reads
  have e82 : ((strOfNums (2 :: 6 :: r)).toList == [8, 2]) = false := (eq_bytes hr.1 (ys := [8, 2]) (l := [8, 2]) (by decide) rfl).trans (decide_eq_false (by simp))
  have hE := ext2 2 6 r
  have hS2 : 2 ≤ (strOfNums (2 :: 6 :: r)).size := by rw [strOf_size]; simp
  have hS2i : (2 : Int) ≤ (strOfNums (2 :: 6 :: r)).size := by omega
  have hy0 : y ≠ none := fun q => by subst q; have := hr.none'; omega
  have hsl : ∀ w, (Instr.sliceAt 22 (.slice y n c) (some (.int .i64 2)) none none).run Try.prog w = .ok (.slice (fromA y c 2) (n - 2) (c - 2)) w := run_fromA y n c 2 (by omega) (fun q => absurd q hy0)
  have HRR := hid (show RdG w (.slice (fromA y c 2) (n - 2) (c - 2)) r from hr.from' (by simp; omega) 2 (by omega))
  have HGR := hid (show g ∉ blkV (.slice (fromA y c 2) (n - 2) (c - 2)) from fun q => hg (blk_from g q))
  have n2 : ¬ n < 2 := by omega
  have n2i : ¬ (n : Int) < 2 := by omega
  obtain ⟨m, hm⟩ : ∃ m, n - 2 = m := ⟨_, rfl⟩
  have hmr : m = r.length := by omega
  have hrl : r.length ≤ 998 := by omega
  rw [hm] at hsl HRR HGR
  rw [show strOfNums [2, 6] = ⟨#[2, 6]⟩ by decide] at hE
  generalize strOfNums (2 :: 6 :: r) = S at *
  generalize fromA y c 2 = y2 at *
  have HX := hid (fun W (hb : Below w.heap.size w W) => show HDone g sv T D fs st dev ag [] 6 w (.returned (.tuple #[.slice none 0 0, .int .i64 6])) W from ⟨_, _, rfl, OwnB.nil _, h.step hb, Moved.below hb _, (fun k q => by cases q), .inl h.c5⟩)
  subst h4n
  obtain ⟨g2, off, rfl, c2⟩ := hcell
  have n4 : ((4 : Int) != 4) = false := rfl
  rw [h5] at c2
  have c3 := h.c3
  have bs : (st != 1) = true := by simpa using hs
  have bs2 : (st == 1) = false := by simpa using hs
  clear hr hn hg hy0 hm hmr
  clear h h5 hs
  go_enter Try.func39, Try.ntmps39
  go_wp2
  go_ret2
  exact HX.out _ (Below.refl _ _)
set_option maxRecDepth 100000 in
set_option maxHeartbeats 4000000 in
theorem rrej_ok (g : Nat) (sv av : Value) (T D : ByteArray) (fs : List Int) (st : Int) (dev : ByteArray) (ag : List Int) (w : World) (h : EndM w g sv av T D fs st dev ag) (hT : T.size ≤ 1000) (hD : D.size ≤ 1000) (hfl : fs.length ≤ 1000) (hf : ∀ x ∈ fs, 0 ≤ x ∧ x ≤ 4) (hst : 0 ≤ st ∧ st ≤ 4) (y : Option Addr) (n c : Nat) (r : List Int) (hr : RdG w (.slice y n c) (2 :: 6 :: r)) (hn : n = r.length + 2) (hl : n ≤ 1000) (hg : g ∉ blkV (.slice y n c)) (h4n : n = 4) (h5 : r.getD 0 0 = 5) (hs : st = 1) : Calls Try.prog 39 #[.pointer (some ⟨g, 0, none⟩), .int .u8 40, .slice y n c] w (HDone g sv T D fs 4 dev ag [] 0 w) := by
  have hcell : ∃ g2 off, y = some ⟨g2, off, none⟩ ∧ w.cell? ⟨g2, off + 2, none⟩ = some (.int .u8 (r.getD 0 0)) := by
    obtain ⟨g2, off, cap, e, _, _, h4⟩ := hr.row (by simp)
    cases e
    have c2 := h4 2 (by simp; omega)
    exact ⟨_, _, rfl, c2⟩
  subst hs
  have kc := reads_conv hr.reads
  have e82 : ((strOfNums (2 :: 6 :: r)).toList == [8, 2]) = false := (eq_bytes hr.1 (ys := [8, 2]) (l := [8, 2]) (by decide) rfl).trans (decide_eq_false (by simp))
  have hE := ext2 2 6 r
  have hS2 : 2 ≤ (strOfNums (2 :: 6 :: r)).size := by rw [strOf_size]; simp
  have hS2i : (2 : Int) ≤ (strOfNums (2 :: 6 :: r)).size := by omega
  have hy0 : y ≠ none := fun q => by subst q; have := hr.none'; omega
  have hsl : ∀ w, (Instr.sliceAt 22 (.slice y n c) (some (.int .i64 2)) none none).run Try.prog w = .ok (.slice (fromA y c 2) (n - 2) (c - 2)) w := run_fromA y n c 2 (by omega) (fun q => absurd q hy0)
  have HRR := hid (show RdG w (.slice (fromA y c 2) (n - 2) (c - 2)) r from hr.from' (by simp; omega) 2 (by omega))
  have HGR := hid (show g ∉ blkV (.slice (fromA y c 2) (n - 2) (c - 2)) from fun q => hg (blk_from g q))
  have n2 : ¬ n < 2 := by omega
  have n2i : ¬ (n : Int) < 2 := by omega
  obtain ⟨m, hm⟩ : ∃ m, n - 2 = m := ⟨_, rfl⟩
  have hmr : m = r.length := by omega
  have hrl : r.length ≤ 998 := by omega
  rw [hm] at hsl HRR HGR
  rw [show strOfNums [2, 6] = ⟨#[2, 6]⟩ by decide] at hE
  generalize strOfNums (2 :: 6 :: r) = S at *
  generalize fromA y c 2 = y2 at *
  subst h4n
  obtain ⟨g2, off, rfl, c2⟩ := hcell
  have n4 : ((4 : Int) != 4) = false := rfl
  rw [h5] at c2
  have c3 := h.c3
  have f3 := h.fr 3 (by omega)
  have HX := hid (show HDone g sv T D fs 4 dev ag [] 0 w (.returned (.tuple #[.slice none 0 0, .int .i64 0])) (w.setCell ⟨g, 3, none⟩ (.int .i64 4)) from ⟨_, _, rfl, OwnB.nil _, h.set3 4, set_moved w g 3 _, (fun k q => by cases q), .inl h.c5⟩)
  clear hr hn hg hy0 hm hmr
  clear h h5
  go_enter Try.func39, Try.ntmps39
  go_wp2
  go_ret2
  exact HX.out
set_option maxRecDepth 100000 in
set_option maxHeartbeats 4000000 in
theorem rdev_no (g : Nat) (sv av : Value) (T D : ByteArray) (fs : List Int) (st : Int) (dev : ByteArray) (ag : List Int) (w : World) (h : EndM w g sv av T D fs st dev ag) (hT : T.size ≤ 1000) (hD : D.size ≤ 1000) (hfl : fs.length ≤ 1000) (hf : ∀ x ∈ fs, 0 ≤ x ∧ x ≤ 4) (hst : 0 ≤ st ∧ st ≤ 4) (y : Option Addr) (n c : Nat) (r : List Int) (hr : RdG w (.slice y n c) (2 :: 4 :: r)) (hn : n = r.length + 2) (hl : n ≤ 1000) (hg : g ∉ blkV (.slice y n c)) (hk : namesOk r = false) : Calls Try.prog 39 #[.pointer (some ⟨g, 0, none⟩), .int .u8 40, .slice y n c] w (HDone g sv T D fs st dev ag [] 4 w) := by
  have kc := reads_conv hr.reads
  have e82 : ((strOfNums (2 :: 4 :: r)).toList == [8, 2]) = false := (eq_bytes hr.1 (ys := [8, 2]) (l := [8, 2]) (by decide) rfl).trans (decide_eq_false (by simp))
  have hE := ext2 2 4 r
  have hS2 : 2 ≤ (strOfNums (2 :: 4 :: r)).size := by rw [strOf_size]; simp
  have hS2i : (2 : Int) ≤ (strOfNums (2 :: 4 :: r)).size := by omega
  have hy0 : y ≠ none := fun q => by subst q; have := hr.none'; omega
  have hsl : ∀ w, (Instr.sliceAt 22 (.slice y n c) (some (.int .i64 2)) none none).run Try.prog w = .ok (.slice (fromA y c 2) (n - 2) (c - 2)) w := run_fromA y n c 2 (by omega) (fun q => absurd q hy0)
  have HRR := hid (show RdG w (.slice (fromA y c 2) (n - 2) (c - 2)) r from hr.from' (by simp; omega) 2 (by omega))
  have HGR := hid (show g ∉ blkV (.slice (fromA y c 2) (n - 2) (c - 2)) from fun q => hg (blk_from g q))
  have n2 : ¬ n < 2 := by omega
  have n2i : ¬ (n : Int) < 2 := by omega
  obtain ⟨m, hm⟩ : ∃ m, n - 2 = m := ⟨_, rfl⟩
  have hmr : m = r.length := by omega
  have hrl : r.length ≤ 998 := by omega
  rw [hm] at hsl HRR HGR
  rw [show strOfNums [2, 4] = ⟨#[2, 4]⟩ by decide] at hE
  generalize strOfNums (2 :: 4 :: r) = S at *
  generalize fromA y c 2 = y2 at *
  have HX := hid (fun W (hb : Below w.heap.size w W) => show HDone g sv T D fs st dev ag [] 4 w (.returned (.tuple #[.slice none 0 0, .int .i64 4])) W from ⟨_, _, rfl, OwnB.nil _, h.step hb, Moved.below hb _, (fun k q => by cases q), .inl h.c5⟩)
  have HNA := hid (rnames_any y2 m (c - 2) r hmr (by omega) w HRR.out)
  unfold NamD at HNA
  rw [hk] at HNA
  clear hr hn hg hy0 hm hmr
  clear h hk HRR
  go_enter Try.func39, Try.ntmps39
  go_wp2_with fail
  with_reducible refine HNA.out.mono ?_
  rintro e w1 ⟨s, rfl, hs1, hb1⟩
  have HB := hid hb1
  clear hb1 hs1 HNA
  go_wp2
  go_ret2
  exact HX.out _ HB.out
set_option maxRecDepth 100000 in
set_option maxHeartbeats 4000000 in
theorem rdev_state (g : Nat) (sv av : Value) (T D : ByteArray) (fs : List Int) (st : Int) (dev : ByteArray) (ag : List Int) (w : World) (h : EndM w g sv av T D fs st dev ag) (hT : T.size ≤ 1000) (hD : D.size ≤ 1000) (hfl : fs.length ≤ 1000) (hf : ∀ x ∈ fs, 0 ≤ x ∧ x ≤ 4) (hst : 0 ≤ st ∧ st ≤ 4) (y : Option Addr) (n c : Nat) (r : List Int) (hr : RdG w (.slice y n c) (2 :: 4 :: r)) (hn : n = r.length + 2) (hl : n ≤ 1000) (hg : g ∉ blkV (.slice y n c)) (hk : namesOk r = true) (hs : st ≠ 1) : Calls Try.prog 39 #[.pointer (some ⟨g, 0, none⟩), .int .u8 40, .slice y n c] w (HDone g sv T D fs st dev ag [] 6 w) := by
  have kc := reads_conv hr.reads
  have e82 : ((strOfNums (2 :: 4 :: r)).toList == [8, 2]) = false := (eq_bytes hr.1 (ys := [8, 2]) (l := [8, 2]) (by decide) rfl).trans (decide_eq_false (by simp))
  have hE := ext2 2 4 r
  have hS2 : 2 ≤ (strOfNums (2 :: 4 :: r)).size := by rw [strOf_size]; simp
  have hS2i : (2 : Int) ≤ (strOfNums (2 :: 4 :: r)).size := by omega
  have hy0 : y ≠ none := fun q => by subst q; have := hr.none'; omega
  have hsl : ∀ w, (Instr.sliceAt 22 (.slice y n c) (some (.int .i64 2)) none none).run Try.prog w = .ok (.slice (fromA y c 2) (n - 2) (c - 2)) w := run_fromA y n c 2 (by omega) (fun q => absurd q hy0)
  have HRR := hid (show RdG w (.slice (fromA y c 2) (n - 2) (c - 2)) r from hr.from' (by simp; omega) 2 (by omega))
  have HGR := hid (show g ∉ blkV (.slice (fromA y c 2) (n - 2) (c - 2)) from fun q => hg (blk_from g q))
  have n2 : ¬ n < 2 := by omega
  have n2i : ¬ (n : Int) < 2 := by omega
  obtain ⟨m, hm⟩ : ∃ m, n - 2 = m := ⟨_, rfl⟩
  have hmr : m = r.length := by omega
  have hrl : r.length ≤ 998 := by omega
  rw [hm] at hsl HRR HGR
  rw [show strOfNums [2, 4] = ⟨#[2, 4]⟩ by decide] at hE
  generalize strOfNums (2 :: 4 :: r) = S at *
  generalize fromA y c 2 = y2 at *
  have HX := hid (fun W (hb : Below w.heap.size w W) => show HDone g sv T D fs st dev ag [] 6 w (.returned (.tuple #[.slice none 0 0, .int .i64 6])) W from ⟨_, _, rfl, OwnB.nil _, h.step hb, Moved.below hb _, (fun k q => by cases q), .inl h.c5⟩)
  have HNA := hid (rnames_any y2 m (c - 2) r hmr (by omega) w HRR.out)
  unfold NamD at HNA
  rw [hk] at HNA
  have HH := hid h
  have bs : (st != 1) = true := by simpa using hs
  have bs2 : (st == 1) = false := by simpa using hs
  clear hr hn hg hy0 hm hmr
  clear h hk hs HRR
  go_enter Try.func39, Try.ntmps39
  go_wp2_with fail
  with_reducible refine HNA.out.mono ?_
  rintro e w1 ⟨s, rfl, hs1, hb1⟩
  have c3 := (HH.out.step hb1).c3
  have HB := hid hb1
  clear hb1 hs1 HNA
  go_wp2
  go_ret2
  exact HX.out _ HB.out
set_option maxRecDepth 100000 in
set_option maxHeartbeats 4000000 in
theorem rdev_ok (g : Nat) (sv av : Value) (T D : ByteArray) (fs : List Int) (st : Int) (dev : ByteArray) (ag : List Int) (w : World) (h : EndM w g sv av T D fs st dev ag) (hT : T.size ≤ 1000) (hD : D.size ≤ 1000) (hfl : fs.length ≤ 1000) (hf : ∀ x ∈ fs, 0 ≤ x ∧ x ≤ 4) (hst : 0 ≤ st ∧ st ≤ 4) (y : Option Addr) (n c : Nat) (r : List Int) (hr : RdG w (.slice y n c) (2 :: 4 :: r)) (hn : n = r.length + 2) (hl : n ≤ 1000) (hg : g ∉ blkV (.slice y n c)) (hk : namesOk r = true) (hs : st = 1) : Calls Try.prog 39 #[.pointer (some ⟨g, 0, none⟩), .int .u8 40, .slice y n c] w (HDone g sv T D fs 2 (secondN r) [] (3 :: 7 :: fs) 0 w) := by
  subst hs
  have kc := reads_conv hr.reads
  have e82 : ((strOfNums (2 :: 4 :: r)).toList == [8, 2]) = false := (eq_bytes hr.1 (ys := [8, 2]) (l := [8, 2]) (by decide) rfl).trans (decide_eq_false (by simp))
  have hE := ext2 2 4 r
  have hS2 : 2 ≤ (strOfNums (2 :: 4 :: r)).size := by rw [strOf_size]; simp
  have hS2i : (2 : Int) ≤ (strOfNums (2 :: 4 :: r)).size := by omega
  have hy0 : y ≠ none := fun q => by subst q; have := hr.none'; omega
  have hsl : ∀ w, (Instr.sliceAt 22 (.slice y n c) (some (.int .i64 2)) none none).run Try.prog w = .ok (.slice (fromA y c 2) (n - 2) (c - 2)) w := run_fromA y n c 2 (by omega) (fun q => absurd q hy0)
  have HRR := hid (show RdG w (.slice (fromA y c 2) (n - 2) (c - 2)) r from hr.from' (by simp; omega) 2 (by omega))
  have HGR := hid (show g ∉ blkV (.slice (fromA y c 2) (n - 2) (c - 2)) from fun q => hg (blk_from g q))
  have n2 : ¬ n < 2 := by omega
  have n2i : ¬ (n : Int) < 2 := by omega
  obtain ⟨m, hm⟩ : ∃ m, n - 2 = m := ⟨_, rfl⟩
  have hmr : m = r.length := by omega
  have hrl : r.length ≤ 998 := by omega
  rw [hm] at hsl HRR HGR
  rw [show strOfNums [2, 4] = ⟨#[2, 4]⟩ by decide] at hE
  generalize strOfNums (2 :: 4 :: r) = S at *
  generalize fromA y c 2 = y2 at *
  have HNA := hid (rnames_any y2 m (c - 2) r hmr (by omega) w HRR.out)
  unfold NamD at HNA
  rw [hk] at HNA
  have HH := hid h
  clear hr hn hg hy0 hm hmr
  clear h hk HRR
  obtain ⟨sx, sc, rfl⟩ := own_len HH.out.rs _ rfl
  obtain ⟨ax, ac, rfl⟩ := own_len HH.out.ra _ rfl
  go_enter Try.func39, Try.ntmps39
  go_wp2_with fail
  with_reducible refine HNA.out.mono ?_
  rintro e w1 ⟨s, rfl, hs1, hb1⟩
  obtain rfl := hs1 (by first | exact trivial | rfl)
  have h1 := HH.out.step hb1
  have c3 := h1.c3
  have c4 := h1.c4
  have c5 := h1.c5
  have f3 := h1.fr 3 (by omega)
  have f4 := h1.fr 4 (by omega)
  have f5 := h1.fr 5 (by omega)
  have hE' := ((h1.set3 2).set4 (secondN r)).set5n
  have hM := ((set_moved w1 g 3 (.int .i64 2)).trans (set_moved _ g 4 (.string (secondN r)))).trans (set_moved _ g 5 (.slice none 0 0))
  have HM := hid ((Moved.below hb1 [g]).trans hM)
  have s2 := hE'.c2
  have HE := hid hE'
  obtain ⟨W, hW⟩ : ∃ W, W = ((w1.setCell ⟨g, 3, none⟩ (.int .i64 2)).setCell ⟨g, 4, none⟩ (.string (secondN r))).setCell ⟨g, 5, none⟩ (.slice none 0 0) := ⟨_, rfl⟩
  have HW := hid hW
  have HS := hid (show W.heap.size = w1.heap.size by rw [hW]; simp)
  rw [← hW] at HE HM
  have HF := hid (Fresh.lit W #[.int .u8 3, .int .u8 7] 2 [3, 7] (fun q hq => by simp at hq; omega) rfl rfl (by omega) W.heap.size rfl)
  have HRF := hid (HE.out.step HF.out.2.1).rs.reads
  have hgl := h1.lt
  rw [HS.out] at HF
  rw [HW.out] at HF HRF
  clear h1 hE' hM hb1 hs1 HNA hW
  generalize secondN r = DV at *
  go_wp2_with (first
    | (at_builtin; refine wpList_append_rd rfl _ _ rfl rfl HF.out _ fs rfl HRF.out (by simp; omega) ?_; intro x' c' w' hF'; have HF' := hid hF'; clear hF'))
  go_ret2
  have hF := HF'.out
  rw [← HW.out] at hF
  exact ⟨_, _, rfl, hF.1, HE.out.step hF.2.1, HM.out.trans (Moved.below hF.2.1 _), (fun k hk => ⟨Nat.le_trans HM.out.size (hF.2.2 k hk), fun q => by cases q⟩), .inr (fun k q => by cases q)⟩
set_option maxRecDepth 100000 in
set_option maxHeartbeats 4000000 in
theorem ris_form (g : Nat) (sv av : Value) (T D : ByteArray) (fs : List Int) (st : Int) (dev : ByteArray) (ag : List Int) (w : World) (h : EndM w g sv av T D fs st dev ag) (hT : T.size ≤ 1000) (hD : D.size ≤ 1000) (hfl : fs.length ≤ 1000) (hf : ∀ x ∈ fs, 0 ≤ x ∧ x ≤ 4) (hst : 0 ≤ st ∧ st ≤ 4) (y : Option Addr) (n c : Nat) (r : List Int) (hr : RdG w (.slice y n c) (3 :: 4 :: r)) (hn : n = r.length + 2) (hl : n ≤ 1000) (hg : g ∉ blkV (.slice y n c)) (hk : onceL r = false) : Calls Try.prog 39 #[.pointer (some ⟨g, 0, none⟩), .int .u8 40, .slice y n c] w (HDone g sv T D fs st dev ag [] 4 w) := by
  have kc := reads_conv hr.reads
  have e82 : ((strOfNums (3 :: 4 :: r)).toList == [8, 2]) = false := (eq_bytes hr.1 (ys := [8, 2]) (l := [8, 2]) (by decide) rfl).trans (decide_eq_false (by simp))
  have hE := ext2 3 4 r
  have hS2 : 2 ≤ (strOfNums (3 :: 4 :: r)).size := by rw [strOf_size]; simp
  have hS2i : (2 : Int) ≤ (strOfNums (3 :: 4 :: r)).size := by omega
  have hy0 : y ≠ none := fun q => by subst q; have := hr.none'; omega
  have hsl : ∀ w, (Instr.sliceAt 22 (.slice y n c) (some (.int .i64 2)) none none).run Try.prog w = .ok (.slice (fromA y c 2) (n - 2) (c - 2)) w := run_fromA y n c 2 (by omega) (fun q => absurd q hy0)
  have HRR := hid (show RdG w (.slice (fromA y c 2) (n - 2) (c - 2)) r from hr.from' (by simp; omega) 2 (by omega))
  have HGR := hid (show g ∉ blkV (.slice (fromA y c 2) (n - 2) (c - 2)) from fun q => hg (blk_from g q))
  have n2 : ¬ n < 2 := by omega
  have n2i : ¬ (n : Int) < 2 := by omega
  obtain ⟨m, hm⟩ : ∃ m, n - 2 = m := ⟨_, rfl⟩
  have hmr : m = r.length := by omega
  have hrl : r.length ≤ 998 := by omega
  rw [hm] at hsl HRR HGR
  rw [show strOfNums [3, 4] = ⟨#[3, 4]⟩ by decide] at hE
  generalize strOfNums (3 :: 4 :: r) = S at *
  generalize fromA y c 2 = y2 at *
  have HX := hid (fun W (hb : Below w.heap.size w W) => show HDone g sv T D fs st dev ag [] 4 w (.returned (.tuple #[.slice none 0 0, .int .i64 4])) W from ⟨_, _, rfl, OwnB.nil _, h.step hb, Moved.below hb _, (fun k q => by cases q), .inl h.c5⟩)
  have HCO := hid (rcommon_any g sv av T D fs st dev ag w h y2 m (c - 2) r HRR.out hmr (by omega) hfl)
  unfold CommD at HCO
  rw [hk] at HCO
  clear hr hn hg hy0 hm hmr
  clear h hk HRR
  generalize allF fs r = A at *
  go_enter Try.func39, Try.ntmps39
  go_wp2_with fail
  with_reducible refine HCO.out.mono ?_
  rintro e w1 ⟨v1, rfl, ho1, hb1, hk1⟩
  obtain ⟨x1, n1, c1, rfl⟩ := own_slice ho1
  have HB := hid hb1
  clear hb1 ho1 hk1 HCO
  go_wp2
  go_ret2
  exact HX.out _ HB.out
set_option maxRecDepth 100000 in
set_option maxHeartbeats 4000000 in
theorem ris_state (g : Nat) (sv av : Value) (T D : ByteArray) (fs : List Int) (st : Int) (dev : ByteArray) (ag : List Int) (w : World) (h : EndM w g sv av T D fs st dev ag) (hT : T.size ≤ 1000) (hD : D.size ≤ 1000) (hfl : fs.length ≤ 1000) (hf : ∀ x ∈ fs, 0 ≤ x ∧ x ≤ 4) (hst : 0 ≤ st ∧ st ≤ 4) (y : Option Addr) (n c : Nat) (r : List Int) (hr : RdG w (.slice y n c) (3 :: 4 :: r)) (hn : n = r.length + 2) (hl : n ≤ 1000) (hg : g ∉ blkV (.slice y n c)) (hk : onceL r = true) (hs : st ≠ 2) : Calls Try.prog 39 #[.pointer (some ⟨g, 0, none⟩), .int .u8 40, .slice y n c] w (HDone g sv T D fs st dev ag [] 6 w) := by
  have kc := reads_conv hr.reads
  have e82 : ((strOfNums (3 :: 4 :: r)).toList == [8, 2]) = false := (eq_bytes hr.1 (ys := [8, 2]) (l := [8, 2]) (by decide) rfl).trans (decide_eq_false (by simp))
  have hE := ext2 3 4 r
  have hS2 : 2 ≤ (strOfNums (3 :: 4 :: r)).size := by rw [strOf_size]; simp
  have hS2i : (2 : Int) ≤ (strOfNums (3 :: 4 :: r)).size := by omega
  have hy0 : y ≠ none := fun q => by subst q; have := hr.none'; omega
  have hsl : ∀ w, (Instr.sliceAt 22 (.slice y n c) (some (.int .i64 2)) none none).run Try.prog w = .ok (.slice (fromA y c 2) (n - 2) (c - 2)) w := run_fromA y n c 2 (by omega) (fun q => absurd q hy0)
  have HRR := hid (show RdG w (.slice (fromA y c 2) (n - 2) (c - 2)) r from hr.from' (by simp; omega) 2 (by omega))
  have HGR := hid (show g ∉ blkV (.slice (fromA y c 2) (n - 2) (c - 2)) from fun q => hg (blk_from g q))
  have n2 : ¬ n < 2 := by omega
  have n2i : ¬ (n : Int) < 2 := by omega
  obtain ⟨m, hm⟩ : ∃ m, n - 2 = m := ⟨_, rfl⟩
  have hmr : m = r.length := by omega
  have hrl : r.length ≤ 998 := by omega
  rw [hm] at hsl HRR HGR
  rw [show strOfNums [3, 4] = ⟨#[3, 4]⟩ by decide] at hE
  generalize strOfNums (3 :: 4 :: r) = S at *
  generalize fromA y c 2 = y2 at *
  have HX := hid (fun W (hb : Below w.heap.size w W) => show HDone g sv T D fs st dev ag [] 6 w (.returned (.tuple #[.slice none 0 0, .int .i64 6])) W from ⟨_, _, rfl, OwnB.nil _, h.step hb, Moved.below hb _, (fun k q => by cases q), .inl h.c5⟩)
  have HCO := hid (rcommon_any g sv av T D fs st dev ag w h y2 m (c - 2) r HRR.out hmr (by omega) hfl)
  unfold CommD at HCO
  rw [hk] at HCO
  have HH := hid h
  have bs : (st != 2) = true := by simpa using hs
  have bs2 : (st == 2) = false := by simpa using hs
  clear hr hn hg hy0 hm hmr
  clear h hk hs HRR
  generalize allF fs r = A at *
  go_enter Try.func39, Try.ntmps39
  go_wp2_with fail
  with_reducible refine HCO.out.mono ?_
  rintro e w1 ⟨v1, rfl, ho1, hb1, hk1⟩
  obtain ⟨x1, n1, c1, rfl⟩ := own_slice ho1
  have c3 := (HH.out.step hb1).c3
  have HB := hid hb1
  clear hb1 ho1 hk1 HCO
  go_wp2
  go_ret2
  exact HX.out _ HB.out
set_option maxRecDepth 100000 in
set_option maxHeartbeats 4000000 in
theorem rrq_form (g : Nat) (sv av : Value) (T D : ByteArray) (fs : List Int) (st : Int) (dev : ByteArray) (ag : List Int) (w : World) (h : EndM w g sv av T D fs st dev ag) (hT : T.size ≤ 1000) (hD : D.size ≤ 1000) (hfl : fs.length ≤ 1000) (hf : ∀ x ∈ fs, 0 ≤ x ∧ x ≤ 4) (hst : 0 ≤ st ∧ st ≤ 4) (y : Option Addr) (n c : Nat) (r : List Int) (hr : RdG w (.slice y n c) (3 :: 7 :: r)) (hn : n = r.length + 2) (hl : n ≤ 1000) (hg : g ∉ blkV (.slice y n c)) (hk : onceL r = false) : Calls Try.prog 39 #[.pointer (some ⟨g, 0, none⟩), .int .u8 40, .slice y n c] w (HDone g sv T D fs st dev ag [] 4 w) := by
  have kc := reads_conv hr.reads
  have e82 : ((strOfNums (3 :: 7 :: r)).toList == [8, 2]) = false := (eq_bytes hr.1 (ys := [8, 2]) (l := [8, 2]) (by decide) rfl).trans (decide_eq_false (by simp))
  have hE := ext2 3 7 r
  have hS2 : 2 ≤ (strOfNums (3 :: 7 :: r)).size := by rw [strOf_size]; simp
  have hS2i : (2 : Int) ≤ (strOfNums (3 :: 7 :: r)).size := by omega
  have hy0 : y ≠ none := fun q => by subst q; have := hr.none'; omega
  have hsl : ∀ w, (Instr.sliceAt 22 (.slice y n c) (some (.int .i64 2)) none none).run Try.prog w = .ok (.slice (fromA y c 2) (n - 2) (c - 2)) w := run_fromA y n c 2 (by omega) (fun q => absurd q hy0)
  have HRR := hid (show RdG w (.slice (fromA y c 2) (n - 2) (c - 2)) r from hr.from' (by simp; omega) 2 (by omega))
  have HGR := hid (show g ∉ blkV (.slice (fromA y c 2) (n - 2) (c - 2)) from fun q => hg (blk_from g q))
  have n2 : ¬ n < 2 := by omega
  have n2i : ¬ (n : Int) < 2 := by omega
  obtain ⟨m, hm⟩ : ∃ m, n - 2 = m := ⟨_, rfl⟩
  have hmr : m = r.length := by omega
  have hrl : r.length ≤ 998 := by omega
  rw [hm] at hsl HRR HGR
  rw [show strOfNums [3, 7] = ⟨#[3, 7]⟩ by decide] at hE
  generalize strOfNums (3 :: 7 :: r) = S at *
  generalize fromA y c 2 = y2 at *
  have HX := hid (fun W (hb : Below w.heap.size w W) => show HDone g sv T D fs st dev ag [] 4 w (.returned (.tuple #[.slice none 0 0, .int .i64 4])) W from ⟨_, _, rfl, OwnB.nil _, h.step hb, Moved.below hb _, (fun k q => by cases q), .inl h.c5⟩)
  have HCO := hid (rcommon_any g sv av T D fs st dev ag w h y2 m (c - 2) r HRR.out hmr (by omega) hfl)
  unfold CommD at HCO
  rw [hk] at HCO
  clear hr hn hg hy0 hm hmr
  clear h hk HRR
  generalize allF fs r = A at *
  go_enter Try.func39, Try.ntmps39
  go_wp2_with fail
  with_reducible refine HCO.out.mono ?_
  rintro e w1 ⟨v1, rfl, ho1, hb1, hk1⟩
  obtain ⟨x1, n1, c1, rfl⟩ := own_slice ho1
  have HB := hid hb1
  clear hb1 ho1 hk1 HCO
  go_wp2
  go_ret2
  exact HX.out _ HB.out
set_option maxRecDepth 100000 in
set_option maxHeartbeats 4000000 in
theorem rrq_state (g : Nat) (sv av : Value) (T D : ByteArray) (fs : List Int) (st : Int) (dev : ByteArray) (ag : List Int) (w : World) (h : EndM w g sv av T D fs st dev ag) (hT : T.size ≤ 1000) (hD : D.size ≤ 1000) (hfl : fs.length ≤ 1000) (hf : ∀ x ∈ fs, 0 ≤ x ∧ x ≤ 4) (hst : 0 ≤ st ∧ st ≤ 4) (y : Option Addr) (n c : Nat) (r : List Int) (hr : RdG w (.slice y n c) (3 :: 7 :: r)) (hn : n = r.length + 2) (hl : n ≤ 1000) (hg : g ∉ blkV (.slice y n c)) (hk : onceL r = true) (hs : st ≠ 2) (hs3 : st ≠ 3) : Calls Try.prog 39 #[.pointer (some ⟨g, 0, none⟩), .int .u8 40, .slice y n c] w (HDone g sv T D fs st dev ag [] 6 w) := by
  have kc := reads_conv hr.reads
  have e82 : ((strOfNums (3 :: 7 :: r)).toList == [8, 2]) = false := (eq_bytes hr.1 (ys := [8, 2]) (l := [8, 2]) (by decide) rfl).trans (decide_eq_false (by simp))
  have hE := ext2 3 7 r
  have hS2 : 2 ≤ (strOfNums (3 :: 7 :: r)).size := by rw [strOf_size]; simp
  have hS2i : (2 : Int) ≤ (strOfNums (3 :: 7 :: r)).size := by omega
  have hy0 : y ≠ none := fun q => by subst q; have := hr.none'; omega
  have hsl : ∀ w, (Instr.sliceAt 22 (.slice y n c) (some (.int .i64 2)) none none).run Try.prog w = .ok (.slice (fromA y c 2) (n - 2) (c - 2)) w := run_fromA y n c 2 (by omega) (fun q => absurd q hy0)
  have HRR := hid (show RdG w (.slice (fromA y c 2) (n - 2) (c - 2)) r from hr.from' (by simp; omega) 2 (by omega))
  have HGR := hid (show g ∉ blkV (.slice (fromA y c 2) (n - 2) (c - 2)) from fun q => hg (blk_from g q))
  have n2 : ¬ n < 2 := by omega
  have n2i : ¬ (n : Int) < 2 := by omega
  obtain ⟨m, hm⟩ : ∃ m, n - 2 = m := ⟨_, rfl⟩
  have hmr : m = r.length := by omega
  have hrl : r.length ≤ 998 := by omega
  rw [hm] at hsl HRR HGR
  rw [show strOfNums [3, 7] = ⟨#[3, 7]⟩ by decide] at hE
  generalize strOfNums (3 :: 7 :: r) = S at *
  generalize fromA y c 2 = y2 at *
  have HX := hid (fun W (hb : Below w.heap.size w W) => show HDone g sv T D fs st dev ag [] 6 w (.returned (.tuple #[.slice none 0 0, .int .i64 6])) W from ⟨_, _, rfl, OwnB.nil _, h.step hb, Moved.below hb _, (fun k q => by cases q), .inl h.c5⟩)
  have HCO := hid (rcommon_any g sv av T D fs st dev ag w h y2 m (c - 2) r HRR.out hmr (by omega) hfl)
  unfold CommD at HCO
  rw [hk] at HCO
  have HH := hid h
  have bs : (st != 2) = true := by simpa using hs
  have bs2 : (st == 2) = false := by simpa using hs
  have bt : (st != 3) = true := by simpa using hs3
  have bt2 : (st == 3) = false := by simpa using hs3
  clear hs3
  clear hr hn hg hy0 hm hmr
  clear h hk hs HRR
  generalize allF fs r = A at *
  go_enter Try.func39, Try.ntmps39
  go_wp2_with fail
  with_reducible refine HCO.out.mono ?_
  rintro e w1 ⟨v1, rfl, ho1, hb1, hk1⟩
  obtain ⟨x1, n1, c1, rfl⟩ := own_slice ho1
  have c3 := (HH.out.step hb1).c3
  have HB := hid hb1
  clear hb1 ho1 hk1 HCO
  go_wp2
  go_ret2
  exact HX.out _ HB.out
set_option maxRecDepth 100000 in
set_option maxHeartbeats 4000000 in
theorem ris_no (g : Nat) (sv av : Value) (T D : ByteArray) (fs : List Int) (st : Int) (dev : ByteArray) (ag : List Int) (w : World) (h : EndM w g sv av T D fs st dev ag) (hT : T.size ≤ 1000) (hD : D.size ≤ 1000) (hfl : fs.length ≤ 1000) (hf : ∀ x ∈ fs, 0 ≤ x ∧ x ≤ 4) (hst : 0 ≤ st ∧ st ≤ 4) (y : Option Addr) (n c : Nat) (r : List Int) (hr : RdG w (.slice y n c) (3 :: 4 :: r)) (hn : n = r.length + 2) (hl : n ≤ 1000) (hg : g ∉ blkV (.slice y n c)) (hk : onceL r = true) (hs : st = 2) (ha : allF fs r = false) : Calls Try.prog 39 #[.pointer (some ⟨g, 0, none⟩), .int .u8 40, .slice y n c] w (HDone g sv T D fs 4 dev ag [] 0 w) := by
  subst hs
  have kc := reads_conv hr.reads
  have e82 : ((strOfNums (3 :: 4 :: r)).toList == [8, 2]) = false := (eq_bytes hr.1 (ys := [8, 2]) (l := [8, 2]) (by decide) rfl).trans (decide_eq_false (by simp))
  have hE := ext2 3 4 r
  have hS2 : 2 ≤ (strOfNums (3 :: 4 :: r)).size := by rw [strOf_size]; simp
  have hS2i : (2 : Int) ≤ (strOfNums (3 :: 4 :: r)).size := by omega
  have hy0 : y ≠ none := fun q => by subst q; have := hr.none'; omega
  have hsl : ∀ w, (Instr.sliceAt 22 (.slice y n c) (some (.int .i64 2)) none none).run Try.prog w = .ok (.slice (fromA y c 2) (n - 2) (c - 2)) w := run_fromA y n c 2 (by omega) (fun q => absurd q hy0)
  have HRR := hid (show RdG w (.slice (fromA y c 2) (n - 2) (c - 2)) r from hr.from' (by simp; omega) 2 (by omega))
  have HGR := hid (show g ∉ blkV (.slice (fromA y c 2) (n - 2) (c - 2)) from fun q => hg (blk_from g q))
  have n2 : ¬ n < 2 := by omega
  have n2i : ¬ (n : Int) < 2 := by omega
  obtain ⟨m, hm⟩ : ∃ m, n - 2 = m := ⟨_, rfl⟩
  have hmr : m = r.length := by omega
  have hrl : r.length ≤ 998 := by omega
  rw [hm] at hsl HRR HGR
  rw [show strOfNums [3, 4] = ⟨#[3, 4]⟩ by decide] at hE
  generalize strOfNums (3 :: 4 :: r) = S at *
  generalize fromA y c 2 = y2 at *
  have HCO := hid (rcommon_any g sv av T D fs 2 dev ag w h y2 m (c - 2) r HRR.out hmr (by omega) hfl)
  unfold CommD at HCO
  rw [hk, ha] at HCO
  have HH := hid h
  clear hr hn hg hy0 hm hmr
  clear h hk ha HRR
  go_enter Try.func39, Try.ntmps39
  go_wp2_with fail
  with_reducible refine HCO.out.mono ?_
  rintro e w1 ⟨v1, rfl, ho1, hb1, hk1⟩
  obtain ⟨x1, n1, c1, rfl⟩ := own_slice ho1
  have h1 := HH.out.step hb1
  have c3 := h1.c3
  have f3 := h1.fr 3 (by omega)
  have HX := hid (show HDone g sv T D fs 4 dev ag [] 0 w (.returned (.tuple #[.slice none 0 0, .int .i64 0])) (w1.setCell ⟨g, 3, none⟩ (.int .i64 4)) from ⟨_, _, rfl, OwnB.nil _, h1.set3 4, (Moved.below hb1 [g]).trans (set_moved w1 g 3 _), (fun k q => by cases q), .inl HH.out.c5⟩)
  clear h1 hb1 ho1 hk1 HCO
  go_wp2
  go_ret2
  exact HX.out
set_option maxRecDepth 100000 in
set_option maxHeartbeats 4000000 in
theorem ris_yes (g : Nat) (sv av : Value) (T D : ByteArray) (fs : List Int) (st : Int) (dev : ByteArray) (ag : List Int) (w : World) (h : EndM w g sv av T D fs st dev ag) (hT : T.size ≤ 1000) (hD : D.size ≤ 1000) (hfl : fs.length ≤ 1000) (hf : ∀ x ∈ fs, 0 ≤ x ∧ x ≤ 4) (hst : 0 ≤ st ∧ st ≤ 4) (y : Option Addr) (n c : Nat) (r : List Int) (hr : RdG w (.slice y n c) (3 :: 4 :: r)) (hn : n = r.length + 2) (hl : n ≤ 1000) (hg : g ∉ blkV (.slice y n c)) (hk : onceL r = true) (hs : st = 2) (ha : allF fs r = true) : Calls Try.prog 39 #[.pointer (some ⟨g, 0, none⟩), .int .u8 40, .slice y n c] w (HDone g sv T D fs 3 dev (sortL r) [] 0 w) := by
  subst hs
  have kc := reads_conv hr.reads
  have e82 : ((strOfNums (3 :: 4 :: r)).toList == [8, 2]) = false := (eq_bytes hr.1 (ys := [8, 2]) (l := [8, 2]) (by decide) rfl).trans (decide_eq_false (by simp))
  have hE := ext2 3 4 r
  have hS2 : 2 ≤ (strOfNums (3 :: 4 :: r)).size := by rw [strOf_size]; simp
  have hS2i : (2 : Int) ≤ (strOfNums (3 :: 4 :: r)).size := by omega
  have hy0 : y ≠ none := fun q => by subst q; have := hr.none'; omega
  have hsl : ∀ w, (Instr.sliceAt 22 (.slice y n c) (some (.int .i64 2)) none none).run Try.prog w = .ok (.slice (fromA y c 2) (n - 2) (c - 2)) w := run_fromA y n c 2 (by omega) (fun q => absurd q hy0)
  have HRR := hid (show RdG w (.slice (fromA y c 2) (n - 2) (c - 2)) r from hr.from' (by simp; omega) 2 (by omega))
  have HGR := hid (show g ∉ blkV (.slice (fromA y c 2) (n - 2) (c - 2)) from fun q => hg (blk_from g q))
  have n2 : ¬ n < 2 := by omega
  have n2i : ¬ (n : Int) < 2 := by omega
  obtain ⟨m, hm⟩ : ∃ m, n - 2 = m := ⟨_, rfl⟩
  have hmr : m = r.length := by omega
  have hrl : r.length ≤ 998 := by omega
  rw [hm] at hsl HRR HGR
  rw [show strOfNums [3, 4] = ⟨#[3, 4]⟩ by decide] at hE
  generalize strOfNums (3 :: 4 :: r) = S at *
  generalize fromA y c 2 = y2 at *
  have HCO := hid (rcommon_any g sv av T D fs 2 dev ag w h y2 m (c - 2) r HRR.out hmr (by omega) hfl)
  unfold CommD at HCO
  rw [hk, ha] at HCO
  have HH := hid h
  clear hr hn hg hy0 hm hmr
  clear h hk ha
  obtain ⟨ax, ac, rfl⟩ := own_len HH.out.ra _ rfl
  go_enter Try.func39, Try.ntmps39
  go_wp2_with fail
  with_reducible refine HCO.out.mono ?_
  rintro e w1 ⟨v1, rfl, ho1, hb1, hk1⟩
  obtain ⟨x1, n1, c1, rfl⟩ := own_slice ho1
  have h1 := HH.out.step hb1
  have c3 := h1.c3
  have f3 := h1.fr 3 (by omega)
  have h2 := h1.set3 4
  have HE2 := hid h2
  have HM2 := hid ((Moved.below hb1 [g]).trans (set_moved w1 g 3 (.int .i64 4)))
  have HSO := hid (rsorted_any y2 m (c - 2) r (w1.setCell ⟨g, 3, none⟩ (.int .i64 4)) ((HRR.out.step hb1).moved (set_moved w1 g 3 (.int .i64 4)) (fun k hk q => HGR.out (by rw [← List.mem_singleton.1 q]; exact hk))) (by omega))
  clear h1 h2 hb1 ho1 hk1 HCO HRR HGR
  go_wp2_with fail
  with_reducible refine HSO.out.mono ?_
  rintro e w3 ⟨v3, rfl, ho3, hb3, hk3⟩
  have h3 := HE2.out.step hb3
  have c3 := h3.c3
  have c5 := h3.c5
  have f3 := h3.fr 3 (by omega)
  have f5 := h3.fr 5 (by omega)
  have hgv : g ∉ blkV v3 := fun q => by have := hk3 g q; have := HE2.out.lt; omega
  have hE4 := (h3.set3 3).set5 (ho3.moved (set_moved w3 g 3 (.int .i64 3)) (fun k hk q => hgv (by rw [← List.mem_singleton.1 q]; exact hk))) hgv
  have HX := hid (show HDone g sv T D fs 3 dev (sortL r) [] 0 w (.returned (.tuple #[.slice none 0 0, .int .i64 0])) ((w3.setCell ⟨g, 3, none⟩ (.int .i64 3)).setCell ⟨g, 5, none⟩ v3) from ⟨_, _, rfl, OwnB.nil _, hE4, ((HM2.out.trans (Moved.below hb3 [g])).trans (set_moved w3 g 3 _)).trans (set_moved _ g 5 _), (fun k q => by cases q), .inr (fun k q => Nat.le_trans HM2.out.size (hk3 k q))⟩)
  obtain ⟨x3, n3, c3', rfl⟩ := own_slice ho3
  clear h3 hE4 ho3 hb3 hk3 hgv HSO
  go_wp2
  go_ret2
  exact HX.out
set_option maxRecDepth 100000 in
set_option maxHeartbeats 4000000 in
theorem rrq_no2 (g : Nat) (sv av : Value) (T D : ByteArray) (fs : List Int) (st : Int) (dev : ByteArray) (ag : List Int) (w : World) (h : EndM w g sv av T D fs st dev ag) (hT : T.size ≤ 1000) (hD : D.size ≤ 1000) (hfl : fs.length ≤ 1000) (hf : ∀ x ∈ fs, 0 ≤ x ∧ x ≤ 4) (hst : 0 ≤ st ∧ st ≤ 4) (y : Option Addr) (n c : Nat) (r : List Int) (hr : RdG w (.slice y n c) (3 :: 7 :: r)) (hn : n = r.length + 2) (hl : n ≤ 1000) (hg : g ∉ blkV (.slice y n c)) (hk : onceL r = true) (hs : st = 2) (ha : allF fs r = false) : Calls Try.prog 39 #[.pointer (some ⟨g, 0, none⟩), .int .u8 40, .slice y n c] w (HDone g sv T D fs 2 dev [] (3 :: 7 :: keepL fs r) 0 w) := by
  subst hs
  have kc := reads_conv hr.reads
  have e82 : ((strOfNums (3 :: 7 :: r)).toList == [8, 2]) = false := (eq_bytes hr.1 (ys := [8, 2]) (l := [8, 2]) (by decide) rfl).trans (decide_eq_false (by simp))
  have hE := ext2 3 7 r
  have hS2 : 2 ≤ (strOfNums (3 :: 7 :: r)).size := by rw [strOf_size]; simp
  have hS2i : (2 : Int) ≤ (strOfNums (3 :: 7 :: r)).size := by omega
  have hy0 : y ≠ none := fun q => by subst q; have := hr.none'; omega
  have hsl : ∀ w, (Instr.sliceAt 22 (.slice y n c) (some (.int .i64 2)) none none).run Try.prog w = .ok (.slice (fromA y c 2) (n - 2) (c - 2)) w := run_fromA y n c 2 (by omega) (fun q => absurd q hy0)
  have HRR := hid (show RdG w (.slice (fromA y c 2) (n - 2) (c - 2)) r from hr.from' (by simp; omega) 2 (by omega))
  have HGR := hid (show g ∉ blkV (.slice (fromA y c 2) (n - 2) (c - 2)) from fun q => hg (blk_from g q))
  have n2 : ¬ n < 2 := by omega
  have n2i : ¬ (n : Int) < 2 := by omega
  obtain ⟨m, hm⟩ : ∃ m, n - 2 = m := ⟨_, rfl⟩
  have hmr : m = r.length := by omega
  have hrl : r.length ≤ 998 := by omega
  rw [hm] at hsl HRR HGR
  rw [show strOfNums [3, 7] = ⟨#[3, 7]⟩ by decide] at hE
  generalize strOfNums (3 :: 7 :: r) = S at *
  generalize fromA y c 2 = y2 at *
  have HCO := hid (rcommon_any g sv av T D fs 2 dev ag w h y2 m (c - 2) r HRR.out hmr (by omega) hfl)
  unfold CommD at HCO
  rw [hk, ha] at HCO
  have HH := hid h
  have hkl := keep_le fs r
  clear hr hn hg hy0 hm hmr
  clear h hk ha HRR
  obtain ⟨ax, ac, rfl⟩ := own_len HH.out.ra _ rfl
  go_enter Try.func39, Try.ntmps39
  go_wp2_with fail
  with_reducible refine HCO.out.mono ?_
  rintro e w1 ⟨v1, rfl, ho1, hb1, hk1⟩
  obtain ⟨x1, n1, c1, rfl⟩ := own_slice ho1
  have h1 := HH.out.step hb1
  have c3 := h1.c3
  have c5 := h1.c5
  have f3 := h1.fr 3 (by omega)
  have f5 := h1.fr 5 (by omega)
  have hE' := (h1.set3 2).set5n
  have hM := (set_moved w1 g 3 (.int .i64 2)).trans (set_moved _ g 5 (.slice none 0 0))
  have HM := hid ((Moved.below hb1 [g]).trans hM)
  have HE := hid hE'
  have HO := hid (ho1.moved hM (fun k hk q => by have h2 := hk1 k hk; have h3 := List.mem_singleton.1 q; have := HH.out.lt; omega))
  obtain ⟨W, hW⟩ : ∃ W, W = (w1.setCell ⟨g, 3, none⟩ (.int .i64 2)).setCell ⟨g, 5, none⟩ (.slice none 0 0) := ⟨_, rfl⟩
  have HW := hid hW
  have HS := hid (show W.heap.size = w1.heap.size by rw [hW]; simp)
  rw [← hW] at HE HM HO
  have HF := hid (Fresh.lit W #[.int .u8 3, .int .u8 7] 2 [3, 7] (fun q hq => by simp at hq; omega) rfl rfl (by omega) W.heap.size rfl)
  have HRF := hid (HO.out.step HF.out.2.1).reads
  have hgl := h1.lt
  rw [HS.out] at HF
  rw [HW.out] at HF HRF
  clear h1 hE' hM hb1 ho1 hk1 HCO hW
  go_wp2_with (first
    | (at_builtin; refine wpList_append_rd rfl _ _ rfl rfl HF.out _ (keepL fs r) rfl HRF.out (by simp; omega) ?_; intro x' c' w' hF'; have HF' := hid hF'; clear hF'))
  go_ret2
  have hF := HF'.out
  rw [← HW.out] at hF
  exact ⟨_, _, rfl, hF.1, HE.out.step hF.2.1, HM.out.trans (Moved.below hF.2.1 _), (fun k hk => ⟨Nat.le_trans HM.out.size (hF.2.2 k hk), fun q => by cases q⟩), .inr (fun k q => by cases q)⟩
set_option maxRecDepth 100000 in
set_option maxHeartbeats 4000000 in
theorem rrq_yes2 (g : Nat) (sv av : Value) (T D : ByteArray) (fs : List Int) (st : Int) (dev : ByteArray) (ag : List Int) (w : World) (h : EndM w g sv av T D fs st dev ag) (hT : T.size ≤ 1000) (hD : D.size ≤ 1000) (hfl : fs.length ≤ 1000) (hf : ∀ x ∈ fs, 0 ≤ x ∧ x ≤ 4) (hst : 0 ≤ st ∧ st ≤ 4) (y : Option Addr) (n c : Nat) (r : List Int) (hr : RdG w (.slice y n c) (3 :: 7 :: r)) (hn : n = r.length + 2) (hl : n ≤ 1000) (hg : g ∉ blkV (.slice y n c)) (hk : onceL r = true) (hs : st = 2) (ha : allF fs r = true) : Calls Try.prog 39 #[.pointer (some ⟨g, 0, none⟩), .int .u8 40, .slice y n c] w (HDone g sv T D fs 3 dev (sortL r) (3 :: 4 :: r) 0 w) := by
  subst hs
  have kc := reads_conv hr.reads
  have e82 : ((strOfNums (3 :: 7 :: r)).toList == [8, 2]) = false := (eq_bytes hr.1 (ys := [8, 2]) (l := [8, 2]) (by decide) rfl).trans (decide_eq_false (by simp))
  have hE := ext2 3 7 r
  have hS2 : 2 ≤ (strOfNums (3 :: 7 :: r)).size := by rw [strOf_size]; simp
  have hS2i : (2 : Int) ≤ (strOfNums (3 :: 7 :: r)).size := by omega
  have hy0 : y ≠ none := fun q => by subst q; have := hr.none'; omega
  have hsl : ∀ w, (Instr.sliceAt 22 (.slice y n c) (some (.int .i64 2)) none none).run Try.prog w = .ok (.slice (fromA y c 2) (n - 2) (c - 2)) w := run_fromA y n c 2 (by omega) (fun q => absurd q hy0)
  have HRR := hid (show RdG w (.slice (fromA y c 2) (n - 2) (c - 2)) r from hr.from' (by simp; omega) 2 (by omega))
  have HGR := hid (show g ∉ blkV (.slice (fromA y c 2) (n - 2) (c - 2)) from fun q => hg (blk_from g q))
  have n2 : ¬ n < 2 := by omega
  have n2i : ¬ (n : Int) < 2 := by omega
  obtain ⟨m, hm⟩ : ∃ m, n - 2 = m := ⟨_, rfl⟩
  have hmr : m = r.length := by omega
  have hrl : r.length ≤ 998 := by omega
  rw [hm] at hsl HRR HGR
  rw [show strOfNums [3, 7] = ⟨#[3, 7]⟩ by decide] at hE
  generalize strOfNums (3 :: 7 :: r) = S at *
  generalize fromA y c 2 = y2 at *
  have HCO := hid (rcommon_any g sv av T D fs 2 dev ag w h y2 m (c - 2) r HRR.out hmr (by omega) hfl)
  unfold CommD at HCO
  rw [hk, ha] at HCO
  have HH := hid h
  clear hr hn hg hy0 hm hmr
  clear h hk ha
  obtain ⟨ax, ac, rfl⟩ := own_len HH.out.ra _ rfl
  go_enter Try.func39, Try.ntmps39
  go_wp2_with fail
  with_reducible refine HCO.out.mono ?_
  rintro e w1 ⟨v1, rfl, ho1, hb1, hk1⟩
  obtain ⟨x1, n1, c1, rfl⟩ := own_slice ho1
  have h1 := HH.out.step hb1
  have c3 := h1.c3
  have HE2 := hid h1
  have HSO := hid (rsorted_any y2 m (c - 2) r w1 (HRR.out.step hb1) (by omega))
  have HB1 := hid hb1
  clear h1 hb1 ho1 hk1 HCO
  go_wp2_with fail
  with_reducible refine HSO.out.mono ?_
  rintro e w3 ⟨v3, rfl, ho3, hb3, hk3⟩
  have h3 := HE2.out.step hb3
  have c3 := h3.c3
  have c5 := h3.c5
  have f3 := h3.fr 3 (by omega)
  have f5 := h3.fr 5 (by omega)
  have hgv : g ∉ blkV v3 := fun q => by have := hk3 g q; have := HE2.out.lt; omega
  have hE4 := (h3.set3 3).set5 (ho3.moved (set_moved w3 g 3 (.int .i64 3)) (fun k hk q => hgv (by rw [← List.mem_singleton.1 q]; exact hk))) hgv
  have hM := (set_moved w3 g 3 (.int .i64 3)).trans (set_moved _ g 5 v3)
  have HM := hid ((Moved.below (below_t HB1.out hb3) [g]).trans hM)
  have HR4 := hid ((HRR.out.step (below_t HB1.out hb3)).moved hM (fun k hk q => HGR.out (by rw [← List.mem_singleton.1 q]; exact hk)))
  have HE := hid hE4
  have HK3 := hid hk3
  have hgl := h3.lt
  obtain ⟨W, hW⟩ : ∃ W, W = (w3.setCell ⟨g, 3, none⟩ (.int .i64 3)).setCell ⟨g, 5, none⟩ v3 := ⟨_, rfl⟩
  have HW := hid hW
  have HS := hid (show W.heap.size = w3.heap.size by rw [hW]; simp)
  rw [← hW] at HE HM HR4
  have HF := hid (Fresh.lit W #[.int .u8 3, .int .u8 4] 2 [3, 4] (fun q hq => by simp at hq; omega) rfl rfl (by omega) W.heap.size rfl)
  have HRF := hid (HR4.out.step HF.out.2.1).reads
  rw [HS.out] at HF
  rw [HW.out] at HF HRF
  obtain ⟨x3, n3, c3', rfl⟩ := own_slice ho3
  clear h3 hE4 ho3 hb3 hk3 hgv HSO hM hW HRR HGR
  go_wp2_with (first
    | (at_builtin; refine wpList_append_rd rfl _ _ rfl rfl HF.out _ r rfl HRF.out (by simp; omega) ?_; intro x' c' w' hF'; have HF' := hid hF'; clear hF'))
  go_ret2
  have hF := HF'.out
  rw [← HW.out] at hF
  exact ⟨_, _, rfl, hF.1, HE.out.step hF.2.1, HM.out.trans (Moved.below hF.2.1 _), (fun k hk => ⟨Nat.le_trans HM.out.size (hF.2.2 k hk), fun q => by have h1 := HE.out.ra.lt k q; have h2 := hF.2.2 k hk; omega⟩), .inr (fun k q => Nat.le_trans HB1.out.size (HK3.out k q))⟩
set_option maxRecDepth 100000 in
set_option maxHeartbeats 4000000 in
theorem rrq_no3 (g : Nat) (sv av : Value) (T D : ByteArray) (fs : List Int) (st : Int) (dev : ByteArray) (ag : List Int) (w : World) (h : EndM w g sv av T D fs st dev ag) (hT : T.size ≤ 1000) (hD : D.size ≤ 1000) (hfl : fs.length ≤ 1000) (hf : ∀ x ∈ fs, 0 ≤ x ∧ x ≤ 4) (hst : 0 ≤ st ∧ st ≤ 4) (y : Option Addr) (n c : Nat) (r : List Int) (hr : RdG w (.slice y n c) (3 :: 7 :: r)) (hn : n = r.length + 2) (hl : n ≤ 1000) (hg : g ∉ blkV (.slice y n c)) (hk : onceL r = true) (hs : st = 3) (ha : allF fs r = false) : Calls Try.prog 39 #[.pointer (some ⟨g, 0, none⟩), .int .u8 40, .slice y n c] w (HDone g sv T D fs 2 dev [] (3 :: 7 :: keepL fs r) 0 w) := by
  subst hs
  have kc := reads_conv hr.reads
  have e82 : ((strOfNums (3 :: 7 :: r)).toList == [8, 2]) = false := (eq_bytes hr.1 (ys := [8, 2]) (l := [8, 2]) (by decide) rfl).trans (decide_eq_false (by simp))
  have hE := ext2 3 7 r
  have hS2 : 2 ≤ (strOfNums (3 :: 7 :: r)).size := by rw [strOf_size]; simp
  have hS2i : (2 : Int) ≤ (strOfNums (3 :: 7 :: r)).size := by omega
  have hy0 : y ≠ none := fun q => by subst q; have := hr.none'; omega
  have hsl : ∀ w, (Instr.sliceAt 22 (.slice y n c) (some (.int .i64 2)) none none).run Try.prog w = .ok (.slice (fromA y c 2) (n - 2) (c - 2)) w := run_fromA y n c 2 (by omega) (fun q => absurd q hy0)
  have HRR := hid (show RdG w (.slice (fromA y c 2) (n - 2) (c - 2)) r from hr.from' (by simp; omega) 2 (by omega))
  have HGR := hid (show g ∉ blkV (.slice (fromA y c 2) (n - 2) (c - 2)) from fun q => hg (blk_from g q))
  have n2 : ¬ n < 2 := by omega
  have n2i : ¬ (n : Int) < 2 := by omega
  obtain ⟨m, hm⟩ : ∃ m, n - 2 = m := ⟨_, rfl⟩
  have hmr : m = r.length := by omega
  have hrl : r.length ≤ 998 := by omega
  rw [hm] at hsl HRR HGR
  rw [show strOfNums [3, 7] = ⟨#[3, 7]⟩ by decide] at hE
  generalize strOfNums (3 :: 7 :: r) = S at *
  generalize fromA y c 2 = y2 at *
  have HCO := hid (rcommon_any g sv av T D fs 3 dev ag w h y2 m (c - 2) r HRR.out hmr (by omega) hfl)
  unfold CommD at HCO
  rw [hk, ha] at HCO
  have HH := hid h
  have hkl := keep_le fs r
  clear hr hn hg hy0 hm hmr
  clear h hk ha HRR
  obtain ⟨ax, ac, rfl⟩ := own_len HH.out.ra _ rfl
  go_enter Try.func39, Try.ntmps39
  go_wp2_with fail
  with_reducible refine HCO.out.mono ?_
  rintro e w1 ⟨v1, rfl, ho1, hb1, hk1⟩
  obtain ⟨x1, n1, c1, rfl⟩ := own_slice ho1
  have h1 := HH.out.step hb1
  have c3 := h1.c3
  have c5 := h1.c5
  have f3 := h1.fr 3 (by omega)
  have f5 := h1.fr 5 (by omega)
  have hE' := (h1.set3 2).set5n
  have hM := (set_moved w1 g 3 (.int .i64 2)).trans (set_moved _ g 5 (.slice none 0 0))
  have HM := hid ((Moved.below hb1 [g]).trans hM)
  have HE := hid hE'
  have HO := hid (ho1.moved hM (fun k hk q => by have h2 := hk1 k hk; have h3 := List.mem_singleton.1 q; have := HH.out.lt; omega))
  obtain ⟨W, hW⟩ : ∃ W, W = (w1.setCell ⟨g, 3, none⟩ (.int .i64 2)).setCell ⟨g, 5, none⟩ (.slice none 0 0) := ⟨_, rfl⟩
  have HW := hid hW
  have HS := hid (show W.heap.size = w1.heap.size by rw [hW]; simp)
  rw [← hW] at HE HM HO
  have HF := hid (Fresh.lit W #[.int .u8 3, .int .u8 7] 2 [3, 7] (fun q hq => by simp at hq; omega) rfl rfl (by omega) W.heap.size rfl)
  have HRF := hid (HO.out.step HF.out.2.1).reads
  have hgl := h1.lt
  rw [HS.out] at HF
  rw [HW.out] at HF HRF
  clear h1 hE' hM hb1 ho1 hk1 HCO hW
  go_wp2_with (first
    | (at_builtin; refine wpList_append_rd rfl _ _ rfl rfl HF.out _ (keepL fs r) rfl HRF.out (by simp; omega) ?_; intro x' c' w' hF'; have HF' := hid hF'; clear hF'))
  go_ret2
  have hF := HF'.out
  rw [← HW.out] at hF
  exact ⟨_, _, rfl, hF.1, HE.out.step hF.2.1, HM.out.trans (Moved.below hF.2.1 _), (fun k hk => ⟨Nat.le_trans HM.out.size (hF.2.2 k hk), fun q => by cases q⟩), .inr (fun k q => by cases q)⟩
set_option maxRecDepth 100000 in
set_option maxHeartbeats 4000000 in
theorem rrq_yes3 (g : Nat) (sv av : Value) (T D : ByteArray) (fs : List Int) (st : Int) (dev : ByteArray) (ag : List Int) (w : World) (h : EndM w g sv av T D fs st dev ag) (hT : T.size ≤ 1000) (hD : D.size ≤ 1000) (hfl : fs.length ≤ 1000) (hf : ∀ x ∈ fs, 0 ≤ x ∧ x ≤ 4) (hst : 0 ≤ st ∧ st ≤ 4) (y : Option Addr) (n c : Nat) (r : List Int) (hr : RdG w (.slice y n c) (3 :: 7 :: r)) (hn : n = r.length + 2) (hl : n ≤ 1000) (hg : g ∉ blkV (.slice y n c)) (hk : onceL r = true) (hs : st = 3) (ha : allF fs r = true) : Calls Try.prog 39 #[.pointer (some ⟨g, 0, none⟩), .int .u8 40, .slice y n c] w (HDone g sv T D fs 3 dev (sortL r) (3 :: 4 :: r) 0 w) := by
  subst hs
  have kc := reads_conv hr.reads
  have e82 : ((strOfNums (3 :: 7 :: r)).toList == [8, 2]) = false := (eq_bytes hr.1 (ys := [8, 2]) (l := [8, 2]) (by decide) rfl).trans (decide_eq_false (by simp))
  have hE := ext2 3 7 r
  have hS2 : 2 ≤ (strOfNums (3 :: 7 :: r)).size := by rw [strOf_size]; simp
  have hS2i : (2 : Int) ≤ (strOfNums (3 :: 7 :: r)).size := by omega
  have hy0 : y ≠ none := fun q => by subst q; have := hr.none'; omega
  have hsl : ∀ w, (Instr.sliceAt 22 (.slice y n c) (some (.int .i64 2)) none none).run Try.prog w = .ok (.slice (fromA y c 2) (n - 2) (c - 2)) w := run_fromA y n c 2 (by omega) (fun q => absurd q hy0)
  have HRR := hid (show RdG w (.slice (fromA y c 2) (n - 2) (c - 2)) r from hr.from' (by simp; omega) 2 (by omega))
  have HGR := hid (show g ∉ blkV (.slice (fromA y c 2) (n - 2) (c - 2)) from fun q => hg (blk_from g q))
  have n2 : ¬ n < 2 := by omega
  have n2i : ¬ (n : Int) < 2 := by omega
  obtain ⟨m, hm⟩ : ∃ m, n - 2 = m := ⟨_, rfl⟩
  have hmr : m = r.length := by omega
  have hrl : r.length ≤ 998 := by omega
  rw [hm] at hsl HRR HGR
  rw [show strOfNums [3, 7] = ⟨#[3, 7]⟩ by decide] at hE
  generalize strOfNums (3 :: 7 :: r) = S at *
  generalize fromA y c 2 = y2 at *
  have HCO := hid (rcommon_any g sv av T D fs 3 dev ag w h y2 m (c - 2) r HRR.out hmr (by omega) hfl)
  unfold CommD at HCO
  rw [hk, ha] at HCO
  have HH := hid h
  clear hr hn hg hy0 hm hmr
  clear h hk ha
  obtain ⟨ax, ac, rfl⟩ := own_len HH.out.ra _ rfl
  go_enter Try.func39, Try.ntmps39
  go_wp2_with fail
  with_reducible refine HCO.out.mono ?_
  rintro e w1 ⟨v1, rfl, ho1, hb1, hk1⟩
  obtain ⟨x1, n1, c1, rfl⟩ := own_slice ho1
  have h1 := HH.out.step hb1
  have c3 := h1.c3
  have HE2 := hid h1
  have HSO := hid (rsorted_any y2 m (c - 2) r w1 (HRR.out.step hb1) (by omega))
  have HB1 := hid hb1
  clear h1 hb1 ho1 hk1 HCO
  go_wp2_with fail
  with_reducible refine HSO.out.mono ?_
  rintro e w3 ⟨v3, rfl, ho3, hb3, hk3⟩
  have h3 := HE2.out.step hb3
  have c3 := h3.c3
  have c5 := h3.c5
  have f3 := h3.fr 3 (by omega)
  have f5 := h3.fr 5 (by omega)
  have hgv : g ∉ blkV v3 := fun q => by have := hk3 g q; have := HE2.out.lt; omega
  have hE4 := (h3.set3 3).set5 (ho3.moved (set_moved w3 g 3 (.int .i64 3)) (fun k hk q => hgv (by rw [← List.mem_singleton.1 q]; exact hk))) hgv
  have hM := (set_moved w3 g 3 (.int .i64 3)).trans (set_moved _ g 5 v3)
  have HM := hid ((Moved.below (below_t HB1.out hb3) [g]).trans hM)
  have HR4 := hid ((HRR.out.step (below_t HB1.out hb3)).moved hM (fun k hk q => HGR.out (by rw [← List.mem_singleton.1 q]; exact hk)))
  have HE := hid hE4
  have HK3 := hid hk3
  have hgl := h3.lt
  obtain ⟨W, hW⟩ : ∃ W, W = (w3.setCell ⟨g, 3, none⟩ (.int .i64 3)).setCell ⟨g, 5, none⟩ v3 := ⟨_, rfl⟩
  have HW := hid hW
  have HS := hid (show W.heap.size = w3.heap.size by rw [hW]; simp)
  rw [← hW] at HE HM HR4
  have HF := hid (Fresh.lit W #[.int .u8 3, .int .u8 4] 2 [3, 4] (fun q hq => by simp at hq; omega) rfl rfl (by omega) W.heap.size rfl)
  have HRF := hid (HR4.out.step HF.out.2.1).reads
  rw [HS.out] at HF
  rw [HW.out] at HF HRF
  obtain ⟨x3, n3, c3', rfl⟩ := own_slice ho3
  clear h3 hE4 ho3 hb3 hk3 hgv HSO hM hW HRR HGR
  go_wp2_with (first
    | (at_builtin; refine wpList_append_rd rfl _ _ rfl rfl HF.out _ r rfl HRF.out (by simp; omega) ?_; intro x' c' w' hF'; have HF' := hid hF'; clear hF'))
  go_ret2
  have hF := HF'.out
  rw [← HW.out] at hF
  exact ⟨_, _, rfl, hF.1, HE.out.step hF.2.1, HM.out.trans (Moved.below hF.2.1 _), (fun k hk => ⟨Nat.le_trans HM.out.size (hF.2.2 k hk), fun q => by have h1 := HE.out.ra.lt k q; have h2 := hF.2.2 k hk; omega⟩), .inr (fun k q => Nat.le_trans HB1.out.size (HK3.out k q))⟩
set_option maxRecDepth 100000 in
set_option maxHeartbeats 4000000 in
theorem rother (g : Nat) (sv av : Value) (T D : ByteArray) (fs : List Int) (st : Int) (dev : ByteArray) (ag : List Int) (w : World) (h : EndM w g sv av T D fs st dev ag) (hT : T.size ≤ 1000) (hD : D.size ≤ 1000) (hfl : fs.length ≤ 1000) (hf : ∀ x ∈ fs, 0 ≤ x ∧ x ≤ 4) (hst : 0 ≤ st ∧ st ≤ 4) (a b : Int) (y : Option Addr) (n c : Nat) (r : List Int) (hr : RdG w (.slice y n c) (a :: b :: r)) (hn : n = r.length + 2) (hl : n ≤ 1000) (hg : g ∉ blkV (.slice y n c)) (h82 : a :: b :: r ≠ [8, 2]) (hno26 : ¬ (a = 2 ∧ b = 6)) (hno24 : ¬ (a = 2 ∧ b = 4)) (hno34 : ¬ (a = 3 ∧ b = 4)) (hno37 : ¬ (a = 3 ∧ b = 7)) : Calls Try.prog 39 #[.pointer (some ⟨g, 0, none⟩), .int .u8 40, .slice y n c] w (HDone g sv T D fs st dev ag [] 4 w) := by
  have o26 : ((strOfNums [a, b]).toList == [2, 6]) = false := (eq_bytes (fun q hq => hr.1 q (by simp at hq ⊢; rcases hq with e | e <;> simp [e])) (ys := [2, 6]) (l := [2, 6]) (by decide) rfl).trans (decide_eq_false (fun q => by simp at q; exact hno26 q))
  have o24 : ((strOfNums [a, b]).toList == [2, 4]) = false := (eq_bytes (fun q hq => hr.1 q (by simp at hq ⊢; rcases hq with e | e <;> simp [e])) (ys := [2, 4]) (l := [2, 4]) (by decide) rfl).trans (decide_eq_false (fun q => by simp at q; exact hno24 q))
  have o34 : ((strOfNums [a, b]).toList == [3, 4]) = false := (eq_bytes (fun q hq => hr.1 q (by simp at hq ⊢; rcases hq with e | e <;> simp [e])) (ys := [3, 4]) (l := [3, 4]) (by decide) rfl).trans (decide_eq_false (fun q => by simp at q; exact hno34 q))
  have o37 : ((strOfNums [a, b]).toList == [3, 7]) = false := (eq_bytes (fun q hq => hr.1 q (by simp at hq ⊢; rcases hq with e | e <;> simp [e])) (ys := [3, 7]) (l := [3, 7]) (by decide) rfl).trans (decide_eq_false (fun q => by simp at q; exact hno37 q))
  have kc := reads_conv hr.reads
  have e82 : ((strOfNums (a :: b :: r)).toList == [8, 2]) = false := (eq_bytes hr.1 (ys := [8, 2]) (l := [8, 2]) (by decide) rfl).trans (decide_eq_false (by exact h82))
  have hE := ext2 a b r
  have hS2 : 2 ≤ (strOfNums (a :: b :: r)).size := by rw [strOf_size]; simp
  have hS2i : (2 : Int) ≤ (strOfNums (a :: b :: r)).size := by omega
  have hy0 : y ≠ none := fun q => by subst q; have := hr.none'; omega
  have hsl : ∀ w, (Instr.sliceAt 22 (.slice y n c) (some (.int .i64 2)) none none).run Try.prog w = .ok (.slice (fromA y c 2) (n - 2) (c - 2)) w := run_fromA y n c 2 (by omega) (fun q => absurd q hy0)
  have HRR := hid (show RdG w (.slice (fromA y c 2) (n - 2) (c - 2)) r from hr.from' (by simp; omega) 2 (by omega))
  have HGR := hid (show g ∉ blkV (.slice (fromA y c 2) (n - 2) (c - 2)) from fun q => hg (blk_from g q))
  have n2 : ¬ n < 2 := by omega
  have n2i : ¬ (n : Int) < 2 := by omega
  obtain ⟨m, hm⟩ : ∃ m, n - 2 = m := ⟨_, rfl⟩
  have hmr : m = r.length := by omega
  have hrl : r.length ≤ 998 := by omega
  rw [hm] at hsl HRR HGR
  generalize strOfNums (a :: b :: r) = S at *
  generalize fromA y c 2 = y2 at *
  generalize strOfNums [a, b] = E2 at *
  have HX := hid (fun W (hb : Below w.heap.size w W) => show HDone g sv T D fs st dev ag [] 4 w (.returned (.tuple #[.slice none 0 0, .int .i64 4])) W from ⟨_, _, rfl, OwnB.nil _, h.step hb, Moved.below hb _, (fun k q => by cases q), .inl h.c5⟩)
  clear hr hn hg hy0 hm hmr
  clear h hno26 hno24 hno34 hno37 h82 HRR HGR
  go_enter Try.func39, Try.ntmps39
  go_wp2
  go_ret2
  exact HX.out _ (Below.refl _ _)
set_option maxRecDepth 100000 in
set_option maxHeartbeats 4000000 in
theorem rshort (g : Nat) (sv av : Value) (T D : ByteArray) (fs : List Int) (st : Int) (dev : ByteArray) (ag : List Int) (w : World) (h : EndM w g sv av T D fs st dev ag) (hT : T.size ≤ 1000) (hD : D.size ≤ 1000) (hfl : fs.length ≤ 1000) (hf : ∀ x ∈ fs, 0 ≤ x ∧ x ≤ 4) (hst : 0 ≤ st ∧ st ≤ 4) (y : Option Addr) (n c : Nat) (xs : List Int) (hr : RdG w (.slice y n c) xs) (hn : n = xs.length) (hs : n < 2) : Calls Try.prog 39 #[.pointer (some ⟨g, 0, none⟩), .int .u8 40, .slice y n c] w (HDone g sv T D fs st dev ag [] 4 w) := by
  have kc := reads_conv hr.reads
  have e82 : ((strOfNums xs).toList == [8, 2]) = false := (eq_bytes hr.1 (ys := [8, 2]) (l := [8, 2]) (by decide) rfl).trans (decide_eq_false (fun q => by rw [q] at hn; simp at hn; omega))
  have HX := hid (fun W (hb : Below w.heap.size w W) => show HDone g sv T D fs st dev ag [] 4 w (.returned (.tuple #[.slice none 0 0, .int .i64 4])) W from ⟨_, _, rfl, OwnB.nil _, h.step hb, Moved.below hb _, (fun k q => by cases q), .inl h.c5⟩)
  have n2i : (n : Int) < 2 := by omega
  generalize strOfNums xs = S at *
  clear h hr hn
  go_enter Try.func39, Try.ntmps39
  go_wp2
  go_ret2
  exact HX.out _ (Below.refl _ _)
end Go.Proofs.Ytdpfjbpfafekfaa
