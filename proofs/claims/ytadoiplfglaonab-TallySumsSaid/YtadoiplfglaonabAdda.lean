/-
  The calls on a tally that is not nil: Add, Most, Take, Get.
-/
import Derived.Test.YtadoiplfglaonabFinda
import Derived.Lib.OwnKind
namespace Go.Proofs.Ytadoiplfglaonab
open Go.RowKit Go.Shelf Go.Deep Go.Lib

section
variable {B t : Nat} {vn : Value} {g : Nat} {ts : List (List UInt8)} {cs : List Int}
/-- The cell of a count. -/
theorem TallyIn.count {w : World} (h : TallyIn w B t vn g ts cs) {j : Nat} (hj : j < ts.length) : w.cell? ⟨g, j, none⟩ = some (.int .u64 (cs.getD j 0)) ∧ w.frozen? ⟨g, j, none⟩ = false := by
  refine ⟨?_, h.counts.frozenAt j⟩
  rw [h.counts.cellAt j (by omega)]
  simp [List.getD, List.getElem?_eq_getElem (show j < cs.length by rw [h.size]; exact hj)]
theorem TallyIn.drewN {w : World} (h : TallyIn w B t vn g ts cs) (q : Nat) : TallyIn (w.drewN q) B t vn g ts cs := ⟨h.block, h.base, ownsRow_drewN h.names q, ownsRow_drewN h.counts q, h.size, h.few, h.rising⟩
/-- A count is stored. -/
theorem TallyIn.put {w : World} (h : TallyIn w B t vn g ts cs) (j : Nat) (c : Int) : TallyIn (w.setCell ⟨g, j, none⟩ (.int .u64 c)) B t vn g ts (cs.set j c) := by
  obtain ⟨h1, h2⟩ := h.counts.stored j (.int .u64 c)
  have hg : ∃ cur, w.heap[g]? = some (.cells cur 62 (0, 0)) := by
    rcases h.counts.2 with ⟨h', _⟩ | ⟨g', _, cur, h', _, hb, _⟩
    · simp at h'
    · simp only [Value.slice.injEq, Option.some.injEq, Addr.mk.injEq, and_true, true_and] at h'
      obtain ⟨rfl, rfl⟩ := h'
      exact ⟨cur, hb⟩
  obtain ⟨cur, hg⟩ := hg
  have hgt : t ≠ g := fun e => by rw [← e, h.block] at hg; simp at hg
  refine ⟨?_, h.base, h.names.kept h2 ?_, by simpa [List.map_set] using h1, by simpa using h.size, h.few, h.rising⟩
  · rw [h2.block t (Array.getElem?_eq_some_iff.1 h.block).1 (by simpa using hgt)]
    exact h.block
  · right
    intro e
    obtain ⟨c, fz, hb⟩ := ownsRow_kind h.names g e
    rw [hg] at hb
    simp at hb
end
theorem atomic_add (a : Addr) (c n : Int) (w : World) (hc : w.cell? a = some (.int .u64 c)) (hz : w.frozen? a = false) :
    Calls Try.prog 27 #[.pointer (some a), .int .u64 n] w fun e w' => e = .returned (.int .u64 ((c + n) % 18446744073709551616)) ∧ w' = w.setCell a (.int .u64 ((c + n) % 18446744073709551616)) := by
  have hadd := run_call_add (P := Try.prog) Try.func36 (by kernel_rfl) (by kernel_rfl) (by kernel_rfl) .u64 (by kernel_rfl) (y := n) (s := (c + n) % 18446744073709551616) hc hz (by simp [go_sem]; rfl)
  go_enter Try.func27, Try.ntmps27
  go_wp2
  go_ret
  exact ⟨rfl, rfl⟩
theorem atomic_load (a : Addr) (c : Int) (w : World) (hc : w.cell? a = some (.int .u64 c)) :
    Calls Try.prog 28 #[.pointer (some a)] w fun e w' => e = .returned (.int .u64 c) ∧ w = w' := by
  have hl := run_call_load (P := Try.prog) Try.func37 (by kernel_rfl) (by kernel_rfl) (by kernel_rfl) .u64 (by kernel_rfl) hc
  go_enter Try.func28, Try.ntmps28
  go_wp2
  go_ret
  exact ⟨rfl, rfl⟩
theorem atomic_cas (a : Addr) (c n : Int) (w : World) (hc : w.cell? a = some (.int .u64 c)) (hz : w.frozen? a = false) :
    Calls Try.prog 29 #[.pointer (some a), .int .u64 c, .int .u64 n] w fun e w' => e = .returned (.bool true) ∧ w' = w.setCell a (.int .u64 n) := by
  have hl := run_call_cas_hit (P := Try.prog) Try.func38 (by kernel_rfl) (by kernel_rfl) (by kernel_rfl) .u64 (by kernel_rfl) (y := n) hc hz
  go_enter Try.func29, Try.ntmps29
  go_wp2
  go_ret
  exact ⟨rfl, rfl⟩

section
variable {B t : Nat} {vn : Value} {g : Nat} {ts : List (List UInt8)} {cs : List Int}
theorem TallyIn.below {w : World} (h : TallyIn w B t vn g ts cs) : B ≤ g := by
  rcases h.counts.2 with ⟨h', _⟩ | ⟨g', _, cur, h', hb, _⟩
  · simp at h'
  · simp only [Value.slice.injEq, Option.some.injEq, Addr.mk.injEq, and_true, true_and] at h'
    obtain ⟨rfl, rfl⟩ := h'
    exact hb

/-- A call on a tally has answered, the counts are now so, and nothing below the tally's own memory has turned. -/
def Done (v : Value) (B t : Nat) (vn : Value) (g : Nat) (ts : List (List UInt8)) (cs : List Int) (w : World) (e : Ending) (w' : World) : Prop := e = .returned v ∧ TallyIn w' B t vn g ts cs ∧ Below B w w'

theorem TallyIn.done {w : World} (hT : TallyIn w B t vn g ts cs) (v : Value) : ∀ q, Done v B t vn g ts cs w (.returned v) (w.drewN q) := fun q => ⟨rfl, hT.drewN q, below_drewN (Below.refl _ _) q⟩
theorem TallyIn.donePut {w : World} (hT : TallyIn w B t vn g ts cs) (j : Nat) (n : Int) (v : Value) : ∀ q, Done v B t vn g ts (cs.set j n) w (.returned v) ((w.drewN q).setCell ⟨g, j, none⟩ (.int .u64 n)) := fun q =>
  ⟨rfl, (hT.drewN q).put j _, (below_drewN (Below.refl _ _) q).setCell (p := ⟨g, j, none⟩) hT.below _⟩
set_option maxRecDepth 100000 in
theorem add_found (x : ByteArray) (n : Int) (w : World) (hT : TallyIn w B t vn g ts cs) (j : Nat) (hj : j < ts.length) (hx : ts.getD j [] = x.data.toList) :
    Calls Try.prog 17 #[.pointer (some ⟨t, 0, none⟩), .string x, .int .u64 n] w (Done (.bool true) B t vn g ts (cs.set j ((cs.getD j 0 + n) % 18446744073709551616)) w) := by
  have hc := count_found x w hT j hj hx
  have HC := hid hc
  obtain ⟨h1, h2⟩ := hT.count hj
  have HT := hid hT
  have fin : ∀ q, Done (.bool true) B t vn g ts (cs.set j ((cs.getD j 0 + n) % 18446744073709551616)) w (.returned (.bool true)) ((w.drewN q).setCell ⟨g, j, none⟩ (.int .u64 ((cs.getD j 0 + n) % 18446744073709551616))) := fun q =>
    ⟨rfl, (hT.drewN q).put j _, (below_drewN (Below.refl _ _) q).setCell (p := ⟨g, j, none⟩) hT.below _⟩
  have FIN := hid fin
  obtain ⟨c, hcc⟩ : ∃ c, c = cs.getD j 0 := ⟨_, rfl⟩
  rw [← hcc] at h1 FIN ⊢
  clear hc hT fin hj hx hcc
  go_enter Try.func17, Try.ntmps17
  go_wp2_with (first | (go_at_call 25; refine HC.out.mono ?_; rintro e w' ⟨rfl, q, rfl⟩) | (go_at_call 27; refine (atomic_add _ c n _ (by simpa using h1) (by simpa using h2)).mono ?_; rintro e w' ⟨rfl, rfl⟩))
  go_ret
  exact FIN.out _
theorem add_none (x : ByteArray) (n : Int) (w : World) (hT : TallyIn w B t vn g ts cs) (hx : x.data.toList ∉ ts) :
    Calls Try.prog 17 #[.pointer (some ⟨t, 0, none⟩), .string x, .int .u64 n] w (Done (.bool false) B t vn g ts cs w) := by
  have HC := hid (count_none x w hT hx)
  have FIN := hid (hT.done (.bool false))
  clear hT hx
  go_enter Try.func17, Try.ntmps17
  go_wp2_with (go_at_call 25; refine HC.out.mono ?_; rintro e w' ⟨rfl, q, rfl⟩)
  go_ret
  exact FIN.out _
theorem get_found (x : ByteArray) (w : World) (hT : TallyIn w B t vn g ts cs) (j : Nat) (hj : j < ts.length) (hx : ts.getD j [] = x.data.toList) :
    Calls Try.prog 20 #[.pointer (some ⟨t, 0, none⟩), .string x] w (Done (.int .u64 (cs.getD j 0)) B t vn g ts cs w) := by
  have HC := hid (count_found x w hT j hj hx)
  obtain ⟨h1, _⟩ := hT.count hj
  have FIN := hid (hT.done (.int .u64 (cs.getD j 0)))
  obtain ⟨c, hcc⟩ : ∃ c, c = cs.getD j 0 := ⟨_, rfl⟩
  rw [← hcc] at h1 FIN ⊢
  clear hT hj hx hcc
  go_enter Try.func20, Try.ntmps20
  go_wp2_with (first | (go_at_call 25; refine HC.out.mono ?_; rintro e w' ⟨rfl, q, rfl⟩) | (go_at_call 28; refine (atomic_load _ c _ (by simpa using h1)).mono ?_; rintro e w' ⟨rfl, rfl⟩))
  go_ret
  exact FIN.out _
theorem get_none (x : ByteArray) (w : World) (hT : TallyIn w B t vn g ts cs) (hx : x.data.toList ∉ ts) :
    Calls Try.prog 20 #[.pointer (some ⟨t, 0, none⟩), .string x] w (Done (.int .u64 0) B t vn g ts cs w) := by
  have HC := hid (count_none x w hT hx)
  have FIN := hid (hT.done (.int .u64 0))
  clear hT hx
  go_enter Try.func20, Try.ntmps20
  go_wp2_with (go_at_call 25; refine HC.out.mono ?_; rintro e w' ⟨rfl, q, rfl⟩)
  go_ret
  exact FIN.out _
set_option maxRecDepth 100000 in
theorem most_found (x : ByteArray) (n : Int) (w : World) (hT : TallyIn w B t vn g ts cs) (j : Nat) (hj : j < ts.length) (hx : ts.getD j [] = x.data.toList) :
    Calls Try.prog 18 #[.pointer (some ⟨t, 0, none⟩), .string x, .int .u64 n] w (Done (.bool true) B t vn g ts (cs.set j (max (cs.getD j 0) n)) w) := by
  have HC := hid (count_found x w hT j hj hx)
  obtain ⟨h1, h2⟩ := hT.count hj
  have FIN := hid (hT.donePut j n (.bool true))
  have FIN2 := hid (hT.done (.bool true))
  have hsame : cs.set j (cs.getD j 0) = cs := by
    rw [List.getD, List.getElem?_eq_getElem (show j < cs.length by rw [hT.size]; exact hj)]
    simp
  by_cases hle : n ≤ cs.getD j 0
  · rw [Int.max_eq_left hle, hsame]
    obtain ⟨c, hcc⟩ : ∃ c, c = cs.getD j 0 := ⟨_, rfl⟩
    rw [← hcc] at h1 hle
    clear hT hj hx hcc hsame FIN
    go_enter Try.func18, Try.ntmps18
    go_wp2_with (go_at_call 25; refine HC.out.mono ?_; rintro e w' ⟨rfl, q, rfl⟩)
    go_loop [8] (fun _ => True) (fun _ => 0)
    case atStart => trivial
    case round =>
      go_wp2_with (go_at_call 28; refine (atomic_load _ c _ (by simpa using h1)).mono ?_; rintro e w' ⟨rfl, rfl⟩)
      go_ret
      exact FIN2.out _
  · have hlt : cs.getD j 0 < n := by omega
    rw [Int.max_eq_right (by omega)]
    obtain ⟨c, hcc⟩ : ∃ c, c = cs.getD j 0 := ⟨_, rfl⟩
    rw [← hcc] at h1 hlt
    clear hT hj hx hcc hle hsame FIN2
    go_enter Try.func18, Try.ntmps18
    go_wp2_with (go_at_call 25; refine HC.out.mono ?_; rintro e w' ⟨rfl, q, rfl⟩)
    go_loop [8] (fun _ => True) (fun _ => 0)
    case atStart => trivial
    case round =>
      go_wp2_with (first | (go_at_call 28; refine (atomic_load _ c _ (by simpa using h1)).mono ?_; rintro e w' ⟨rfl, rfl⟩) | (go_at_call 29; refine (atomic_cas _ c n _ (by simpa using h1) (by simpa using h2)).mono ?_; rintro e w' ⟨rfl, rfl⟩))
      go_ret
      exact FIN.out _
end
end Go.Proofs.Ytadoiplfglaonab
