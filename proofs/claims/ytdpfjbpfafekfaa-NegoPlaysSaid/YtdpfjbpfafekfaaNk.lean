/-
  slices.Sort of few bytes: whole.
-/
import Derived.Test.YtdpfjbpfafekfaaNj
import Derived.Lib.Strings
import Derived.Lib.Slices
import Derived.Lib.Small
import Derived.Lib.Walk
import Derived.Lib.BitFns
namespace Go.Proofs.Ytdpfjbpfafekfaa
open Go.RowKit Go.Lib

/-- Some number is returned, and the world is as it was. -/
def SomeN (w : World) (e : Ending) (w' : World) : Prop := ∃ r : Int, e = .returned (.int .i64 r) ∧ w = w'
set_option maxRecDepth 100000 in
set_option maxHeartbeats 4000000 in
theorem len64_few (x : Int) (h0 : 0 ≤ x) (h1 : x ≤ 12) (w : World) : Calls Try.prog 110 #[.int .u64 x] w (SomeN w) := by
  go_enter Try.func110, Try.ntmps110
  go_wp2
  all_goals first
    | (go_ret; exact ⟨_, rfl, rfl⟩)
    | (exfalso; omega)
set_option maxRecDepth 100000 in
theorem len_few (x : Nat) (hx : x ≤ 12) (w : World) : Calls Try.prog 94 #[.int .u64 x] w (SomeN w) := by
  have H := hid (len64_few x (by omega) (by omega) w)
  go_enter Try.func94, Try.ntmps94
  go_wp2_with fail
  with_reducible refine H.out.mono ?_
  rintro e w1 ⟨r, rfl, rfl⟩
  go_wp2
  go_ret
  exact ⟨_, rfl, rfl⟩
set_option maxRecDepth 100000 in
set_option maxHeartbeats 4000000 in
theorem pdq_few (g n cap : Nat) (xs : List Int) (r : Int) (w : World) (h : OwnB w (.slice (some ⟨g, 0, none⟩) n cap) xs) (hn : n = xs.length) (h1 : 1 ≤ n) (hl : n ≤ 12) : Calls Try.prog 93 #[.slice (some ⟨g, 0, none⟩) n cap, .int .i64 0, .int .i64 n, .int .i64 r] w (SortD xs g n cap w) := by
  have H := hid (isort_any g n cap xs w h hn h1 hl)
  clear h hn
  have h12 : (n : Int) ≤ 12 := by omega
  go_enter Try.func93, Try.ntmps93
  go_wp2
  go_loopw [1, 2] (fun a b W => a = .int .i64 0 ∧ b = .int .i64 n ∧ W = w) (fun _ _ _ => 0)
  case atStart => exact ⟨rfl, rfl, rfl⟩
  case round =>
    obtain ⟨rfl, rfl, rfl⟩ := hrel
    go_wp2_with fail
    with_reducible refine H.out.mono ?_
    rintro e w1 ⟨rfl, hs⟩
    have HS := hid hs
    clear hs
    go_wp2
    refine bodyPost_ret (results_none rfl _ _ _) rfl ?_
    exact ⟨rfl, HS.out⟩
/-- Bytes that were sorted. -/
def SortV (xs : List Int) (v : Value) (w : World) (e : Ending) (w' : World) : Prop := e = .returned (.tuple #[]) ∧ ∃ s, s.Perm xs ∧ s.Pairwise (· ≤ ·) ∧ OwnB w' v s ∧ Moved w w' (blkV v) (blkV v)
set_option maxRecDepth 100000 in
theorem isort_none (x : Option Addr) (c : Nat) (w : World) : Calls Try.prog 100 #[.slice x 0 c, .int .i64 0, .int .i64 0] w fun e w' => e = .returned (.tuple #[]) ∧ w = w' := by
  go_enter Try.func100, Try.ntmps100
  go_wp2
  go_loopw [6] (fun i W => i = .int .i64 1 ∧ W = w) (fun _ _ => 0)
  case atStart => exact ⟨rfl, rfl⟩
  case round =>
    obtain ⟨rfl, hw⟩ := hrel
    subst hw
    go_wp2
    go_end0
    exact ⟨rfl, rfl⟩
set_option maxRecDepth 100000 in
set_option maxHeartbeats 4000000 in
theorem pdq_none (x : Option Addr) (c : Nat) (r : Int) (w : World) : Calls Try.prog 93 #[.slice x 0 c, .int .i64 0, .int .i64 0, .int .i64 r] w fun e w' => e = .returned (.tuple #[]) ∧ w = w' := by
  have H := hid (isort_none x c w)
  go_enter Try.func93, Try.ntmps93
  go_wp2
  go_loopw [1, 2] (fun a b W => a = .int .i64 0 ∧ b = .int .i64 0 ∧ W = w) (fun _ _ _ => 0)
  case atStart => exact ⟨rfl, rfl, rfl⟩
  case round =>
    obtain ⟨rfl, rfl, hw⟩ := hrel
    subst hw
    go_wp2_with fail
    with_reducible refine H.out.mono ?_
    rintro e w1 ⟨rfl, rfl⟩
    go_wp2
    refine bodyPost_ret (results_none rfl _ _ _) rfl ?_
    exact ⟨rfl, rfl⟩
set_option maxRecDepth 100000 in
set_option maxHeartbeats 4000000 in
theorem sort_any (v : Value) (xs : List Int) (w : World) (h : OwnB w v xs) (hl : xs.length ≤ 12) : Calls Try.prog 91 #[v] w (SortV xs v w) := by
  by_cases hx : xs = []
  · subst hx
    obtain ⟨x, c, rfl⟩ := own_empty h
    have HL := hid (show Calls Try.prog 94 #[.int .u64 0] w (SomeN w) from len_few 0 (by omega) w)
    have HP := hid (fun r => pdq_none x c r w)
    have HO := hid h
    clear h
    go_enter Try.func91, Try.ntmps91
    go_wp2_with fail
    with_reducible refine HL.out.mono ?_
    rintro e w1 ⟨r, rfl, rfl⟩
    go_wp2_with fail
    with_reducible refine (HP.out r).mono ?_
    rintro e w1 ⟨rfl, rfl⟩
    go_wp2
    go_end0
    exact ⟨rfl, [], List.Perm.refl _, List.Pairwise.nil, HO.out, Moved.refl _ _⟩
  · obtain ⟨g, cap, rfl, hc, hm, hg⟩ := h.slice hx
    have h1 : 1 ≤ xs.length := List.length_pos_iff.2 hx
    obtain ⟨n, hn⟩ : ∃ n, n = xs.length := ⟨_, rfl⟩
    rw [← hn] at h hl h1 ⊢
    have HL := hid (len_few n hl w)
    have HP := hid (fun r => pdq_few g n cap xs r w h hn h1 hl)
    have hw : IntKind.u64.wrap (n : Int) = n := by
      have : n = 1 ∨ n = 2 ∨ n = 3 ∨ n = 4 ∨ n = 5 ∨ n = 6 ∨ n = 7 ∨ n = 8 ∨ n = 9 ∨ n = 10 ∨ n = 11 ∨ n = 12 := by omega
      rcases this with rfl | rfl | rfl | rfl | rfl | rfl | rfl | rfl | rfl | rfl | rfl | rfl <;> decide
    have HBK : Hid (blkV (.slice (some ⟨g, 0, none⟩) n cap) = [g]) := rfl
    clear h hn hx hc hm hg
    go_enter Try.func91, Try.ntmps91
    go_wp2_with fail
    with_reducible refine HL.out.mono ?_
    rintro e w1 ⟨r, rfl, rfl⟩
    go_wp2_with fail
    with_reducible refine (HP.out r).mono ?_
    rintro e w2 ⟨rfl, hs⟩
    have HS := hid hs
    clear hs
    go_wp2
    go_end0
    refine ⟨rfl, ?_⟩
    rw [HBK.out]
    exact HS.out
/-- Of the functions those that a list has, rising. -/
def sortL (xs : List Int) : List Int := [0, 1, 2, 3, 4].filter fun f => xs.any fun x => x == f
theorem strict_eq : ∀ {a b : List Int}, a.Pairwise (· < ·) → b.Pairwise (· < ·) → (∀ x, x ∈ a ↔ x ∈ b) → a = b
  | [], [], _, _, _ => rfl
  | [], y :: b, _, _, h => by have := (h y).2 (by simp); cases this
  | x :: a, [], _, _, h => by have := (h x).1 (by simp); cases this
  | x :: a, y :: b, ha, hb, h => by
    have ha' := List.pairwise_cons.1 ha
    have hb' := List.pairwise_cons.1 hb
    have hxy : x = y := by
      rcases List.mem_cons.1 ((h x).1 (by simp)) with e | e
      · exact e
      · rcases List.mem_cons.1 ((h y).2 (by simp)) with e' | e'
        · exact e'.symm
        · have := ha'.1 y e'
          have := hb'.1 x e
          omega
    subst hxy
    congr 1
    refine strict_eq ha'.2 hb'.2 fun z => ⟨fun hz => ?_, fun hz => ?_⟩
    · rcases List.mem_cons.1 ((h z).1 (List.mem_cons_of_mem _ hz)) with e | e
      · have := ha'.1 z hz
        omega
      · exact e
    · rcases List.mem_cons.1 ((h z).2 (List.mem_cons_of_mem _ hz)) with e | e
      · have := hb'.1 z hz
        omega
      · exact e
theorem strict_of {s : List Int} (h : s.Pairwise (· ≤ ·)) (hn : s.Nodup) : s.Pairwise (· < ·) := by
  refine List.Pairwise.imp ?_ (List.pairwise_and_iff.2 ⟨h, hn⟩)
  intro a b ⟨h1, h2⟩
  omega
theorem sort_is {s xs : List Int} (hp : s.Perm xs) (hs : s.Pairwise (· ≤ ·)) (hn : xs.Nodup) (hb : ∀ x ∈ xs, 0 ≤ x ∧ x ≤ 4) : s = sortL xs := by
  refine strict_eq (strict_of hs (hp.nodup_iff.2 hn)) ?_ fun x => ?_
  · unfold sortL
    exact List.Pairwise.filter _ (by decide)
  · rw [hp.mem_iff]
    unfold sortL
    rw [List.mem_filter, any_mem]
    refine ⟨fun h => ⟨?_, h⟩, fun h => h.2⟩
    have := hb x h
    have h5 : x = 0 ∨ x = 1 ∨ x = 2 ∨ x = 3 ∨ x = 4 := by omega
    rcases h5 with rfl | rfl | rfl | rfl | rfl <;> decide
end Go.Proofs.Ytdpfjbpfafekfaa
