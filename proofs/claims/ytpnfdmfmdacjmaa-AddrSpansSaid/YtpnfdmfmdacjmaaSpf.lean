/-
  The program's Span, slices.Collect over it; the iterator of a size that isn't valid.
-/
import Derived.Test.YtpnfdmfmdacjmaaSpe
namespace Go.Proofs.Ytpnfdmfmdacjmaa
open Go.RowKit Go.Lib Go.Shelf
attribute [local go_sem] Oper.semAt_some

/-- What the iterator holds. -/
def lbS (b : Nat) : Array Value := #[.pointer (some ⟨b, 0, none⟩), .pointer (some ⟨b + 1, 0, none⟩), .pointer (some ⟨b + 2, 0, none⟩)]
set_option maxRecDepth 100000 in
theorem span_made (r c p q : Int) (w : World) : Calls Try.prog 33 #[.agg #[.int .i64 r, .int .i64 c], .int .i64 p, .int .i64 q] w fun e w' => e = .returned (.func (.func 74) #[] (lbS w.heap.size)) ∧ Boxes w.heap.size r c p q w' ∧ Below w.heap.size w w' := by
  go_enter Try.func33, Try.ntmps33
  go_wp2
  go_ret
  refine ⟨rfl, ⟨by simp [go_sem], by simp [go_sem], by simp [go_sem], by simp [go_sem]⟩, ?_⟩
  exact (((Below.refl _ w).alloc (Nat.le_refl _) _).alloc (by simp) _).alloc (by simp; omega) _

set_option maxRecDepth 100000 in
set_option maxHeartbeats 2000000 in
theorem span_stops_no (n : Nat) (hn : 1 ≤ n) (b : Nat) (r c p q : Int) (h : vB r c = false) (w : World) (hX : Boxes b r c p q w) (Kp : World → World → Prop) :
    SeqStopsK Fence.wide n Try.prog 74 (lbS b) (fun x : Int => #[.int .i64 x]) Kp (fun xs => xs = []) (fun _ => False) 0 w := fun l J Jx W hW hJ _ _ h0 => by
  have hX' : Boxes b r c p q W := hX.below hX.lt hW
  have HJA := hid hJ
  have H0 := hid h0
  have HW0 := hid (wrap_no r c p h)
  have HLE := hid (length_no r c p q h)
  clear hX h0 hJ h hW
  have HX0 := hid hX'
  obtain ⟨c0, c1, c2, c3⟩ := hX'
  unfold lbS
  refine callsIn_of_wp Try.func74 rfl trivial ?_ rfl
  simp only [Try.ntmps74, List.size_toArray, List.length_cons, List.length_nil, Nat.reduceAdd, Nat.reduceSub, Array.replicate_succ, Array.replicate_zero, List.push_toArray, List.append_toArray, List.nil_append, List.cons_append]
  gi_wp2_with (first
    | (refine ⟨trivial, ?_⟩; gi_at_call 19; refine (callsIn_wide.2 (HW0.out _)).mono ?_; rintro e w1 ⟨rfl, hb1⟩; have HB1 := hid hb1; have HX1 := hid (HX0.out.below HX0.out.lt hb1); clear hb1; obtain ⟨c0, c1, c2, c3⟩ := HX1.out))
  refine ⟨trivial, ?_⟩
  refine (callsIn_wide.2 (HLE.out _)).mono ?_
  rintro e w2 ⟨rfl, hb2⟩
  have HJ2 := hid (HJA.out [] w1 w2 none (HJA.out [] W w1 none H0.out (grown_of_below HB1.out) (fun _ h => by cases h)) (grown_of_below hb2) (fun _ h => by cases h))
  clear hb2 c0 c1 c2 c3
  gi_wp2
  gi_loopw [14] (fun i wr => i = .int .i64 0 ∧ wr = w2) (fun _ _ => 0)
  case atStart => exact ⟨rfl, rfl⟩
  case round =>
    obtain ⟨rfl, rfl⟩ := hrel
    gi_wp2
    go_end0
    exact ⟨⟨_, rfl⟩, .inl ⟨_, rfl, HJ2.out⟩⟩

set_option maxRecDepth 100000 in
theorem collect_in (n : Nat) (hn : 4 ≤ n) (lb : Array Value) (ys : List Int) (hl : ys.length ≤ 100000) (Sp : List Int → Prop) (w : World) (hst : SeqStopsK Fence.wide (n - 2) Try.prog 74 lb (fun x : Int => #[.int .i64 x]) (Below w.heap.size) (fun xs => xs = ys) Sp ys.length (w.alloc (.cells #[.slice none 0 0] 43))) :
    CallsIn Fence.wide n Try.prog 32 #[.func (.func 74) #[] lb] w (IntsDone ys w) := by
  have HA := hid (appendSeq_in (n - 1) (by omega) lb ys hl Sp w (by rw [show n - 1 - 1 = n - 2 by omega]; exact hst))
  clear hst
  have h1 : 1 ≤ n := by omega
  refine callsIn_of_wp Try.func32 rfl trivial ?_ rfl
  simp only [Try.ntmps32, List.size_toArray, List.length_cons, List.length_nil, Nat.reduceAdd, Nat.reduceSub, Array.replicate_succ, Array.replicate_zero, List.push_toArray, List.append_toArray, List.nil_append, List.cons_append]
  gi_wp2
  refine ⟨trivial, ?_⟩
  refine HA.out.mono ?_
  rintro e w' ⟨v, b, rfl, hb, ho, hw⟩
  have HD := hid (And.intro hb (And.intro ho hw))
  clear hb ho hw
  gi_wp2
  go_ret
  exact ⟨v, b, rfl, HD.out.1, HD.out.2.1, HD.out.2.2⟩

end Go.Proofs.Ytpnfdmfmdacjmaa
