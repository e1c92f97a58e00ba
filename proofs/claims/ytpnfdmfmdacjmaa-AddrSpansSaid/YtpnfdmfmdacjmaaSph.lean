/-
  slices.Collect of a span and the law's span, whatever the size.
-/
import Derived.Test.YtpnfdmfmdacjmaaSpg
namespace Go.Proofs.Ytpnfdmfmdacjmaa
open Go.RowKit Go.Lib Go.Shelf

/-- The places of a span. -/
def placesL (r c p q : Int) : List Int := spanL (r * c) (p % (r * c)) (lenZ r c p q).toNat
theorem lenZ_bd {r c : Int} (h : Ok r c) (p q : Int) : 1 ≤ lenZ r c p q ∧ lenZ r c p q ≤ 3564 := by
  have hN := ok_pos h
  have hL := lenS_bd (a := p % (r * c)) (b := q % (r * c)) hN.1
  rw [← lenS_eq] at hL
  omega
theorem placesL_len {r c : Int} (h : Ok r c) (p q : Int) : (placesL r c p q).length = (lenZ r c p q).toNat ∧ (placesL r c p q).length ≤ 3564 := by
  have := lenZ_bd h p q
  have e : (placesL r c p q).length = (lenZ r c p q).toNat := spanL_len _ _ _
  exact ⟨e, by omega⟩
theorem seq_mono {F : Fence} {n : Nat} {P : Program} {g : Nat} {lb : Array Value} {encs : Int → Array Value} {Kp : World → World → Prop} {S Sp Sp' : List Int → Prop} {N : Nat} {w : World} (h : SeqStopsK F n P g lb encs Kp S Sp N w) (hS : ∀ pre, Sp pre → Sp' pre) : SeqStopsK F n P g lb encs Kp S Sp' N w := fun l J Jx W h1 h2 h3 h4 h5 =>
  (h l J Jx W h1 h2 h3 h4 h5).mono fun e W' ⟨h6, h7⟩ => ⟨h6, h7.imp id fun ⟨pre, h8, h9⟩ => ⟨pre, hS pre h8, h9⟩⟩
theorem boxes_alloc {b : Nat} {r c p q : Int} {w : World} (h : Boxes b r c p q w) (o : Obj) : Boxes b r c p q (w.alloc o) := h.below h.lt ((Below.refl _ _).alloc (Nat.le_refl _) _)
theorem stops_ok (n : Nat) (hn : 1 ≤ n) (b : Nat) (r c p q : Int) (h : Ok r c) (hp : I64 p) (hq : I64 q) (w : World) (hX : Boxes b r c p q w) (Kp : World → World → Prop) (hKp : ∀ W W', Kp W W' → Boxes b r c p q W → Boxes b r c p q W') :
    SeqStopsK Fence.wide n Try.prog 74 (lbS b) (fun x : Int => #[.int .i64 x]) Kp (fun xs => xs = placesL r c p q) (fun pre => ∃ k, pre = (placesL r c p q).take k) (placesL r c p q).length w := by
  rw [(placesL_len h p q).1]
  refine seq_mono (span_stops n hn b r c p q h hp hq w hX Kp hKp) ?_
  rintro pre ⟨k, rfl, _, hk⟩
  exact ⟨k, (spanL_take _ _ _ _ hk).symm⟩
theorem stops_no (n : Nat) (hn : 1 ≤ n) (b : Nat) (r c p q : Int) (h : vB r c = false) (w : World) (hX : Boxes b r c p q w) (Kp : World → World → Prop) :
    SeqStopsK Fence.wide n Try.prog 74 (lbS b) (fun x : Int => #[.int .i64 x]) Kp (fun xs => xs = []) (fun pre => ∃ k, pre = ([] : List Int).take k) ([] : List Int).length w :=
  seq_mono (span_stops_no n hn b r c p q h w hX Kp) (fun _ h => h.elim)
theorem collect_ok (b : Nat) (r c p q : Int) (h : Ok r c) (hp : I64 p) (hq : I64 q) (w : World) (hX : Boxes b r c p q w) : Calls Try.prog 32 #[.func (.func 74) #[] (lbS b)] w (IntsDone (placesL r c p q) w) :=
  callsIn_wide.1 (collect_in 4 (by omega) (lbS b) (placesL r c p q) (by have := (placesL_len h p q).2; omega) _ w (stops_ok 2 (by omega) b r c p q h hp hq _ (boxes_alloc hX _) _ (fun _ _ hb hX' => hX'.below hX.lt hb)))
theorem collect_no (b : Nat) (r c p q : Int) (h : vB r c = false) (w : World) (hX : Boxes b r c p q w) : Calls Try.prog 32 #[.func (.func 74) #[] (lbS b)] w (IntsDone [] w) :=
  callsIn_wide.1 (collect_in 4 (by omega) (lbS b) [] (by simp) _ w (stops_no 2 (by omega) b r c p q h _ (boxes_alloc hX _) _))
theorem lspan_ok (r c p q : Int) (h : Ok r c) (hp : I64 p) (hq : I64 q) (K : Nat) (hK1 : 1 ≤ K) (hK2 : K ≤ 100000) (w : World) : Calls Try.prog 35 #[.agg #[.int .i64 r, .int .i64 c], .int .i64 p, .int .i64 q, .int .i64 K] w (IntsDone ((placesL r c p q).take K) w) :=
  callsIn_wide.1 (lspan_in 4 (by omega) r c p q K hK1 hK2 (placesL r c p q) (by have := (placesL_len h p q).2; omega) w fun b w0 hX => stops_ok 3 (by omega) b r c p q h hp hq w0 hX _ KeepB.boxes)
theorem lspan_no (r c p q : Int) (h : vB r c = false) (K : Nat) (hK1 : 1 ≤ K) (hK2 : K ≤ 100000) (w : World) : Calls Try.prog 35 #[.agg #[.int .i64 r, .int .i64 c], .int .i64 p, .int .i64 q, .int .i64 K] w (IntsDone (([] : List Int).take K) w) :=
  callsIn_wide.1 (lspan_in 4 (by omega) r c p q K hK1 hK2 [] (by simp) w fun b w0 hX => stops_no 3 (by omega) b r c p q h w0 hX _)

end Go.Proofs.Ytpnfdmfmdacjmaa
