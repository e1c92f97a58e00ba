/-
  A terminal's end accepts, refuses, asks.
-/
import Derived.Test.YtdpfjbpfafekfaaNm
namespace Go.Proofs.Ytdpfjbpfafekfaa
open Go.RowKit Go.Lib

theorem Moved.fresh {a b c : World} {S B : List Nat} (h : Moved a b S S) (k : Moved b c B B) (hB : ∀ x ∈ B, a.heap.size ≤ x) : Moved a c S S :=
  ⟨k.os.trans h.os, k.tape.trans h.tape, k.output.trans h.output, Nat.le_trans h.size k.size,
    fun i hi hs => (k.block i (Nat.lt_of_lt_of_le hi h.size) (fun q => by have := hB i q; omega)).trans (h.block i hi hs), fun i hi => .inl hi⟩
/-- Functions are agreed on. -/
def AccD (g : Nat) (sv : Value) (T D : ByteArray) (fs : List Int) (dev : ByteArray) (r : List Int) (w : World) (e : Ending) (w' : World) : Prop :=
  e = .returned (.tuple #[]) ∧ ∃ av', EndM w' g sv av' T D fs 3 dev (sortL r) ∧ Moved w w' [g] [g] ∧ ∀ k ∈ blkV av', w.heap.size ≤ k
set_option maxRecDepth 100000 in
set_option maxHeartbeats 2000000 in
theorem accept_any (g : Nat) (sv av : Value) (T D : ByteArray) (fs : List Int) (st : Int) (dev : ByteArray) (ag : List Int) (w : World) (h : EndM w g sv av T D fs st dev ag) (p : Value) (r : List Int) (hr : Reads w p r) (hg : g ∉ blkV p) (hnd : r.Nodup) (h04 : ∀ x ∈ r, 0 ≤ x ∧ x ≤ 4) (hl : r.length ≤ 12) : Calls Try.prog 89 #[.pointer (some ⟨g, 0, none⟩), p] w (AccD g sv T D fs dev r w) := by
  have c3 := h.c3
  have f3 := h.fr 3 (by omega)
  have hE1 := h.set3 3
  have hM1 := set_moved w g 3 (.int .i64 3)
  have HCL := hid (clone_any p r _ (reads_moved hr hM1 (fun k hk q => hg (by rw [← List.mem_singleton.1 q]; exact hk))) (by omega))
  obtain ⟨px, pn, pc, rfl⟩ : ∃ x n c, p = .slice x n c := by
    rcases hr.2 with ⟨rfl, _⟩ | ⟨a, cap, rfl, _⟩
    · exact ⟨_, _, _, rfl⟩
    · exact ⟨_, _, _, rfl⟩
  obtain ⟨ax, ac, rfl⟩ := own_len h.ra _ rfl
  have HE1 := hid hE1
  have HM1 := hid hM1
  clear h hr hg hE1 hM1
  go_enter Try.func89, Try.ntmps89
  go_wp2_with fail
  with_reducible refine HCL.out.mono ?_
  rintro e w2 ⟨v, rfl, ho, hb, hk⟩
  have hE2 := HE1.out.step hb
  have c5 := hE2.c5
  have f5 := hE2.fr 5 (by omega)
  have hgl := HE1.out.lt
  have hgv : g ∉ blkV v := fun q => by have := hk g q; omega
  have hE3 := hE2.set5 ho hgv
  have hov := ho.moved (set_moved w2 g 5 v) (fun k hk' q => hgv (by rw [← List.mem_singleton.1 q]; exact hk'))
  have HSO := hid (sort_any v r _ hov hl)
  have c5' := hE3.c5
  have HM3 := hid ((HM1.out.trans (Moved.below hb [g])).trans (set_moved w2 g 5 v))
  have HE3 := hid hE3
  have HK := hid (show ∀ k ∈ blkV v, w.heap.size ≤ k from fun k hk' => by have := hk k hk'; simpa using this)
  have HGV := hid hgv
  have HSV := hid (show ∀ k ∈ blkV sv, k ∉ blkV v from fun k hk' q => by have h1 := HE1.out.rs.lt k hk'; have h2 := hk k q; omega)
  obtain ⟨vx, vc, rfl⟩ := own_len ho _ rfl
  clear ho hb hk hE2 hE3 hov HE1 HCL HM1
  go_wp2_with fail
  with_reducible refine HSO.out.mono ?_
  rintro e w4 ⟨rfl, s, hp, hs, hos, hms⟩
  have HX := hid (show AccD g sv T D fs dev r w (.returned (.tuple #[])) w4 by
    have e := sort_is hp hs hnd h04
    subst e
    refine ⟨rfl, _, ⟨cell_moved hms HE3.out.c0 HGV.out, cell_moved hms HE3.out.c1 HGV.out, cell_moved hms HE3.out.c2 HGV.out, cell_moved hms HE3.out.c3 HGV.out, cell_moved hms HE3.out.c4 HGV.out, cell_moved hms HE3.out.c5 HGV.out, fun i hi => (frozen_moved hms (a := ⟨g, i, none⟩) HE3.out.lt HGV.out).trans (HE3.out.fr i hi), HE3.out.rs.moved hms (HSV.out), hos, HE3.out.ns, HGV.out⟩, ?_, HK.out⟩
    exact HM3.out.fresh hms HK.out)
  clear hp hs hos hms HSO
  go_wp2
  go_end0
  exact HX.out
end Go.Proofs.Ytdpfjbpfafekfaa
