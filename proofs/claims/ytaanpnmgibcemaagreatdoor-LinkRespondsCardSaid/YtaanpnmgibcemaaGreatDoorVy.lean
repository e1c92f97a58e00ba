/-
  The iterator of a nil link tells nothing.
-/
import Derived.Test.YtaanpnmgibcemaaGreatDoorVx
namespace Go.Proofs.YtaanpnmgibcemaaGreatDoor
open Go.RowKit Go.Lib Go.Deep Go.Shelf
attribute [local go_sem] Oper.semAt_some

set_option maxRecDepth 100000 in
theorem take_nil_tells {α : Type} {enc : α → Array Value} {Pre J : α → World → Prop} {Jx : Code → α → World → Prop} {Dn : World → Prop} {St : Code → World → Prop} (n : Nat) (b1 b2 : Nat) (W0 : World) (c1 : W0.cell? ⟨b1, 0, none⟩ = some (.pointer none)) (hd : Dn W0) :
    Tells Fence.wide n Tryz.prog 64 #[.pointer (some ⟨b1, 0, none⟩), .pointer (some ⟨b2, 0, none⟩)] enc Pre J Jx Dn St W0 := by
  intro l Bk Bx hSt hStx hB0 hY
  have HB0 := hid hB0
  have HD := hid hd
  clear hY
  refine callsIn_of_wp Tryz.func64 rfl trivial ?_ rfl
  simp only [Tryz.ntmps64, List.size_toArray, List.length_cons, List.length_nil, Nat.reduceAdd, Nat.reduceSub, Array.replicate_succ, Array.replicate_zero, List.push_toArray, List.append_toArray, List.nil_append, List.cons_append]
  gi_wp2
  exact bodyPost_ret (results_none rfl _ _ _) rfl ⟨⟨_, rfl⟩, .inl ⟨HB0.out, HD.out⟩⟩
end Go.Proofs.YtaanpnmgibcemaaGreatDoor
