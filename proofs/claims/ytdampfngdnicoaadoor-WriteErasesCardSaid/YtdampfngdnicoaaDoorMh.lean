/-
  order.Parse, and what its iterator tells.
-/
import Derived.Test.YtdampfngdnicoaaDoorMg
namespace Go.Proofs.YtdampfngdnicoaaDoor
open Go.RowKit Go.Lib Go.Deep Go.Shelf
attribute [local go_sem] Oper.semAt_some

/-- The bytes lie in a box of the iterator's. -/
def PrsD (zs : List Int) (w : World) (e : Ending) (w' : World) : Prop := ∃ bx v, e = .returned (.func (.func 59) #[] #[.pointer (some ⟨bx, 0, none⟩)]) ∧ w'.cell? ⟨bx, 0, none⟩ = some v ∧ OwnB w' v zs ∧ Below w.heap.size w w' ∧ w.heap.size ≤ bx ∧ ∀ k ∈ blkV v, w.heap.size ≤ k
set_option maxRecDepth 100000 in
theorem oparse_any (p : Value) (zs : List Int) (w : World) (h : Reads w p zs) (hl : zs.length ≤ 100000) : Calls Tryd.prog 43 #[p] w (PrsD zs w) := by
  have hmf : ∀ (fn : Fn) (first cap : Array Value) (w : World), (Instr.makeFunc fn first cap).run Tryd.prog w = .ok (.func fn first cap) w := fun _ _ _ _ => rfl
  have H := hid h
  obtain ⟨x0, c0, rfl⟩ := reads_sl h
  clear h
  go_enter Tryd.func43, Tryd.ntmps43
  go_wp2_with fail
  have hA : Below w.heap.size w (w.alloc (.cells #[.slice x0 zs.length c0] 23)) := (Below.refl _ _).alloc (Nat.le_refl _) _
  refine (clone_any _ zs _ (reads_below H.out hA) (by omega)).mono ?_
  rintro e w1 ⟨v, rfl, ho, hb, hk⟩
  obtain ⟨x, n, c, rfl⟩ := own_slice ho
  have HO := hid ho
  have HB := hid (below_t hA hb)
  have HK := hid hk
  have hsz := hb.size
  have hf := hb.frozen (p := ⟨w.heap.size, 0, none⟩) (by simp)
  have hc := keepc (a := ⟨w.heap.size, 0, none⟩) (v := .slice x0 zs.length c0) hb (by simp [go_sem])
  have hf' : w1.frozen? ⟨w.heap.size, 0, none⟩ = false := hf.trans (by simp [go_sem])
  clear hb hk ho hA hf
  go_wp2
  refine bodyPost_ret (v := .func (.func 59) #[] #[.pointer (some ⟨w.heap.size, 0, none⟩)]) (by simp [results, Tryd.results43, go_sem]) rfl ?_
  have hset : Below w.heap.size w (w1.setCell ⟨w.heap.size, 0, none⟩ (.slice x n c)) := HB.out.setCell (Nat.le_refl _) _
  refine ⟨w.heap.size, .slice x n c, rfl, World.cell?_setCell_same _ _ _ hc, HO.out.moved (Moved.set (S := [w.heap.size]) (List.mem_cons_self ..) 0 _) (fun k hk q => ?_), hset, Nat.le_refl _, fun k hk => by have := HK.out k hk; simp at this; omega⟩
  have := HK.out k hk
  have := List.mem_singleton.1 q
  simp at *
  omega
end Go.Proofs.YtdampfngdnicoaaDoor
