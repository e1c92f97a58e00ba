/-
  sfield: the names of the kinds; what is listed lays them.
-/
import Derived.Test.YtdpgmepblmlaaaaDoorRows
import Derived.Test.YtdpgmepblmlaaaaDoorSg
import Derived.LaidSub
namespace Go.Proofs.YtdpgmepblmlaaaaDoor
open Go.ChangeShapes Go.WideShapes Go.ChangeAt Go.WideMaps Go.WideElems Go.RowKit Go.Lib Go.Deep

/-- The kinds' names, by their numbers. -/
def kdL : List ByteArray := [(⟨#[]⟩ : ByteArray), (⟨#[81, 117, 101, 114, 121]⟩ : ByteArray), (⟨#[81, 117, 101, 114, 121, 76, 105, 115, 116]⟩ : ByteArray), (⟨#[82, 101, 97, 100]⟩ : ByteArray), (⟨#[69, 114, 97, 115, 101]⟩ : ByteArray), (⟨#[77, 111, 100, 101]⟩ : ByteArray), (⟨#[67, 114, 101, 97, 116, 101]⟩ : ByteArray), (⟨#[68, 101, 115, 116, 114, 111, 121]⟩ : ByteArray), (⟨#[65, 99, 116, 105, 118, 97, 116, 101]⟩ : ByteArray), (⟨#[79, 117, 116, 98, 111, 117, 110, 100]⟩ : ByteArray)]
def kdS (n : Int) : ByteArray := if 0 ≤ n ∧ n < 10 then kdL.getD n.toNat ByteArray.empty else ByteArray.empty
/-- They lie in their block. -/
def Knd (w : World) : Prop := 0 < w.heap.size ∧ ∀ j, j < 10 → w.cell? ⟨0, j, none⟩ = some (.string (kdL.getD j ByteArray.empty))
theorem Knd.go {w w' : World} (h : Knd w) (hb : Below w.heap.size w w') : Knd w' := ⟨Nat.lt_of_lt_of_le h.1 hb.size, fun j hj => (hb.cell (p := ⟨0, j, none⟩) h.1).trans (h.2 j hj)⟩
theorem kdS_no {n : Int} (h : n < 0 ∨ 10 ≤ n) : kdS n = ByteArray.empty := if_neg (by omega)
theorem kdS_at {k : Nat} (hk : k < 10) : kdS (k : Int) = kdL.getD k ByteArray.empty := by
  unfold kdS
  rw [if_pos (by omega)]
  rfl
theorem ten {k : Nat} (h : k < 10) : k = 0 ∨ k = 1 ∨ k = 2 ∨ k = 3 ∨ k = 4 ∨ k = 5 ∨ k = 6 ∨ k = 7 ∨ k = 8 ∨ k = 9 := by omega
set_option maxRecDepth 100000 in
set_option maxHeartbeats 4000000 in
theorem kname_any (n : Int) (w : World) (hK : Knd w) : Calls Tryd.prog 27 #[.int .i64 n] w fun e w' => e = .returned (.string (kdS n)) ∧ Below w.heap.size w w' := by
  by_cases h0 : n < 0
  · rw [kdS_no (.inl h0)]
    go_enter Tryd.func27, Tryd.ntmps27
    go_wp2
    go_ret
    exact ⟨rfl, Below.refl _ _⟩
  by_cases h9 : 10 ≤ n
  · rw [kdS_no (.inr h9)]
    go_enter Tryd.func27, Tryd.ntmps27
    go_wp2
    go_ret
    exact ⟨rfl, Below.refl _ _⟩
  obtain ⟨k, rfl⟩ := Int.eq_ofNat_of_zero_le (by omega : 0 ≤ n)
  have hk : k < 10 := by omega
  rw [kdS_at hk]
  have hc := hK.2 k hk
  have hi : (k : Int) < 10 := by omega
  have hn : ¬ (k : Int) < 0 := by omega
  generalize kdL.getD k ByteArray.empty = nm at hc ⊢
  clear hK h0 h9
  go_enter Tryd.func27, Tryd.ntmps27
  go_wp2
  go_ret
  exact ⟨rfl, Below.refl _ _⟩
set_option maxRecDepth 100000 in
set_option maxHeartbeats 4000000 in
theorem rkname_any (n : Int) (w : World) : Calls Tryd.prog 28 #[.int .i64 n] w fun e w' => e = .returned (.string (kdS n)) ∧ Below w.heap.size w w' := by
  by_cases h0 : n < 1
  · rw [show kdS n = ByteArray.empty by
      by_cases h : n < 0
      · exact kdS_no (.inl h)
      · obtain rfl : n = 0 := by omega
        rfl]
    go_enter Tryd.func28, Tryd.ntmps28
    go_wp2
    go_ret
    exact ⟨rfl, Below.refl _ _⟩
  by_cases h9 : 10 ≤ n
  · rw [kdS_no (.inr h9)]
    have hg : 9 < n := by omega
    go_enter Tryd.func28, Tryd.ntmps28
    go_wp2
    go_ret
    exact ⟨rfl, Below.refl _ _⟩
  obtain ⟨k, rfl⟩ := Int.eq_ofNat_of_zero_le (by omega : 0 ≤ n)
  have hk : k < 10 := by omega
  rcases ten hk with rfl | rfl | rfl | rfl | rfl | rfl | rfl | rfl | rfl | rfl
  · omega
  · rw [show kdS ((1 : Nat) : Int) = kdL.getD 1 ByteArray.empty from rfl]
    go_enter Tryd.func28, Tryd.ntmps28
    go_wp2
    go_ret
    exact ⟨rfl, bal (Below.refl _ _) _⟩
  · rw [show kdS ((2 : Nat) : Int) = kdL.getD 2 ByteArray.empty from rfl]
    go_enter Tryd.func28, Tryd.ntmps28
    go_wp2
    go_ret
    exact ⟨rfl, bal (Below.refl _ _) _⟩
  · rw [show kdS ((3 : Nat) : Int) = kdL.getD 3 ByteArray.empty from rfl]
    go_enter Tryd.func28, Tryd.ntmps28
    go_wp2
    go_ret
    exact ⟨rfl, bal (Below.refl _ _) _⟩
  · rw [show kdS ((4 : Nat) : Int) = kdL.getD 4 ByteArray.empty from rfl]
    go_enter Tryd.func28, Tryd.ntmps28
    go_wp2
    go_ret
    exact ⟨rfl, bal (Below.refl _ _) _⟩
  · rw [show kdS ((5 : Nat) : Int) = kdL.getD 5 ByteArray.empty from rfl]
    go_enter Tryd.func28, Tryd.ntmps28
    go_wp2
    go_ret
    exact ⟨rfl, bal (Below.refl _ _) _⟩
  · rw [show kdS ((6 : Nat) : Int) = kdL.getD 6 ByteArray.empty from rfl]
    go_enter Tryd.func28, Tryd.ntmps28
    go_wp2
    go_ret
    exact ⟨rfl, bal (Below.refl _ _) _⟩
  · rw [show kdS ((7 : Nat) : Int) = kdL.getD 7 ByteArray.empty from rfl]
    go_enter Tryd.func28, Tryd.ntmps28
    go_wp2
    go_ret
    exact ⟨rfl, bal (Below.refl _ _) _⟩
  · rw [show kdS ((8 : Nat) : Int) = kdL.getD 8 ByteArray.empty from rfl]
    go_enter Tryd.func28, Tryd.ntmps28
    go_wp2
    go_ret
    exact ⟨rfl, bal (Below.refl _ _) _⟩
  · rw [show kdS ((9 : Nat) : Int) = kdL.getD 9 ByteArray.empty from rfl]
    go_enter Tryd.func28, Tryd.ntmps28
    go_wp2
    go_ret
    exact ⟨rfl, bal (Below.refl _ _) _⟩
theorem gKnd : Tryd.prog.globalNamed "vitrine/sfield.names" = some 0 := by kernel_rfl
theorem tKnd : (Tryd.prog.globals[0]?).map (·.type) = some 100 := by kernel_rfl
def laidK : List (String × DataW Unit) := [("vitrine/write.codings", Rows.laid_vitrine_write_codings), ("vitrine/sfield.names", Rows.laid_vitrine_sfield_names)]
theorem door_kinds (os : Os) (args : Array Value) : laidMetH Tryd.prog laidK ((World.doorLaid Tryd.prog 4000 os).forCall (fun _ _ => 0) ⟨#[], args, []⟩).memory :=
  laidMetH_of_parts3 (fuel := 8) (laidMet_of_run' 8 (by kernel_rfl) (by kernel_rfl)) (by kernel_rfl) (by kernel_rfl)
theorem cods_of_laidK {W : World} (h : laidMetH Tryd.prog laidK W) : Cods W := cods_of_laid (laidMetH.filter (fun x => x.1 == "vitrine/write.codings") h)
theorem getElem?_take_dropK {α : Type} (l : List α) (j : Nat) (a : α) (h : (l.drop j).take 1 = [a]) : l[j]? = some a := by
  have e : ((l.drop j).take 1)[0]? = l[j]? := by rw [List.getElem?_take_of_lt (by omega), List.getElem?_drop, Nat.add_zero]
  rw [← e, h]
  rfl
theorem kinds_of_laid {W : World} (h : laidMetH Tryd.prog laidK W) : Knd W := by
  have h := laidMetH.filter (fun x => x.1 == "vitrine/sfield.names") h
  have h : laidMetH Tryd.prog [("vitrine/sfield.names", Rows.laid_vitrine_sfield_names)] W := h
  rw [MakeChecks.laidMetH_plain _ _ _ (by kernel_rfl)] at h
  obtain ⟨ps, ⟨g0, t0, cs0, f0, p0, q0, hg0, ht0, hv0, hd0, _, _⟩, _, _⟩ := h
  obtain rfl := Option.some.inj (gKnd.symm.trans hg0)
  obtain rfl := Option.some.inj (tKnd.symm.trans ht0)
  obtain ⟨xs, m1, rfl, hx1, hlen, hn3, hel⟩ := DataW.trod_array Tryd.underlying100 hd0
  have c3 : Tryd.prog.cellsOf 9 = 1 := by kernel_rfl
  have hx2 : xs.map (fun x => x.1) = kdL.map (fun k => (.lit (.string k.data.toList) : DataW Unit)) := by
    have := (Prod.mk.inj hx1).1
    simp only [Rows.laid_vitrine_sfield_names, DataW.agg.injEq] at this
    exact this.symm
  have hcells : ∀ j, j < 10 → W.cell? ⟨0, j, none⟩ = some (.string (kdL.getD j ByteArray.empty)) := by
    intro j hj
    have h := hel j hj
    rw [c3, Nat.mul_one, List.getElem?_eq_getElem (show j < xs.length by omega)] at h
    obtain ⟨k, e1, e2, _⟩ := DataW.trod_string Tryd.underlying9 h
    rw [World.var?_cell hg0 hv0 j, ← Array.getElem?_toList, getElem?_take_dropK _ _ _ e1]
    have h3 : (xs.map (fun x => x.1))[j]? = (kdL.map (fun k => (.lit (.string k.data.toList) : DataW Unit)))[j]? := by rw [hx2]
    rw [List.getElem?_map, List.getElem?_map, List.getElem?_eq_getElem (show j < xs.length by omega), List.getElem?_eq_getElem (show j < kdL.length from hj), e2] at h3
    simp only [Option.map_some, Option.some.injEq, DataW.lit.injEq, Lit.string.injEq] at h3
    have h4 : k = kdL[j]'hj := by
      obtain ⟨d⟩ := k
      have : d = (kdL[j]'hj).data := Array.toList_inj.1 h3
      rw [this]
    rw [h4, List.getD, List.getElem?_eq_getElem (show j < kdL.length from hj)]
    rfl
  exact ⟨World.block_lt_of_cell? W _ (hcells 0 (by omega)), hcells⟩
end Go.Proofs.YtdpgmepblmlaaaaDoor
