/-
  The counter of a name: where it stands among the rising names of a tally, or that there is none.
-/
import Derived.Test.YtadoiplfglaonabNewa
import Derived.Sort.Walk0
namespace Go.Proofs.Ytadoiplfglaonab
open Go.RowKit Go.Shelf Go.Deep Go.Lib

theorem TallyIn.cell0 {w : World} {B t : Nat} {vn : Value} {g : Nat} {ts : List (List UInt8)} {cs : List Int} (h : TallyIn w B t vn g ts cs) : w.cell? ⟨t, 0, none⟩ = some vn := by
  simp [World.cell?, h.block]
theorem TallyIn.cell1 {w : World} {B t : Nat} {vn : Value} {g : Nat} {ts : List (List UInt8)} {cs : List Int} (h : TallyIn w B t vn g ts cs) : w.cell? ⟨t, 1, none⟩ = some (.slice (some ⟨g, 0, none⟩) ts.length ts.length) := by
  simp [World.cell?, h.block]

/-- How many of the names are less. -/
def rank (ts : List (List UInt8)) (x : List UInt8) : Nat := (List.range ts.length).countP fun i => Op.bytesLess (ts.getD i []) x

theorem search_at {ts : List (List UInt8)} (hr : Rising ts) {x : List UInt8} {j : Nat} (hj : j < ts.length) (hx : ts.getD j [] = x) (Sx : Nat → List UInt8) (hS : ∀ i, i < ts.length → Sx i = ts.getD i []) (hT : ∀ i, ts.length ≤ i → Sx i = x) :
    bsGo (fun t => Op.bytesLess (Sx t) x) ts.length 0 ts.length = j := by
  refine bsGo_spec _ j (fun t ht => ?_) (fun t ht => ?_) _ _ _ (by omega) (by omega) (by omega)
  · show Op.bytesLess (Sx t) x = true
    rw [hS t (by omega), bytesLess_eq, ← hx]
    simpa using hr t j ht hj
  · show Op.bytesLess (Sx t) x = false
    rw [bytesLess_eq]
    by_cases h : t < ts.length
    · rw [hS t h]
      by_cases e : t = j
      · subst e; rw [hx]; simp
      · have := hr j t (by omega) h
        rw [hx] at this
        simp
        exact List.le_of_lt this
    · rw [hT t (by omega)]; simp

/-- Of a name that is not among them: where it would stand; what stands there is not it. -/
theorem search_not {ts : List (List UInt8)} {x : List UInt8} (hx : x ∉ ts) (k : Nat) (hk : k < ts.length) : ts.getD k [] ≠ x := by
  intro e
  apply hx
  rw [← e, List.getD, List.getElem?_eq_getElem hk]
  simp

set_option maxRecDepth 100000 in
set_option maxHeartbeats 1000000 in
theorem count_found {B t : Nat} {vn : Value} {g : Nat} {ts : List (List UInt8)} {cs : List Int} (x : ByteArray) (w : World) (hT : TallyIn w B t vn g ts cs) (j : Nat) (hj : j < ts.length) (hx : ts.getD j [] = x.data.toList) :
    Calls Try.prog 25 #[.pointer (some ⟨t, 0, none⟩), .string x] w fun e w' => e = .returned (.pointer (some ⟨g, j, none⟩)) ∧ ∃ q, w' = w.drewN q := by
  have h0 := hT.cell0
  have h1 := hT.cell1
  obtain ⟨gn, cn, hvn⟩ : ∃ gn cn, vn = .slice (some ⟨gn, 0, none⟩) ts.length cn := by
    rcases hT.names.2 with ⟨_, h⟩ | ⟨gn, cn, _, h, _⟩
    · omega
    · exact ⟨gn, cn, h⟩
  subst hvn
  have hf := hT.few
  obtain ⟨Sx, hSx⟩ : ∃ Sx : Nat → ByteArray, Sx = fun i => if i < ts.length then ⟨(ts.getD i []).toArray⟩ else x := ⟨_, rfl⟩
  have hsr := Try.slices_BinarySearch_string gn 0 ts.length cn Sx x w (by omega) (fun i hi => by rw [Nat.zero_add, hT.names.cellAt i (by omega), hSx]; simp [hi, List.getD])
  have hkey : bsGo (fun t => Op.bytesLess (Sx t).toList x.toList) ts.length 0 ts.length = j := by
    have := search_at hT.rising hj hx (fun i => (Sx i).toList) (fun i hi => by rw [hSx]; simp [hi, ByteArray.toList_eq]) (fun i hi => by rw [hSx]; simp [show ¬ i < ts.length by omega, ByteArray.toList_eq])
    rw [ByteArray.toList_eq x]
    exact this
  rw [hkey] at hsr
  have hd : decide (j < ts.length ∧ Sx j = x) = true := by
    simp only [decide_eq_true_eq]
    refine ⟨hj, ?_⟩
    rw [hSx]
    simp only [hj, if_true]
    rw [hx]
  rw [hd] at hsr
  have HSR := hid hsr
  obtain ⟨n, hn⟩ : ∃ n, n = ts.length := ⟨_, rfl⟩
  rw [← hn] at HSR h0 h1 hf hj
  clear hsr hT hkey hSx hd hx hn
  go_enter Try.func25, Try.ntmps25
  go_wp2_with (go_at_call 34; refine HSR.out.mono ?_; rintro e w' ⟨rfl, q, rfl⟩)
  go_ret
  exact ⟨rfl, q, rfl⟩

set_option maxRecDepth 100000 in
set_option maxHeartbeats 1000000 in
theorem count_none {B t : Nat} {vn : Value} {g : Nat} {ts : List (List UInt8)} {cs : List Int} (x : ByteArray) (w : World) (hT : TallyIn w B t vn g ts cs) (hx : x.data.toList ∉ ts) :
    Calls Try.prog 25 #[.pointer (some ⟨t, 0, none⟩), .string x] w fun e w' => e = .returned (.pointer none) ∧ ∃ q, w' = w.drewN q := by
  have h0 := hT.cell0
  have h1 := hT.cell1
  have hf := hT.few
  have hsr : Calls Try.prog 34 #[vn, .string x] w fun e w' => ∃ k : Int, e = .returned (.tuple #[.int .i64 k, .bool false]) ∧ ∃ q, w' = w.drewN q := by
    rcases hT.names.2 with ⟨rfl, h⟩ | ⟨gn, cn, _, rfl, _⟩
    · exact (Try.slices_BinarySearch_string_empty _ _ _ _).mono fun e w' ⟨he, hw⟩ => ⟨0, he, 0, hw⟩
    · obtain ⟨Sx, hSx⟩ : ∃ Sx : Nat → ByteArray, Sx = fun i => ⟨(ts.getD i []).toArray⟩ := ⟨_, rfl⟩
      refine (Try.slices_BinarySearch_string gn 0 ts.length cn Sx x w (by omega) (fun i hi => by rw [Nat.zero_add, hT.names.cellAt i (by omega), hSx]; simp [hi, List.getD])).mono ?_
      rintro e w' ⟨rfl, q, rfl⟩
      refine ⟨(bsGo (fun t => Op.bytesLess (Sx t).toList x.toList) ts.length 0 ts.length : Nat), ?_, q, rfl⟩
      rw [decide_eq_false]
      rintro ⟨hk, he⟩
      generalize bsGo (fun t => Op.bytesLess (Sx t).toList x.toList) ts.length 0 ts.length = k at hk he
      refine search_not hx k hk ?_
      rw [hSx] at he
      rw [← he]
  have HSR := hid hsr
  clear hsr hT hx hf
  go_enter Try.func25, Try.ntmps25
  go_wp2_with (go_at_call 34; refine HSR.out.mono ?_; rintro e w' ⟨k, rfl, q, rfl⟩)
  go_ret
  exact ⟨rfl, q, rfl⟩
end Go.Proofs.Ytadoiplfglaonab
