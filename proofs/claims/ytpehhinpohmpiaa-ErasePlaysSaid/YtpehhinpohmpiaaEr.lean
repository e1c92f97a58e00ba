/-
  How many null ones a field has: Nulls.
-/
import Derived.Test.YtpehhinpohmpiaaEq
namespace Go.Proofs.Ytpehhinpohmpiaa
open Go.RowKit Go.Lib Go.Deep

theorem zero_tab : ∀ k : Nat, k < 256 → (((k : Int).toNat.toUInt8 == (0 : Int).toNat.toUInt8) = ((k : Int) == 0)) := by decide +kernel
theorem count_0 {l : List Int} (h : ∀ x ∈ l, 0 ≤ x ∧ x < 256) : countByte (bytesOf l) (0 : Int).toNat.toUInt8 = l.count 0 := by
  unfold countByte bytesOf
  induction l with
  | nil => rfl
  | cons x l ih =>
    obtain ⟨k, hk, rfl⟩ := u8_nat (h x (List.mem_cons_self ..))
    rw [List.map_cons, List.count_cons, List.count_cons, ih (fun y hy => h y (List.mem_cons_of_mem _ hy))]
    congr 1
    rw [zero_tab k hk]
set_option maxRecDepth 100000 in
set_option maxHeartbeats 4000000 in
theorem count_any (v : Value) (xs : List Int) (b2 d : Nat) (w : World) (hr : Reads w v xs) (hc2 : w.cell? ⟨b2, 0, none⟩ = some (.int .u8 0)) : Calls Try.prog 87 #[v, .slice (some ⟨b2, 0, none⟩) 1 d] w fun e w' => e = .returned (.int .i64 (xs.count 0 : Nat)) ∧ w = w' := by
  rcases hr.2 with ⟨rfl, rfl⟩ | ⟨a, cap, rfl, h1, h2, h3⟩
  · exact count_nil b2 d w hc2
  · have HC := hid h3
    have HB := hid hr.1
    obtain ⟨n, hn⟩ : ∃ n, xs.length = n := ⟨_, rfl⟩
    have HN := hid hn
    rw [hn] at HC ⊢
    clear h3 hr h1 h2 hn
    go_enter Try.func87, Try.ntmps87
    go_wp2_with fail
    rw [run_callFunc_extern Try.func131 (by kernel_rfl) (by kernel_rfl) (by kernel_rfl) (e := Extern.BytealgCount.count) (by kernel_rfl), Lib.run_countAt w a n cap xs HN.out HC.out 0, count_0 HB.out]
    simp only [Result.andThen]
    rw [Oper.upon_value]
    go_wp2
    go_ret
    exact ⟨rfl, rfl⟩
/-- The codes of a field. -/
def fldX (s : Spc) (n : Int) : List Int := txL s (plL s.P s.L.length (s.wr n))
theorem txL_u8 {s : Spc} (h : s.OK) (l : List Nat) : ∀ x ∈ txL s l, 0 ≤ x ∧ x < 256 := fun x hx => by
  obtain ⟨i, _, rfl⟩ := List.mem_map.1 hx
  exact (h.cel i).ch
section
variable {b g : Nat} {s : Spc}
set_option maxRecDepth 100000 in
set_option maxHeartbeats 4000000 in
theorem nulls_any (n : Int) (hn : I64 n) (w : World) (h : SpM w b g s) : Calls Try.prog 31 #[.pointer (some ⟨b, 0, none⟩), .int .i64 n] w fun e w' => e = .returned (.int .i64 ((fldX s n).count 0 : Nat)) ∧ Below w.heap.size w w' := by
  have HT := hid (callsIn_wide.1 (text_in 6 (by omega) b g s n hn w h))
  have HU := hid (txL_u8 h.ok (plL s.P s.L.length (s.wr n)))
  have HL := hid (show (txL s (plL s.P s.L.length (s.wr n))).length = (plL s.P s.L.length (s.wr n)).length by unfold txL; rw [List.length_map])
  have HV := hid (show txV s (plL s.P s.L.length (s.wr n)) = (txL s (plL s.P s.L.length (s.wr n))).map (Value.int .u8) from rfl)
  unfold fldX
  rw [HV.out] at HT
  rw [← HL.out] at HT
  generalize txL s (plL s.P s.L.length (s.wr n)) = xs at HT HU ⊢
  clear h hn HL HV
  go_enter Try.func31, Try.ntmps31
  go_wp2_with fail
  with_reducible refine HT.out.mono ?_
  rintro e w1 ⟨v, rfl, ho, -, hb⟩
  obtain ⟨W0, hW0⟩ : ∃ W0, w1.alloc (.cells #[.int .u8 0] 5) = W0 := ⟨_, rfl⟩
  have hb0 : Below w1.heap.size w1 W0 := by rw [← hW0]; exact bal (Below.refl _ _) _
  have HC := hid (count_any v xs w1.heap.size 1 W0 (reads_below (OwnB.reads ⟨HU.out, ho⟩) hb0) (by rw [← hW0]; simp [go_sem]))
  have HB := hid (show Below w.heap.size w W0 from below_t hb hb0)
  have HW := hid hW0
  clear hb hb0 hW0 ho
  go_wp2_with fail
  simp only [HW.out]
  with_reducible refine HC.out.mono ?_
  rintro e w2 ⟨rfl, rfl⟩
  go_wp2
  go_ret
  exact ⟨rfl, HB.out⟩
end
end Go.Proofs.Ytpehhinpohmpiaa
