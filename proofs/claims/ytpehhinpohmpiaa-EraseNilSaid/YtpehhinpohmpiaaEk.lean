/-
  EraseNil: of no space nothing.
-/
import Derived.Test.YtpehhinpohmpiaaEj
namespace Go.Proofs.Ytpehhinpohmpiaa
open Go.RowKit Go.Lib Go.Deep

set_option maxRecDepth 100000 in
set_option maxHeartbeats 4000000 in
theorem enil_any (p q : Int) (c : Cel) (w : World) : Calls Try.prog 7 #[.int .i64 p, .int .i64 q, c.v] w fun e w' => e = .returned (.bool true) ∧ Below w.heap.size w w' := by
  have HW := hid (fun W => awake14 W)
  have HUN := hid (fun W => unprotected_nil W)
  have HRA := hid (fun W => callsIn_wide.1 (range_nil 8 (by omega) p q W))
  have HRE := hid (fun W => (show Calls Try.prog 39 #[.pointer none, .int .i64 p, .int .i64 q, .agg #[.int .u8 c.ch, .bool c.at_, .int .u8 c.fa, .int .u8 c.hi, .int .u8 c.co, .int .u8 c.se]] W fun e w' => e = .returned (.int .i64 0) ∧ Below W.heap.size W w' from callsIn_wide.1 (repeat_nil 8 (by omega) p q c W)))
  have HEN := hid (fun W => end_nil p W)
  have HDE := hid (fun W => delete_nil p W)
  have HIN := hid (fun x W => insert_nil p x W)
  have HNU := hid (fun W => nulls_nil p W)
  have HRO := hid (fun W => rowIt none p W)
  have HCO := hid (fun bx by_ W (h1 : W.cell? ⟨bx, 0, none⟩ = some (.pointer none)) (h2 : W.cell? ⟨by_, 0, none⟩ = some (.int .i64 p)) => collectR_nil bx by_ p W ⟨h1, h2⟩)
  obtain ⟨x0, x1, x2, x3, x4, x5⟩ := c
  dsimp only at HRE
  obtain ⟨W0, hW0⟩ : ∃ W0, w.alloc (.cells #[.int .u8 x0, .bool x1, .int .u8 x2, .int .u8 x3, .int .u8 x4, .int .u8 x5] 30) = W0 := ⟨_, rfl⟩
  have HZ := hid (show W0.cell? ⟨w.heap.size, 0, none⟩ = some (.int .u8 x0) ∧ W0.cell? ⟨w.heap.size, 1, none⟩ = some (.bool x1) ∧ W0.cell? ⟨w.heap.size, 2, none⟩ = some (.int .u8 x2) ∧ W0.cell? ⟨w.heap.size, 3, none⟩ = some (.int .u8 x3) ∧ W0.cell? ⟨w.heap.size, 4, none⟩ = some (.int .u8 x4) ∧ W0.cell? ⟨w.heap.size, 5, none⟩ = some (.int .u8 x5) from by
    rw [← hW0]
    refine ⟨?_, ?_, ?_, ?_, ?_, ?_⟩ <;> simp [go_sem])
  have HB0 := hid (show Below w.heap.size w W0 by rw [← hW0]; exact bal (Below.refl _ _) _)
  have HW0 := hid hW0
  have HZK := hid (show ∀ V, Below W0.heap.size W0 V → V.cell? ⟨w.heap.size, 0, none⟩ = some (.int .u8 x0) ∧ V.cell? ⟨w.heap.size, 1, none⟩ = some (.bool x1) ∧ V.cell? ⟨w.heap.size, 2, none⟩ = some (.int .u8 x2) ∧ V.cell? ⟨w.heap.size, 3, none⟩ = some (.int .u8 x3) ∧ V.cell? ⟨w.heap.size, 4, none⟩ = some (.int .u8 x4) ∧ V.cell? ⟨w.heap.size, 5, none⟩ = some (.int .u8 x5) from fun V hV => ⟨keepc hV HZ.out.1, keepc hV HZ.out.2.1, keepc hV HZ.out.2.2.1, keepc hV HZ.out.2.2.2.1, keepc hV HZ.out.2.2.2.2.1, keepc hV HZ.out.2.2.2.2.2⟩)
  clear hW0
  go_enter Try.func7, Try.ntmps7
  go_wp2_with fail
  simp only [HW0.out]
  with_reducible refine (HW.out _).mono ?_
  rintro e w1 ⟨rfl, hb⟩
  have HB1 := hid (hb)
  clear hb
  go_wp2_with fail
  with_reducible refine (HUN.out _).mono ?_
  rintro e w2 ⟨⟨v2, rfl⟩, hb⟩
  have HB2 := hid (below_t HB1.out hb)
  clear hb HB1
  go_wp2_with fail
  with_reducible refine (HRA.out _).mono ?_
  rintro e w3 ⟨⟨v3, rfl⟩, hb⟩
  have HB3 := hid (below_t HB2.out hb)
  clear hb HB2
  obtain ⟨z0, z1, z2, z3, z4, z5⟩ := HZK.out _ HB3.out
  have lz := World.block_lt_of_cell? w3 _ z0
  go_wp2_with fail
  with_reducible refine (HRE.out _).mono ?_
  rintro e w4 ⟨rfl, hb⟩
  have HB4 := hid (below_t HB3.out hb)
  clear hb HB3
  clear z0 z1 z2 z3 z4 z5 lz
  go_wp2_with fail
  with_reducible refine (HEN.out _).mono ?_
  rintro e w5 ⟨rfl, hb⟩
  have HB5 := hid (below_t HB4.out hb)
  clear hb HB4
  go_wp2_with fail
  with_reducible refine (HDE.out _).mono ?_
  rintro e w6 ⟨rfl, hb⟩
  have HB6 := hid (below_t HB5.out hb)
  clear hb HB5
  obtain ⟨z0, -⟩ := HZK.out _ HB6.out
  have lz := World.block_lt_of_cell? w6 _ z0
  go_wp2_with fail
  with_reducible refine (HIN.out x0 _).mono ?_
  rintro e w7 ⟨rfl, hb⟩
  have HB7 := hid (below_t HB6.out hb)
  clear hb HB6
  clear z0 lz
  go_wp2_with fail
  with_reducible refine (HNU.out _).mono ?_
  rintro e w8 ⟨rfl, hb⟩
  have HB8 := hid (below_t HB7.out hb)
  clear hb HB7
  go_wp2_with fail
  with_reducible refine (HRO.out _).mono ?_
  rintro e w9 ⟨bx, by_, rfl, -, -, hcx, hcy, hb⟩
  have HB9 := hid (below_t HB8.out hb)
  clear hb HB8
  go_wp2_with fail
  with_reducible refine (HCO.out bx by_ _ hcx hcy).mono ?_
  rintro e w10 ⟨⟨y, cc, rfl⟩, hb⟩
  have HB10 := hid (below_t HB9.out hb)
  clear hb HB9
  go_wp2
  go_ret
  exact ⟨rfl, below_t HB0.out HB10.out⟩
end Go.Proofs.Ytpehhinpohmpiaa
