/-
  The law's example; fields' bytes, the program's and the document's; lists held against one another.
-/
import Derived.Test.YtdpgmepblmlaaaaDoorRk
import Derived.Deep.QuietTactic
import Derived.BigQuiet
import Derived.WalkSmall
namespace Go.Proofs.YtdpgmepblmlaaaaDoor
open Go.RowKit Go.Lib Go.Deep

def exP : List Int := [0, 5, 1, 255, 2, 0, 4, 3, 128]
theorem exP_acts : actsF exP = ([acK 1, ⟨4, 0, 0, true, 0, [], []⟩], 0) := by kernel_rfl
theorem exP_reads (w : World) : Reads (w.alloc (.cells #[.int .u8 0, .int .u8 5, .int .u8 1, .int .u8 255, .int .u8 2, .int .u8 0, .int .u8 4, .int .u8 3, .int .u8 128] 5)) (.slice (some ⟨w.heap.size, 0, none⟩) 9 9) exP :=
  (own_lit w #[.int .u8 0, .int .u8 5, .int .u8 1, .int .u8 255, .int .u8 2, .int .u8 0, .int .u8 4, .int .u8 3, .int .u8 128] 9 exP (by decide) rfl rfl (by omega) _ rfl).reads
set_option maxRecDepth 100000 in
set_option maxHeartbeats 2000000 in
theorem awake21 (w : World) (hC : Cods w) : Calls Tryd.prog 10 #[] w fun e w' => e = .returned (.bool true) ∧ Below w.heap.size w w' := by
  have hal : Below w.heap.size w (w.alloc (.cells #[.int .u8 0, .int .u8 5, .int .u8 1, .int .u8 255, .int .u8 2, .int .u8 0, .int .u8 4, .int .u8 3, .int .u8 128] 5)) := bal (Below.refl _ _) _
  have HA := hid (callsIn_wide.1 (sacts_in 8 (by omega) _ exP _ (exP_reads w) (by decide) (hC.go hal)))
  rw [exP_acts] at HA
  have HAL := hid hal
  clear hal hC
  go_enter Tryd.func10, Tryd.ntmps10
  go_wp2_with fail
  with_reducible refine HA.out.mono ?_
  rintro e w1 ⟨l, xs, rfl, hx, hM, hb, -⟩
  have hlen : xs.length = 2 := by have := congrArg List.length hx; simpa using this
  obtain ⟨x, cap, rfl, hc1, hc2, hat⟩ := hM.at
  obtain ⟨g, rfl, hg, a0, -, -, -, -, -, -⟩ := hat 0 (by omega)
  obtain ⟨g', q, hg', b0, -, -, b3, -, -, -⟩ := hat 1 (by omega)
  injection q with q
  injection q with q
  subst q
  have k0 : xs[0].d = acK 1 := by
    have : (xs.map AcV.d)[0]? = some (acK 1) := by rw [hx]; rfl
    rw [List.getElem?_map, List.getElem?_eq_getElem (by omega)] at this
    exact Option.some.inj this
  have k1 : xs[1].d = ⟨4, 0, 0, true, 0, [], []⟩ := by
    have : (xs.map AcV.d)[1]? = some ⟨4, 0, 0, true, 0, [], []⟩ := by rw [hx]; rfl
    rw [List.getElem?_map, List.getElem?_eq_getElem (by omega)] at this
    exact Option.some.inj this
  rw [k0] at a0
  rw [k1] at b0 b3
  have a0' : w1.cell? ⟨g, 0, none⟩ = some (.int .i64 1) := a0
  have b0' : w1.cell? ⟨g, 7, none⟩ = some (.int .i64 4) := b0
  have b3' : w1.cell? ⟨g, 7 + 3, none⟩ = some (.bool true) := b3
  have HB := hid (below_t HAL.out hb)
  rw [hlen]
  clear a0 b0 b3 k0 k1 hat hM hx hb hlen hc1
  go_wp2
  go_ret
  exact ⟨rfl, HB.out⟩
/-- A field's bytes: the error, they. -/
def byteF (d : SfD) : Int × List Int := if 8192 < 3 + d.data.length then (3, []) else (0, [(3 + (d.data.length : Int)) / 256, (3 + (d.data.length : Int)) % 256, d.id] ++ d.data)
theorem byteF_long {d : SfD} (h : 8192 < 3 + d.data.length) : byteF d = (3, []) := if_pos h
theorem byteF_ok {d : SfD} (h : ¬ 8192 < 3 + d.data.length) : byteF d = (0, [(3 + (d.data.length : Int)) / 256, (3 + (d.data.length : Int)) % 256, d.id] ++ d.data) := if_neg h
/-- They are told. -/
def BysD (r : Int × List Int) (w : World) (e : Ending) (w' : World) : Prop := ∃ v, e = .returned (.tuple #[v, .int .i64 r.1]) ∧ OwnB w' v r.2 ∧ Below w.heap.size w w' ∧ ∀ k ∈ blkV v, w.heap.size ≤ k
set_option maxRecDepth 100000 in
set_option maxHeartbeats 4000000 in
theorem fbytes_any (d : SfD) (dv : Value) (w : World) (h : Reads w dv d.data) (hid' : 0 ≤ d.id ∧ d.id < 256) (hl : d.data.length ≤ 10000000) : Calls Tryd.prog 32 #[.agg #[.int .u8 d.id, dv]] w (BysD (byteF d) w) := by
  obtain ⟨id, xs⟩ := d
  dsimp only at h hid' hl ⊢
  by_cases h8 : 8192 < 3 + xs.length
  · rw [byteF_long h8]
    have HE := hid (fun w' (hb : Below w.heap.size w w') => (show BysD (3, []) w (.returned (.tuple #[.slice none 0 0, .int .i64 3])) w' from ⟨_, rfl, OwnB.nil _, hb, fun _ q => (by cases q)⟩))
    obtain ⟨x, c, rfl⟩ := reads_sl h
    generalize xs.length = n at *
    have i8 : (8192 : Int) < 3 + n := by omega
    clear h
    go_enter Tryd.func32, Tryd.ntmps32
    go_wp2
    go_ret2
    exact HE.out _ (bal (Below.refl _ _) _)
  · rw [byteF_ok h8]
    have hbx : Below w.heap.size w (w.alloc (.cells #[.int .u8 id, dv] 35)) := bal (Below.refl _ _) _
    have HU := hid (reads_below (reads_below h hbx) (bal (Below.refl _ _) (.cells #[.int .u8 ((3 + (xs.length : Int)) / 256), .int .u8 ((3 + (xs.length : Int)) % 256), .int .u8 id] 5)))
    have HO := hid (World.ownsRow_lit (e := 5) (size := 1) (base := w.heap.size + 1) (w.alloc (.cells #[.int .u8 id, dv] 35)) #[.int .u8 ((3 + (xs.length : Int)) / 256), .int .u8 ((3 + (xs.length : Int)) % 256), .int .u8 id] 3 (by simp) (by unfold maxLen; omega) rfl)
    rw [show (w.alloc (.cells #[.int .u8 id, dv] 35)).heap.size = w.heap.size + 1 by simp] at HO
    have HBY := hid (show BytL [(3 + (xs.length : Int)) / 256, (3 + (xs.length : Int)) % 256, id] from by intro x hx; simp only [List.mem_cons, List.not_mem_nil, or_false] at hx; rcases hx with rfl | rfl | rfl <;> omega)
    have HBX := hid h.1
    obtain ⟨x, c, rfl⟩ := reads_sl h
    obtain ⟨N, hN⟩ : ∃ N, xs.length = N := ⟨_, rfl⟩
    have HN := hid hN
    rw [hN] at HU HO HBY hbx hl h8 ⊢
    have h8' : ¬ (8192 : Int) < 3 + N := by omega
    clear h hN
    go_enter Tryd.func32, Tryd.ntmps32
    go_wp2_with (at_builtin; refine wpList_append_bytes rfl (.tmp 18) (.tmp 20) rfl (w.heap.size + 1) 3 _ _ [(3 + (N : Int)) / 256, (3 + (N : Int)) % 256, id] xs rfl rfl HO.out HU.out (by have := HN.out; omega) (by simp) (3 + N) (by rw [HN.out]) _ rfl ?_; intro y cap w' hown hgrow; have HW := hid hown; have HG := hid hgrow; clear hown hgrow)
    go_ret2
    refine ⟨_, rfl, ⟨HBY.out.append HBX.out, ?_⟩, ?_, fun k hk => ?_⟩
    · have q := HW.out.mono (Nat.zero_le _)
      show World.ownsRow w' 0 5 1 (.slice y (3 + N) cap) ([(3 + (N : Int)) / 256, (3 + (N : Int)) % 256, id] ++ xs).length (List.map (Value.int .u8) ([(3 + (N : Int)) / 256, (3 + (N : Int)) % 256, id] ++ xs))
      rw [show ([(3 + (N : Int)) / 256, (3 + (N : Int)) % 256, id] ++ xs).length = 3 + N by rw [List.length_append, HN.out]; rfl]
      exact q
    · exact (bal hbx _).grown HG.out (by simp; omega) (fun k hk => by have e : w.heap.size + 1 = k := Option.some.inj hk; omega)
    · have := (HW.out.lt k (mem_blkV.1 hk)).1
      omega
set_option maxRecDepth 100000 in
set_option maxHeartbeats 4000000 in
theorem rbytes_any (d : SfD) (dv : Value) (w : World) (h : Reads w dv d.data) (hid' : 0 ≤ d.id ∧ d.id < 256) (hl : d.data.length ≤ 10000000) : Calls Tryd.prog 33 #[.agg #[.int .u8 d.id, dv]] w (BysD (byteF d) w) := by
  obtain ⟨id, xs⟩ := d
  dsimp only at h hid' hl ⊢
  by_cases h8 : 8192 < 3 + xs.length
  · rw [byteF_long h8]
    have HE := hid (fun w' (hb : Below w.heap.size w w') => (show BysD (3, []) w (.returned (.tuple #[.slice none 0 0, .int .i64 3])) w' from ⟨_, rfl, OwnB.nil _, hb, fun _ q => (by cases q)⟩))
    obtain ⟨x, c, rfl⟩ := reads_sl h
    generalize xs.length = n at *
    have i8 : (8192 : Int) < 3 + n := by omega
    clear h
    go_enter Tryd.func33, Tryd.ntmps33
    go_wp2
    go_ret2
    exact HE.out _ (bal (Below.refl _ _) _)
  · rw [byteF_ok h8]
    have hbx : Below w.heap.size w (w.alloc (.cells #[.int .u8 id, dv] 36)) := bal (Below.refl _ _) _
    have HU := hid (reads_below (reads_below h hbx) (bal (Below.refl _ _) (.cells #[.int .u8 ((3 + (xs.length : Int)) / 256), .int .u8 ((3 + (xs.length : Int)) % 256), .int .u8 id] 5)))
    have HO := hid (World.ownsRow_lit (e := 5) (size := 1) (base := w.heap.size + 1) (w.alloc (.cells #[.int .u8 id, dv] 36)) #[.int .u8 ((3 + (xs.length : Int)) / 256), .int .u8 ((3 + (xs.length : Int)) % 256), .int .u8 id] 3 (by simp) (by unfold maxLen; omega) rfl)
    rw [show (w.alloc (.cells #[.int .u8 id, dv] 36)).heap.size = w.heap.size + 1 by simp] at HO
    have HBY := hid (show BytL [(3 + (xs.length : Int)) / 256, (3 + (xs.length : Int)) % 256, id] from by intro x hx; simp only [List.mem_cons, List.not_mem_nil, or_false] at hx; rcases hx with rfl | rfl | rfl <;> omega)
    have HBX := hid h.1
    obtain ⟨x, c, rfl⟩ := reads_sl h
    obtain ⟨N, hN⟩ : ∃ N, xs.length = N := ⟨_, rfl⟩
    have HN := hid hN
    rw [hN] at HU HO HBY hbx hl h8 ⊢
    have h8' : ¬ (8192 : Int) < 3 + N := by omega
    clear h hN
    go_enter Tryd.func33, Tryd.ntmps33
    go_wp2_with (at_builtin; refine wpList_append_bytes rfl (.tmp 19) (.tmp 21) rfl (w.heap.size + 1) 3 _ _ [(3 + (N : Int)) / 256, (3 + (N : Int)) % 256, id] xs rfl rfl HO.out HU.out (by have := HN.out; omega) (by simp) (3 + N) (by rw [HN.out]) _ rfl ?_; intro y cap w' hown hgrow; have HW := hid hown; have HG := hid hgrow; clear hown hgrow)
    go_ret2
    refine ⟨_, rfl, ⟨HBY.out.append HBX.out, ?_⟩, ?_, fun k hk => ?_⟩
    · have q := HW.out.mono (Nat.zero_le _)
      show World.ownsRow w' 0 5 1 (.slice y (3 + N) cap) ([(3 + (N : Int)) / 256, (3 + (N : Int)) % 256, id] ++ xs).length (List.map (Value.int .u8) ([(3 + (N : Int)) / 256, (3 + (N : Int)) % 256, id] ++ xs))
      rw [show ([(3 + (N : Int)) / 256, (3 + (N : Int)) % 256, id] ++ xs).length = 3 + N by rw [List.length_append, HN.out]; rfl]
      exact q
    · exact (bal hbx _).grown HG.out (by simp; omega) (fun k hk => by have e : w.heap.size + 1 = k := Option.some.inj hk; omega)
    · have := (HW.out.lt k (mem_blkV.1 hk)).1
      omega
set_option maxRecDepth 100000 in
set_option maxHeartbeats 4000000 in
theorem same21 (v u : Value) (xs ys : List SfV) (w : World) (h : SfM 36 w v xs) (k : SfM 36 w u ys) (hd : xs.map SfV.d = ys.map SfV.d) (hl : xs.length ≤ 10000000) : Calls Tryd.prog 22 #[v, u] w fun e w' => e = .returned (.bool true) ∧ Below w.heap.size w w' := by
  have hlen : ys.length = xs.length := by have := congrArg List.length hd; simpa using this.symm
  obtain ⟨x, cap, rfl, hc, hcm, hat⟩ := h.at
  obtain ⟨x', cap', rfl, hc', hcm', hat'⟩ := k.at
  have HAT := hid hat
  have HAT' := hid hat'
  have HEQ := hid (fun i (hi : i < xs.length) (hi' : i < ys.length) => (show xs[i].d = ys[i].d from by
    have := congrArg (fun l => l[i]?) hd
    simp only [List.getElem?_map] at this
    rw [List.getElem?_eq_getElem hi, List.getElem?_eq_getElem hi'] at this
    exact Option.some.inj this))
  have HSM := hid (fun i (hi : i < xs.length) (hi' : i < ys.length) W (hb : Below w.heap.size w W) => (show Calls Tryd.prog 26 #[xs[i].tv, ys[i].tv] W fun e w' => e = .returned (.bool true) ∧ W = w' from
    same_true _ _ xs[i].d.data W ((h.txt _ (List.getElem_mem hi)).step hb).reads (by rw [HEQ.out i hi hi']; exact ((k.txt _ (List.getElem_mem _)).step hb).reads)))
  have HSL := hid (fun i (hi : i < xs.length) => (show ∃ a n c, xs[i].tv = .slice a n c from own_slice (h.txt _ (List.getElem_mem hi))))
  have HSL' := hid (fun i (hi : i < ys.length) => (show ∃ a n c, ys[i].tv = .slice a n c from own_slice (k.txt _ (List.getElem_mem hi))))
  clear hat hat' h k hd
  obtain ⟨N, hN⟩ : ∃ N, xs.length = N := ⟨_, rfl⟩
  have HN := hid hN
  have HN' := hid (hlen.trans hN)
  rw [hlen, hN]
  rw [hN] at hl
  clear hN hlen hc hc' hcm hcm'
  go_enter Tryd.func22, Tryd.ntmps22
  go_wp2_with fail
  go_loopw [13] (fun i wr => ∃ k : Nat, k ≤ N ∧ i = .int .i64 k ∧ Hid (Below w.heap.size w wr)) (fun i _ => N - (intOf i).toNat)
  case atStart => exact ⟨0, Nat.zero_le _, rfl, Below.refl _ _⟩
  case round =>
    obtain ⟨k, hk, rfl, HB⟩ := hrel
    by_cases hlt : k < N
    · have hki : (k : Int) < N := by omega
      obtain ⟨g, rfl, hg, c0, c1⟩ := HAT.out k (by rw [HN.out]; exact hlt)
      obtain ⟨g', rfl, hg', d0, d1⟩ := HAT'.out k (by rw [HN'.out]; exact hlt)
      have hEQ := HEQ.out k (by rw [HN.out]; exact hlt) (by rw [HN'.out]; exact hlt)
      have HS := hid (HSM.out k (by rw [HN.out]; exact hlt) (by rw [HN'.out]; exact hlt))
      obtain ⟨a1, n1, e1, q1⟩ := HSL.out k (by rw [HN.out]; exact hlt)
      obtain ⟨a2, n2, e2, q2⟩ := HSL'.out k (by rw [HN'.out]; exact hlt)
      rw [← hEQ] at d0
      rw [q1, q2] at HS
      rw [q1] at c1
      rw [q2] at d1
      clear hEQ q1 q2
      obtain ⟨id, hid0⟩ : ∃ id, (xs[k]'(by rw [HN.out]; exact hlt)).d.id = id := ⟨_, rfl⟩
      rw [hid0] at c0 d0
      clear hid0
      have c0 := (HB.out.cell (p := ⟨g, k * 2, none⟩) hg).trans c0
      have c1 := (HB.out.cell (p := ⟨g, k * 2 + 1, none⟩) hg).trans c1
      have d0 := (HB.out.cell (p := ⟨g', k * 2, none⟩) hg').trans d0
      have d1 := (HB.out.cell (p := ⟨g', k * 2 + 1, none⟩) hg').trans d1
      have HSW := hid (fun m => (HS.out (wr.drewN m) (below_drewN HB.out m)).mono (fun _ _ q => And.intro q.1 q.2.symm))
      go_wp2_with fail
      go_quiet ((go_at_call 26; exact Calls.quiet_of_same (HSW.out _)))
      go_wp2
      go_roundw
      case rel => exact ⟨k + 1, by omega, by go_num, below_drewN HB.out _⟩
      case measure => simp [intOf]; omega
    · obtain rfl : k = N := by omega
      go_wp2
      go_ret
      exact ⟨rfl, HB.out⟩
end Go.Proofs.YtdpgmepblmlaaaaDoor
