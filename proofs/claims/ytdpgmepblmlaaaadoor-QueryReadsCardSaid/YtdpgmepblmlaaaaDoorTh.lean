/-
  query: replies, answers.
-/
import Derived.Test.YtdpgmepblmlaaaaDoorTg
namespace Go.Proofs.YtdpgmepblmlaaaaDoor
open Go.RowKit Go.Lib Go.Deep

def hiL : List Int := [5, 0, 240, 241, 241, 242, 242, 244, 244, 248, 248]
def modesL : List Int := [0, 1, 2]
/-- What a reply holds behind its code. -/
def contL (k r c num : Int) : List Int := if k = 128 then codesL else if k = 129 then areaL r c else if k = 133 then setsL num else if k = 134 then colorL else if k = 135 then hiL else if k = 136 then modesL else partL r c
def repL (k r c num : Int) : List Int := (byteF ⟨129, k :: contL k r c num⟩).2
def nulL : List Int := [0, 4, 129, 255]
theorem codes_cases {k : Int} (h : k ∈ codesL) : k = 128 ∨ k = 129 ∨ k = 133 ∨ k = 134 ∨ k = 135 ∨ k = 136 ∨ k = 166 := by
  unfold codesL at h
  simpa only [List.mem_cons, List.not_mem_nil, or_false] using h
theorem contL_len {k : Int} (h : k ∈ codesL) (r c num : Int) : (contL k r c num).length ≤ 19 := by
  rcases codes_cases h with rfl | rfl | rfl | rfl | rfl | rfl | rfl
  · exact (by decide : codesL.length ≤ 19)
  · exact Nat.le_refl 19
  · exact Nat.le_refl 19
  · exact (by decide : colorL.length ≤ 19)
  · exact (by decide : hiL.length ≤ 19)
  · exact (by decide : modesL.length ≤ 19)
  · exact (show 13 ≤ 19 by omega)
theorem repL_is {k : Int} (h : k ∈ codesL) (r c num : Int) : repL k r c num = [(4 + ((contL k r c num).length : Int)) / 256, (4 + ((contL k r c num).length : Int)) % 256, 129, k] ++ contL k r c num := by
  have hl := contL_len h r c num
  unfold repL
  rw [byteF_ok (show ¬ 8192 < 3 + (k :: contL k r c num).length by rw [List.length_cons]; omega)]
  show [(3 + ((k :: contL k r c num).length : Int)) / 256, (3 + ((k :: contL k r c num).length : Int)) % 256, 129] ++ (k :: contL k r c num) = _
  rw [List.length_cons, show (3 + (((contL k r c num).length + 1 : Nat) : Int)) = 4 + ((contL k r c num).length : Int) by push_cast; omega]
  rfl
theorem repL_len {k : Int} (h : k ∈ codesL) (r c num : Int) : 4 ≤ (repL k r c num).length ∧ (repL k r c num).length ≤ 23 := by
  have hl := contL_len h r c num
  rw [repL_is h, List.length_append]
  show 4 ≤ 4 + _ ∧ 4 + _ ≤ 23
  omega
/-- A row of one's own and a bool. -/
def NewT (w0 : World) (ys : List Int) (e : Ending) (w' : World) : Prop := ∃ v, e = .returned (.tuple #[v, .bool true]) ∧ NewB w0 w' v ys
set_option maxRecDepth 100000 in
set_option maxHeartbeats 4000000 in
theorem codes_of (w : World) : Calls Tryd.prog 62 #[] w (NewD w codesL) := by
  have HN := hid (show NewB w (w.alloc (.cells #[.int .u8 128, .int .u8 129, .int .u8 133, .int .u8 134, .int .u8 135, .int .u8 136, .int .u8 166] 5)) (.slice (some ⟨w.heap.size, 0, none⟩) 7 7) codesL from NewB.lit (Below.refl _ _) #[.int .u8 128, .int .u8 129, .int .u8 133, .int .u8 134, .int .u8 135, .int .u8 136, .int .u8 166] 7 codesL (by decide) rfl rfl (by omega) _ rfl)
  go_enter Tryd.func62, Tryd.ntmps62
  go_wp2
  go_ret
  exact ⟨_, rfl, HN.out⟩
set_option maxRecDepth 100000 in
set_option maxHeartbeats 4000000 in
theorem cont_128 (r c num : Int) (_hok : Ok r c) (pv : Value) (w : World) (hp : PgV w pv num) : Calls Tryd.prog 88 #[.int .u8 128, .agg #[.int .i64 r, .int .i64 c], pv] w (NewT w (contL 128 r c num)) := by
  have hb0 : Below w.heap.size w (w.alloc (.cells #[.int .i64 r, .int .i64 c] 155)) := bal (Below.refl _ _) _
  have HX := hid (codes_of (w.alloc (.cells #[.int .i64 r, .int .i64 c] 155)))
  have HUP := hid (fun v w1 (h : NewB (w.alloc (.cells #[.int .i64 r, .int .i64 c] 155)) w1 v (codesL)) => (show NewT w (contL 128 r c num) (.returned (.tuple #[v, .bool true])) w1 from ⟨v, rfl, h.up hb0⟩))
  have hpv : ∃ q, pv = .pointer q := by
    rcases hp.2 with ⟨e, _⟩ | ⟨b, e, _⟩
    · exact ⟨_, e⟩
    · exact ⟨_, e⟩
  obtain ⟨q, rfl⟩ := hpv
  clear hp hb0
  go_enter Tryd.func88, Tryd.ntmps88
  go_wp2_with fail
  with_reducible refine HX.out.mono ?_
  rintro e w1 ⟨v, rfl, h1⟩
  have HF := hid (HUP.out v w1 h1)
  obtain ⟨x, n, cp, rfl⟩ := own_slice h1.own
  clear h1
  go_wp2
  go_ret2
  exact HF.out
set_option maxRecDepth 100000 in
set_option maxHeartbeats 4000000 in
theorem cont_129 (r c num : Int) (hok : Ok r c) (pv : Value) (w : World) (hp : PgV w pv num) : Calls Tryd.prog 88 #[.int .u8 129, .agg #[.int .i64 r, .int .i64 c], pv] w (NewT w (contL 129 r c num)) := by
  have hb0 : Below w.heap.size w (w.alloc (.cells #[.int .i64 r, .int .i64 c] 155)) := bal (Below.refl _ _) _
  have HX := hid (area_of r c hok (w.alloc (.cells #[.int .i64 r, .int .i64 c] 155)))
  have HUP := hid (fun v w1 (h : NewB (w.alloc (.cells #[.int .i64 r, .int .i64 c] 155)) w1 v (areaL r c)) => (show NewT w (contL 129 r c num) (.returned (.tuple #[v, .bool true])) w1 from ⟨v, rfl, h.up hb0⟩))
  have hpv : ∃ q, pv = .pointer q := by
    rcases hp.2 with ⟨e, _⟩ | ⟨b, e, _⟩
    · exact ⟨_, e⟩
    · exact ⟨_, e⟩
  obtain ⟨q, rfl⟩ := hpv
  clear hp hb0
  go_enter Tryd.func88, Tryd.ntmps88
  go_wp2_with fail
  with_reducible refine HX.out.mono ?_
  rintro e w1 ⟨v, rfl, h1⟩
  have HF := hid (HUP.out v w1 h1)
  obtain ⟨x, n, cp, rfl⟩ := own_slice h1.own
  clear h1
  go_wp2
  go_ret2
  exact HF.out
set_option maxRecDepth 100000 in
set_option maxHeartbeats 4000000 in
theorem cont_133 (r c num : Int) (_hok : Ok r c) (pv : Value) (w : World) (hp : PgV w pv num) : Calls Tryd.prog 88 #[.int .u8 133, .agg #[.int .i64 r, .int .i64 c], pv] w (NewT w (contL 133 r c num)) := by
  have hb0 : Below w.heap.size w (w.alloc (.cells #[.int .i64 r, .int .i64 c] 155)) := bal (Below.refl _ _) _
  have HX := hid (sets_of pv num (w.alloc (.cells #[.int .i64 r, .int .i64 c] 155)) (hp.go hb0))
  have HUP := hid (fun v w1 (h : NewB (w.alloc (.cells #[.int .i64 r, .int .i64 c] 155)) w1 v (setsL num)) => (show NewT w (contL 133 r c num) (.returned (.tuple #[v, .bool true])) w1 from ⟨v, rfl, h.up hb0⟩))
  have hpv : ∃ q, pv = .pointer q := by
    rcases hp.2 with ⟨e, _⟩ | ⟨b, e, _⟩
    · exact ⟨_, e⟩
    · exact ⟨_, e⟩
  obtain ⟨q, rfl⟩ := hpv
  clear hp hb0
  go_enter Tryd.func88, Tryd.ntmps88
  go_wp2_with fail
  with_reducible refine HX.out.mono ?_
  rintro e w1 ⟨v, rfl, h1⟩
  have HF := hid (HUP.out v w1 h1)
  obtain ⟨x, n, cp, rfl⟩ := own_slice h1.own
  clear h1
  go_wp2
  go_ret2
  exact HF.out
set_option maxRecDepth 100000 in
set_option maxHeartbeats 4000000 in
theorem cont_134 (r c num : Int) (_hok : Ok r c) (pv : Value) (w : World) (hp : PgV w pv num) : Calls Tryd.prog 88 #[.int .u8 134, .agg #[.int .i64 r, .int .i64 c], pv] w (NewT w (contL 134 r c num)) := by
  have hb0 : Below w.heap.size w (w.alloc (.cells #[.int .i64 r, .int .i64 c] 155)) := bal (Below.refl _ _) _
  have HX := hid (colors_of (w.alloc (.cells #[.int .i64 r, .int .i64 c] 155)))
  have HUP := hid (fun v w1 (h : NewB (w.alloc (.cells #[.int .i64 r, .int .i64 c] 155)) w1 v (colorL)) => (show NewT w (contL 134 r c num) (.returned (.tuple #[v, .bool true])) w1 from ⟨v, rfl, h.up hb0⟩))
  have hpv : ∃ q, pv = .pointer q := by
    rcases hp.2 with ⟨e, _⟩ | ⟨b, e, _⟩
    · exact ⟨_, e⟩
    · exact ⟨_, e⟩
  obtain ⟨q, rfl⟩ := hpv
  clear hp hb0
  go_enter Tryd.func88, Tryd.ntmps88
  go_wp2_with fail
  with_reducible refine HX.out.mono ?_
  rintro e w1 ⟨v, rfl, h1⟩
  have HF := hid (HUP.out v w1 h1)
  obtain ⟨x, n, cp, rfl⟩ := own_slice h1.own
  clear h1
  go_wp2
  go_ret2
  exact HF.out
set_option maxRecDepth 100000 in
set_option maxHeartbeats 4000000 in
theorem cont_135 (r c num : Int) (_hok : Ok r c) (pv : Value) (w : World) (hp : PgV w pv num) : Calls Tryd.prog 88 #[.int .u8 135, .agg #[.int .i64 r, .int .i64 c], pv] w (NewT w (contL 135 r c num)) := by
  have hb0 : Below w.heap.size w (w.alloc (.cells #[.int .i64 r, .int .i64 c] 155)) := bal (Below.refl _ _) _
  have HN := hid (show NewB w ((w.alloc (.cells #[.int .i64 r, .int .i64 c] 155)).alloc (.cells #[.int .u8 5, .int .u8 0, .int .u8 240, .int .u8 241, .int .u8 241, .int .u8 242, .int .u8 242, .int .u8 244, .int .u8 244, .int .u8 248, .int .u8 248] 5)) (.slice (some ⟨w.heap.size + 1, 0, none⟩) 11 11) hiL from NewB.lit hb0 #[.int .u8 5, .int .u8 0, .int .u8 240, .int .u8 241, .int .u8 241, .int .u8 242, .int .u8 242, .int .u8 244, .int .u8 244, .int .u8 248, .int .u8 248] 11 hiL (by decide) rfl rfl (by omega) _ (by simp))
  have hpv : ∃ q, pv = .pointer q := by
    rcases hp.2 with ⟨e, _⟩ | ⟨b, e, _⟩
    · exact ⟨_, e⟩
    · exact ⟨_, e⟩
  obtain ⟨q, rfl⟩ := hpv
  clear hp hb0
  go_enter Tryd.func88, Tryd.ntmps88
  go_wp2
  go_ret2
  exact ⟨_, rfl, HN.out⟩
set_option maxRecDepth 100000 in
set_option maxHeartbeats 4000000 in
theorem cont_136 (r c num : Int) (_hok : Ok r c) (pv : Value) (w : World) (hp : PgV w pv num) : Calls Tryd.prog 88 #[.int .u8 136, .agg #[.int .i64 r, .int .i64 c], pv] w (NewT w (contL 136 r c num)) := by
  have hb0 : Below w.heap.size w (w.alloc (.cells #[.int .i64 r, .int .i64 c] 155)) := bal (Below.refl _ _) _
  have HN := hid (show NewB w ((w.alloc (.cells #[.int .i64 r, .int .i64 c] 155)).alloc (.cells #[.int .u8 0, .int .u8 1, .int .u8 2] 5)) (.slice (some ⟨w.heap.size + 1, 0, none⟩) 3 3) modesL from NewB.lit hb0 #[.int .u8 0, .int .u8 1, .int .u8 2] 3 modesL (by decide) rfl rfl (by omega) _ (by simp))
  have hpv : ∃ q, pv = .pointer q := by
    rcases hp.2 with ⟨e, _⟩ | ⟨b, e, _⟩
    · exact ⟨_, e⟩
    · exact ⟨_, e⟩
  obtain ⟨q, rfl⟩ := hpv
  clear hp hb0
  go_enter Tryd.func88, Tryd.ntmps88
  go_wp2
  go_ret2
  exact ⟨_, rfl, HN.out⟩
set_option maxRecDepth 100000 in
set_option maxHeartbeats 4000000 in
theorem cont_166 (r c num : Int) (hok : Ok r c) (pv : Value) (w : World) (hp : PgV w pv num) : Calls Tryd.prog 88 #[.int .u8 166, .agg #[.int .i64 r, .int .i64 c], pv] w (NewT w (contL 166 r c num)) := by
  have hb0 : Below w.heap.size w (w.alloc (.cells #[.int .i64 r, .int .i64 c] 155)) := bal (Below.refl _ _) _
  have HX := hid (part_of r c ⟨by have := hok.r1; omega, by have := hok.r2; omega⟩ ⟨by have := hok.c1; omega, by have := hok.c2; omega⟩ (w.alloc (.cells #[.int .i64 r, .int .i64 c] 155)))
  have HUP := hid (fun v w1 (h : NewB (w.alloc (.cells #[.int .i64 r, .int .i64 c] 155)) w1 v (partL r c)) => (show NewT w (contL 166 r c num) (.returned (.tuple #[v, .bool true])) w1 from ⟨v, rfl, h.up hb0⟩))
  have hpv : ∃ q, pv = .pointer q := by
    rcases hp.2 with ⟨e, _⟩ | ⟨b, e, _⟩
    · exact ⟨_, e⟩
    · exact ⟨_, e⟩
  obtain ⟨q, rfl⟩ := hpv
  clear hp hb0
  go_enter Tryd.func88, Tryd.ntmps88
  go_wp2_with fail
  with_reducible refine HX.out.mono ?_
  rintro e w1 ⟨v, rfl, h1⟩
  have HF := hid (HUP.out v w1 h1)
  obtain ⟨x, n, cp, rfl⟩ := own_slice h1.own
  clear h1
  go_wp2
  go_ret2
  exact HF.out
theorem cont_of (k r c num : Int) (hk : k ∈ codesL) (hok : Ok r c) (pv : Value) (w : World) (hp : PgV w pv num) : Calls Tryd.prog 88 #[.int .u8 k, .agg #[.int .i64 r, .int .i64 c], pv] w (NewT w (contL k r c num)) := by
  rcases codes_cases hk with rfl | rfl | rfl | rfl | rfl | rfl | rfl
  · exact cont_128 r c num hok pv w hp
  · exact cont_129 r c num hok pv w hp
  · exact cont_133 r c num hok pv w hp
  · exact cont_134 r c num hok pv w hp
  · exact cont_135 r c num hok pv w hp
  · exact cont_136 r c num hok pv w hp
  · exact cont_166 r c num hok pv w hp
set_option maxRecDepth 100000 in
set_option maxHeartbeats 4000000 in
theorem enc_of (k : Int) (hk : 0 ≤ k ∧ k < 256) (v : Value) (ys : List Int) (w : World) (h : Reads w v ys) (hl : ys.length ≤ 1000) : Calls Tryd.prog 81 #[.int .u8 k, v] w (NewD w (byteF ⟨129, k :: ys⟩).2) := by
  obtain ⟨N, hN⟩ : ∃ N, ys.length = N := ⟨_, rfl⟩
  have HN := hid hN
  have hal : Below w.heap.size w (w.alloc (.cells #[.int .u8 k] 5)) := bal (Below.refl _ _) _
  have HK := hid (show NewB w (w.alloc (.cells #[.int .u8 k] 5)) (.slice (some ⟨w.heap.size, 0, none⟩) 1 1) [k] from NewB.lit (Below.refl _ _) #[.int .u8 k] 1 [k] (by intro x hx; rw [List.mem_singleton.1 hx]; exact hk) rfl rfl (by omega) _ rfl)
  have HU := hid (reads_below h hal)
  have HY := hid (show BytL (k :: ys) from (show BytL [k] from HK.out.own.1).append h.1)
  have HLE := hid (show 1 + ys.length ≤ 10000000 by omega)
  have HFB := hid (fun u W (hu : Reads W u (k :: ys)) => (show Calls Tryd.prog 32 #[.agg #[.int .u8 129, u]] W (BysD (byteF ⟨129, k :: ys⟩) W) from fbytes_any ⟨129, k :: ys⟩ u W hu ⟨(by decide : (0 : Int) ≤ 129), (by decide : (129 : Int) < 256)⟩ (by show (k :: ys).length ≤ 10000000; rw [List.length_cons]; omega)))
  have HB0 := hid hal
  obtain ⟨x, cp, rfl⟩ := reads_sl h
  rw [hN] at HU ⊢
  clear h hal hN
  generalize byteF ⟨129, k :: ys⟩ = bf at HFB ⊢
  obtain ⟨er, bs⟩ := bf
  dsimp only at HFB ⊢
  go_enter Tryd.func81, Tryd.ntmps81
  go_wp2_with (at_builtin; refine wpList_append_bytes rfl (.tmp 9) (.tmp 10) rfl w.heap.size 1 _ _ [k] ys rfl rfl HK.out.row HU.out HLE.out HB0.out.size (1 + N) (by rw [HN.out]) ([k] ++ ys) rfl ?_; intro y cap w3 hown hgrow; have HM := hid (NewB.made hown hgrow HB0.out HK.out.fr HY.out (by rw [List.length_append, HN.out]; rfl)); clear hown hgrow)
  have HF0 := hid (HFB.out _ w3 HM.out.own.reads)
  with_reducible refine HF0.out.mono ?_
  rintro e w4 ⟨u, rfl, hu, hb4, hk4⟩
  dsimp only at hu ⊢
  have HFIN := hid (show NewD w bs (.returned u) w4 from ⟨u, rfl, hu, below_t HM.out.bel hb4, fun j hj => Nat.le_trans HM.out.bel.size (hk4 j hj)⟩)
  obtain ⟨xu, nu, cu, rfl⟩ := own_slice hu
  clear hu hb4 hk4 HF0
  go_wp2
  go_ret
  exact HFIN.out
/-- The models. -/
def MdL (m r c : Int) : Prop := (m = 2 ∧ r = 24 ∧ c = 80) ∨ (m = 3 ∧ r = 32 ∧ c = 80) ∨ (m = 4 ∧ r = 43 ∧ c = 80) ∨ (m = 5 ∧ r = 27 ∧ c = 132)
theorem MdL.ok {m r c : Int} (h : MdL m r c) : Ok r c := by
  rcases h with ⟨_, rfl, rfl⟩ | ⟨_, rfl, rfl⟩ | ⟨_, rfl, rfl⟩ | ⟨_, rfl, rfl⟩ <;> exact ⟨by decide, by decide, by decide, by decide, by decide⟩
set_option maxRecDepth 100000 in
set_option maxHeartbeats 4000000 in
theorem model_of (m r c : Int) (h : MdL m r c) (w : World) : Calls Tryd.prog 87 #[.int .i64 m] w fun e w' => e = .returned (.tuple #[.agg #[.int .i64 r, .int .i64 c], .int .i64 0]) ∧ Below w.heap.size w w' := by
  rcases h with ⟨rfl, rfl, rfl⟩ | ⟨rfl, rfl, rfl⟩ | ⟨rfl, rfl, rfl⟩ | ⟨rfl, rfl, rfl⟩
  · go_enter Tryd.func87, Tryd.ntmps87
    go_wp2
    refine bodyPost_ret (v := .tuple #[.agg #[.int .i64 24, .int .i64 80], .int .i64 0]) (by simp [results, Tryd.results87, go_sem]) rfl ⟨rfl, ?_⟩
    exact bal (Below.refl _ _) _
  · go_enter Tryd.func87, Tryd.ntmps87
    go_wp2
    refine bodyPost_ret (v := .tuple #[.agg #[.int .i64 32, .int .i64 80], .int .i64 0]) (by simp [results, Tryd.results87, go_sem]) rfl ⟨rfl, ?_⟩
    exact bal (Below.refl _ _) _
  · go_enter Tryd.func87, Tryd.ntmps87
    go_wp2
    refine bodyPost_ret (v := .tuple #[.agg #[.int .i64 43, .int .i64 80], .int .i64 0]) (by simp [results, Tryd.results87, go_sem]) rfl ⟨rfl, ?_⟩
    exact bal (Below.refl _ _) _
  · go_enter Tryd.func87, Tryd.ntmps87
    go_wp2
    refine bodyPost_ret (v := .tuple #[.agg #[.int .i64 27, .int .i64 132], .int .i64 0]) (by simp [results, Tryd.results87, go_sem]) rfl ⟨rfl, ?_⟩
    exact bal (Below.refl _ _) _
set_option maxRecDepth 100000 in
set_option maxHeartbeats 4000000 in
theorem reply_of (k m r c num : Int) (hk : k ∈ codesL) (hm : MdL m r c) (pv : Value) (w : World) (hp : PgV w pv num) : Calls Tryd.prog 80 #[.int .u8 k, .int .i64 m, pv] w (NewT w (repL k r c num)) := by
  have HMO := hid (model_of m r c hm w)
  have HCT := hid (fun W (hW : Below w.heap.size w W) => cont_of k r c num hk hm.ok pv W (hp.go hW))
  have hkb : 0 ≤ k ∧ k < 256 := by rcases codes_cases hk with rfl | rfl | rfl | rfl | rfl | rfl | rfl <;> decide
  have hcl : (contL k r c num).length ≤ 1000 := by have := contL_len hk r c num; omega
  have HEN := hid (fun v W (hv : Reads W v (contL k r c num)) => enc_of k hkb v _ W hv hcl)
  have HUP := hid (fun v w0 w1 (hb : Below w.heap.size w w0) (h : NewB w0 w1 v (byteF ⟨129, k :: contL k r c num⟩).2) => (show NewT w (repL k r c num) (.returned (.tuple #[v, .bool true])) w1 from ⟨v, rfl, h.up hb⟩))
  generalize contL k r c num = L at HCT HEN HUP
  have hpv : ∃ q, pv = .pointer q := by
    rcases hp.2 with ⟨e, _⟩ | ⟨b, e, _⟩
    · exact ⟨_, e⟩
    · exact ⟨_, e⟩
  obtain ⟨q, rfl⟩ := hpv
  clear hp hcl hkb hk
  go_enter Tryd.func80, Tryd.ntmps80
  go_wp2_with fail
  with_reducible refine HMO.out.mono ?_
  rintro e w1 ⟨rfl, hb1⟩
  have hb2 : Below w.heap.size w (w1.alloc (.cells #[.int .i64 r, .int .i64 c] 155)) := bal hb1 _
  have HC0 := hid (HCT.out _ hb2)
  have HB2 := hid hb2
  clear hb1 hb2 HMO
  go_wp2_with fail
  with_reducible refine HC0.out.mono ?_
  rintro e w2 ⟨v, rfl, h2⟩
  have HE0 := hid (HEN.out v w2 h2.own.reads)
  have HB3 := hid (below_t HB2.out h2.bel)
  obtain ⟨x, n, cp, rfl⟩ := own_slice h2.own
  clear h2 HC0
  go_wp2_with fail
  with_reducible refine HE0.out.mono ?_
  rintro e w3 ⟨v, rfl, h3⟩
  have HF := hid (HUP.out v w2 w3 HB3.out h3)
  obtain ⟨x3, n3, cp3, rfl⟩ := own_slice h3.own
  clear h3
  go_wp2
  go_ret2
  exact HF.out
/-- An answer, up to a code. -/
def ansB (asked : List Int) (r c num : Int) (k : Nat) : List Int := [136] ++ ((codesL.take k).filter (fun x => decide (x ∈ asked))).flatMap (fun x => repL x r c num)
def ansF (asked : List Int) (r c num : Int) : List Int := if (ansB asked r c num 7).length = 1 then ansB asked r c num 7 ++ nulL else ansB asked r c num 7
theorem ansB_succ (asked : List Int) (r c num : Int) (k : Nat) (hk : k < 7) : ansB asked r c num (k + 1) = if codesL.getD k 0 ∈ asked then ansB asked r c num k ++ repL (codesL.getD k 0) r c num else ansB asked r c num k := by
  unfold ansB
  rw [codesL_take k hk, List.filter_append, List.flatMap_append]
  by_cases h : codesL.getD k 0 ∈ asked
  · rw [if_pos h, List.filter_cons, if_pos (decide_eq_true h), List.append_assoc]
    simp
  · rw [if_neg h, List.filter_cons, if_neg (by simpa using h)]
    simp
theorem codesL_mem (k : Nat) (hk : k < 7) : codesL.getD k 0 ∈ codesL := by
  rcases seven7 hk with rfl | rfl | rfl | rfl | rfl | rfl | rfl <;> decide
theorem ansB_len (asked : List Int) (r c num : Int) (k : Nat) (hk : k ≤ 7) : 1 ≤ (ansB asked r c num k).length ∧ (ansB asked r c num k).length ≤ 1 + 23 * k := by
  induction k with
  | zero => exact ⟨Nat.le_refl _, Nat.le_refl _⟩
  | succ k ih =>
    have ih := ih (by omega)
    rw [ansB_succ asked r c num k (by omega)]
    split
    · rw [List.length_append]
      have := repL_len (codesL_mem k (by omega)) r c num
      omega
    · omega
set_option maxRecDepth 100000 in
set_option maxHeartbeats 4000000 in
theorem answer_of (av : Value) (asked : List Int) (m r c num : Int) (hm : MdL m r c) (pv : Value) (w : World) (h : Reads w av asked) (hp : PgV w pv num) : Calls Tryd.prog 61 #[av, .int .i64 m, pv] w (NewD w (ansF asked r c num)) := by
  obtain ⟨i0, hi, hz0, hz1, hz2⟩ := info_parts info5
  have HCD := hid (codes_of (w.alloc (.cells #[.int .u8 136] 5)))
  have hal : Below w.heap.size w (w.alloc (.cells #[.int .u8 136] 5)) := bal (Below.refl _ _) _
  have HAL := hid hal
  have HIB := hid (fun k (hk : k < 7) W (hW : Below w.heap.size w W) => ib_any av asked (codesL.getD k 0) (codesL_bd k) W (reads_below h hW))
  have HRE := hid (fun k (hk : k < 7) W (hW : Below w.heap.size w W) => reply_of (codesL.getD k 0) m r c num (codesL_mem k hk) hm pv W (hp.go hW))
  have HNU := hid (fun W => (show Calls Tryd.prog 81 #[.int .u8 255, .slice none 0 0] W (NewD W nulL) from enc_of 255 (by decide) (.slice none 0 0) [] W (reads_nil W) (by decide)))
  have HSU := hid (fun k hk => ansB_succ asked r c num k hk)
  have HLN := hid (fun k hk => ansB_len asked r c num k hk)
  have HRL := hid (fun k (hk : k < 7) => repL_len (codesL_mem k hk) r c num)
  have HBD := hid codesL_bd
  have HN0 := hid (show NewB w (w.alloc (.cells #[.int .u8 136] 5)) (.slice (some ⟨w.heap.size, 0, none⟩) 1 1) (ansB asked r c num 0) from NewB.lit (Below.refl _ _) #[.int .u8 136] 1 [136] (by decide) rfl rfl (by omega) _ rfl)
  have HEND := hid (show ansF asked r c num = if (ansB asked r c num 7).length = 1 then ansB asked r c num 7 ++ nulL else ansB asked r c num 7 from rfl)
  obtain ⟨xa, na, ca, rfl⟩ : ∃ x n c, av = .slice x n c := by obtain ⟨x, c, e⟩ := reads_sl h; exact ⟨x, _, c, e⟩
  have hpv : ∃ q, pv = .pointer q := by
    rcases hp.2 with ⟨e, _⟩ | ⟨b, e, _⟩
    · exact ⟨_, e⟩
    · exact ⟨_, e⟩
  obtain ⟨q, rfl⟩ := hpv
  generalize ansF asked r c num = R at HEND ⊢
  generalize ansB asked r c num = AB at *
  clear h hp hal
  go_enter Tryd.func61, Tryd.ntmps61
  go_wp2_with fail
  with_reducible refine HCD.out.mono ?_
  rintro e w1 ⟨cv, rfl, h1⟩
  have HB1 := hid (below_t HAL.out h1.bel)
  have HN1 := hid (HN0.out.after h1.bel)
  obtain ⟨g, cg, rfl, hg1, hg2, hg3⟩ := h1.own.slice (by decide)
  have HAT := hid (fun k (hk : k < 7) => h1.own.at k hk)
  have HGF := hid h1.fr
  clear h1 HCD HN0 hg1 hg2
  have hlen7 : codesL.length = 7 := rfl
  rw [hlen7]
  clear hlen7
  go_wp2_with fail
  go_loopw [7, 15] (fun b i wr => ∃ k : Nat, k ≤ 7 ∧ i = .int .i64 k ∧ Hid (NewB w wr b (AB k)) ∧ Hid (∀ j, j < 7 → wr.cell? ⟨g, j, none⟩ = some (.int .u8 (codesL.getD j 0))) ∧ Hid (g < wr.heap.size ∧ g ∉ blkV b)) (fun _ i _ => 7 - (RowKit.intOf i).toNat)
  case atStart =>
    refine ⟨0, by omega, rfl, HN1, HAT, hid ⟨hg3, fun q => ?_⟩⟩
    have e : g = w.heap.size := by simpa [blkV, Value.ownBlock] using q
    have := HGF.out g (by simp [blkV, Value.ownBlock])
    simp at this
    omega
  case round =>
    obtain ⟨k, hk, rfl, HN, HC, HG⟩ := hrel
    have hln := HLN.out k hk
    obtain ⟨n, hn⟩ : ∃ n, (AB k).length = n := ⟨_, rfl⟩
    obtain ⟨xb, cb, rfl⟩ := HN.out.len n hn
    rw [hn] at hln
    obtain ⟨hn1, hn2⟩ := hln
    by_cases hlt : k < 7
    · have hki : (k : Int) < 7 := by omega
      have a0 := HC.out k hlt
      have hgw := HG.out.1
      have hbw := HN.out.bel
      have HI := hid (HIB.out k hlt wr hbw)
      have HR := hid (HRE.out k hlt wr hbw)
      have hsu := HSU.out k hlt
      have hrl := HRL.out k hlt
      generalize codesL.getD k 0 = cd at a0 HI HR hsu hrl
      have HSUK := hid hsu
      have HNN := hid hn
      clear hsu hbw hn
      go_wp2_with fail
      with_reducible refine HI.out.mono ?_
      rintro e w2 ⟨⟨r0, rfl, hr0⟩, rfl⟩
      by_cases hmem : cd ∈ asked
      · have hr1 : ¬ r0 < 0 := fun q => hr0.1 q hmem
        have HS := hid (HSUK.out.trans (if_pos hmem))
        clear hr0 hmem HI
        go_wp2_with fail
        with_reducible refine HR.out.mono ?_
        rintro e w3 ⟨rv, rfl, h3⟩
        have hb3 : Below wr.heap.size wr w3 := h3.bel
        have HN3 := hid (HN.out.after hb3)
        have HC3 := hid (show ∀ j, j < 7 → w3.cell? ⟨g, j, none⟩ = some (.int .u8 (codesL.getD j 0)) from fun j hj => keepc hb3 (HC.out j hj))
        have hgw3 : g < w3.heap.size := Nat.lt_of_lt_of_le hgw hb3.size
        have HGN := hid HG.out.2
        obtain ⟨nr, hnr⟩ : ∃ nr, (repL cd r c num).length = nr := ⟨_, rfl⟩
        have HNR := hid hnr
        rw [hnr] at hrl
        obtain ⟨xr, cr, rfl⟩ := h3.len nr hnr
        have hrd := h3.own.reads
        obtain ⟨gr, or, rfl, -, -, -⟩ := reads_at hrd 0 (by rw [hnr]; omega)
        have HSRC := hid (reads_src hrd).2
        have HRB := hid (show BytL (repL cd r c num) from hrd.1)
        have hrow3 := HN3.out.own.2
        rw [HNN.out] at hrow3
        have HROW := hid hrow3
        have hABb := HN3.out.own.1
        have HAB := hid (show BytL (AB k) from hABb)
        have HBW3 := hid HN3.out.bel
        have HFR3 := hid HN3.out.fr
        clear h3 hb3 hrd hnr hrow3 hABb HR HN a0 hgw
        go_wp2_with (at_builtin; refine wpList_append_blk _ rfl _ _ 22 rfl 5 i0 _ 1 1 Tryd.underlying22 hi hz0 hz1 hz2 rfl (by decide) _ n ((AB k).map (Value.int .u8)) rfl HROW.out ⟨gr, or, none⟩ nr cr ((repL cd r c num).map (Value.int .u8)) rfl (by rw [List.length_map, HNR.out, Nat.mul_one]) HSRC.out (ints_one _) (by unfold maxLen; omega) (by omega) ?_; intro v' W1 hown' hgrow _ hb'; have HOW := hid hown'; have HGR := hid hgrow; have HBK := hid hb'; obtain ⟨y, cap, rfl⟩ := row_anyK hown'; clear hown' hgrow hb')
        have hmv : Moved w3 W1 (blkV (.slice xb n cb)) [] := Moved.grown HGR.out (fun k hk => mem_blkV.2 hk) (fun k hk => by cases hk)
        have HCN := hid (show ∀ j, j < 7 → W1.cell? ⟨g, j, none⟩ = some (.int .u8 (codesL.getD j 0)) from fun j hj => cell_moved hmv (HC3.out j hj) HGN.out)
        have HNB := hid (show NewB w W1 (.slice y (n + nr) cap) (AB (k + 1)) from by
          rw [HS.out]
          refine ⟨⟨HAB.out.append HRB.out, ?_⟩, HBW3.out.grown HGR.out HBW3.out.size (fun j hj => HFR3.out j (mem_blkV.2 hj)), fun j hj => ?_⟩
          · rw [List.map_append, List.length_append, HNN.out, HNR.out]
            exact HOW.out
          · rcases HBK.out j hj with q | q
            · exact HFR3.out j q
            · exact Nat.le_trans HBW3.out.size q)
        have HGN2 := hid (show g < W1.heap.size ∧ g ∉ blkV (.slice y (n + nr) cap) from ⟨Nat.lt_of_lt_of_le hgw3 hmv.size, fun q => by
          rcases HBK.out g q with p | p
          · exact HGN.out p
          · omega⟩)
        clear hmv
        go_roundw
        case rel => exact ⟨k + 1, by omega, by go_num, HNB, HCN, HGN2⟩
        case measure => simp [RowKit.intOf]; omega
      · have hr1 : r0 < 0 := hr0.2 hmem
        have HS := hid (HSUK.out.trans (if_neg hmem))
        have HNB := hid (show NewB w wr (.slice xb n cb) (AB (k + 1)) from by rw [HS.out]; exact HN.out)
        clear hr0 hmem HI
        go_wp2
        go_roundw
        case rel => exact ⟨k + 1, by omega, by go_num, HNB, HC, HG⟩
        case measure => simp [RowKit.intOf]; omega
    · obtain rfl : k = 7 := by omega
      have HNN := hid hn
      by_cases h1 : n = 1
      · subst h1
        have HR := hid (HEND.out.trans (if_pos hn))
        have HNUL := hid (HNU.out wr)
        clear hn
        go_wp2_with fail
        with_reducible refine HNUL.out.mono ?_
        rintro e w2 ⟨uv, rfl, h2⟩
        have HN2 := hid (HN.out.after h2.bel)
        have HU := hid h2.own.reads
        obtain ⟨xu, cu, rfl⟩ := h2.len 4 rfl
        have HROW := hid (show w2.ownsRow w.heap.size 5 1 (.slice xb 1 cb) 1 ((AB 7).map (Value.int .u8)) from by have q := HN2.out.row; rwa [HNN.out] at q)
        have HBL := hid (show BytL (AB 7 ++ nulL) from (show BytL (AB 7) from HN2.out.own.1).append (by decide : ∀ x ∈ nulL, 0 ≤ x ∧ x < 256))
        have HBW := hid HN2.out.bel
        have HFR := hid HN2.out.fr
        clear h2 HNUL
        go_wp2_with (at_builtin; refine wpList_append_bytes rfl (.tmp 38) (.tmp 39) rfl w.heap.size 1 _ _ (AB 7) nulL rfl rfl HROW.out HU.out (by show 5 ≤ 10000000; omega) HBW.out.size 5 rfl (AB 7 ++ nulL) rfl ?_; intro y cap w3 hown hgrow; have HF := hid (NewB.made hown hgrow HBW.out HFR.out HBL.out (by rw [List.length_append, HNN.out]; rfl)); clear hown hgrow)
        go_ret
        exact ⟨_, rfl, by rw [HR.out]; exact HF.out⟩
      · have HR := hid (HEND.out.trans (if_neg (by rw [hn]; exact h1)))
        have h1i : ¬ ((n : Int) = 1) := by omega
        have h1b : ((n : Int) == 1) = false := by simpa using h1i
        clear hn
        go_wp2
        go_ret
        exact ⟨_, rfl, by rw [HR.out]; exact HN.out⟩
set_option maxRecDepth 100000 in
set_option maxHeartbeats 4000000 in
theorem all_of (m r c num : Int) (hm : MdL m r c) (pv : Value) (w : World) (hp : PgV w pv num) : Calls Tryd.prog 37 #[.int .i64 m, pv] w (NewD w (ansF codesL r c num)) := by
  have HCD := hid (codes_of w)
  have HAN := hid (fun v w1 (h : NewB w w1 v codesL) => answer_of v codesL m r c num hm pv w1 h.own.reads (hp.go h.bel))
  have hpv : ∃ q, pv = .pointer q := by
    rcases hp.2 with ⟨e, _⟩ | ⟨b, e, _⟩
    · exact ⟨_, e⟩
    · exact ⟨_, e⟩
  obtain ⟨q, rfl⟩ := hpv
  clear hp
  go_enter Tryd.func37, Tryd.ntmps37
  go_wp2_with fail
  with_reducible refine HCD.out.mono ?_
  rintro e w1 ⟨cv, rfl, h1⟩
  have HA := hid (HAN.out cv w1 h1)
  have HB := hid h1.bel
  obtain ⟨x, n, cp, rfl⟩ := own_slice h1.own
  clear h1
  go_wp2_with fail
  with_reducible refine HA.out.mono ?_
  rintro e w2 ⟨v, rfl, h2⟩
  have HF := hid (h2.up HB.out)
  obtain ⟨x2, n2, cp2, rfl⟩ := own_slice h2.own
  clear h2
  go_wp2
  go_ret
  exact ⟨_, rfl, HF.out⟩
set_option maxRecDepth 100000 in
set_option maxHeartbeats 4000000 in
theorem list_of (av : Value) (asked : List Int) (m r c num : Int) (hm : MdL m r c) (pv : Value) (w : World) (h : Reads w av asked) (hp : PgV w pv num) : Calls Tryd.prog 42 #[.int .u8 0, av, .int .i64 m, pv] w (NewD w (ansF asked r c num)) := by
  have HAN := hid (answer_of av asked m r c num hm pv w h hp)
  have hpv : ∃ q, pv = .pointer q := by
    rcases hp.2 with ⟨e, _⟩ | ⟨b, e, _⟩
    · exact ⟨_, e⟩
    · exact ⟨_, e⟩
  obtain ⟨q, rfl⟩ := hpv
  obtain ⟨xa, ca, rfl⟩ := reads_sl h
  clear h hp
  go_enter Tryd.func42, Tryd.ntmps42
  go_wp2_with fail
  with_reducible refine HAN.out.mono ?_
  rintro e w2 ⟨v, rfl, h2⟩
  have HF := hid h2
  obtain ⟨x2, n2, cp2, rfl⟩ := own_slice h2.own
  clear h2
  go_wp2
  go_ret
  exact ⟨_, rfl, HF.out⟩
end Go.Proofs.YtdpgmepblmlaaaaDoor
