/-
  query: a reply that is looked for; the size, the number.
-/
import Derived.Test.YtdpgmepblmlaaaaDoorTc
namespace Go.Proofs.YtdpgmepblmlaaaaDoor
open Go.RowKit Go.Lib Go.Deep

/-- The first with a code, if it is long enough. -/
def fnd (ds : List (List Int)) (c : Int) (len : Nat) : Option (List Int) := match ds.find? (fun d => d.getD 0 0 == c) with
  | none => none
  | some d => if d.length < len then none else some d
def num2 (d : List Int) (n : Nat) : Int := 256 * d.getD n 0 + d.getD (n + 1) 0
theorem fnd_none {ds : List (List Int)} {c : Int} {len : Nat} (h : ∀ d ∈ ds, d.getD 0 0 ≠ c) : fnd ds c len = none := by
  unfold fnd
  rw [List.find?_eq_none.2 (fun d hd => by simpa using h d hd)]
theorem find_hit {ds : List (List Int)} {c : Int} {k : Nat} {d : List Int} (hk : ds[k]? = some d) (hc : d.getD 0 0 = c) (hno : ∀ j, j < k → ∀ x, ds[j]? = some x → x.getD 0 0 ≠ c) : ds.find? (fun d => d.getD 0 0 == c) = some d := by
  rw [List.find?_eq_some_iff_getElem]
  obtain ⟨hkl, e⟩ := List.getElem?_eq_some_iff.1 hk
  refine ⟨by simpa using hc, k, hkl, e, fun j hj => ?_⟩
  have := hno j hj _ (List.getElem?_eq_getElem (by omega))
  simpa using this
theorem fnd_short {ds : List (List Int)} {c : Int} {len : Nat} {d : List Int} (h : ds.find? (fun d => d.getD 0 0 == c) = some d) (hl : d.length < len) : fnd ds c len = none := by
  unfold fnd
  rw [h]
  exact if_pos hl
theorem fnd_some {ds : List (List Int)} {c : Int} {len : Nat} {d : List Int} (h : ds.find? (fun d => d.getD 0 0 == c) = some d) (hl : ¬ d.length < len) : fnd ds c len = some d := by
  unfold fnd
  rw [h]
  exact if_neg hl
theorem fnd_len {ds : List (List Int)} {c : Int} {len : Nat} {d : List Int} (h : fnd ds c len = some d) : len ≤ d.length := by
  unfold fnd at h
  split at h
  · cases h
  · split at h
    · cases h
    · rename_i hl
      injection h with h
      subst h
      omega
theorem num2_bd {d : List Int} (h : BytL d) (n : Nat) : 0 ≤ num2 d n ∧ num2 d n < 65536 := by
  have h0 := BytL.getD h n
  have h1 := BytL.getD h (n + 1)
  unfold num2
  omega
set_option maxRecDepth 100000 in
set_option maxHeartbeats 4000000 in
theorem numberAt_any (v : Value) (xs : List Int) (n : Nat) (w : World) (h : Reads w v xs) (hn : n + 1 < xs.length) (hl : n ≤ 1000) : Calls Tryd.prog 65 #[v, .int .i64 n] w fun e w' => e = .returned (.int .i64 (num2 xs n)) ∧ Below w.heap.size w w' := by
  unfold num2
  obtain ⟨x, cap, rfl⟩ := reads_sl h
  obtain ⟨g, o, rfl, c0, hlc, hcm⟩ := reads_at h n (by omega)
  obtain ⟨g1, o1, q1, c1, _, _⟩ := reads_at h (n + 1) hn
  injection q1 with q1
  injection q1 with q1 q1'
  subst q1 q1'
  obtain ⟨a0, a1⟩ := BytL.getD h.1 n
  obtain ⟨b0, b1⟩ := BytL.getD h.1 (n + 1)
  clear h
  generalize xs.length = L at *
  generalize xs.getD n 0 = a at *
  generalize xs.getD (n + 1) 0 = b at *
  have hgw := World.block_lt_of_cell? w _ c0
  have l1 : (n : Int) < L := by omega
  have l2 : (n : Int) + 1 < L := by omega
  have m1 : n < L := by omega
  have m2 : (0 : Int) ≤ (n : Int) + 1 := by omega
  have m3 : ¬ (n : Int) + 1 < 0 := by omega
  have e1 : IntKind.i64.wrap a = a := wraps_i64 a (by omega) (by omega)
  have e2 : IntKind.i64.wrap b = b := wraps_i64 b (by omega) (by omega)
  have e3 : IntKind.i64.wrap (a * 256) = a * 256 := wraps_i64 _ (by omega) (by omega)
  have e4 : bits .or .i64 (a * 256) b = 256 * a + b := or256 a b a0 a1 b0 b1
  have e5 : IntKind.i64.wrap ((n : Int) + 1) = (n : Int) + 1 := wraps_i64 _ (by omega) (by omega)
  have hdr : Below w.heap.size w w.drew := (Below.refl _ _).drew
  have HX := hid (And.intro (keepc hdr c0) (And.intro (keepc hdr c1) hdr))
  clear c0 c1 hdr
  go_enter Tryd.func65, Tryd.ntmps65
  go_wp2
  go_region_held3 (fun w' => w'.cell? ⟨g, o + n, none⟩ = some (.int .u8 a) ∧ w'.cell? ⟨g, o + (n + 1), none⟩ = some (.int .u8 b) ∧ Below w.heap.size w w') (first | exact HX.out | fail) (first | fail)
  rename_i hH
  have HB := hid hH.2.2
  clear hH HX
  go_wp2
  go_ret
  exact ⟨rfl, HB.out⟩
set_option maxRecDepth 100000 in
set_option maxHeartbeats 4000000 in
theorem find1_any (v : Value) (xs : List Int) (bx : Nat) (c : Int) (w : World) (h : Reads w v xs) (hp : 0 < xs.length) (hc : w.cell? ⟨bx, 0, none⟩ = some (.int .u8 c)) : Calls Tryd.prog 83 #[v, .pointer (some ⟨bx, 0, none⟩)] w fun e w' => e = .returned (.bool (xs.getD 0 0 == c)) ∧ Below w.heap.size w w' := by
  obtain ⟨x, cap, rfl⟩ := reads_sl h
  obtain ⟨g, o, rfl, c0, hlc, hcm⟩ := reads_at h 0 hp
  rw [Nat.add_zero] at c0
  clear h
  generalize xs.length = L at *
  generalize xs.getD 0 0 = a at *
  have hpi : (0 : Int) < L := by omega
  have hdr : Below w.heap.size w w.drew := (Below.refl _ _).drew
  have HX := hid (And.intro (keepc hdr c0) (And.intro (keepc hdr hc) hdr))
  clear c0 hc hdr
  go_enter Tryd.func83, Tryd.ntmps83
  go_wp2
  go_region_held3 (fun w' => w'.cell? ⟨g, o, none⟩ = some (.int .u8 a) ∧ w'.cell? ⟨bx, 0, none⟩ = some (.int .u8 c) ∧ Below w.heap.size w w') (first | exact HX.out | fail) (first | fail)
  all_goals
    rename_i hH
    have HB := hid hH.2.2
    clear hH HX
    go_wp2
    go_ret
    exact ⟨rfl, HB.out⟩
/-- Where the first with a code is. -/
def IxD (xs : List RvV) (c : Int) (w : World) (e : Ending) (w' : World) : Prop := ∃ r : Int, e = .returned (.int .i64 r) ∧ ((∃ k, ∃ hk : k < xs.length, r = (k : Int) ∧ xs[k].d.getD 0 0 = c ∧ ∀ j (hj : j < k), (xs[j]'(by omega)).d.getD 0 0 ≠ c) ∨ (r = -1 ∧ ∀ x ∈ xs, x.d.getD 0 0 ≠ c)) ∧ Below w.heap.size w w'
set_option maxRecDepth 100000 in
set_option maxHeartbeats 4000000 in
theorem index_any (v : Value) (xs : List RvV) (bx : Nat) (c : Int) (w : World) (h : RpM w v xs) (hne : ∀ k (hk : k < xs.length), 0 < xs[k].d.length) (hl : xs.length ≤ 1000000) (hc : w.cell? ⟨bx, 0, none⟩ = some (.int .u8 c)) : Calls Tryd.prog 82 #[v, .func (.func 83) #[] #[.pointer (some ⟨bx, 0, none⟩)]] w (IxD xs c w) := by
  obtain ⟨x, cap, rfl, -, -, hat⟩ := h.at
  have HAT := hid hat
  have HSL := hid (fun k (hk : k < xs.length) => own_slice (h.txt _ (List.getElem_mem hk)))
  have HF := hid (fun k (hk : k < xs.length) W (hW : Below w.heap.size w W) => find1_any xs[k].tv xs[k].d bx c W ((h.txt _ (List.getElem_mem hk)).step hW).reads (hne k hk) (keepc hW hc))
  obtain ⟨N, hN⟩ : ∃ N, xs.length = N := ⟨_, rfl⟩
  have HN := hid hN
  rw [hN] at hl ⊢
  clear h hat hne hc hN
  go_enter Tryd.func82, Tryd.ntmps82
  go_wp2
  go_loopw [8] (fun i wr => ∃ k : Nat, k ≤ N ∧ i = .int .i64 k ∧ Hid (∀ j (hj : j < xs.length), j < k → xs[j].d.getD 0 0 ≠ c) ∧ Hid (Below w.heap.size w wr)) (fun i _ => N - (intOf i).toNat)
  case atStart => exact ⟨0, Nat.zero_le _, rfl, hid (fun j _ q => absurd q (Nat.not_lt_zero j)), hid (Below.refl _ _)⟩
  case round =>
    obtain ⟨k, hk, rfl, HNO, HB⟩ := hrel
    by_cases hlt : k < N
    · have hki : (k : Int) < N := by omega
      have hkx : k < xs.length := by rw [HN.out]; exact hlt
      obtain ⟨g, rfl, hg, a0⟩ := HAT.out k hkx
      obtain ⟨xt, nt, ct, q1⟩ := HSL.out k hkx
      have HF0 := hid (HF.out k hkx wr HB.out)
      have a0 := (HB.out.cell (p := ⟨g, k, none⟩) hg).trans a0
      by_cases hh : xs[k].d.getD 0 0 = c
      · have hhb : (xs[k].d.getD 0 0 == c) = true := by simpa using hh
        rw [hhb, q1] at HF0
        rw [q1] at a0
        have HH := hid hh
        clear q1 hhb hh
        go_wp2_with fail
        with_reducible refine HF0.out.mono ?_
        rintro e w1 ⟨rfl, hb1⟩
        have HFIN := hid (show IxD xs c w (.returned (.int .i64 k)) w1 from ⟨k, rfl, .inl ⟨k, hkx, rfl, HH.out, fun j hj => HNO.out j (by omega) hj⟩, below_t HB.out hb1⟩)
        clear hb1
        go_wp2
        go_ret
        exact HFIN.out
      · have hhb : (xs[k].d.getD 0 0 == c) = false := by simpa using hh
        rw [hhb, q1] at HF0
        rw [q1] at a0
        have HH := hid hh
        clear q1 hhb hh
        go_wp2_with fail
        with_reducible refine HF0.out.mono ?_
        rintro e w1 ⟨rfl, hb1⟩
        have HB1 := hid (below_t HB.out hb1)
        clear hb1
        go_wp2
        go_roundw
        case rel => exact ⟨k + 1, by omega, by go_num, hid (fun j hj hjk => by
          rcases Nat.lt_succ_iff_lt_or_eq.1 hjk with q | q
          · exact HNO.out j hj q
          · subst q; exact HH.out), HB1⟩
        case measure => simp [intOf]; omega
    · have hkn : N = k := by omega
      subst hkn
      have HFIN := hid (show IxD xs c w (.returned (.int .i64 (-1))) wr from ⟨-1, rfl, .inr ⟨rfl, fun x hx => by
        obtain ⟨j, hj, rfl⟩ := List.mem_iff_getElem.1 hx
        exact HNO.out j hj (by rw [← HN.out]; exact hj)⟩, HB.out⟩)
      go_wp2
      go_ret
      exact HFIN.out
/-- What is found. -/
def FdD (r : Option (List Int)) (w : World) (e : Ending) (w' : World) : Prop := ((r = none ∧ e = .returned (.tuple #[.slice none 0 0, .bool false])) ∨ ∃ d v, r = some d ∧ e = .returned (.tuple #[v, .bool true]) ∧ OwnB w' v d) ∧ Below w.heap.size w w'
set_option maxRecDepth 100000 in
set_option maxHeartbeats 4000000 in
theorem find_any (v : Value) (ps : List Int) (c : Int) (len : Nat) (w : World) (h : Reads w v ps) (hl : ps.length ≤ 1000000) : Calls Tryd.prog 64 #[v, .int .u8 c, .int .i64 len] w (FdD (fnd (repF ps).2 c len) w) := by
  have HRP := hid (callsIn_wide.1 (replies_in 8 (by omega) v ps (w.alloc (.cells #[.int .u8 c] 5)) (reads_below h (bal (Below.refl _ _) _)) (by omega)))
  have hne := repF_ne ps
  have her := repF_er ps
  have hrl := repF_len ps hl
  obtain ⟨x0, c0, rfl⟩ := reads_sl h
  generalize ps.length = L0 at *
  generalize repF ps = r at HRP hne her hrl ⊢
  obtain ⟨er, ds⟩ := r
  dsimp only at hne her hrl ⊢
  clear h
  go_enter Tryd.func64, Tryd.ntmps64
  go_wp2_with fail
  with_reducible refine HRP.out.mono ?_
  rintro e w1 ⟨lv, xs, rfl, hxd, hM, hb1⟩
  dsimp only at hxd ⊢
  obtain ⟨xl, cl, rfl⟩ := row_any hM.row
  have hb0 : Below w.heap.size w w1 := below_t (bal (Below.refl _ _) _) hb1
  by_cases he : er ≠ 0
  · have hds := her he
    subst hds
    have HF := hid (show FdD (fnd [] c len) w (.returned (.tuple #[.slice none 0 0, .bool false])) w1 from ⟨.inl ⟨rfl, rfl⟩, hb0⟩)
    have hne1 : (er == 0) = false := by simpa using he
    have hne2 : (er != 0) = true := by simpa using he
    clear hxd hM hb1 hb0
    go_wp2
    go_ret2
    exact HF.out
  obtain rfl : er = 0 := Classical.byContradiction he
  have hbx : w1.cell? ⟨w.heap.size, 0, none⟩ = some (.int .u8 c) := keepc hb1 (by simp [go_sem])
  have hxl : xs.length ≤ 1000000 := by have h1 := congrArg List.length hxd; rw [List.length_map] at h1; omega
  have HIX := hid (index_any (.slice xl xs.length cl) xs w.heap.size c w1 hM (fun k hk => head_len hxd hne k hk) hxl hbx)
  have HM := hid hM
  have HB0 := hid hb0
  have HGD := hid (fun k (hk : k < xs.length) => (show ds[k]? = some xs[k].d from by rw [← hxd, List.getElem?_map, List.getElem?_eq_getElem hk]; rfl))
  have HNO := hid (fun (q : ∀ x ∈ xs, x.d.getD 0 0 ≠ c) => fnd_none (ds := ds) (c := c) (len := len) (fun d hd => by
    rw [← hxd] at hd
    obtain ⟨x, hx, rfl⟩ := List.mem_map.1 hd
    exact q x hx))
  have HXN := hid (show ds.length = xs.length from by rw [← hxd, List.length_map])
  clear he hbx hM hb0 hb1 hxd hne her hrl HRP
  go_wp2_with fail
  with_reducible refine HIX.out.mono ?_
  rintro e w2 ⟨r, rfl, hr, hb2⟩
  have HM2 := hid (HM.out.step hb2)
  have HB2 := hid (below_t HB0.out hb2)
  obtain ⟨N, hN⟩ : ∃ N, xs.length = N := ⟨_, rfl⟩
  have HN := hid hN
  clear hb2 HIX
  rcases hr with ⟨k, hk, rfl, hh, hno⟩ | ⟨rfl, hno⟩
  · obtain ⟨g1, cap1, e1, -, -, hat⟩ := HM2.out.at
    injection e1 with e1a e1b e1c
    subst e1a e1c
    obtain ⟨g, rfl, hg, a0⟩ := hat k hk
    have ht := HM2.out.txt _ (List.getElem_mem hk)
    have hfd := find_hit (HGD.out k hk) hh (fun j hj x hx => by
      have hjx : j < xs.length := by omega
      rw [HGD.out j hjx] at hx
      injection hx with hx
      rw [← hx]
      exact hno j hj)
    have hkN : k < N := by rw [← hN]; exact hk
    have hki : (k : Int) < N := by omega
    have hk0 : ¬ (k : Int) < 0 := by omega
    generalize xs[k] = x at a0 ht hh hfd
    obtain ⟨ys, tv⟩ := x
    dsimp only at a0 ht hh hfd
    obtain ⟨nt, hnt⟩ : ∃ nt, ys.length = nt := ⟨_, rfl⟩
    obtain ⟨xt, ct, rfl⟩ := own_len ht nt hnt
    have HT := hid ht
    rw [hN]
    by_cases hsh : nt < len
    · have HF := hid (show FdD (fnd ds c len) w (.returned (.tuple #[.slice none 0 0, .bool false])) w2 from ⟨.inl ⟨fnd_short hfd (by rw [hnt]; exact hsh), rfl⟩, HB2.out⟩)
      have hsi : (nt : Int) < len := by omega
      clear hat e1b hh hno hfd hnt ht hN
      go_wp2
      go_ret2
      exact HF.out
    · have HF := hid (show FdD (fnd ds c len) w (.returned (.tuple #[.slice xt nt ct, .bool true])) w2 from ⟨.inr ⟨ys, _, fnd_some hfd (by rw [hnt]; exact hsh), rfl, HT.out⟩, HB2.out⟩)
      have hsi : ¬ (nt : Int) < len := by omega
      clear hat e1b hh hno hfd hnt ht hN
      go_wp2
      go_ret2
      exact HF.out
  · have HF := hid (show FdD (fnd ds c len) w (.returned (.tuple #[.slice none 0 0, .bool false])) w2 from ⟨.inl ⟨HNO.out hno, rfl⟩, HB2.out⟩)
    clear hno hN
    go_wp2
    go_ret2
    exact HF.out
end Go.Proofs.YtdpgmepblmlaaaaDoor
