/-
  query: the reference's replies.
-/
import Derived.Test.YtdpgmepblmlaaaaDoorTa
import Derived.Test.YtdpgmepblmlaaaaDoorRr
namespace Go.Proofs.YtdpgmepblmlaaaaDoor
open Go.RowKit Go.Lib Go.Deep

/-- A row of bytes, from a block on. -/
structure RowV (B : Nat) (w : World) (v : Value) (xs : List RvV) : Prop where
  row : w.ownsRow 0 22 1 v xs.length (cellsV xs)
  dat : ∀ x ∈ xs, OwnB w x.tv x.d
  fr : ∀ k ∈ blkV v, B ≤ k
theorem RowV.nil (B : Nat) (w : World) : RowV B w (.slice none 0 0) [] := ⟨World.ownsRow_nil _ _ _ _, fun _ h => (by cases h), fun _ h => (by cases h)⟩
theorem RowV.step {B : Nat} {w w' : World} {v : Value} {xs : List RvV} (h : RowV B w v xs) (hb : Below w.heap.size w w') : RowV B w' v xs :=
  ⟨own_moved h.row (Moved.below hb []) (fun _ _ q => by cases q), fun x hx => (h.dat x hx).step hb, h.fr⟩
theorem RowV.snoc {B : Nat} {w w' : World} {v v' : Value} {xs : List RvV} {x : RvV} (h : RowV B w v xs) (hB : B ≤ w.heap.size) (ho : OwnB w x.tv x.d) (hrow : w'.ownsRow 0 22 1 v' (xs.length + 1) (cellsV xs ++ [x.tv])) (hg : w.grownBy w' v.ownBlock) (hb : ∀ k ∈ blkV v', k ∈ blkV v ∨ w.heap.size ≤ k) : RowV B w' v' (xs ++ [x]) := by
  have hm : Moved w w' (blkV v) (blkV v') := Moved.grown hg (fun k hk => mem_blkV.2 hk) hb
  refine ⟨?_, fun y hy => ?_, fun k hk => ?_⟩
  · unfold cellsV at hrow ⊢
    rw [List.map_append, List.length_append]
    exact hrow
  · rcases List.mem_append.1 hy with hy | hy
    · exact (h.dat y hy).moved hm (own_apart (h.dat y hy).2 h.row (by decide))
    · rw [List.mem_singleton.1 hy]; exact ho.moved hm (own_apart ho.2 h.row (by decide))
  · rcases hb k hk with r | r
    · exact h.fr k r
    · exact Nat.le_trans hB r
/-- Data of others: they stay where the row grows. -/
theorem SfM.other {t : TypeId} {w w' : World} {v u : Value} {xs : List SfV} {cs : List Value} {n sz B : Nat} {t' : TypeId} (ht : t ≠ t') (h5 : (5 : TypeId) ≠ t') (h : SfM t w v xs) (hr : w.ownsRow B t' sz u n cs) (hg : w.grownBy w' u.ownBlock) : SfM t w' v xs := by
  have hm : Moved w w' (blkV u) [] := Moved.grown hg (fun k hk => mem_blkV.2 hk) (fun k hk => by cases hk)
  exact ⟨own_moved h.row hm (own_apart h.row hr ht), fun x hx => (h.txt x hx).moved hm (own_apart (h.txt x hx).2 hr h5)⟩
set_option maxRecDepth 100000 in
set_option maxHeartbeats 4000000 in
theorem rreplies_any (v : Value) (ps : List Int) (w : World) (h : Reads w v ps) (hl : ps.length ≤ 1000000) : Calls Tryd.prog 67 #[v] w (RpD (repF ps) w) := by
  obtain ⟨i0, hi, hz0, hz1, hz2⟩ := info_parts infoEl
  rcases ps with _ | ⟨b, zs⟩
  · obtain ⟨x0, c0, rfl⟩ := reads_sl h
    clear h
    go_enter Tryd.func67, Tryd.ntmps67
    go_wp2
    go_ret2
    exact ⟨.slice none 0 0, [], rfl, rfl, RpM.nil _, Below.refl _ _⟩
  obtain ⟨x0, c0, rfl⟩ := reads_sl h
  obtain ⟨g0, o0, rfl, hc0, hcap, _⟩ := reads_at h 0 (by simp)
  rw [Nat.add_zero] at hc0
  have hc0 : w.cell? ⟨g0, o0, none⟩ = some (.int .u8 b) := hc0
  have hg0 := World.block_lt_of_cell? w _ hc0
  rw [repF_cons]
  have hlen : (b :: zs).length = zs.length + 1 := rfl
  by_cases hb : b = 136
  · subst hb
    rw [if_neg (fun q => q rfl)]
    obtain ⟨x1, c1, hsl0, hrs⟩ := from_all h 1 (by simp)
    have hzl : (136 :: zs).length - 1 = zs.length := by simp
    rw [hzl] at hsl0 hrs
    have hl1 : zs.length ≤ 1000000 := by simp at hl; omega
    have hcount : (sfA zs).1.length ≤ 1000000 := by have := sA_count zs.length zs; unfold sfA; omega
    have HAL := hid (rall_any (.slice x1 zs.length c1) zs w (hrs w h) (by omega))
    have hsl : ∀ w', (Instr.sliceAt 22 (.slice (some ⟨g0, o0, none⟩) (zs.length + 1) c0) (some (.int .i64 1)) none none).run Tryd.prog w' = .ok (.slice x1 zs.length c1) w' := by
      intro w'
      have q := hsl0 w'
      push_cast at q
      exact q
    clear h hrs hsl0
    rw [hlen]
    have hne : ¬ ((zs.length : Int) + 1 = 0) := by omega
    have hpos : (0 : Int) < (zs.length : Int) + 1 := by omega
    have hp0 : 0 < zs.length + 1 := by omega
    generalize zs.length = L0 at *
    generalize sfA zs = q at HAL hcount ⊢
    obtain ⟨fs, er⟩ := q
    dsimp only at HAL hcount
    have HCN := hid hcount
    go_enter Tryd.func67, Tryd.ntmps67
    go_wp2_with fail
    with_reducible refine HAL.out.mono ?_
    rintro e w1 ⟨lv, xs, rfl, hxd, hSM, hb1, -, -⟩
    have HB1 := hid hb1
    have HXD := hid hxd
    have HSM := hid hSM
    obtain ⟨xl, cl, rfl⟩ := row_any hSM.row
    have HXL := hid (show xs.length = fs.length by have := congrArg List.length hxd; rwa [List.length_map] at this)
    obtain ⟨g1, cap1, e1, -, -, hat⟩ := hSM.at
    injection e1 with e1a e1b e1c
    subst e1a e1c
    have HAT0 := hid (fun W (hW : SfM 36 W (.slice xl xs.length cl) xs) => hW.at)
    obtain ⟨N, hN⟩ : ∃ N, xs.length = N := ⟨_, rfl⟩
    have HN := hid hN
    have HGT := hid (fun k (hk : k < xs.length) => (show fs[k]? = some xs[k].d from by rw [← HXD.out, List.getElem?_map, List.getElem?_eq_getElem hk]; rfl))
    have hN6 : N ≤ 1000000 := by have h3 := HXL.out; omega
    rw [hN]
    clear hb1 hxd hSM hat e1b hN hc0 HAL
    go_wp2_with fail
    go_loopw [6, 24] (fun b i wr => ∃ (k : Nat) (ys : List RvV), k ≤ N ∧ i = .int .i64 k ∧ Hid (RowV w1.heap.size wr b ys) ∧ Hid (ys.map RvV.d = (fs.take k).map SfD.data ∧ (∀ d ∈ fs.take k, badB d = false) ∧ ys.length = k) ∧ Hid (SfM 36 wr (.slice xl N cl) xs) ∧ Hid (Below w1.heap.size w1 wr)) (fun _ i _ => N - (intOf i).toNat)
    case atStart => exact ⟨0, [], Nat.zero_le _, rfl, hid (RowV.nil _ _), hid ⟨rfl, fun _ q => (by cases q), rfl⟩, hid (by rw [← HN.out]; exact HSM.out), hid (Below.refl _ _)⟩
    case round =>
      obtain ⟨k, ys, hk, rfl, HM, HX, HS, HB⟩ := hrel
      obtain ⟨xb, cb, rfl⟩ := row_any HM.out.row
      by_cases hlt : k < N
      · have hki : (k : Int) < N := by omega
        have hkx : k < xs.length := by rw [HN.out]; exact hlt
        obtain ⟨xx, cc, ee, -, -, hat⟩ := HAT0.out wr (by rw [HN.out]; exact HS.out)
        injection ee with ee1 ee2 ee3
        subst ee1 ee3
        obtain ⟨g, rfl, hg, a0, a1⟩ := hat k hkx
        have hgt := HGT.out k hkx
        have ht := HS.out.txt _ (List.getElem_mem hkx)
        generalize xs[k] = x at a0 a1 hgt ht
        obtain ⟨⟨id, ds⟩, tv⟩ := x
        dsimp only at a0 a1 ht
        obtain ⟨nt, hnt⟩ : ∃ nt, ds.length = nt := ⟨_, rfl⟩
        obtain ⟨xt, ct, rfl⟩ := own_len ht nt hnt
        have HGT1 := hid hgt
        have hal : Below wr.heap.size wr (wr.alloc (.cells #[.int .u8 id, .slice xt nt ct] 36)) := bal (Below.refl _ _) _
        clear hat ee2
        by_cases hbad : badB ⟨id, ds⟩ = true
        · have HF := hid (show RpD (repG (fs, er)) w (.returned (.tuple #[.slice none 0 0, .int .i64 4])) (wr.alloc (.cells #[.int .u8 id, .slice xt nt ct] 36)) from by
            rw [repG_bad hgt hbad]
            exact ⟨.slice none 0 0, [], rfl, rfl, RpM.nil _, below_t HB1.out (below_t HB.out hal)⟩)
          have hb2 : id ≠ 129 ∨ (id = 129 ∧ nt = 0) := by
            unfold badB at hbad
            by_cases h129 : id = 129
            · refine .inr ⟨h129, ?_⟩
              subst h129
              simp at hbad
              rw [← hnt, hbad]
              rfl
            · exact .inl h129
          clear hbad hgt ht hnt hal
          rcases hb2 with h129 | ⟨rfl, rfl⟩
          · have hid129 : (id == 129) = false := by simpa using h129
            have hid129' : (id != 129) = true := by simpa using h129
            go_wp2
            go_ret2
            exact HF.out
          · go_wp2
            go_ret2
            exact HF.out
        · have hbf : badB ⟨id, ds⟩ = false := by simpa using hbad
          have hgood : id = 129 ∧ nt ≠ 0 := by
            unfold badB at hbf
            simp at hbf
            refine ⟨hbf.1, fun q => hbf.2 ?_⟩
            rw [q] at hnt
            exact List.length_eq_zero_iff.1 hnt
          obtain ⟨rfl, hnz⟩ := hgood
          have hnz' : ¬ ((nt : Int) = 0) := by omega
          have HBF := hid hbf
          have hbb : Below (wr.alloc (.cells #[.int .u8 129, .slice xt nt ct] 36)).heap.size (wr.alloc (.cells #[.int .u8 129, .slice xt nt ct] 36)) ((wr.alloc (.cells #[.int .u8 129, .slice xt nt ct] 36)).alloc (.cells #[.slice xt nt ct] 22)) := bal (Below.refl _ _) _
          have hba := below_t hal hbb
          have HMA := hid (HM.out.step hba)
          have HSA := hid (HS.out.step hba)
          have HDA := hid (ht.step hba)
          have HBA := hid (below_t HB.out hba)
          have HNS := hid (news_one (wr.alloc (.cells #[.int .u8 129, .slice xt nt ct] 36)) (.slice xt nt ct) 22 (wr.heap.size + 1) (by simp))
          have HYL := hid (show ys.length ≤ 1000000 from by have h1 := HX.out.2.2; have h2 := HCN.out; have h3 := HXL.out; have h4 := HN.out; omega)
          clear hbad hbf hgt ht hal hba hbb
          go_wp2_with (at_builtin; refine wpList_append_blk _ rfl _ _ 108 rfl 22 i0 _ 1 24 Tryd.underlying108 hi hz0 hz1 hz2 rfl (by decide) _ ys.length (cellsV ys) rfl HMA.out.row ⟨wr.heap.size + 1, 0, none⟩ 1 1 [.slice xt nt ct] rfl rfl HNS.out (one_tv _ rfl) (by have := HYL.out; unfold maxLen; omega) (by have := HYL.out; omega) ?_; intro v' W1 hown' hgrow _ hb'; have HM9 := hid (RowV.snoc (x := ⟨ds, .slice xt nt ct⟩) HMA.out HBA.out.size HDA.out hown' hgrow hb'); have HS9 := hid (HSA.out.other (by decide) (by decide) HMA.out.row hgrow); have HB9 := hid (HBA.out.grown hgrow HBA.out.size (fun q e => HMA.out.fr q (mem_blkV.2 e))); obtain ⟨g', cap', rfl⟩ := row_any hown'; clear hown' hgrow hb')
          go_roundw
          case rel =>
            refine ⟨k + 1, ys ++ [⟨ds, .slice xt nt ct⟩], by omega, by go_num, HM9, hid ⟨by rw [List.map_append, HX.out.1, take_one _ _ _ HGT1.out, List.map_append]; rfl, fun d hd => ?_, by rw [List.length_append, HX.out.2.2]; rfl⟩, HS9, HB9⟩
            rw [take_one _ _ _ HGT1.out] at hd
            rcases List.mem_append.1 hd with q | q
            · exact HX.out.2.1 d q
            · rw [List.mem_singleton.1 q]; exact HBF.out
          case measure => simp [intOf]; omega
      · have hkn : N = k := by omega
        subst hkn
        have htk : fs.take N = fs := List.take_of_length_le (by have h3 := HXL.out; have h4 := HN.out; omega)
        have hgood : ∀ d ∈ fs, badB d = false := fun d hd => HX.out.2.1 d (by rw [htk]; exact hd)
        by_cases he : er = 0
        · subst he
          have HF := hid (show RpD (repG (fs, 0)) w (.returned (.tuple #[.slice xb ys.length cb, .int .i64 0])) wr from by
            rw [repG_ok hgood rfl]
            exact ⟨_, ys, rfl, by rw [HX.out.1, htk], ⟨HM.out.row, HM.out.dat⟩, below_t HB1.out HB.out⟩)
          clear htk hgood
          go_wp2
          go_ret2
          exact HF.out
        · have HF := hid (show RpD (repG (fs, er)) w (.returned (.tuple #[.slice none 0 0, .int .i64 er])) wr from by
            rw [repG_er hgood he]
            exact ⟨.slice none 0 0, [], rfl, rfl, RpM.nil _, below_t HB1.out HB.out⟩)
          have hne1 : (er == 0) = false := by simpa using he
          have hne2 : (er != 0) = true := by simpa using he
          clear htk hgood
          go_wp2
          go_ret2
          exact HF.out
  · rw [if_pos hb]
    have hbn : (b == 136) = false := by simpa using hb
    have hne : ¬ ((zs.length : Int) + 1 = 0) := by omega
    have hpos : (0 : Int) < (zs.length : Int) + 1 := by omega
    have hp0 : 0 < zs.length + 1 := by omega
    rw [hlen]
    clear h hb
    generalize zs.length = L0 at *
    go_enter Tryd.func67, Tryd.ntmps67
    go_wp2
    go_ret2
    exact ⟨.slice none 0 0, [], rfl, rfl, RpM.nil _, Below.refl _ _⟩
end Go.Proofs.YtdpgmepblmlaaaaDoor
