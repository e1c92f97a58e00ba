/-
  Any two lists of bytes, any two acts, held against one another.
-/
import Derived.Test.YtdpgmepblmlaaaaDoorRs
import Derived.Lib.Bytes
namespace Go.Proofs.YtdpgmepblmlaaaaDoor
open Go.RowKit Go.Lib Go.Deep

theorem str_inj {xs ys : List Int} (h : BytL xs) (k : BytL ys) (e : (strOfNums xs).toList = (strOfNums ys).toList) : xs = ys := by
  have q : ∀ l : List Int, BytL l → (bytesOf l).map (fun b => (b.toNat : Int)) = l := by
    intro l hl
    unfold bytesOf
    rw [List.map_map]
    conv => rhs; rw [← List.map_id l]
    refine List.map_congr_left fun x hx => ?_
    have := hl x hx
    show (((UInt8.ofNat x.toNat).toNat : Nat) : Int) = x
    rw [UInt8.toNat_ofNat']
    omega
  rw [← q xs h, ← q ys k, ← strOfNums_toList, ← strOfNums_toList, e]
set_option maxRecDepth 100000 in
theorem vsame_any (v u : Value) (xs ys : List Int) (w : World) (hv : Reads w v xs) (hu : Reads w u ys) : Calls Tryd.prog 26 #[v, u] w fun e w' => (∃ r, e = .returned (.bool r) ∧ (r = true ↔ xs = ys)) ∧ w = w' := by
  by_cases hxy : xs = ys
  · subst hxy
    exact (same_true v u xs w hv hu).mono (fun _ _ q => ⟨⟨true, q.1, by simp⟩, q.2⟩)
  · have e1 := reads_conv hv
    have e2 := reads_conv hu
    have hne : ((strOfNums xs).toList == (strOfNums ys).toList) = false := by
      rw [beq_eq_false_iff_ne]
      exact fun q => hxy (str_inj hv.1 hu.1 q)
    have HE := hid (show ∃ r, Ending.returned (.bool false) = .returned (.bool r) ∧ (r = true ↔ xs = ys) from ⟨false, rfl, by simp [hxy]⟩)
    generalize strOfNums xs = S at e1 hne
    generalize strOfNums ys = T at e2 hne
    clear hv hu hxy
    go_enter Tryd.func26, Tryd.ntmps26
    go_wp2
    go_ret
    exact ⟨HE.out, rfl⟩
set_option maxRecDepth 100000 in
set_option maxHeartbeats 4000000 in
theorem rsame_gen (a b : AcD) (cv rv cu ru : Value) (w : World) (h1 : Reads w cv a.codes) (h2 : Reads w rv a.rcd) (h3 : Reads w cu b.codes) (h4 : Reads w ru b.rcd) : Calls Tryd.prog 18 #[acV a cv rv, acV b cu ru] w fun e w' => (∃ r, e = .returned (.bool r) ∧ (r = true ↔ a = b)) ∧ Below w.heap.size w w' := by
  obtain ⟨k, cd, md, al, rq, cs, rs⟩ := a
  obtain ⟨k2, cd2, md2, al2, rq2, cs2, rs2⟩ := b
  unfold acV
  dsimp only at h1 h2 h3 h4 ⊢
  obtain ⟨x1, c1, rfl⟩ := reads_sl h1
  obtain ⟨x2, c2, rfl⟩ := reads_sl h2
  obtain ⟨x3, c3, rfl⟩ := reads_sl h3
  obtain ⟨x4, c4, rfl⟩ := reads_sl h4
  have hb : Below w.heap.size w ((w.alloc (.cells #[.int .i64 k, .int .i64 cd, .int .i64 md, .bool al, .int .u8 rq, .slice x1 cs.length c1, .slice x2 rs.length c2] 41)).alloc (.cells #[.int .i64 k2, .int .i64 cd2, .int .i64 md2, .bool al2, .int .u8 rq2, .slice x3 cs2.length c3, .slice x4 rs2.length c4] 41)) := bal (bal (Below.refl _ _) _) _
  have HS1 := hid (vsame_any _ _ cs cs2 _ (reads_below h1 hb) (reads_below h3 hb))
  have HS2 := hid (vsame_any _ _ rs rs2 _ (reads_below h2 hb) (reads_below h4 hb))
  have HB := hid hb
  generalize cs.length = n1 at *
  generalize rs.length = n2 at *
  generalize cs2.length = n3 at *
  generalize rs2.length = n4 at *
  clear h1 h2 h3 h4 hb
  simp only [AcD.mk.injEq]
  by_cases e0 : k = k2
  · subst e0
    by_cases e1 : cd = cd2
    · subst e1
      by_cases e2 : md = md2
      · subst e2
        by_cases e3 : al = al2
        · subst e3
          by_cases e4 : rq = rq2
          · subst e4
            go_enter Tryd.func18, Tryd.ntmps18
            go_wp2_with fail
            with_reducible refine HS1.out.mono ?_
            rintro e w1 ⟨⟨r1, rfl, hr1⟩, rfl⟩
            have HR1 := hid hr1
            clear hr1
            cases r1
            · have HNE := hid (show ¬ cs = cs2 from fun q => by have := HR1.out.2 q; cases this)
              go_wp2
              go_ret
              exact ⟨⟨false, rfl, by simp [HNE.out]⟩, HB.out⟩
            · have hcs : cs = cs2 := HR1.out.1 rfl
              go_wp2_with fail
              with_reducible refine HS2.out.mono ?_
              rintro e w1 ⟨⟨r2, rfl, hr2⟩, rfl⟩
              have HR2 := hid hr2
              have HCS := hid hcs
              clear hr2 hcs
              go_wp2
              go_ret
              exact ⟨⟨r2, rfl, by simp [HR2.out, HCS.out]⟩, HB.out⟩
          · have HNE := hid e4
            have f4 : (rq == rq2) = false := by simpa using e4
            clear HS1 HS2
            go_enter Tryd.func18, Tryd.ntmps18
            go_wp2
            go_ret
            exact ⟨⟨false, rfl, by simp [HNE.out]⟩, HB.out⟩
        · have HNE := hid e3
          have f3 : (al == al2) = false := by simpa using e3
          clear HS1 HS2
          go_enter Tryd.func18, Tryd.ntmps18
          go_wp2
          go_ret
          exact ⟨⟨false, rfl, by simp [HNE.out]⟩, HB.out⟩
      · have HNE := hid e2
        have f2 : (md == md2) = false := by simpa using e2
        clear HS1 HS2
        go_enter Tryd.func18, Tryd.ntmps18
        go_wp2
        go_ret
        exact ⟨⟨false, rfl, by simp [HNE.out]⟩, HB.out⟩
    · have HNE := hid e1
      have f1 : (cd == cd2) = false := by simpa using e1
      clear HS1 HS2
      go_enter Tryd.func18, Tryd.ntmps18
      go_wp2
      go_ret
      exact ⟨⟨false, rfl, by simp [HNE.out]⟩, HB.out⟩
  · have HNE := hid e0
    have f0 : (k == k2) = false := by simpa using e0
    clear HS1 HS2
    go_enter Tryd.func18, Tryd.ntmps18
    go_wp2
    go_ret
    exact ⟨⟨false, rfl, by simp [HNE.out]⟩, HB.out⟩
end Go.Proofs.YtdpgmepblmlaaaaDoor
