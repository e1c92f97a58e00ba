/-
  sfield: the field of an act, whether or not it has the form.
-/
import Derived.Test.YtdpgmepblmlaaaaDoorSe
import Derived.Test.YtdpgmepblmlaaaaDoorSb
namespace Go.Proofs.YtdpgmepblmlaaaaDoor
open Go.RowKit Go.Lib Go.Deep

set_option maxRecDepth 100000 in
set_option maxHeartbeats 2000000 in
theorem size_any (a : AcD) (cv rv : Value) (hcv : ∃ x n c, cv = .slice x n c) (hrv : ∃ x n c, rv = .slice x n c) (w : World) : Calls Tryd.prog 76 #[acV a cv rv] w fun e w' => e = .returned (.int .u8 (if a.alt then 128 else 0)) ∧ Below w.heap.size w w' := by
  obtain ⟨x, n, c, rfl⟩ := hcv
  obtain ⟨x', n', c', rfl⟩ := hrv
  obtain ⟨k, cd, md, al, rq, cs, rs⟩ := a
  unfold acV
  dsimp only
  cases al
  · go_enter Tryd.func76, Tryd.ntmps76
    go_wp2
    go_ret
    exact ⟨rfl, bal (Below.refl _ _) _⟩
  · go_enter Tryd.func76, Tryd.ntmps76
    go_wp2
    go_ret
    exact ⟨rfl, bal (Below.refl _ _) _⟩
/-- Of any act: whether there is such a kind, the field. -/
def plF (a : AcD) : Bool × SfD := if a.kind < 1 ∨ 9 < a.kind then (false, sfZ) else (true, fieldF a)
/-- A field of one's own, and whether there is one. -/
def PlD (m : Bool × SfD) (w : World) (e : Ending) (w' : World) : Prop := ∃ dv, e = .returned (.tuple #[.agg #[.int .u8 m.2.id, dv], .bool m.1]) ∧ OwnB w' dv m.2.data ∧ Below w.heap.size w w' ∧ ∀ k ∈ blkV dv, w.heap.size ≤ k
theorem pl_end {w w' : World} {fd : SfD} {id : Int} {zs : List Int} {dv : Value} (hfd : fd = ⟨id, zs⟩) (hb : Below w.heap.size w w') (ho : OwnB w' dv zs) (hk : ∀ k ∈ blkV dv, w.heap.size + 1 < k) :
    PlD (true, fd) w (.returned (.tuple #[.agg #[.int .u8 id, dv], .bool true])) ((w'.setCell ⟨w.heap.size + 1, 0, none⟩ (.int .u8 id)).setCell ⟨w.heap.size + 1, 1, none⟩ dv) := by
  subst hfd
  exact ⟨_, rfl, put2_own _ _ ho hk, (hb.setCell (p := ⟨w.heap.size + 1, 0, none⟩) (by exact Nat.le_succ _) _).setCell (p := ⟨w.heap.size + 1, 1, none⟩) (by exact Nat.le_succ _) _, fun k h => by have := hk k h; omega⟩
theorem row_bytes {w : World} {B : Nat} {y : Option Addr} {n cap : Nat} {zs : List Int} (h : w.ownsRow B 5 1 (.slice y n cap) n (zs.map (Value.int .u8))) (hb : BytL zs) (hn : zs.length = n) : OwnB w (.slice y n cap) zs := by
  subst hn
  exact ⟨hb, h.mono (Nat.zero_le _)⟩
set_option maxRecDepth 100000 in
set_option maxHeartbeats 4000000 in
theorem plain_1 (a : AcD) (cv rv : Value) (w : World) (h1 : Reads w cv a.codes) (h2 : Reads w rv a.rcd) (hk : a.kind = 1) : Calls Tryd.prog 57 #[acV a cv rv] w (PlD (true, fieldF a) w) := by
  have HPA := hid (fun W => (show Calls Tryd.prog 71 #[acV a cv rv] W fun e w' => e = .returned (.int .u8 255) ∧ Below W.heap.size W w' from by
    have q := part_any a cv rv (by obtain ⟨x, c, e⟩ := reads_sl h1; exact ⟨x, _, c, e⟩) (by obtain ⟨x, c, e⟩ := reads_sl h2; exact ⟨x, _, c, e⟩) W
    rw [show partA a = 255 by unfold partA; rw [hk]; rfl] at q
    exact q))
  obtain ⟨k, cd, md, al, rq, cs, rs⟩ := a
  unfold acV at HPA ⊢
  dsimp only at h1 h2 hk HPA ⊢
  subst hk
  have HFD := hid (show fieldF ⟨1, cd, md, al, rq, cs, rs⟩ = ⟨1, [255, 2]⟩ from rfl)
  generalize fieldF ⟨1, cd, md, al, rq, cs, rs⟩ = fd at HFD ⊢
  obtain ⟨x1, c1, rfl⟩ := reads_sl h1
  obtain ⟨x2, c2, rfl⟩ := reads_sl h2
  generalize cs.length = n1 at *
  generalize rs.length = n2 at *
  clear h1 h2
  go_enter Tryd.func57, Tryd.ntmps57
  go_wp2_with fail
  with_reducible refine (HPA.out _).mono ?_
  rintro e V0 ⟨rfl, hb0⟩
  have hsz := hb0.size
  rw [World.size_alloc, World.size_alloc] at hsz
  go_upto_region 2 with fail
  obtain ⟨V1, hV1⟩ : ∃ V1, V0.alloc (.cells #[.int .u8 255] 5) = V1 := ⟨_, rfl⟩
  have hbx := below_t hb0 (bal (Below.refl V0.heap.size V0) (.cells #[.int .u8 255] 5))
  have HB1 := hid (show Below w.heap.size w V1 by rw [← hV1]; exact below_t (bal (bal (Below.refl _ _) _) _) hbx)
  have HX := hid (show Box7 V1 w.heap.size (.int .i64 1) (.int .i64 cd) (.int .i64 md) (.bool al) (.int .u8 rq) (.slice x1 n1 c1) (.slice x2 n2 c2) by rw [← hV1]; exact (Box7.step (Box7.step (Box7.new w 38) (bal (Below.refl _ _) _)) hbx))
  have HY := hid (show Box2 V1 (w.heap.size + 1) (.int .u8 0) (.slice none 0 0) by rw [← hV1]; exact Box2.step ⟨by simp [go_sem], by simp [go_sem], by simp [go_sem], by simp [go_sem]⟩ hbx)
  have HD := hid (show OwnB V1 (.slice (some ⟨V0.heap.size, 0, none⟩) 1 1) [255] by rw [← hV1]; exact own_lit V0 #[.int .u8 255] 1 [255] (by decide) rfl rfl (by omega) _ rfl)
  have hlt : V0.heap.size < V1.heap.size := by rw [← hV1]; simp
  rw [hV1]
  clear hV1 hbx hb0 HPA
  generalize V0.heap.size = B0 at *
  have hlt1 : w.heap.size < V1.heap.size := by omega
  obtain ⟨z0, z1, z2, z3, z4, z5, z6, -⟩ := HX.out
  have HDV := hid (HD.out)
  have HO := hid (own_base (HDV.out.step (bal (Below.refl V1.heap.size V1) (.cells #[.int .u8 (2)] 5))).2 (B := B0) (fun k hk => by simp [blkV, Value.ownBlock] at hk; omega))
  have HU := hid (own_lit V1 #[.int .u8 (2)] 1 [2] (by decide) rfl rfl (by omega) V1.heap.size rfl).reads
  have HYl := hid (HY.out.step (bal (Below.refl V1.heap.size V1) (.cells #[.int .u8 (2)] 5)))
  have HBl := hid (bal HB1.out (.cells #[.int .u8 (2)] 5))
  have hB0 : B0 ≤ (V1.alloc (.cells #[.int .u8 (2)] 5)).heap.size := by rw [World.size_alloc]; omega
  clear HX HY HD HDV
  go_wp2_with (at_builtin; refine wpList_append_bytes rfl (.tmp 12) (.tmp 13) rfl B0 1 _ _ [255] [2] rfl rfl HO.out HU.out (by show 2 ≤ 10000000; omega) hB0 2 rfl [255, 2] rfl ?_; intro y cap w' hown hgrow; have hmv : Moved _ w' [B0] [] := Moved.grown hgrow (fun k hk => List.mem_singleton.2 (Option.some.inj hk).symm) (fun k hk => by cases hk); have HYg := hid (HYl.out.moved hmv (fun q => by have := List.mem_singleton.1 q; omega)); have HBg := hid (HBl.out.grown hgrow HBl.out.size (fun k hk => by have e : B0 = k := Option.some.inj hk; omega)); have HDg := hid (row_bytes hown (by decide : ∀ x ∈ ([255, 2] : List Int), 0 ≤ x ∧ x < 256) rfl); have HKg := hid (show ∀ k ∈ blkV (.slice y 2 cap), w.heap.size + 1 < k from fun k hk => by have := (hown.lt k (mem_blkV.1 hk)).1; omega); obtain ⟨y0, y1, y2, y3⟩ := HYg.out; clear hown hgrow hmv HYl HBl HO HU)
  obtain ⟨r0, r1, -, -⟩ := HYg.out.put (.int .u8 1) (.slice y 2 cap)
  have HF := hid (pl_end HFD.out HBg.out HDg.out HKg.out)
  obtain ⟨y0, y1, y2, y3⟩ := HYg.out
  clear HYg HBg HDg HKg HFD
  revert r0 r1 HF
  generalize hW : ((w'.setCell ⟨w.heap.size + 1, 0, none⟩ (.int .u8 1)).setCell ⟨w.heap.size + 1, 1, none⟩ (.slice y 2 cap)) = Wf
  intro r0 r1 HF
  go_wp2
  (try rw [hW])
  exact bodyPost_ret (v := .tuple #[.agg #[.int .u8 1, .slice y 2 cap], .bool true]) (by simp [results, Tryd.results57, go_sem, r0, r1]) rfl HF.out
set_option maxRecDepth 100000 in
set_option maxHeartbeats 4000000 in
theorem plain_3 (a : AcD) (cv rv : Value) (w : World) (h1 : Reads w cv a.codes) (h2 : Reads w rv a.rcd) (hk : a.kind = 3) (hI : I64 a.cmd) (hC : Cods w) : Calls Tryd.prog 57 #[acV a cv rv] w (PlD (true, fieldF a) w) := by
  have HPA := hid (fun W => (show Calls Tryd.prog 71 #[acV a cv rv] W fun e w' => e = .returned (.int .u8 0) ∧ Below W.heap.size W w' from by
    have q := part_any a cv rv (by obtain ⟨x, c, e⟩ := reads_sl h1; exact ⟨x, _, c, e⟩) (by obtain ⟨x, c, e⟩ := reads_sl h2; exact ⟨x, _, c, e⟩) W
    rw [show partA a = 0 by unfold partA; rw [hk]; rfl] at q
    exact q))
  obtain ⟨k, cd, md, al, rq, cs, rs⟩ := a
  unfold acV at HPA ⊢
  dsimp only at h1 h2 hk HPA hI ⊢
  subst hk
  have HFD := hid (show fieldF ⟨3, cd, md, al, rq, cs, rs⟩ = ⟨1, [0, (ncF cd).2.2]⟩ from rfl)
  generalize fieldF ⟨3, cd, md, al, rq, cs, rs⟩ = fd at HFD ⊢
  obtain ⟨x1, c1, rfl⟩ := reads_sl h1
  obtain ⟨x2, c2, rfl⟩ := reads_sl h2
  generalize cs.length = n1 at *
  generalize rs.length = n2 at *
  clear h1 h2
  go_enter Tryd.func57, Tryd.ntmps57
  go_wp2_with fail
  with_reducible refine (HPA.out _).mono ?_
  rintro e V0 ⟨rfl, hb0⟩
  have hsz := hb0.size
  rw [World.size_alloc, World.size_alloc] at hsz
  go_upto_region 2 with fail
  obtain ⟨V1, hV1⟩ : ∃ V1, V0.alloc (.cells #[.int .u8 0] 5) = V1 := ⟨_, rfl⟩
  have hbx := below_t hb0 (bal (Below.refl V0.heap.size V0) (.cells #[.int .u8 0] 5))
  have HB1 := hid (show Below w.heap.size w V1 by rw [← hV1]; exact below_t (bal (bal (Below.refl _ _) _) _) hbx)
  have HX := hid (show Box7 V1 w.heap.size (.int .i64 3) (.int .i64 cd) (.int .i64 md) (.bool al) (.int .u8 rq) (.slice x1 n1 c1) (.slice x2 n2 c2) by rw [← hV1]; exact (Box7.step (Box7.step (Box7.new w 38) (bal (Below.refl _ _) _)) hbx))
  have HY := hid (show Box2 V1 (w.heap.size + 1) (.int .u8 0) (.slice none 0 0) by rw [← hV1]; exact Box2.step ⟨by simp [go_sem], by simp [go_sem], by simp [go_sem], by simp [go_sem]⟩ hbx)
  have HD := hid (show OwnB V1 (.slice (some ⟨V0.heap.size, 0, none⟩) 1 1) [0] by rw [← hV1]; exact own_lit V0 #[.int .u8 0] 1 [0] (by decide) rfl rfl (by omega) _ rfl)
  have hlt : V0.heap.size < V1.heap.size := by rw [← hV1]; simp
  rw [hV1]
  clear hV1 hbx hb0 HPA
  generalize V0.heap.size = B0 at *
  have hlt1 : w.heap.size < V1.heap.size := by omega
  obtain ⟨z0, z1, z2, z3, z4, z5, z6, -⟩ := HX.out
  have HBO := hid (byte_of cd hI V1 (hC.go HB1.out))
  go_wp2_with fail
  with_reducible refine HBO.out.mono ?_
  rintro e V2 ⟨rfl, hbc⟩
  have hV12 := hbc.size
  clear z0 z1 z2 z3 z4 z5 z6 HBO
  have HDV := hid (HD.out.step hbc)
  have HO := hid (own_base (HDV.out.step (bal (Below.refl V2.heap.size V2) (.cells #[.int .u8 ((ncF cd).2.2)] 5))).2 (B := B0) (fun k hk => by simp [blkV, Value.ownBlock] at hk; omega))
  have HU := hid (own_lit V2 #[.int .u8 ((ncF cd).2.2)] 1 [(ncF cd).2.2] (fun x hx => ncF_byt cd x (List.mem_cons_of_mem _ hx)) rfl rfl (by omega) V2.heap.size rfl).reads
  have HYl := hid ((HY.out.step hbc).step (bal (Below.refl V2.heap.size V2) (.cells #[.int .u8 ((ncF cd).2.2)] 5)))
  have HBl := hid (bal (below_t HB1.out hbc) (.cells #[.int .u8 ((ncF cd).2.2)] 5))
  have hB0 : B0 ≤ (V2.alloc (.cells #[.int .u8 ((ncF cd).2.2)] 5)).heap.size := by rw [World.size_alloc]; omega
  clear HX HY HD HDV
  go_wp2_with (at_builtin; refine wpList_append_bytes rfl (.tmp 29) (.tmp 33) rfl B0 1 _ _ [0] [(ncF cd).2.2] rfl rfl HO.out HU.out (by show 2 ≤ 10000000; omega) hB0 2 rfl [0, (ncF cd).2.2] rfl ?_; intro y cap w' hown hgrow; have hmv : Moved _ w' [B0] [] := Moved.grown hgrow (fun k hk => List.mem_singleton.2 (Option.some.inj hk).symm) (fun k hk => by cases hk); have HYg := hid (HYl.out.moved hmv (fun q => by have := List.mem_singleton.1 q; omega)); have HBg := hid (HBl.out.grown hgrow HBl.out.size (fun k hk => by have e : B0 = k := Option.some.inj hk; omega)); have HDg := hid (row_bytes hown (ncF_byt cd) rfl); have HKg := hid (show ∀ k ∈ blkV (.slice y 2 cap), w.heap.size + 1 < k from fun k hk => by have := (hown.lt k (mem_blkV.1 hk)).1; omega); obtain ⟨y0, y1, y2, y3⟩ := HYg.out; clear hown hgrow hmv HYl HBl HO HU)
  obtain ⟨r0, r1, -, -⟩ := HYg.out.put (.int .u8 1) (.slice y 2 cap)
  have HF := hid (pl_end HFD.out HBg.out HDg.out HKg.out)
  obtain ⟨y0, y1, y2, y3⟩ := HYg.out
  clear HYg HBg HDg HKg HFD
  revert r0 r1 HF
  generalize hW : ((w'.setCell ⟨w.heap.size + 1, 0, none⟩ (.int .u8 1)).setCell ⟨w.heap.size + 1, 1, none⟩ (.slice y 2 cap)) = Wf
  intro r0 r1 HF
  go_wp2
  (try rw [hW])
  exact bodyPost_ret (v := .tuple #[.agg #[.int .u8 1, .slice y 2 cap], .bool true]) (by simp [results, Tryd.results57, go_sem, r0, r1]) rfl HF.out
set_option maxRecDepth 100000 in
set_option maxHeartbeats 4000000 in
theorem plain_5 (a : AcD) (cv rv : Value) (w : World) (h1 : Reads w cv a.codes) (h2 : Reads w rv a.rcd) (hk : a.kind = 5) : Calls Tryd.prog 57 #[acV a cv rv] w (PlD (true, fieldF a) w) := by
  have HPA := hid (fun W => (show Calls Tryd.prog 71 #[acV a cv rv] W fun e w' => e = .returned (.int .u8 0) ∧ Below W.heap.size W w' from by
    have q := part_any a cv rv (by obtain ⟨x, c, e⟩ := reads_sl h1; exact ⟨x, _, c, e⟩) (by obtain ⟨x, c, e⟩ := reads_sl h2; exact ⟨x, _, c, e⟩) W
    rw [show partA a = 0 by unfold partA; rw [hk]; rfl] at q
    exact q))
  obtain ⟨k, cd, md, al, rq, cs, rs⟩ := a
  unfold acV at HPA ⊢
  dsimp only at h1 h2 hk HPA ⊢
  subst hk
  have HFD := hid (show fieldF ⟨5, cd, md, al, rq, cs, rs⟩ = ⟨9, [0, md % 256]⟩ from rfl)
  generalize fieldF ⟨5, cd, md, al, rq, cs, rs⟩ = fd at HFD ⊢
  obtain ⟨x1, c1, rfl⟩ := reads_sl h1
  obtain ⟨x2, c2, rfl⟩ := reads_sl h2
  generalize cs.length = n1 at *
  generalize rs.length = n2 at *
  clear h1 h2
  go_enter Tryd.func57, Tryd.ntmps57
  go_wp2_with fail
  with_reducible refine (HPA.out _).mono ?_
  rintro e V0 ⟨rfl, hb0⟩
  have hsz := hb0.size
  rw [World.size_alloc, World.size_alloc] at hsz
  go_upto_region 2 with fail
  obtain ⟨V1, hV1⟩ : ∃ V1, V0.alloc (.cells #[.int .u8 0] 5) = V1 := ⟨_, rfl⟩
  have hbx := below_t hb0 (bal (Below.refl V0.heap.size V0) (.cells #[.int .u8 0] 5))
  have HB1 := hid (show Below w.heap.size w V1 by rw [← hV1]; exact below_t (bal (bal (Below.refl _ _) _) _) hbx)
  have HX := hid (show Box7 V1 w.heap.size (.int .i64 5) (.int .i64 cd) (.int .i64 md) (.bool al) (.int .u8 rq) (.slice x1 n1 c1) (.slice x2 n2 c2) by rw [← hV1]; exact (Box7.step (Box7.step (Box7.new w 38) (bal (Below.refl _ _) _)) hbx))
  have HY := hid (show Box2 V1 (w.heap.size + 1) (.int .u8 0) (.slice none 0 0) by rw [← hV1]; exact Box2.step ⟨by simp [go_sem], by simp [go_sem], by simp [go_sem], by simp [go_sem]⟩ hbx)
  have HD := hid (show OwnB V1 (.slice (some ⟨V0.heap.size, 0, none⟩) 1 1) [0] by rw [← hV1]; exact own_lit V0 #[.int .u8 0] 1 [0] (by decide) rfl rfl (by omega) _ rfl)
  have hlt : V0.heap.size < V1.heap.size := by rw [← hV1]; simp
  rw [hV1]
  clear hV1 hbx hb0 HPA
  generalize V0.heap.size = B0 at *
  have hlt1 : w.heap.size < V1.heap.size := by omega
  obtain ⟨z0, z1, z2, z3, z4, z5, z6, -⟩ := HX.out
  have HDV := hid (HD.out)
  have HO := hid (own_base (HDV.out.step (bal (Below.refl V1.heap.size V1) (.cells #[.int .u8 (md % 256)] 5))).2 (B := B0) (fun k hk => by simp [blkV, Value.ownBlock] at hk; omega))
  have HU := hid (own_lit V1 #[.int .u8 (md % 256)] 1 [md % 256] (fun x hx => wrap_byt md x (List.mem_cons_of_mem _ hx)) rfl rfl (by omega) V1.heap.size rfl).reads
  have HYl := hid (HY.out.step (bal (Below.refl V1.heap.size V1) (.cells #[.int .u8 (md % 256)] 5)))
  have HBl := hid (bal HB1.out (.cells #[.int .u8 (md % 256)] 5))
  have hB0 : B0 ≤ (V1.alloc (.cells #[.int .u8 (md % 256)] 5)).heap.size := by rw [World.size_alloc]; omega
  clear HX HY HD HDV
  go_wp2_with (at_builtin; refine wpList_append_bytes rfl (.tmp 44) (.tmp 48) rfl B0 1 _ _ [0] [md % 256] rfl rfl HO.out HU.out (by show 2 ≤ 10000000; omega) hB0 2 rfl [0, md % 256] rfl ?_; intro y cap w' hown hgrow; have hmv : Moved _ w' [B0] [] := Moved.grown hgrow (fun k hk => List.mem_singleton.2 (Option.some.inj hk).symm) (fun k hk => by cases hk); have HYg := hid (HYl.out.moved hmv (fun q => by have := List.mem_singleton.1 q; omega)); have HBg := hid (HBl.out.grown hgrow HBl.out.size (fun k hk => by have e : B0 = k := Option.some.inj hk; omega)); have HDg := hid (row_bytes hown (wrap_byt md) rfl); have HKg := hid (show ∀ k ∈ blkV (.slice y 2 cap), w.heap.size + 1 < k from fun k hk => by have := (hown.lt k (mem_blkV.1 hk)).1; omega); obtain ⟨y0, y1, y2, y3⟩ := HYg.out; clear hown hgrow hmv HYl HBl HO HU)
  obtain ⟨r0, r1, -, -⟩ := HYg.out.put (.int .u8 9) (.slice y 2 cap)
  have HF := hid (pl_end HFD.out HBg.out HDg.out HKg.out)
  obtain ⟨y0, y1, y2, y3⟩ := HYg.out
  clear HYg HBg HDg HKg HFD
  revert r0 r1 HF
  generalize hW : ((w'.setCell ⟨w.heap.size + 1, 0, none⟩ (.int .u8 9)).setCell ⟨w.heap.size + 1, 1, none⟩ (.slice y 2 cap)) = Wf
  intro r0 r1 HF
  go_wp2
  (try rw [hW])
  exact bodyPost_ret (v := .tuple #[.agg #[.int .u8 9, .slice y 2 cap], .bool true]) (by simp [results, Tryd.results57, go_sem, r0, r1]) rfl HF.out
set_option maxRecDepth 100000 in
set_option maxHeartbeats 4000000 in
theorem plain_6 (a : AcD) (cv rv : Value) (w : World) (h1 : Reads w cv a.codes) (h2 : Reads w rv a.rcd) (hk : a.kind = 6) : Calls Tryd.prog 57 #[acV a cv rv] w (PlD (true, fieldF a) w) := by
  have HPA := hid (fun W => (show Calls Tryd.prog 71 #[acV a cv rv] W fun e w' => e = .returned (.int .u8 0) ∧ Below W.heap.size W w' from by
    have q := part_any a cv rv (by obtain ⟨x, c, e⟩ := reads_sl h1; exact ⟨x, _, c, e⟩) (by obtain ⟨x, c, e⟩ := reads_sl h2; exact ⟨x, _, c, e⟩) W
    rw [show partA a = 0 by unfold partA; rw [hk]; rfl] at q
    exact q))
  obtain ⟨k, cd, md, al, rq, cs, rs⟩ := a
  unfold acV at HPA ⊢
  dsimp only at h1 h2 hk HPA ⊢
  subst hk
  have HFD := hid (show fieldF ⟨6, cd, md, al, rq, cs, rs⟩ = ⟨12, [0]⟩ from rfl)
  generalize fieldF ⟨6, cd, md, al, rq, cs, rs⟩ = fd at HFD ⊢
  obtain ⟨x1, c1, rfl⟩ := reads_sl h1
  obtain ⟨x2, c2, rfl⟩ := reads_sl h2
  generalize cs.length = n1 at *
  generalize rs.length = n2 at *
  clear h1 h2
  go_enter Tryd.func57, Tryd.ntmps57
  go_wp2_with fail
  with_reducible refine (HPA.out _).mono ?_
  rintro e V0 ⟨rfl, hb0⟩
  have hsz := hb0.size
  rw [World.size_alloc, World.size_alloc] at hsz
  go_upto_region 2 with fail
  obtain ⟨V1, hV1⟩ : ∃ V1, V0.alloc (.cells #[.int .u8 0] 5) = V1 := ⟨_, rfl⟩
  have hbx := below_t hb0 (bal (Below.refl V0.heap.size V0) (.cells #[.int .u8 0] 5))
  have HB1 := hid (show Below w.heap.size w V1 by rw [← hV1]; exact below_t (bal (bal (Below.refl _ _) _) _) hbx)
  have HX := hid (show Box7 V1 w.heap.size (.int .i64 6) (.int .i64 cd) (.int .i64 md) (.bool al) (.int .u8 rq) (.slice x1 n1 c1) (.slice x2 n2 c2) by rw [← hV1]; exact (Box7.step (Box7.step (Box7.new w 38) (bal (Below.refl _ _) _)) hbx))
  have HY := hid (show Box2 V1 (w.heap.size + 1) (.int .u8 0) (.slice none 0 0) by rw [← hV1]; exact Box2.step ⟨by simp [go_sem], by simp [go_sem], by simp [go_sem], by simp [go_sem]⟩ hbx)
  have HD := hid (show OwnB V1 (.slice (some ⟨V0.heap.size, 0, none⟩) 1 1) [0] by rw [← hV1]; exact own_lit V0 #[.int .u8 0] 1 [0] (by decide) rfl rfl (by omega) _ rfl)
  have hlt : V0.heap.size < V1.heap.size := by rw [← hV1]; simp
  rw [hV1]
  clear hV1 hbx hb0 HPA
  generalize V0.heap.size = B0 at *
  have hlt1 : w.heap.size < V1.heap.size := by omega
  obtain ⟨z0, z1, z2, z3, z4, z5, z6, -⟩ := HX.out
  have HYg := hid HY.out
  have HBg := hid HB1.out
  have HDg := hid HD.out
  have HKg := hid (show ∀ k ∈ blkV (.slice (some ⟨B0, 0, none⟩) 1 1), w.heap.size + 1 < k from fun k hk => by simp [blkV, Value.ownBlock] at hk; omega)
  clear HX HY HD
  obtain ⟨r0, r1, -, -⟩ := HYg.out.put (.int .u8 12) (.slice (some ⟨B0, 0, none⟩) 1 1)
  have HF := hid (pl_end HFD.out HBg.out HDg.out HKg.out)
  obtain ⟨y0, y1, y2, y3⟩ := HYg.out
  clear HYg HBg HDg HKg HFD
  revert r0 r1 HF
  generalize hW : ((V1.setCell ⟨w.heap.size + 1, 0, none⟩ (.int .u8 12)).setCell ⟨w.heap.size + 1, 1, none⟩ (.slice (some ⟨B0, 0, none⟩) 1 1)) = Wf
  intro r0 r1 HF
  go_wp2
  (try rw [hW])
  exact bodyPost_ret (v := .tuple #[.agg #[.int .u8 12, .slice (some ⟨B0, 0, none⟩) 1 1], .bool true]) (by simp [results, Tryd.results57, go_sem, r0, r1]) rfl HF.out
set_option maxRecDepth 100000 in
set_option maxHeartbeats 4000000 in
theorem plain_7 (a : AcD) (cv rv : Value) (w : World) (h1 : Reads w cv a.codes) (h2 : Reads w rv a.rcd) (hk : a.kind = 7) : Calls Tryd.prog 57 #[acV a cv rv] w (PlD (true, fieldF a) w) := by
  have HPA := hid (fun W => (show Calls Tryd.prog 71 #[acV a cv rv] W fun e w' => e = .returned (.int .u8 0) ∧ Below W.heap.size W w' from by
    have q := part_any a cv rv (by obtain ⟨x, c, e⟩ := reads_sl h1; exact ⟨x, _, c, e⟩) (by obtain ⟨x, c, e⟩ := reads_sl h2; exact ⟨x, _, c, e⟩) W
    rw [show partA a = 0 by unfold partA; rw [hk]; rfl] at q
    exact q))
  obtain ⟨k, cd, md, al, rq, cs, rs⟩ := a
  unfold acV at HPA ⊢
  dsimp only at h1 h2 hk HPA ⊢
  subst hk
  have HFD := hid (show fieldF ⟨7, cd, md, al, rq, cs, rs⟩ = ⟨13, [0]⟩ from rfl)
  generalize fieldF ⟨7, cd, md, al, rq, cs, rs⟩ = fd at HFD ⊢
  obtain ⟨x1, c1, rfl⟩ := reads_sl h1
  obtain ⟨x2, c2, rfl⟩ := reads_sl h2
  generalize cs.length = n1 at *
  generalize rs.length = n2 at *
  clear h1 h2
  go_enter Tryd.func57, Tryd.ntmps57
  go_wp2_with fail
  with_reducible refine (HPA.out _).mono ?_
  rintro e V0 ⟨rfl, hb0⟩
  have hsz := hb0.size
  rw [World.size_alloc, World.size_alloc] at hsz
  go_upto_region 2 with fail
  obtain ⟨V1, hV1⟩ : ∃ V1, V0.alloc (.cells #[.int .u8 0] 5) = V1 := ⟨_, rfl⟩
  have hbx := below_t hb0 (bal (Below.refl V0.heap.size V0) (.cells #[.int .u8 0] 5))
  have HB1 := hid (show Below w.heap.size w V1 by rw [← hV1]; exact below_t (bal (bal (Below.refl _ _) _) _) hbx)
  have HX := hid (show Box7 V1 w.heap.size (.int .i64 7) (.int .i64 cd) (.int .i64 md) (.bool al) (.int .u8 rq) (.slice x1 n1 c1) (.slice x2 n2 c2) by rw [← hV1]; exact (Box7.step (Box7.step (Box7.new w 38) (bal (Below.refl _ _) _)) hbx))
  have HY := hid (show Box2 V1 (w.heap.size + 1) (.int .u8 0) (.slice none 0 0) by rw [← hV1]; exact Box2.step ⟨by simp [go_sem], by simp [go_sem], by simp [go_sem], by simp [go_sem]⟩ hbx)
  have HD := hid (show OwnB V1 (.slice (some ⟨V0.heap.size, 0, none⟩) 1 1) [0] by rw [← hV1]; exact own_lit V0 #[.int .u8 0] 1 [0] (by decide) rfl rfl (by omega) _ rfl)
  have hlt : V0.heap.size < V1.heap.size := by rw [← hV1]; simp
  rw [hV1]
  clear hV1 hbx hb0 HPA
  generalize V0.heap.size = B0 at *
  have hlt1 : w.heap.size < V1.heap.size := by omega
  obtain ⟨z0, z1, z2, z3, z4, z5, z6, -⟩ := HX.out
  have HYg := hid HY.out
  have HBg := hid HB1.out
  have HDg := hid HD.out
  have HKg := hid (show ∀ k ∈ blkV (.slice (some ⟨B0, 0, none⟩) 1 1), w.heap.size + 1 < k from fun k hk => by simp [blkV, Value.ownBlock] at hk; omega)
  clear HX HY HD
  obtain ⟨r0, r1, -, -⟩ := HYg.out.put (.int .u8 13) (.slice (some ⟨B0, 0, none⟩) 1 1)
  have HF := hid (pl_end HFD.out HBg.out HDg.out HKg.out)
  obtain ⟨y0, y1, y2, y3⟩ := HYg.out
  clear HYg HBg HDg HKg HFD
  revert r0 r1 HF
  generalize hW : ((V1.setCell ⟨w.heap.size + 1, 0, none⟩ (.int .u8 13)).setCell ⟨w.heap.size + 1, 1, none⟩ (.slice (some ⟨B0, 0, none⟩) 1 1)) = Wf
  intro r0 r1 HF
  go_wp2
  (try rw [hW])
  exact bodyPost_ret (v := .tuple #[.agg #[.int .u8 13, .slice (some ⟨B0, 0, none⟩) 1 1], .bool true]) (by simp [results, Tryd.results57, go_sem, r0, r1]) rfl HF.out
set_option maxRecDepth 100000 in
set_option maxHeartbeats 4000000 in
theorem plain_8 (a : AcD) (cv rv : Value) (w : World) (h1 : Reads w cv a.codes) (h2 : Reads w rv a.rcd) (hk : a.kind = 8) : Calls Tryd.prog 57 #[acV a cv rv] w (PlD (true, fieldF a) w) := by
  have HPA := hid (fun W => (show Calls Tryd.prog 71 #[acV a cv rv] W fun e w' => e = .returned (.int .u8 0) ∧ Below W.heap.size W w' from by
    have q := part_any a cv rv (by obtain ⟨x, c, e⟩ := reads_sl h1; exact ⟨x, _, c, e⟩) (by obtain ⟨x, c, e⟩ := reads_sl h2; exact ⟨x, _, c, e⟩) W
    rw [show partA a = 0 by unfold partA; rw [hk]; rfl] at q
    exact q))
  obtain ⟨k, cd, md, al, rq, cs, rs⟩ := a
  unfold acV at HPA ⊢
  dsimp only at h1 h2 hk HPA ⊢
  subst hk
  have HFD := hid (show fieldF ⟨8, cd, md, al, rq, cs, rs⟩ = ⟨14, [0]⟩ from rfl)
  generalize fieldF ⟨8, cd, md, al, rq, cs, rs⟩ = fd at HFD ⊢
  obtain ⟨x1, c1, rfl⟩ := reads_sl h1
  obtain ⟨x2, c2, rfl⟩ := reads_sl h2
  generalize cs.length = n1 at *
  generalize rs.length = n2 at *
  clear h1 h2
  go_enter Tryd.func57, Tryd.ntmps57
  go_wp2_with fail
  with_reducible refine (HPA.out _).mono ?_
  rintro e V0 ⟨rfl, hb0⟩
  have hsz := hb0.size
  rw [World.size_alloc, World.size_alloc] at hsz
  go_upto_region 2 with fail
  obtain ⟨V1, hV1⟩ : ∃ V1, V0.alloc (.cells #[.int .u8 0] 5) = V1 := ⟨_, rfl⟩
  have hbx := below_t hb0 (bal (Below.refl V0.heap.size V0) (.cells #[.int .u8 0] 5))
  have HB1 := hid (show Below w.heap.size w V1 by rw [← hV1]; exact below_t (bal (bal (Below.refl _ _) _) _) hbx)
  have HX := hid (show Box7 V1 w.heap.size (.int .i64 8) (.int .i64 cd) (.int .i64 md) (.bool al) (.int .u8 rq) (.slice x1 n1 c1) (.slice x2 n2 c2) by rw [← hV1]; exact (Box7.step (Box7.step (Box7.new w 38) (bal (Below.refl _ _) _)) hbx))
  have HY := hid (show Box2 V1 (w.heap.size + 1) (.int .u8 0) (.slice none 0 0) by rw [← hV1]; exact Box2.step ⟨by simp [go_sem], by simp [go_sem], by simp [go_sem], by simp [go_sem]⟩ hbx)
  have HD := hid (show OwnB V1 (.slice (some ⟨V0.heap.size, 0, none⟩) 1 1) [0] by rw [← hV1]; exact own_lit V0 #[.int .u8 0] 1 [0] (by decide) rfl rfl (by omega) _ rfl)
  have hlt : V0.heap.size < V1.heap.size := by rw [← hV1]; simp
  rw [hV1]
  clear hV1 hbx hb0 HPA
  generalize V0.heap.size = B0 at *
  have hlt1 : w.heap.size < V1.heap.size := by omega
  obtain ⟨z0, z1, z2, z3, z4, z5, z6, -⟩ := HX.out
  have HYg := hid HY.out
  have HBg := hid HB1.out
  have HDg := hid HD.out
  have HKg := hid (show ∀ k ∈ blkV (.slice (some ⟨B0, 0, none⟩) 1 1), w.heap.size + 1 < k from fun k hk => by simp [blkV, Value.ownBlock] at hk; omega)
  clear HX HY HD
  obtain ⟨r0, r1, -, -⟩ := HYg.out.put (.int .u8 14) (.slice (some ⟨B0, 0, none⟩) 1 1)
  have HF := hid (pl_end HFD.out HBg.out HDg.out HKg.out)
  obtain ⟨y0, y1, y2, y3⟩ := HYg.out
  clear HYg HBg HDg HKg HFD
  revert r0 r1 HF
  generalize hW : ((V1.setCell ⟨w.heap.size + 1, 0, none⟩ (.int .u8 14)).setCell ⟨w.heap.size + 1, 1, none⟩ (.slice (some ⟨B0, 0, none⟩) 1 1)) = Wf
  intro r0 r1 HF
  go_wp2
  (try rw [hW])
  exact bodyPost_ret (v := .tuple #[.agg #[.int .u8 14, .slice (some ⟨B0, 0, none⟩) 1 1], .bool true]) (by simp [results, Tryd.results57, go_sem, r0, r1]) rfl HF.out
set_option maxRecDepth 100000 in
set_option maxHeartbeats 4000000 in
theorem plain_4 (a : AcD) (cv rv : Value) (w : World) (h1 : Reads w cv a.codes) (h2 : Reads w rv a.rcd) (hk : a.kind = 4) : Calls Tryd.prog 57 #[acV a cv rv] w (PlD (true, fieldF a) w) := by
  have HPA := hid (fun W => (show Calls Tryd.prog 71 #[acV a cv rv] W fun e w' => e = .returned (.int .u8 0) ∧ Below W.heap.size W w' from by
    have q := part_any a cv rv (by obtain ⟨x, c, e⟩ := reads_sl h1; exact ⟨x, _, c, e⟩) (by obtain ⟨x, c, e⟩ := reads_sl h2; exact ⟨x, _, c, e⟩) W
    rw [show partA a = 0 by unfold partA; rw [hk]; rfl] at q
    exact q))
  have HSZ := hid (fun W => size_any a cv rv (by obtain ⟨x, c, e⟩ := reads_sl h1; exact ⟨x, _, c, e⟩) (by obtain ⟨x, c, e⟩ := reads_sl h2; exact ⟨x, _, c, e⟩) W)
  obtain ⟨k, cd, md, al, rq, cs, rs⟩ := a
  unfold acV at HPA HSZ ⊢
  dsimp only at h1 h2 hk HPA HSZ ⊢
  subst hk
  have HFD := hid (show fieldF ⟨4, cd, md, al, rq, cs, rs⟩ = ⟨3, [if al then 128 else 0]⟩ from rfl)
  generalize fieldF ⟨4, cd, md, al, rq, cs, rs⟩ = fd at HFD ⊢
  obtain ⟨x1, c1, rfl⟩ := reads_sl h1
  obtain ⟨x2, c2, rfl⟩ := reads_sl h2
  generalize cs.length = n1 at *
  generalize rs.length = n2 at *
  clear h1 h2
  go_enter Tryd.func57, Tryd.ntmps57
  go_wp2_with fail
  with_reducible refine (HPA.out _).mono ?_
  rintro e V0 ⟨rfl, hb0⟩
  have hsz := hb0.size
  rw [World.size_alloc, World.size_alloc] at hsz
  go_upto_region 2 with fail
  obtain ⟨V1, hV1⟩ : ∃ V1, V0.alloc (.cells #[.int .u8 0] 5) = V1 := ⟨_, rfl⟩
  have hbx := below_t hb0 (bal (Below.refl V0.heap.size V0) (.cells #[.int .u8 0] 5))
  have HB1 := hid (show Below w.heap.size w V1 by rw [← hV1]; exact below_t (bal (bal (Below.refl _ _) _) _) hbx)
  have HX := hid (show Box7 V1 w.heap.size (.int .i64 4) (.int .i64 cd) (.int .i64 md) (.bool al) (.int .u8 rq) (.slice x1 n1 c1) (.slice x2 n2 c2) by rw [← hV1]; exact (Box7.step (Box7.step (Box7.new w 38) (bal (Below.refl _ _) _)) hbx))
  have HY := hid (show Box2 V1 (w.heap.size + 1) (.int .u8 0) (.slice none 0 0) by rw [← hV1]; exact Box2.step ⟨by simp [go_sem], by simp [go_sem], by simp [go_sem], by simp [go_sem]⟩ hbx)
  have HD := hid (show OwnB V1 (.slice (some ⟨V0.heap.size, 0, none⟩) 1 1) [0] by rw [← hV1]; exact own_lit V0 #[.int .u8 0] 1 [0] (by decide) rfl rfl (by omega) _ rfl)
  have hlt : V0.heap.size < V1.heap.size := by rw [← hV1]; simp
  rw [hV1]
  clear hV1 hbx hb0 HPA
  generalize V0.heap.size = B0 at *
  have hlt1 : w.heap.size < V1.heap.size := by omega
  obtain ⟨z0, z1, z2, z3, z4, z5, z6, -⟩ := HX.out
  generalize hq : (if al then (128 : Int) else 0) = q at HSZ HFD
  have hqb : BytL [q] := by intro x hx; rw [List.mem_singleton.1 hx, ← hq]; cases al <;> decide
  clear hq
  go_wp2_with fail
  with_reducible refine (HSZ.out V1).mono ?_
  rintro e V2 ⟨rfl, hbc⟩
  have hV12 := hbc.size
  have hba : Below V2.heap.size V2 (V2.alloc (.cells #[.int .u8 q] 5)) := bal (Below.refl _ _) _
  have HYg := hid (HY.out.step (below_t hbc hba))
  have HBg := hid (below_t HB1.out (below_t hbc hba))
  have HDg := hid (own_lit V2 #[.int .u8 q] 1 [q] hqb rfl rfl (by omega) V2.heap.size rfl)
  have HKg := hid (show ∀ k ∈ blkV (.slice (some ⟨V2.heap.size, 0, none⟩) 1 1), w.heap.size + 1 < k from fun k hk => by simp [blkV, Value.ownBlock] at hk; omega)
  have hw1 : w.heap.size + 1 < V2.heap.size := by omega
  have HYv := hid (HY.out.step hbc)
  clear HX HY HD z0 z1 z2 z3 z4 z5 z6 HSZ hba
  obtain ⟨r0, r1, -, -⟩ := HYg.out.put (.int .u8 3) (.slice (some ⟨V2.heap.size, 0, none⟩) 1 1)
  have HF := hid (pl_end HFD.out HBg.out HDg.out HKg.out)
  obtain ⟨y0, y1, y2, y3⟩ := HYv.out
  clear HYv HYg HBg HDg HKg HFD
  revert r0 r1 HF
  generalize hW : (((V2.alloc (.cells #[.int .u8 q] 5)).setCell ⟨w.heap.size + 1, 0, none⟩ (.int .u8 3)).setCell ⟨w.heap.size + 1, 1, none⟩ (.slice (some ⟨V2.heap.size, 0, none⟩) 1 1)) = Wf
  intro r0 r1 HF
  rw [World.setCell_alloc_past _ _ _ _ hw1, World.setCell_alloc_past _ _ _ _ (by simpa [World.setCell] using hw1)] at hW
  go_wp2
  (try rw [hW])
  exact bodyPost_ret (v := .tuple #[.agg #[.int .u8 3, .slice (some ⟨V2.heap.size, 0, none⟩) 1 1], .bool true]) (by simp [results, Tryd.results57, go_sem, r0, r1]) rfl HF.out
set_option maxRecDepth 100000 in
set_option maxHeartbeats 4000000 in
theorem plain_9 (a : AcD) (cv rv : Value) (w : World) (h1 : Reads w cv a.codes) (h2 : Reads w rv a.rcd) (hk : a.kind = 9) (hlen : a.rcd.length ≤ 1000000) : Calls Tryd.prog 57 #[acV a cv rv] w (PlD (true, fieldF a) w) := by
  have HPA := hid (fun W => (show Calls Tryd.prog 71 #[acV a cv rv] W fun e w' => e = .returned (.int .u8 0) ∧ Below W.heap.size W w' from by
    have q := part_any a cv rv (by obtain ⟨x, c, e⟩ := reads_sl h1; exact ⟨x, _, c, e⟩) (by obtain ⟨x, c, e⟩ := reads_sl h2; exact ⟨x, _, c, e⟩) W
    rw [show partA a = 0 by unfold partA; rw [hk]; rfl] at q
    exact q))
  obtain ⟨k, cd, md, al, rq, cs, rs⟩ := a
  unfold acV at HPA ⊢
  dsimp only at h1 h2 hk HPA hlen ⊢
  subst hk
  have HFD := hid (show fieldF ⟨9, cd, md, al, rq, cs, rs⟩ = ⟨64, [0] ++ rs⟩ from rfl)
  generalize fieldF ⟨9, cd, md, al, rq, cs, rs⟩ = fd at HFD ⊢
  have HUR := hid (fun W (hW : Below w.heap.size w W) => reads_below h2 hW)
  obtain ⟨x1, c1, rfl⟩ := reads_sl h1
  obtain ⟨x2, c2, rfl⟩ := reads_sl h2
  generalize cs.length = n1 at *
  have HBYr := hid (show BytL rs from h2.1)
  obtain ⟨n2, hlr⟩ : ∃ n, rs.length = n := ⟨_, rfl⟩
  have HLr := hid hlr
  rw [hlr] at HPA hlen HUR ⊢
  clear hlr
  clear h1 h2
  go_enter Tryd.func57, Tryd.ntmps57
  go_wp2_with fail
  with_reducible refine (HPA.out _).mono ?_
  rintro e V0 ⟨rfl, hb0⟩
  have hsz := hb0.size
  rw [World.size_alloc, World.size_alloc] at hsz
  go_upto_region 2 with fail
  obtain ⟨V1, hV1⟩ : ∃ V1, V0.alloc (.cells #[.int .u8 0] 5) = V1 := ⟨_, rfl⟩
  have hbx := below_t hb0 (bal (Below.refl V0.heap.size V0) (.cells #[.int .u8 0] 5))
  have HB1 := hid (show Below w.heap.size w V1 by rw [← hV1]; exact below_t (bal (bal (Below.refl _ _) _) _) hbx)
  have HX := hid (show Box7 V1 w.heap.size (.int .i64 9) (.int .i64 cd) (.int .i64 md) (.bool al) (.int .u8 rq) (.slice x1 n1 c1) (.slice x2 n2 c2) by rw [← hV1]; exact (Box7.step (Box7.step (Box7.new w 38) (bal (Below.refl _ _) _)) hbx))
  have HY := hid (show Box2 V1 (w.heap.size + 1) (.int .u8 0) (.slice none 0 0) by rw [← hV1]; exact Box2.step ⟨by simp [go_sem], by simp [go_sem], by simp [go_sem], by simp [go_sem]⟩ hbx)
  have HD := hid (show OwnB V1 (.slice (some ⟨V0.heap.size, 0, none⟩) 1 1) [0] by rw [← hV1]; exact own_lit V0 #[.int .u8 0] 1 [0] (by decide) rfl rfl (by omega) _ rfl)
  have hlt : V0.heap.size < V1.heap.size := by rw [← hV1]; simp
  rw [hV1]
  clear hV1 hbx hb0 HPA
  generalize V0.heap.size = B0 at *
  have hlt1 : w.heap.size < V1.heap.size := by omega
  obtain ⟨z0, z1, z2, z3, z4, z5, z6, -⟩ := HX.out
  have HO := hid (own_base HD.out.2 (B := B0) (fun k hk => by simp [blkV, Value.ownBlock] at hk; omega))
  have HU := hid (HUR.out V1 HB1.out)
  have HYl := hid HY.out
  have hB0 : B0 ≤ V1.heap.size := by omega
  have HN2 := hid (show 1 + rs.length ≤ 10000000 by rw [HLr.out]; omega)
  clear HX HY HD HUR
  go_wp2_with (at_builtin; refine wpList_append_bytes rfl (.tmp 65) (.tmp 67) rfl B0 1 _ _ [0] rs rfl rfl HO.out HU.out HN2.out hB0 (1 + n2) (by rw [HLr.out]) ([0] ++ rs) rfl ?_; intro y cap w' hown hgrow; have hmv : Moved _ w' [B0] [] := Moved.grown hgrow (fun k hk => List.mem_singleton.2 (Option.some.inj hk).symm) (fun k hk => by cases hk); have HYg := hid (HYl.out.moved hmv (fun q => by have := List.mem_singleton.1 q; omega)); have HBg := hid (HB1.out.grown hgrow HB1.out.size (fun k hk => by have e : B0 = k := Option.some.inj hk; omega)); have HDg := hid (row_bytes hown ((show BytL [0] from (by decide : ∀ x ∈ ([0] : List Int), 0 ≤ x ∧ x < 256)).append HBYr.out) (by rw [List.length_append, HLr.out]; rfl)); have HKg := hid (show ∀ k ∈ blkV (.slice y (1 + n2) cap), w.heap.size + 1 < k from fun k hk => by have := (hown.lt k (mem_blkV.1 hk)).1; omega); obtain ⟨y0, y1, y2, y3⟩ := HYg.out; clear hown hgrow hmv HYl HO HU HB1)
  obtain ⟨r0, r1, -, -⟩ := HYg.out.put (.int .u8 64) (.slice y (1 + n2) cap)
  have HF := hid (pl_end HFD.out HBg.out HDg.out HKg.out)
  obtain ⟨y0, y1, y2, y3⟩ := HYg.out
  clear HYg HBg HDg HKg HFD
  revert r0 r1 HF
  generalize hW : ((w'.setCell ⟨w.heap.size + 1, 0, none⟩ (.int .u8 64)).setCell ⟨w.heap.size + 1, 1, none⟩ (.slice y (1 + n2) cap)) = Wf
  intro r0 r1 HF
  go_wp2
  (try rw [hW])
  exact bodyPost_ret (v := .tuple #[.agg #[.int .u8 64, .slice y (1 + n2) cap], .bool true]) (by simp [results, Tryd.results57, go_sem, r0, r1]) rfl HF.out
set_option maxRecDepth 100000 in
set_option maxHeartbeats 4000000 in
theorem plain_2 (a : AcD) (cv rv : Value) (w : World) (h1 : Reads w cv a.codes) (h2 : Reads w rv a.rcd) (hk : a.kind = 2) (hlen : a.codes.length ≤ 1000000) (hq : 0 ≤ a.req ∧ a.req < 256) : Calls Tryd.prog 57 #[acV a cv rv] w (PlD (true, fieldF a) w) := by
  have HPA := hid (fun W => (show Calls Tryd.prog 71 #[acV a cv rv] W fun e w' => e = .returned (.int .u8 255) ∧ Below W.heap.size W w' from by
    have q := part_any a cv rv (by obtain ⟨x, c, e⟩ := reads_sl h1; exact ⟨x, _, c, e⟩) (by obtain ⟨x, c, e⟩ := reads_sl h2; exact ⟨x, _, c, e⟩) W
    rw [show partA a = 255 by unfold partA; rw [hk]; rfl] at q
    exact q))
  obtain ⟨k, cd, md, al, rq, cs, rs⟩ := a
  unfold acV at HPA ⊢
  dsimp only at h1 h2 hk HPA hlen hq ⊢
  subst hk
  have HFD := hid (show fieldF ⟨2, cd, md, al, rq, cs, rs⟩ = ⟨1, [255, 3, rq] ++ cs⟩ from rfl)
  generalize fieldF ⟨2, cd, md, al, rq, cs, rs⟩ = fd at HFD ⊢
  have HUC := hid (fun W (hW : Below w.heap.size w W) => reads_below h1 hW)
  obtain ⟨x1, c1, rfl⟩ := reads_sl h1
  obtain ⟨x2, c2, rfl⟩ := reads_sl h2
  have HBYc := hid (show BytL cs from h1.1)
  obtain ⟨n1, hlc⟩ : ∃ n, cs.length = n := ⟨_, rfl⟩
  have HLc := hid hlc
  rw [hlc] at HPA hlen HUC ⊢
  clear hlc
  generalize rs.length = n2 at *
  clear h1 h2
  go_enter Tryd.func57, Tryd.ntmps57
  go_wp2_with fail
  with_reducible refine (HPA.out _).mono ?_
  rintro e V0 ⟨rfl, hb0⟩
  have hsz := hb0.size
  rw [World.size_alloc, World.size_alloc] at hsz
  go_upto_region 2 with fail
  obtain ⟨V1, hV1⟩ : ∃ V1, V0.alloc (.cells #[.int .u8 255] 5) = V1 := ⟨_, rfl⟩
  have hbx := below_t hb0 (bal (Below.refl V0.heap.size V0) (.cells #[.int .u8 255] 5))
  have HB1 := hid (show Below w.heap.size w V1 by rw [← hV1]; exact below_t (bal (bal (Below.refl _ _) _) _) hbx)
  have HX := hid (show Box7 V1 w.heap.size (.int .i64 2) (.int .i64 cd) (.int .i64 md) (.bool al) (.int .u8 rq) (.slice x1 n1 c1) (.slice x2 n2 c2) by rw [← hV1]; exact (Box7.step (Box7.step (Box7.new w 38) (bal (Below.refl _ _) _)) hbx))
  have HY := hid (show Box2 V1 (w.heap.size + 1) (.int .u8 0) (.slice none 0 0) by rw [← hV1]; exact Box2.step ⟨by simp [go_sem], by simp [go_sem], by simp [go_sem], by simp [go_sem]⟩ hbx)
  have HD := hid (show OwnB V1 (.slice (some ⟨V0.heap.size, 0, none⟩) 1 1) [255] by rw [← hV1]; exact own_lit V0 #[.int .u8 255] 1 [255] (by decide) rfl rfl (by omega) _ rfl)
  have hlt : V0.heap.size < V1.heap.size := by rw [← hV1]; simp
  rw [hV1]
  clear hV1 hbx hb0 HPA
  generalize V0.heap.size = B0 at *
  have hlt1 : w.heap.size < V1.heap.size := by omega
  obtain ⟨z0, z1, z2, z3, z4, z5, z6, -⟩ := HX.out
  have hbq : BytL [255, 3, rq] := by
    intro x hx
    simp only [List.mem_cons, List.not_mem_nil, or_false] at hx
    rcases hx with rfl | rfl | rfl
    · decide
    · decide
    · exact hq
  have hdr : Below V1.heap.size V1 V1.drew := (Below.refl _ _).drew
  have hda : Below V1.heap.size V1 (V1.drew.alloc (.cells #[.int .u8 3, .int .u8 rq] 5)) := bal hdr _
  have HZ3 := hid (And.intro (keepc hda z4) (keepc hda z5))
  have HY3 := hid (HY.out.step hda)
  have HB3 := hid (below_t HB1.out hda)
  have HO := hid (own_base (HD.out.step hda).2 (B := B0) (fun k hk => by simp [blkV, Value.ownBlock] at hk; omega))
  have HU3 := hid (own_lit V1.drew #[.int .u8 3, .int .u8 rq] 2 [3, rq] (fun x hx => hbq x (List.mem_cons_of_mem _ hx)) rfl rfl (by omega) V1.drew.heap.size rfl).reads
  have hB0 : B0 ≤ (V1.drew.alloc (.cells #[.int .u8 3, .int .u8 rq] 5)).heap.size := by simp; omega
  have HN2 := hid (show 3 + cs.length ≤ 10000000 by rw [HLc.out]; omega)
  clear HX HY HD
  go_upto_region 6 with fail
  refine wp_region_held_drew (S := fun V => V.cell? ⟨w.heap.size, 4, none⟩ = some (.int .u8 rq) ∧ V.cell? ⟨w.heap.size, 5, none⟩ = some (.slice x1 n1 c1)) (by kernel_rfl) ?_ (fun hHeld => ?_)
  · exact ⟨keepc hdr z4, keepc hdr z5⟩
  refine takeD (i := 0) (v := ?_) 18 rfl rfl (by kernel_rfl) (by kernel_rfl) (by kernel_rfl) (fun _ _ _ h => h) (by assumption) (Or.inl ⟨by rfl, ?_⟩) ?_
  rotate_left
  · intro w hSw
    (try dsimp only at hSw)
    go_simp
    try with_reducible rfl
  simp only [List.setIfInBounds_toArray, List.set_cons_zero, List.set_cons_succ]
  refine takeD (i := 1) (v := ?_) 19 rfl rfl (by kernel_rfl) (by kernel_rfl) (by kernel_rfl) (fun _ _ _ h => h) (by assumption) (Or.inl ⟨by rfl, ?_⟩) ?_
  rotate_left
  · intro w hSw
    (try dsimp only at hSw)
    go_simp
    try with_reducible rfl
  simp only [List.setIfInBounds_toArray, List.set_cons_zero, List.set_cons_succ]
  refine takeD (i := 2) (v := ?_) 20 rfl rfl (by kernel_rfl) (by kernel_rfl) (by kernel_rfl) (fun _ _ _ h => h) (by assumption) (Or.inl ⟨by rfl, ?_⟩) ?_
  rotate_left
  · intro w hSw
    (try dsimp only at hSw)
    go_simp
    try with_reducible rfl
  simp only [List.setIfInBounds_toArray, List.set_cons_zero, List.set_cons_succ]
  refine takeD (i := 5) (v := ?_) 23 rfl rfl (by kernel_rfl) (by kernel_rfl) (by kernel_rfl) (fun _ _ _ h => h) (by assumption) (Or.inl ⟨by rfl, ?_⟩) ?_
  rotate_left
  · intro w hSw
    (try dsimp only at hSw)
    go_simp
    try with_reducible rfl
  simp only [List.setIfInBounds_toArray, List.set_cons_zero, List.set_cons_succ]
  refine takeD (i := 6) (v := ?_) 24 rfl rfl (by kernel_rfl) (by kernel_rfl) (by kernel_rfl) (fun _ _ _ h => h) (by assumption) (Or.inl ⟨by rfl, ?_⟩) ?_
  rotate_left
  · intro w hSw
    (try dsimp only at hSw)
    go_simp
    try with_reducible rfl
  simp only [List.setIfInBounds_toArray, List.set_cons_zero, List.set_cons_succ]
  refine wpAnyH_ready (rs := [3]) (by kernel_rfl) (by simp) ?_
  refine AllReadyH.cons (by simp only [List.getElem?_toArray, List.getElem?_cons_succ, List.getElem?_cons_zero]; rfl) (fun K hK => ?_) AllReadyH.nil
  go_simp
  refine hK.out _ _ ?_ (fun hHeldN => ?_)
  · exact HZ3.out
  clear hK K hHeld
  have hHeld := hHeldN
  clear hHeldN
  (try simp only [Act.put, List.setIfInBounds_toArray, List.set_cons_zero, List.set_cons_succ])
  refine wpAnyH_ready (rs := [4]) (by kernel_rfl) (by simp) ?_
  refine AllReadyH.cons (by simp only [List.getElem?_toArray, List.getElem?_cons_succ, List.getElem?_cons_zero]; rfl) (fun K hK => ?_) AllReadyH.nil
  obtain ⟨v4, w4, hrun, hown, hgr⟩ := append_bytes HO.out HU3.out (by show 3 ≤ 10000000; omega) hB0 22
  refine step_append_run (by rfl) _ _ _ (by rfl) _ _ _ _ (by rfl) (by rfl) hrun ?_
  have hmv : Moved (V1.drew.alloc (.cells #[.int .u8 3, .int .u8 rq] 5)) w4 [B0] [] := Moved.grown hgr (fun k hk => List.mem_singleton.2 (Option.some.inj hk).symm) (fun k hk => by cases hk)
  have HZ4 := hid (And.intro (cell_moved hmv HZ3.out.1 (fun q => by have h : w.heap.size = B0 := List.mem_singleton.1 q; omega)) (cell_moved hmv HZ3.out.2 (fun q => by have h : w.heap.size = B0 := List.mem_singleton.1 q; omega)))
  have HY4 := hid (HY3.out.moved hmv (fun q => by have := List.mem_singleton.1 q; omega))
  have HB4 := hid (HB3.out.grown hgr HB3.out.size (fun k hk => by have e : B0 = k := Option.some.inj hk; omega))
  have HO4 := hid (show w4.ownsRow B0 5 1 v4 3 (([255, 3, rq] : List Int).map (Value.int .u8)) from hown)
  have hB4 : B0 ≤ w4.heap.size := Nat.le_trans hB0 hgr.size
  have HU4 := hid (HUC.out w4 HB4.out)
  obtain ⟨xa, ca, rfl⟩ := row_anyK hown
  refine hK.out _ _ ?_ (fun hHeldN => ?_)
  · exact HZ4.out
  clear hrun hown hgr hmv
  clear hK K hHeld
  have hHeld := hHeldN
  clear hHeldN
  (try simp only [Act.put, List.setIfInBounds_toArray, List.set_cons_zero, List.set_cons_succ])
  refine wpAnyH_ready (rs := [7]) (by kernel_rfl) (by simp) ?_
  refine AllReadyH.cons (by simp only [List.getElem?_toArray, List.getElem?_cons_succ, List.getElem?_cons_zero]; rfl) (fun K hK => ?_) AllReadyH.nil
  obtain ⟨v7, w7, hrun, hown, hgr⟩ := append_bytes HO4.out HU4.out HN2.out hB4 22
  refine step_append_run (by rfl) _ _ _ (by rfl) _ _ _ _ (by rfl) (by rfl) hrun ?_
  have hf4 : ∀ k ∈ blkV (.slice xa 3 ca), w.heap.size + 1 < k := fun k hk => by have := (HO4.out.lt k (mem_blkV.1 hk)).1; omega
  have hmv : Moved w4 w7 (blkV (.slice xa 3 ca)) [] := Moved.grown hgr (fun k hk => mem_blkV.2 hk) (fun k hk => by cases hk)
  have HZ7 := hid (And.intro (cell_moved hmv HZ4.out.1 (fun q => by have h := hf4 w.heap.size q; omega)) (cell_moved hmv HZ4.out.2 (fun q => by have h := hf4 w.heap.size q; omega)))
  have HYg := hid (HY4.out.moved hmv (fun q => by have h := hf4 (w.heap.size + 1) q; omega))
  have HBg := hid (HB4.out.grown hgr HB4.out.size (fun k hk => by have := hf4 k (mem_blkV.2 hk); omega))
  have HO7 := hid (show w7.ownsRow B0 5 1 v7 (3 + n1) (([255, 3, rq] ++ cs : List Int).map (Value.int .u8)) from by rw [← HLc.out]; exact hown)
  obtain ⟨xb, cb, rfl⟩ := row_anyK HO7.out
  have HDg := hid (row_bytes HO7.out ((show BytL [255, 3, rq] from hbq).append HBYc.out) (by rw [List.length_append, HLc.out]; rfl))
  have HKg := hid (show ∀ k ∈ blkV (.slice xb (3 + n1) cb), w.heap.size + 1 < k from fun k hk => by have := (HO7.out.lt k (mem_blkV.1 hk)).1; omega)
  obtain ⟨y0, y1, y2, y3⟩ := HYg.out
  obtain ⟨q4, q5⟩ := HZ7.out
  refine hK.out _ _ ?_ (fun hHeldN => ?_)
  · exact HZ7.out
  clear hrun hown hgr hmv hf4 HZ4 HY4 HB4 HO4 HU4 hB4
  clear hK K hHeld
  have hHeld := hHeldN
  clear hHeldN
  (try simp only [Act.put, List.setIfInBounds_toArray, List.set_cons_zero, List.set_cons_succ])
  refine takeD (i := 8) (v := ?_) 26 rfl rfl (by kernel_rfl) (by kernel_rfl) (by kernel_rfl) (fun _ _ _ h => h) (by assumption) (Or.inl ⟨by rfl, ?_⟩) ?_
  rotate_left
  · intro w hSw
    (try dsimp only at hSw)
    go_simp
    try with_reducible rfl
  simp only [List.setIfInBounds_toArray, List.set_cons_zero, List.set_cons_succ]
  refine wpAnyH_ready (rs := [9]) (by kernel_rfl) (by simp) ?_
  refine AllReadyH.cons (by simp only [List.getElem?_toArray, List.getElem?_cons_succ, List.getElem?_cons_zero]; rfl) (fun K hK => ?_) AllReadyH.nil
  go_simp
  refine hK.out _ _ ?_ (fun hHeldN => ?_)
  · exact ⟨by simp [go_sem, q4], by simp [go_sem, q5]⟩
  clear hK K hHeld
  have hHeld := hHeldN
  clear hHeldN
  (try simp only [Act.put, List.setIfInBounds_toArray, List.set_cons_zero, List.set_cons_succ])
  refine takeD (i := 10) (v := ?_) 3 rfl rfl (by kernel_rfl) (by kernel_rfl) (by kernel_rfl) (fun _ _ _ h => h) (by assumption) (Or.inl ⟨by rfl, ?_⟩) ?_
  rotate_left
  · intro w hSw
    (try dsimp only at hSw)
    go_simp
    try with_reducible rfl
  simp only [List.setIfInBounds_toArray, List.set_cons_zero, List.set_cons_succ]
  refine wpAnyH_done (by kernel_rfl) ?_ _
  clear hHeld
  obtain ⟨r0, r1, -, -⟩ := HYg.out.put (.int .u8 1) (.slice xb (3 + n1) cb)
  have HF := hid (pl_end HFD.out HBg.out HDg.out HKg.out)
  obtain ⟨y0, y1, y2, y3⟩ := HYg.out
  clear HYg HBg HDg HKg HFD
  revert r0 r1 HF
  generalize hW : ((w7.setCell ⟨w.heap.size + 1, 0, none⟩ (.int .u8 1)).setCell ⟨w.heap.size + 1, 1, none⟩ (.slice xb (3 + n1) cb)) = Wf
  intro r0 r1 HF
  go_wp2
  (try rw [hW])
  exact bodyPost_ret (v := .tuple #[.agg #[.int .u8 1, .slice xb (3 + n1) cb], .bool true]) (by simp [results, Tryd.results57, go_sem, r0, r1]) rfl HF.out
set_option maxRecDepth 100000 in
set_option maxHeartbeats 4000000 in
theorem plain_no (a : AcD) (cv rv : Value) (w : World) (h1 : Reads w cv a.codes) (h2 : Reads w rv a.rcd) (hk : a.kind < 1 ∨ 9 < a.kind) : Calls Tryd.prog 57 #[acV a cv rv] w (PlD (false, sfZ) w) := by
  have HPA := hid (fun W => (show Calls Tryd.prog 71 #[acV a cv rv] W fun e w' => e = .returned (.int .u8 0) ∧ Below W.heap.size W w' from by
    have q := part_any a cv rv (by obtain ⟨x, c, e⟩ := reads_sl h1; exact ⟨x, _, c, e⟩) (by obtain ⟨x, c, e⟩ := reads_sl h2; exact ⟨x, _, c, e⟩) W
    rw [show partA a = 0 from if_neg (by omega)] at q
    exact q))
  obtain ⟨k, cd, md, al, rq, cs, rs⟩ := a
  unfold acV at HPA ⊢
  dsimp only at h1 h2 hk HPA ⊢
  obtain ⟨x1, c1, rfl⟩ := reads_sl h1
  obtain ⟨x2, c2, rfl⟩ := reads_sl h2
  generalize cs.length = n1 at *
  generalize rs.length = n2 at *
  clear h1 h2
  have e1 : (k == 1) = false := by simp; omega
  have e2 : (k == 2) = false := by simp; omega
  have e3 : (k == 3) = false := by simp; omega
  have e4 : (k == 4) = false := by simp; omega
  have e5 : (k == 5) = false := by simp; omega
  have e6 : (k == 6) = false := by simp; omega
  have e7 : (k == 7) = false := by simp; omega
  have e8 : (k == 8) = false := by simp; omega
  have e9 : (k == 9) = false := by simp; omega
  clear hk
  go_enter Tryd.func57, Tryd.ntmps57
  go_wp2_with fail
  with_reducible refine (HPA.out _).mono ?_
  rintro e V0 ⟨rfl, hb0⟩
  have hsz := hb0.size
  rw [World.size_alloc, World.size_alloc] at hsz
  go_upto_region 2 with fail
  obtain ⟨V1, hV1⟩ : ∃ V1, V0.alloc (.cells #[.int .u8 0] 5) = V1 := ⟨_, rfl⟩
  have hbx := below_t hb0 (bal (Below.refl V0.heap.size V0) (.cells #[.int .u8 0] 5))
  have HB1 := hid (show Below w.heap.size w V1 by rw [← hV1]; exact below_t (bal (bal (Below.refl _ _) _) _) hbx)
  have HX := hid (show Box7 V1 w.heap.size (.int .i64 k) (.int .i64 cd) (.int .i64 md) (.bool al) (.int .u8 rq) (.slice x1 n1 c1) (.slice x2 n2 c2) by rw [← hV1]; exact (Box7.step (Box7.step (Box7.new w 38) (bal (Below.refl _ _) _)) hbx))
  have HY := hid (show Box2 V1 (w.heap.size + 1) (.int .u8 0) (.slice none 0 0) by rw [← hV1]; exact Box2.step ⟨by simp [go_sem], by simp [go_sem], by simp [go_sem], by simp [go_sem]⟩ hbx)
  rw [hV1]
  clear hV1 hbx hb0 HPA hsz
  generalize V0.heap.size = B0 at *
  obtain ⟨z0, z1, z2, z3, z4, z5, z6, -⟩ := HX.out
  obtain ⟨y0, y1, y2, y3⟩ := HY.out
  obtain ⟨r0, r1, -, -⟩ := HY.out.put (.int .u8 0) (.slice none 0 0)
  have HF := hid (show PlD (false, sfZ) w (.returned (.tuple #[.agg #[.int .u8 0, .slice none 0 0], .bool false])) ((V1.setCell ⟨w.heap.size + 1, 0, none⟩ (.int .u8 0)).setCell ⟨w.heap.size + 1, 1, none⟩ (.slice none 0 0)) from ⟨_, rfl, OwnB.nil _, (HB1.out.setCell (p := ⟨w.heap.size + 1, 0, none⟩) (by exact Nat.le_succ _) _).setCell (p := ⟨w.heap.size + 1, 1, none⟩) (by exact Nat.le_succ _) _, fun _ q => (by cases q)⟩)
  clear HX HY HB1
  revert r0 r1 HF
  generalize hW : ((V1.setCell ⟨w.heap.size + 1, 0, none⟩ (.int .u8 0)).setCell ⟨w.heap.size + 1, 1, none⟩ (.slice none 0 0)) = Wf
  intro r0 r1 HF
  go_wp2
  (try rw [hW])
  exact bodyPost_ret (v := .tuple #[.agg #[.int .u8 0, .slice none 0 0], .bool false]) (by simp [results, Tryd.results57, go_sem, r0, r1]) rfl HF.out
theorem plainP_any (a : AcD) (cv rv : Value) (w : World) (h1 : Reads w cv a.codes) (h2 : Reads w rv a.rcd) (hok : ActOK a) (hC : Cods w) : Calls Tryd.prog 57 #[acV a cv rv] w (PlD (plF a) w) := by
  unfold plF
  by_cases hk : a.kind < 1 ∨ 9 < a.kind
  · rw [if_pos hk]
    exact plain_no a cv rv w h1 h2 hk
  · rw [if_neg hk]
    have hc : a.kind = 1 ∨ a.kind = 2 ∨ a.kind = 3 ∨ a.kind = 4 ∨ a.kind = 5 ∨ a.kind = 6 ∨ a.kind = 7 ∨ a.kind = 8 ∨ a.kind = 9 := by omega
    rcases hc with e | e | e | e | e | e | e | e | e
    · exact plain_1 a cv rv w h1 h2 e
    · exact plain_2 a cv rv w h1 h2 e hok.1.1 hok.2.1
    · exact plain_3 a cv rv w h1 h2 e hok.2.2 hC
    · exact plain_4 a cv rv w h1 h2 e
    · exact plain_5 a cv rv w h1 h2 e
    · exact plain_6 a cv rv w h1 h2 e
    · exact plain_7 a cv rv w h1 h2 e
    · exact plain_8 a cv rv w h1 h2 e
    · exact plain_9 a cv rv w h1 h2 e hok.1.2
end Go.Proofs.YtdpgmepblmlaaaaDoor
