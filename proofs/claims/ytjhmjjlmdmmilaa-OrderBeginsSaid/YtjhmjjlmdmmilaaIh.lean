/-
  Orders: all of what bytes say.
-/
import Derived.Test.YtjhmjjlmdmmilaaIg
namespace Go.Proofs.Ytjhmjjlmdmmilaa
open Go.RowKit Go.Lib

theorem first_any (v : Value) (xs : List Int) (w : World) (h : Reads w v xs) (hx : xs ≠ []) (hl : xs.length ≤ 100000) : Calls Try.prog 15 #[v] w (FirD (firF xs) w) := by
  rcases reads_cons h with ⟨x, c, rfl, rfl⟩ | ⟨g, o, c, r, b, hb, rfl, rfl, c0, hc, hm⟩
  · exact absurd rfl hx
  · simp only [List.length_cons] at hl
    cases hi : isO (b : Int)
    · exact first_text b r hi g o _ c rfl hl w h hb c0
    · have e1 : firF ((b : Int) :: r) = if (behF b r).1 = 0 then (0, (behF b r).2.1, 1 + (behF b r).2.2) else ((behF b r).1, opZ, 0) := by show (if isO (b : Int) = true then _ else _) = _; rw [hi]; rfl
      obtain ⟨q, hsl, hq⟩ := run_from_all h 1 (by simp)
      have hbe := fun W (hW : Below w.heap.size w W) => beh_any b hi q r W (reads_below hq hW) (by omega)
      have htx := behF_text b r
      by_cases he : (behF b r).1 = 0
      · have hu : (behF b r).2.2 ≤ r.length := by
          have q := @behF_take (b : Int) r r.length (by rw [List.take_length]; exact he)
          exact q.2.2
        rw [e1, if_pos he]
        generalize behF (b : Int) r = res at hbe he htx hu
        obtain ⟨er, ⟨kd, ad, cd, gr, fa, ps, tx⟩, u⟩ := res
        dsimp only at he htx hu
        subst he
        exact first_ok b g o _ c kd ad cd gr fa ps tx u (by omega) htx (by omega) q w hb hi hl hsl hbe c0
      · rw [e1, if_neg he]
        generalize behF (b : Int) r = res at hbe he htx
        obtain ⟨er, ⟨kd, ad, cd, gr, fa, ps, tx⟩, u⟩ := res
        exact first_err b g o _ c er kd ad cd gr fa ps tx u he htx (by omega) q w hb hi hl hsl hbe c0
/-- An order and where its pairs and its text lie. -/
structure OpV where
  d : OpD
  pv : Value
  tv : Value
def opC (x : OpV) : List Value := [.int .i64 x.d.kind, .int .i64 x.d.addr, .int .u8 x.d.code, .bool x.d.graph, .int .u8 x.d.fa, x.pv, x.tv]
def cellsO (xs : List OpV) : List Value := xs.flatMap opC
theorem cellsO_append (a b : List OpV) : cellsO (a ++ b) = cellsO a ++ cellsO b := by simp [cellsO]
theorem cellsO_length (xs : List OpV) : (cellsO xs).length = xs.length * 7 := by
  induction xs with
  | nil => rfl
  | cons p ps ih => simp [cellsO, opC] at ih ⊢; omega
theorem cellsO_at (xs : List OpV) (i : Nat) (h : i < xs.length) (j : Nat) (hj : j < 7) : (cellsO xs)[i * 7 + j]? = (opC xs[i])[j]? := by
  have e : xs = xs.take i ++ xs[i] :: xs.drop (i + 1) := by rw [List.getElem_cons_drop, List.take_append_drop]
  have hl : (cellsO (xs.take i)).length = i * 7 := by rw [cellsO_length, List.length_take]; congr 1; omega
  conv => lhs; rw [e, cellsO_append]
  rw [List.getElem?_append_right (by omega), hl, Nat.add_sub_cancel_left]
  show (opC _ ++ cellsO _)[j]? = _
  rw [List.getElem?_append_left (by simpa [opC] using hj)]
/-- Orders of one's own: a row, and apart from it their pairs and texts. -/
structure OpsM (w : World) (v : Value) (xs : List OpV) : Prop where
  row : w.ownsRow 0 35 7 v xs.length (cellsO xs)
  prs : ∀ x ∈ xs, w.ownsRow 0 48 2 x.pv x.d.pairs.length (cellsP x.d.pairs)
  txt : ∀ x ∈ xs, OwnB w x.tv x.d.text
  ap : ∀ x ∈ xs, (∀ k ∈ blkV x.pv, k ∉ blkV v) ∧ ∀ k ∈ blkV x.tv, k ∉ blkV v
theorem OpsM.nil (w : World) : OpsM w (.slice none 0 0) [] := ⟨World.ownsRow_nil _ _ _ _, fun _ h => (by cases h), fun _ h => (by cases h), fun _ h => (by cases h)⟩
theorem OpsM.step {w w' : World} {v : Value} {xs : List OpV} (h : OpsM w v xs) (hb : Below w.heap.size w w') : OpsM w' v xs :=
  ⟨own_below h.row hb, fun x hx => own_below (h.prs x hx) hb, fun x hx => (h.txt x hx).step hb, h.ap⟩
theorem OpsM.snoc {w w' : World} {v v' : Value} {xs : List OpV} {x : OpV} (h : OpsM w v xs) (hp : w.ownsRow 0 48 2 x.pv x.d.pairs.length (cellsP x.d.pairs)) (ht : OwnB w x.tv x.d.text)
    (hpa : ∀ k ∈ blkV x.pv, k ∉ blkV v) (hta : ∀ k ∈ blkV x.tv, k ∉ blkV v)
    (hrow : w'.ownsRow 0 35 7 v' (xs.length + 1) (cellsO xs ++ opC x)) (hg : w.grownBy w' v.ownBlock) (hb : ∀ k ∈ blkV v', k ∈ blkV v ∨ w.heap.size ≤ k) : OpsM w' v' (xs ++ [x]) := by
  have hm : Moved w w' (blkV v) (blkV v') := Moved.grown hg (fun k hk => mem_blkV.2 hk) hb
  have ap' : ∀ y : Value, (∀ k ∈ blkV y, k < w.heap.size) → (∀ k ∈ blkV y, k ∉ blkV v) → ∀ k ∈ blkV y, k ∉ blkV v' := fun y hl ha k hk q => by
    rcases hb k q with r | r
    · exact ha k hk r
    · have := hl k hk; omega
  refine ⟨?_, fun y hy => ?_, fun y hy => ?_, fun y hy => ?_⟩
  · rw [cellsO_append, List.length_append]
    show w'.ownsRow 0 35 7 v' (xs.length + 1) (cellsO xs ++ (opC x ++ []))
    rw [List.append_nil]
    exact hrow
  · rcases List.mem_append.1 hy with hy | hy
    · exact own_moved (h.prs y hy) hm (h.ap y hy).1
    · rw [List.mem_singleton.1 hy]; exact own_moved hp hm hpa
  · rcases List.mem_append.1 hy with hy | hy
    · exact (h.txt y hy).moved hm (h.ap y hy).2
    · rw [List.mem_singleton.1 hy]; exact ht.moved hm hta
  · rcases List.mem_append.1 hy with hy | hy
    · exact ⟨ap' _ (own_lt (h.prs y hy)) (h.ap y hy).1, ap' _ (h.txt y hy).lt (h.ap y hy).2⟩
    · rw [List.mem_singleton.1 hy]; exact ⟨ap' _ (own_lt hp) hpa, ap' _ ht.lt hta⟩
theorem one_opC (x : OpV) (hp : x.pv.oneCell' = true) (ht : x.tv.oneCell' = true) : ∀ u ∈ opC x, u.oneCell' = true := by
  intro u hu
  simp only [opC, List.mem_cons, List.not_mem_nil, or_false] at hu
  rcases hu with rfl | rfl | rfl | rfl | rfl | rfl | rfl <;> first | rfl | exact hp | exact ht
/-- What a loop over the bytes has said. -/
def AllI (zs : List Int) (k : Nat) (ds : List OpD) : Prop := ∃ f, zs.length ≤ k + f ∧ allF zs.length zs = (ds ++ (allF f (zs.drop k)).1, k + (allF f (zs.drop k)).2.1, (allF f (zs.drop k)).2.2)
theorem AllI.start (zs : List Int) : AllI zs 0 [] := ⟨zs.length, by omega, by simp⟩
theorem AllI.next {zs : List Int} {k : Nat} {ds : List OpD} (h : AllI zs k ds) (hk : k < zs.length) (he : (firF (zs.drop k)).1 = 0) : AllI zs (k + (firF (zs.drop k)).2.2) (ds ++ [(firF (zs.drop k)).2.1]) := by
  obtain ⟨f, hf, e⟩ := h
  match f, hf, e with
  | 0, hf, _ => omega
  | f + 1, hf, e =>
    have hx : zs.drop k ≠ [] := fun q => by
      have := congrArg List.length q
      rw [List.length_drop] at this
      simp at this
      omega
    have hu : 1 ≤ (firF (zs.drop k)).2.2 := by
      have q := @firF_take (zs.drop k) (zs.drop k).length (Nat.le_refl _) (by rw [List.take_length]; exact hx) (by rw [List.take_length]; exact he)
      rw [List.take_length] at q
      exact q.2.1
    rw [allF_one f _ hx he, List.drop_drop] at e
    refine ⟨f, by omega, ?_⟩
    rw [e, List.append_assoc, Nat.add_assoc]
    rfl
theorem AllI.stop {zs : List Int} {ds : List OpD} (h : AllI zs zs.length ds) : allF zs.length zs = (ds, zs.length, 0) := by
  obtain ⟨f, hf, e⟩ := h
  rw [List.drop_length, allF_nil] at e
  rw [e]
  simp
theorem AllI.bad {zs : List Int} {k : Nat} {ds : List OpD} (h : AllI zs k ds) (hk : k < zs.length) (he : (firF (zs.drop k)).1 ≠ 0) : allF zs.length zs = (ds, k, (firF (zs.drop k)).1) := by
  obtain ⟨f, hf, e⟩ := h
  match f, hf, e with
  | 0, hf, _ => omega
  | f + 1, hf, e =>
    have hx : zs.drop k ≠ [] := fun q => by
      have := congrArg List.length q
      rw [List.length_drop] at this
      simp at this
      omega
    rw [allF_bad f _ hx he] at e
    rw [e]
    simp
theorem fir_used {zs : List Int} {k : Nat} (hk : k < zs.length) (he : (firF (zs.drop k)).1 = 0) : 1 ≤ (firF (zs.drop k)).2.2 ∧ k + (firF (zs.drop k)).2.2 ≤ zs.length := by
  have hx : zs.drop k ≠ [] := fun q => by
    have := congrArg List.length q
    rw [List.length_drop] at this
    simp at this
    omega
  have q := @firF_take (zs.drop k) (zs.drop k).length (Nat.le_refl _) (by rw [List.take_length]; exact hx) (by rw [List.take_length]; exact he)
  rw [List.take_length] at q
  have := q.2.2.1
  rw [List.length_drop] at this
  exact ⟨q.2.1, by omega⟩
theorem news_seven (W : World) (x0 x1 x2 x3 x4 x5 x6 : Value) (t : TypeId) : ∀ j u, [x0, x1, x2, x3, x4, x5, x6][j]? = some u → (W.alloc (.cells #[x0, x1, x2, x3, x4, x5, x6] t)).cell? ((⟨W.heap.size, 0, none⟩ : Addr).add j) = some u := by
  intro j u hu
  rw [addr_add, Nat.zero_add, cell_of_row _ W.heap.size j #[x0, x1, x2, x3, x4, x5, x6] t (0, 0) (heap_alloc_new W _)]
  simpa using hu
theorem infoO : (Try.prog.info? 35).map (fun i => (i.zero, i.size, i.bytes)) = some (some (.agg #[.int .i64 0, .int .i64 0, .int .u8 0, .bool false, .int .u8 0, .slice none 0 0, .slice none 0 0]), 7, 72) := by kernel_rfl
/-- All of them: the orders, how many bytes, the error. -/
def AllD (zs : List Int) (w : World) (e : Ending) (w' : World) : Prop := ∃ l xs, e = .returned (.tuple #[l, .int .i64 (allF zs.length zs).2.1, .int .i64 (allF zs.length zs).2.2]) ∧ xs.map OpV.d = (allF zs.length zs).1 ∧ OpsM w' l xs ∧ Below w.heap.size w w' ∧ ∀ k ∈ blkV l, w.heap.size ≤ k
theorem all_end {zs : List Int} {w w' : World} {l : Value} {xs : List OpV} {k : Nat} {er ki : Int} (he : allF zs.length zs = (xs.map OpV.d, k, er)) (hk : ki = k) (h : OpsM w' l xs) (hb : Below w.heap.size w w') (hl : ∀ k ∈ blkV l, w.heap.size ≤ k) : AllD zs w (.returned (.tuple #[l, .int .i64 ki, .int .i64 er])) w' := by
  subst hk
  exact ⟨l, xs, by rw [he], by rw [he], h, hb, hl⟩
set_option maxRecDepth 100000 in
set_option maxHeartbeats 2000000 in
theorem all_any (v : Value) (zs : List Int) (w : World) (h : Reads w v zs) (hlz : zs.length ≤ 100000) : Calls Try.prog 11 #[v] w (AllD zs w) := by
  obtain ⟨i0, hi, hz0, hz1, hz2⟩ := info_parts infoO
  have HR := hid h
  obtain ⟨x, c, rfl⟩ := reads_sl h
  have HBY := hid (fun k (hk : k ≤ zs.length) => run_from_all h k hk)
  have HFA := hid (fun q k (hk : k < zs.length) W (hr : Reads W q (zs.drop k)) => first_any q (zs.drop k) W hr (fun e => by have := congrArg List.length e; rw [List.length_drop] at this; simp at this; omega) (by rw [List.length_drop]; omega))
  have HNX := hid (fun k ds (hh : AllI zs k ds) (hk : k < zs.length) he => hh.next hk he)
  have HBD := hid (fun k ds (hh : AllI zs k ds) (hk : k < zs.length) he => hh.bad hk he)
  have HST := hid (fun ds (hh : AllI zs zs.length ds) => hh.stop)
  have HUS := hid (fun k (hk : k < zs.length) he => fir_used hk he)
  have HS0 := hid (AllI.start zs)
  clear h
  obtain ⟨n, hn⟩ : ∃ n, zs.length = n := ⟨_, rfl⟩
  rw [hn] at HBY HFA HNX HBD HST HUS hlz ⊢
  have HN := hid hn
  clear hn
  go_enter Try.func11, Try.ntmps11
  go_wp2_with fail
  go_loopw [5, 6] (fun l i W => ∃ (k : Nat) (xs : List OpV), k ≤ n ∧ i = .int .i64 k ∧ Hid (xs.length ≤ k) ∧ Hid (OpsM W l xs) ∧ Hid (Below w.heap.size w W) ∧ Hid (∀ b ∈ blkV l, w.heap.size ≤ b) ∧ Hid (AllI zs k (xs.map OpV.d))) (fun _ i _ => n - (intOf i).toNat)
  case atStart => exact ⟨0, [], Nat.zero_le _, rfl, Nat.le_refl _, OpsM.nil _, Below.refl _ _, fun _ q => (by cases q), HS0.out⟩
  case round =>
    obtain ⟨k, xs, hk, rfl, HXL, HO, HB, HLB, HI⟩ := hrel
    by_cases hlt : k < n
    · have hki : (k : Int) < n := by omega
      obtain ⟨q, hsl0, hq⟩ := HBY.out k hk
      have HSL := hid hsl0
      have hsl := HSL.out wr
      have HQ := hid (HFA.out q k hlt wr (reads_below hq HB.out))
      have HNX1 := hid (HNX.out k _ HI.out hlt)
      have HBD1 := hid (HBD.out k _ HI.out hlt)
      have HUS1 := hid (HUS.out k hlt)
      obtain ⟨xq, cq, rfl⟩ := reads_sl hq
      generalize (zs.drop k).length = nq at hsl HQ
      generalize firF (zs.drop k) = res at HQ HNX1 HBD1 HUS1
      obtain ⟨er, ⟨kd, ad, cd, gr, fa, ps, tx⟩, u⟩ := res
      dsimp only at HNX1 HBD1 HUS1
      clear hq hsl0
      obtain ⟨xl, nl, cl, rfl⟩ : ∃ xl nl cl, u5 = .slice xl nl cl := by
        obtain ⟨a, b, e⟩ := row_slice HO.out.row
        exact ⟨_, _, _, e⟩
      go_wp2_with fail
      with_reducible refine HQ.out.mono ?_
      rintro e w2 ⟨pv, tv, rfl, hp2, ht2, hk2, hb2⟩
      dsimp only at hp2 ht2
      obtain ⟨xp, cp, rfl⟩ := row_slice hp2
      obtain ⟨xt, nt, ct, rfl⟩ := own_slice ht2
      have HP2 := hid hp2
      have HT2 := hid ht2
      have HK2 := hid hk2
      have HO2 := hid (HO.out.step hb2)
      have HLT := hid (fun b hb => (own_lt HO.out.row b hb : b < wr.heap.size))
      have HB2 := hid (below_t HB.out hb2)
      have hsz2 := hb2.size
      have HSZ := hid (Nat.le_trans HB.out.size hb2.size)
      have hxl := HXL.out
      by_cases he : er = 0
      · subst he
        obtain ⟨hu1, hu2⟩ := HUS1.out rfl
        have HNX2 := hid (HNX1.out rfl)
        have hs1 : IntKind.i64.wrap ((k : Int) + u) = ((k + u : Nat) : Int) := by rw [IntWalk.i64_in _ (by omega)]; push_cast; rfl
        have HAP1 := hid (show ∀ j ∈ blkV (.slice xp ps.length cp), j ∉ blkV (.slice xl nl cl) from fun j hj q => by have := (hp2.lt j (mem_blkV.1 hj)).1; have := HLT.out j q; omega)
        have HAP2 := hid (show ∀ j ∈ blkV (.slice xt nt ct), j ∉ blkV (.slice xl nl cl) from fun j hj q => by have := hk2 j hj; have := HLT.out j q; omega)
        have ha2 : Below w2.heap.size w2 ((w2.alloc (.cells #[.int .i64 kd, .int .i64 ad, .int .u8 cd, .bool gr, .int .u8 fa, .slice xp ps.length cp, .slice xt nt ct] 35)).alloc (.cells #[.int .i64 kd, .int .i64 ad, .int .u8 cd, .bool gr, .int .u8 fa, .slice xp ps.length cp, .slice xt nt ct] 35)) := bal (bal (Below.refl _ _) _) _
        have HO3 := hid (HO2.out.step ha2)
        have HP3 := hid (own_below (own_weak hp2 (Nat.zero_le _)) ha2)
        have HT3 := hid (ht2.step ha2)
        have HB3 := hid (below_t HB2.out ha2)
        have HNS := hid (news_seven (w2.alloc (.cells #[.int .i64 kd, .int .i64 ad, .int .u8 cd, .bool gr, .int .u8 fa, .slice xp ps.length cp, .slice xt nt ct] 35)) (.int .i64 kd) (.int .i64 ad) (.int .u8 cd) (.bool gr) (.int .u8 fa) (.slice xp ps.length cp) (.slice xt nt ct) 35)
        rw [show (w2.alloc (.cells #[.int .i64 kd, .int .i64 ad, .int .u8 cd, .bool gr, .int .u8 fa, .slice xp ps.length cp, .slice xt nt ct] 35)).heap.size = w2.heap.size + 1 by simp] at HNS
        obtain rfl : nl = xs.length := by obtain ⟨_, _, e⟩ := row_slice HO.out.row; injection e
        have HL2 := hid (show xs.length ≤ 100000 by omega)
        have HRW := hid HO3.out.row
        clear hp2 ht2 hk2 hb2 ha2 HUS1 HNX1 HBD1 hxl
        go_wp2_with (first
          | (at_builtin; refine wpList_append_blk _ rfl _ _ 29 rfl 35 i0 _ 7 72 Try.underlying29 hi hz0 hz1 hz2 rfl (by decide) _ _ _ rfl HRW.out ⟨w2.heap.size + 1, 0, none⟩ 1 1 (opC ⟨⟨kd, ad, cd, gr, fa, ps, tx⟩, .slice xp ps.length cp, .slice xt nt ct⟩) rfl rfl HNS.out (one_opC _ rfl rfl) (by have := HL2.out; unfold maxLen; omega) (by have := HL2.out; omega) ?_; intro v' w3 hown hgrow _ hbl; have HO4 := hid hown; have HG4 := hid hgrow; have HBL4 := hid hbl; clear hown hgrow hbl))
        go_roundw
        case rel =>
          refine ⟨k + u, xs ++ [⟨⟨kd, ad, cd, gr, fa, ps, tx⟩, .slice xp ps.length cp, .slice xt nt ct⟩], hu2, by go_num, ?_, ?_, ?_, ?_, ?_⟩
          · show (xs ++ [_]).length ≤ k + u
            have := HXL.out
            rw [List.length_append]
            simp
            omega
          · exact OpsM.snoc HO3.out HP3.out HT3.out HAP1.out HAP2.out HO4.out HG4.out HBL4.out
          · exact HB3.out.grown HG4.out HB3.out.size (fun j hj => HLB.out j (mem_blkV.2 hj))
          · show ∀ b ∈ blkV v', w.heap.size ≤ b
            intro b hb
            rcases HBL4.out b hb with q | q
            · exact HLB.out b q
            · have := HB3.out.size; omega
          · show AllI zs (k + u) (List.map OpV.d _)
            rw [List.map_append]
            exact HNX2.out
        case measure => simp [intOf]; omega
      · have e0 : (er == 0) = false := by simpa using he
        have e1 : (er != 0) = true := by simpa using he
        have HE := hid (HBD1.out he)
        clear hp2 ht2 hk2 hb2 HUS1 HNX1 HBD1 he
        go_wp2
        go_ret3
        exact all_end (by rw [HN.out]; exact HE.out) rfl (HO2.out.step (bal (Below.refl _ _) _)) (bal HB2.out _) HLB.out
    · obtain rfl : k = n := by omega
      have HE := hid (HST.out _ HI.out)
      obtain ⟨xl, nl, cl, rfl⟩ : ∃ xl nl cl, u5 = .slice xl nl cl := by
        obtain ⟨a, b, e⟩ := row_slice HO.out.row
        exact ⟨_, _, _, e⟩
      go_wp2
      go_ret3
      exact all_end (by rw [HN.out]; exact HE.out) rfl HO.out HB.out HLB.out
end Go.Proofs.Ytjhmjjlmdmmilaa
