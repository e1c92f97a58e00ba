/-
  The codes of a field's places: Text.
-/
import Derived.Test.YtpehhinpohmpiaaFl
namespace Go.Proofs.Ytpehhinpohmpiaa
open Go.RowKit Go.Lib Go.Deep

/-- An append onto what is owned, anywhere. -/
theorem operIn_append_blk {F : Fence} {n : Nat} {P : Program} {w : World} {o : Oper} {a : Act} {K : Act → World → Prop} {Q : Exit → Act → World → Prop}
    (s x : Operand) (t : TypeId) (hop : o.op = Op.call { callee := Callee.builtin Builtin.append, args := #[s, x], argTypes := #[t, t] })
    (e : TypeId) (i : TypeInfo) (z : Value) (size bytes : Nat) (h1 : P.underlying t = some (.slice e)) (h2 : P.info? e = some i) (h3 : i.zero = some z) (h4 : i.size = size) (h5 : i.bytes = bytes) (h6 : z.cells.size = size) (h7 : 0 < size)
    (v : Value) (k : Nat) (xs : List Value) (hs : a.eval s = v) (hown : w.ownsRow 0 e size v k xs) (ad : Addr) (m c : Nat) (news : List Value) (hx : a.eval x = .slice (some ad) m c) (hn : news.length = m * size)
    (hc : ∀ j u, news[j]? = some u → w.cell? (ad.add j) = some u) (h1c : ∀ u ∈ news, u.oneCell' = true) (b1 : k + m ≤ maxLen) (b2 : (k + m) * bytes ≤ 140737488355328)
    (hK : ∀ v' w', w'.ownsRow 0 e size v' (k + m) (xs ++ news) → w.grownBy w' v.ownBlock → (∀ k ∈ blkV v', k ∈ blkV v ∨ w.heap.size ≤ k) → K (a.put o.dst v') w') :
    Oper.wpIn F n P o a w K Q := by
  obtain ⟨v', w', hrun, r1, r2, _, r4⟩ := run_append_blk (P := P) w t o.type e i z size bytes h1 h2 h3 h4 h5 h6 h7 v k xs hown ad m c news hn hc h1c b1 b2
  unfold Oper.wpIn
  refine ⟨?_, ?_⟩
  · simp [Oper.about, hop, resolve, Target.leads, Sem.run_pure]
  · rw [Oper.semAt_plain F _ _ (by rw [hop]; intro c hc'; cases hc')]
    simp [execOp, hop, resolve, invoke, builtin, hs, hx, hrun, Result.andThen]
    exact hK v' w' r1 r2 r4
theorem celf0 (x0 : Int) (x1 : Bool) (x2 x3 x4 x5 : Int) (w : World) : (Instr.field 30 (.agg #[.int .u8 x0, .bool x1, .int .u8 x2, .int .u8 x3, .int .u8 x4, .int .u8 x5]) 0).run Try.prog w = .ok (.int .u8 x0) w := by kernel_rfl
theorem info8 : (Try.prog.info? 5).map (fun i => (i.zero, i.size, i.bytes)) = some (some (.int .u8 0), 1, 1) := by kernel_rfl
/-- The codes of some places. -/
def txL (s : Spc) (l : List Nat) : List Int := l.map (fun i => (s.cel i).ch)
def txV (s : Spc) (l : List Nat) : List Value := (txL s l).map (Value.int .u8)
theorem txV_one {s : Spc} {l : List Nat} {k x : Nat} (h : l[k]? = some x) : txV s (l.take (k + 1)) = txV s (l.take k) ++ [.int .u8 (s.cel x).ch] := by
  unfold txV txL
  rw [take_one l k x h, List.map_append, List.map_append]
  rfl
theorem one8 (V : World) (u : Value) (t : TypeId) (b : Nat) (hb : b = V.heap.size) : ∀ j x, ([u] : List Value)[j]? = some x → (V.alloc (.cells #[u] t)).cell? ((⟨b, 0, none⟩ : Addr).add j) = some x := one_new V u t b hb
section
attribute [local go_sem] Oper.semAt_some
set_option maxRecDepth 100000 in
set_option maxHeartbeats 8000000 in
theorem text_in (m : Nat) (hm : 6 ≤ m) (b g : Nat) (s : Spc) (n : Int) (hn : I64 n) (w : World) (h : SpM w b g s) :
    CallsIn Fence.wide m Try.prog 61 #[.pointer (some ⟨b, 0, none⟩), .int .i64 n] w (ListD 5 1 (txV s (plL s.P s.L.length (s.wr n))) (plL s.P s.L.length (s.wr n)).length w) := by
  obtain ⟨i0, hi, hz0, hz1, hz2⟩ := info_parts info8
  have hN := h.ok.pos
  have HSP := hid (show ∀ V, Below w.heap.size w V → SpM V b g s from fun V hV => h.below hV)
  have hKB : (plL s.P s.L.length (s.wr n)).length ≤ 4000 := by
    unfold plL
    split
    · have := plF_len s.P s.L.length (s.wr n) (s.L.length - 1) 0
      omega
    · simp
  have hMB : ∀ x ∈ plL s.P s.L.length (s.wr n), x < s.L.length := fun x hx => by
    obtain ⟨k, hk, rfl⟩ := List.mem_iff_getElem.1 hx
    by_cases hp : s.P (s.wr n) = true
    · have e : plL s.P s.L.length (s.wr n) = plF s.P s.L.length (s.wr n) (s.L.length - 1) 0 := by unfold plL; rw [if_pos hp]
      have hk2 : k < (plF s.P s.L.length (s.wr n) (s.L.length - 1) 0).length := by rw [← e]; exact hk
      have q := (plF_get s.P s.L.length (s.wr n) (s.L.length - 1) 0 k hk2).1
      rw [← e, List.getElem?_eq_getElem hk] at q
      injection q with q
      rw [q]
      exact Nat.mod_lt _ hN.1
    · have e : plL s.P s.L.length (s.wr n) = [] := by unfold plL; rw [if_neg hp]
      rw [e] at hk
      exact absurd hk (Nat.not_lt_zero _)
  have HSQ := hid (fun bx by_ V => (show SeqF Fence.wide (m - 1) Try.prog 144 #[.pointer (some ⟨bx, 0, none⟩), .pointer (some ⟨by_, 0, none⟩)] encI (fun k x _ => (plL s.P s.L.length (s.wr n))[k]? = some x) (plL s.P s.L.length (s.wr n)).length (RPl bx by_ b s.L.length n s.P) V from places_seq (m - 1) (by omega) bx by_ b s.L.length n hn s.P V))
  generalize plL s.P s.L.length (s.wr n) = pl at HSQ hKB hMB ⊢
  have HMB := hid hMB
  clear h hn hMB
  refine callsIn_of_wp_marks Try.func61 rfl trivial ?_ rfl
  simp only [Try.ntmps61, List.size_toArray, List.length_cons, List.length_nil, Nat.reduceAdd, Nat.reduceSub, Array.replicate_succ, Array.replicate_zero, List.push_toArray, List.append_toArray, List.nil_append, List.cons_append]
  gi_wp2
  obtain ⟨a0, ha0⟩ : ∃ a0, w.alloc (.cells #[.pointer (some ⟨b, 0, none⟩)] 25) = a0 := ⟨_, rfl⟩
  have hz0' : a0.heap.size = w.heap.size + 1 := by rw [← ha0]; simp
  have hb0 : Below w.heap.size w a0 := by rw [← ha0]; exact bal (Below.refl _ _) _
  have c0 : a0.cell? ⟨w.heap.size, 0, none⟩ = some (.pointer (some ⟨b, 0, none⟩)) := by rw [← ha0]; simp [go_sem]
  obtain ⟨a1, ha1⟩ : ∃ a1, a0.alloc (.cells #[.slice none 0 0] 60) = a1 := ⟨_, rfl⟩
  have hz1' : a1.heap.size = w.heap.size + 2 := by rw [← ha1]; simp [hz0']
  have hb1 : Below a0.heap.size a0 a1 := by rw [← ha1]; exact bal (Below.refl _ _) _
  have oc : a1.cell? ⟨w.heap.size + 1, 0, none⟩ = some (.slice none 0 0) := by rw [← ha1, ← hz0']; simp [go_sem]
  have of : a1.frozen? ⟨w.heap.size + 1, 0, none⟩ = false := by rw [← ha1, ← hz0']; simp [go_sem]
  have HBL := hid (show Below w.heap.size w a1 from below_t hb0 hb1)
  have HOC := hid (And.intro oc (And.intro of (keepc hb1 c0)))
  simp only [ha0, ha1]
  clear hb0 hb1 ha0 ha1 oc of c0
  refine ⟨trivial, fun _ => (by omega), ?_⟩
  refine (callsIn_wide.2 (placesIt (some ⟨b, 0, none⟩) n _)).mono ?_
  rintro e w1 ⟨bx, by_, rfl, hbx, hby, hcx, hcy, hb1⟩
  have HB1 := hid (below_t HBL.out hb1)
  have hzw := hb1.size
  have hlz : w.heap.size ≤ w1.heap.size := by omega
  have HI0 := hid (show w1.cell? ⟨w.heap.size, 0, none⟩ = some (.pointer (some ⟨b, 0, none⟩)) ∧ w1.cell? ⟨bx, 0, none⟩ = some (.pointer (some ⟨b, 0, none⟩)) ∧ w1.cell? ⟨by_, 0, none⟩ = some (.int .i64 n) ∧ bx ∉ ([] : List Nat) ∧ by_ ∉ ([] : List Nat) ∧ Acc w1.heap.size (w.heap.size + 1) 5 1 (txV s (pl.take 0)) 0 [] w1 ∧ Below w.heap.size w w1 from ⟨keepc hb1 HOC.out.2.2, hcx, hcy, by simp, by simp, ⟨⟨.slice none 0 0, keepc hb1 HOC.out.1, (hb1.frozen (p := ⟨w.heap.size + 1, 0, none⟩) (by show w.heap.size + 1 < a1.heap.size; omega)).trans HOC.out.2.1, World.ownsRow_nil _ _ _ _, fun q hq => (by cases hq)⟩, by omega, fun q hq => (by cases hq)⟩, HB1.out⟩)
  have hbx' : w.heap.size + 2 ≤ bx := by omega
  have hby' : w.heap.size + 2 ≤ by_ := by omega
  clear hb1 hcx hcy hbx hby HOC
  gi_wp2
  refine rangeFunc_seq (n := m) (w := w1) rfl (by omega) (gf := 144) (lb := #[.pointer (some ⟨bx, 0, none⟩), .pointer (some ⟨by_, 0, none⟩)]) rfl trivial (enters_of Try.func144 (by kernel_rfl) rfl)
    (encs := encI) (fun _ => rfl) (el := fun k x _ => pl[k]? = some x) (N := pl.length) (R := RPl bx by_ b s.L.length n s.P)
    (fun k S V => V.cell? ⟨w.heap.size, 0, none⟩ = some (.pointer (some ⟨b, 0, none⟩)) ∧ V.cell? ⟨bx, 0, none⟩ = some (.pointer (some ⟨b, 0, none⟩)) ∧ V.cell? ⟨by_, 0, none⟩ = some (.int .i64 n) ∧ bx ∉ S ∧ by_ ∉ S ∧ Acc w1.heap.size (w.heap.size + 1) 5 1 (txV s (pl.take k)) k S V ∧ Below w.heap.size w V) (fun _ _ _ _ => False) ?hI ?hIx ?hR HI0.out
    (fun k S x a V => (V.cell? ⟨w.heap.size, 0, none⟩ = some (.pointer (some ⟨b, 0, none⟩)) ∧ V.cell? ⟨bx, 0, none⟩ = some (.pointer (some ⟨b, 0, none⟩)) ∧ V.cell? ⟨by_, 0, none⟩ = some (.int .i64 n) ∧ bx ∉ S ∧ by_ ∉ S ∧ Acc w1.heap.size (w.heap.size + 1) 5 1 (txV s (pl.take k)) k S V ∧ Below w.heap.size w V) ∧ pl[k]? = some x ∧ a = { tmps := #[.pointer (some ⟨b, 0, none⟩), .int .i64 n, .pointer (some ⟨w.heap.size, 0, none⟩), undef, .slice none 0 0, .pointer (some ⟨w.heap.size + 1, 0, none⟩), .int .i64 (x : Nat), .pointer (some ⟨b, 0, none⟩), .int .i64 n, .func (.func 144) #[] #[.pointer (some ⟨bx, 0, none⟩), .pointer (some ⟨by_, 0, none⟩)], .int .i64 (x : Nat), undef, undef, undef, undef, undef, undef, undef, undef], defers := [] }) ?hAx ?assign ?body ?iter ?done ?stop
  case hI => exact fun k S A C hg ⟨h1, h2, h3, h4, h5, h6, h7⟩ => ⟨cell_grow hg h1, cell_grow hg h2, cell_grow hg h3, h4, h5, h6.grow hg, below_grow h7 hg hlz (Nat.le_refl _)⟩
  case hIx => exact fun c k S A C hg h => h.elim
  case hR => exact fun k S V h => ⟨h.2.1, h.2.2.1, (HSP.out V h.2.2.2.2.2.2).spP⟩
  case hAx => exact fun k S x a A C hg ⟨⟨h1, h2, h3, h4, h5, h6, h7⟩, h8, h9⟩ => ⟨⟨cell_grow hg h1, cell_grow hg h2, cell_grow hg h3, h4, h5, h6.grow hg, below_grow h7 hg hlz (Nat.le_refl _)⟩, h8, h9⟩
  case iter => exact fun o1 o2 _ _ => HSQ.out bx by_ _
  case assign =>
    rintro l' k x S V KK hk hx1 hi' hsz hK
    have HK := hid hK
    have HI := hid hi'
    clear hK hi'
    gi_wp2
    exact HK.out _ _ (Touch.refl _ _ _) ⟨HI.out, hx1, by simp⟩
  case body =>
    rintro l' k x S a' V hk ⟨hJ, hx, rfl⟩ hsz
    have HJ := hid hJ
    obtain ⟨v, hv, hf, hrow, hbl⟩ := hJ.2.2.2.2.2.1.ex
    have hxm := HMB.out x (List.mem_of_getElem? hx)
    have HATx := hid (fun W (hb : Below V.heap.size V W) => (show Calls Try.prog 20 #[.pointer (some ⟨b, 0, none⟩), .int .i64 (x : Nat)] W fun e w' => e = .returned (s.cel x).v ∧ Below W.heap.size W w' from by
      have q1 := at_any (b := b) (g := g) (s := s) (x : Int) (i64_small (by omega) (by omega)) W ((HSP.out V hJ.2.2.2.2.2.2).below hb)
      unfold Spc.atC at q1
      rwa [wr_nat hxm] at q1))
    have HTS := hid (txV_one (s := s) hx)
    generalize s.cel x = c at HATx HTS
    obtain ⟨x0, x1, x2, x3, x4, x5⟩ := c
    dsimp only at HTS
    have hf0 := celf0
    obtain ⟨V0, hV0⟩ : ∃ V0, V.drew = V0 := ⟨_, rfl⟩
    have HB0 := hid (show Below V.heap.size V V0 by rw [← hV0]; exact (Below.refl _ _).drew)
    have c0 := keepc HB0.out hJ.1
    have cv0 := keepc HB0.out hv
    have l0 := World.block_lt_of_cell? V0 _ c0
    have lv := World.block_lt_of_cell? V0 _ cv0
    have HA0 := hid (hJ.2.2.2.2.2.1.grow (Grow.below HB0.out 0))
    have HR0 := hid (own_below hrow HB0.out)
    have hmV0 : w1.heap.size ≤ V0.heap.size := Nat.le_trans (by omega) HB0.out.size
    clear hJ hv hf hrow hbl hx
    gi_wp2
    refine wpIn_region_round (by kernel_rfl) (by kernel_rfl) ?_
    rw [hV0]
    refine wpAnyIn_take (i := 2) (v := .int .i64 (x : Nat)) (fuel := 7) rfl rfl (by kernel_rfl) (by kernel_rfl) (by kernel_rfl) (fun _ _ _ h => h) ⟨Or.inl ⟨by rfl, fun w => ?_⟩, fun _ => rfl⟩ ?_
    · go_simp
      try with_reducible rfl
    simp only [Act.put, List.setIfInBounds_toArray, List.set_cons_zero, List.set_cons_succ]
    refine wpAnyIn_ready (rs := [0, 1]) (by kernel_rfl) (by simp) ?_
    refine AllReadyIn.cons (by simp only [List.getElem?_toArray, List.getElem?_cons_zero]; rfl) (fun K hK => ?_) (AllReadyIn.cons (by simp only [List.getElem?_toArray, List.getElem?_cons_succ, List.getElem?_cons_zero]; rfl) (fun K hK => ?_) AllReadyIn.nil)
    · go_simp
      refine hK _ _ ?_
      clear hK K
      (try simp only [Act.put, List.setIfInBounds_toArray, List.set_cons_zero, List.set_cons_succ])
      refine wpAnyIn_ready (rs := [1]) (by kernel_rfl) (by simp) ?_
      refine AllReadyIn.cons (by simp only [List.getElem?_toArray, List.getElem?_cons_succ, List.getElem?_cons_zero]; rfl) (fun K hK => ?_) AllReadyIn.nil
      · go_simp
        refine hK _ _ ?_
        clear hK K
        (try simp only [Act.put, List.setIfInBounds_toArray, List.set_cons_zero, List.set_cons_succ])
        refine wpAnyIn_ready (rs := [3]) (by kernel_rfl) (by simp) ?_
        refine AllReadyIn.cons (by simp only [List.getElem?_toArray, List.getElem?_cons_succ, List.getElem?_cons_zero]; rfl) (fun K hK => ?_) AllReadyIn.nil
        · go_simp
          refine ⟨trivial, fun _ => (by omega), ?_⟩
          refine (callsIn_wide.2 (HATx.out _ HB0.out)).mono ?_
          rintro e w4 ⟨rfl, hb4⟩
          refine hK _ _ ?_
          clear hK K
          have HB4 := hid (below_t HB0.out hb4)
          have cv4 := keepc hb4 cv0
          have lt4 := World.block_lt_of_cell? w4 _ cv4
          have HA4 := hid (HA0.out.grow (Grow.below hb4 0))
          have HR4 := hid (own_below HR0.out hb4)
          have HC4 := hid cv4
          have hm4 : w1.heap.size ≤ w4.heap.size := Nat.le_trans hmV0 hb4.size
          clear hb4
          (try simp only [Act.put, List.setIfInBounds_toArray, List.set_cons_zero, List.set_cons_succ])
          refine wpAnyIn_take (i := 4) (v := .int .u8 x0) (fuel := 3) rfl rfl (by kernel_rfl) (by kernel_rfl) (by kernel_rfl) (fun _ _ _ h => h) ⟨Or.inl ⟨by rfl, fun w => ?_⟩, fun _ => rfl⟩ ?_
          · go_simp
            try with_reducible rfl
          simp only [Act.put, List.setIfInBounds_toArray, List.set_cons_zero, List.set_cons_succ]
          refine wpAnyIn_ready (rs := [5]) (by kernel_rfl) (by simp) ?_
          refine AllReadyIn.cons (by simp only [List.getElem?_toArray, List.getElem?_cons_succ, List.getElem?_cons_zero]; rfl) (fun K hK => ?_) AllReadyIn.nil
          · go_simp
            refine hK _ _ ?_
            clear hK K
            (try simp only [Act.put, List.setIfInBounds_toArray, List.set_cons_zero, List.set_cons_succ])
            refine wpAnyIn_ready (rs := [6]) (by kernel_rfl) (by simp) ?_
            refine AllReadyIn.cons (by simp only [List.getElem?_toArray, List.getElem?_cons_succ, List.getElem?_cons_zero]; rfl) (fun K hK => ?_) AllReadyIn.nil
            · rw [if_pos (by rfl)]
              refine operIn_append_blk _ _ 60 rfl 5 i0 _ 1 1 Try.underlying60 hi hz0 hz1 hz2 rfl (by decide) v k (txV s (pl.take k)) rfl (HR4.out.alloc _) ⟨w4.heap.size, 0, none⟩ 1 1 [.int .u8 x0] rfl rfl (one8 w4 _ _ _ rfl) (by simp [Value.oneCell']) (by unfold maxLen; omega) (by omega) ?_
              intro v' W1 hown' hgrow hb'
              obtain ⟨s1, s2, s3, s4, s5, s6, s7⟩ := HA4.out.step HC4.out hown' hgrow hb' hm4
              obtain ⟨g', cap', rfl⟩ := row_any hown'
              have S4 := hid s4
              have S5 := hid s5
              have S6 := hid (s6 w.heap.size w (by omega) (below_t HJ.out.2.2.2.2.2.2 HB4.out))
              have S7 := hid s7
              clear hown' hgrow s4 s5 s6 s7 hb'
              refine hK _ _ ?_
              clear hK K
              (try simp only [Act.put, List.setIfInBounds_toArray, List.set_cons_zero, List.set_cons_succ])
              refine wpAnyIn_ready (rs := [7]) (by kernel_rfl) (by simp) ?_
              refine AllReadyIn.cons (by simp only [List.getElem?_toArray, List.getElem?_cons_succ, List.getElem?_cons_zero]; rfl) (fun K hK => ?_) AllReadyIn.nil
              · go_simp
                refine hK _ _ ?_
                clear hK K
                (try simp only [Act.put, List.setIfInBounds_toArray, List.set_cons_zero, List.set_cons_succ])
                refine wpAnyIn_done (by kernel_rfl) ?_ _
                gi_wp2
                obtain ⟨j1, j2, j3, j4, j5, j6, j7⟩ := HJ.out
                have hms := HA4.out.ms
                have q1 : ∀ i u, V.cell? ⟨i, 0, none⟩ = some u → i ≠ w.heap.size + 1 → i ∉ S → (W1.setCell ⟨w.heap.size + 1, 0, none⟩ (.slice g' (k + 1) cap')).cell? ⟨i, 0, none⟩ = some u := fun i u hu hne hS => by
                  have h4 := keepc HB4.out hu
                  exact (World.cell?_of_block (a := ⟨i, 0, none⟩) (S7.out i (World.block_lt_of_cell? _ _ h4) hne hS)).trans h4
                refine ⟨_, (Touch.below HB4.out _ S).trans S5.out, q1 _ _ j1 (by omega) (fun q => by have := hms _ q; omega), q1 _ _ j2 (by omega) j4, q1 _ _ j3 (by omega) j5, ?_, ?_, ?_, S6.out⟩
                · exact notin_touch ((Touch.below HB4.out _ S).trans S5.out) j4 (World.block_lt_of_cell? V _ j2)
                · exact notin_touch ((Touch.below HB4.out _ S).trans S5.out) j5 (World.block_lt_of_cell? V _ j3)
                · rw [HTS.out]
                  exact S4.out
    · go_simp
      refine hK _ _ ?_
      clear hK K
      (try simp only [Act.put, List.setIfInBounds_toArray, List.set_cons_zero, List.set_cons_succ])
      refine wpAnyIn_ready (rs := [0, 3]) (by kernel_rfl) (by simp) ?_
      refine AllReadyIn.cons (by simp only [List.getElem?_toArray, List.getElem?_cons_zero]; rfl) (fun K hK => ?_) (AllReadyIn.cons (by simp only [List.getElem?_toArray, List.getElem?_cons_succ, List.getElem?_cons_zero]; rfl) (fun K hK => ?_) AllReadyIn.nil)
      · go_simp
        refine hK _ _ ?_
        clear hK K
        (try simp only [Act.put, List.setIfInBounds_toArray, List.set_cons_zero, List.set_cons_succ])
        refine wpAnyIn_ready (rs := [3]) (by kernel_rfl) (by simp) ?_
        refine AllReadyIn.cons (by simp only [List.getElem?_toArray, List.getElem?_cons_succ, List.getElem?_cons_zero]; rfl) (fun K hK => ?_) AllReadyIn.nil
        · go_simp
          refine ⟨trivial, fun _ => (by omega), ?_⟩
          refine (callsIn_wide.2 (HATx.out _ HB0.out)).mono ?_
          rintro e w4 ⟨rfl, hb4⟩
          refine hK _ _ ?_
          clear hK K
          have HB4 := hid (below_t HB0.out hb4)
          have cv4 := keepc hb4 cv0
          have lt4 := World.block_lt_of_cell? w4 _ cv4
          have HA4 := hid (HA0.out.grow (Grow.below hb4 0))
          have HR4 := hid (own_below HR0.out hb4)
          have HC4 := hid cv4
          have hm4 : w1.heap.size ≤ w4.heap.size := Nat.le_trans hmV0 hb4.size
          clear hb4
          (try simp only [Act.put, List.setIfInBounds_toArray, List.set_cons_zero, List.set_cons_succ])
          refine wpAnyIn_take (i := 4) (v := .int .u8 x0) (fuel := 3) rfl rfl (by kernel_rfl) (by kernel_rfl) (by kernel_rfl) (fun _ _ _ h => h) ⟨Or.inl ⟨by rfl, fun w => ?_⟩, fun _ => rfl⟩ ?_
          · go_simp
            try with_reducible rfl
          simp only [Act.put, List.setIfInBounds_toArray, List.set_cons_zero, List.set_cons_succ]
          refine wpAnyIn_ready (rs := [5]) (by kernel_rfl) (by simp) ?_
          refine AllReadyIn.cons (by simp only [List.getElem?_toArray, List.getElem?_cons_succ, List.getElem?_cons_zero]; rfl) (fun K hK => ?_) AllReadyIn.nil
          · go_simp
            refine hK _ _ ?_
            clear hK K
            (try simp only [Act.put, List.setIfInBounds_toArray, List.set_cons_zero, List.set_cons_succ])
            refine wpAnyIn_ready (rs := [6]) (by kernel_rfl) (by simp) ?_
            refine AllReadyIn.cons (by simp only [List.getElem?_toArray, List.getElem?_cons_succ, List.getElem?_cons_zero]; rfl) (fun K hK => ?_) AllReadyIn.nil
            · rw [if_pos (by rfl)]
              refine operIn_append_blk _ _ 60 rfl 5 i0 _ 1 1 Try.underlying60 hi hz0 hz1 hz2 rfl (by decide) v k (txV s (pl.take k)) rfl (HR4.out.alloc _) ⟨w4.heap.size, 0, none⟩ 1 1 [.int .u8 x0] rfl rfl (one8 w4 _ _ _ rfl) (by simp [Value.oneCell']) (by unfold maxLen; omega) (by omega) ?_
              intro v' W1 hown' hgrow hb'
              obtain ⟨s1, s2, s3, s4, s5, s6, s7⟩ := HA4.out.step HC4.out hown' hgrow hb' hm4
              obtain ⟨g', cap', rfl⟩ := row_any hown'
              have S4 := hid s4
              have S5 := hid s5
              have S6 := hid (s6 w.heap.size w (by omega) (below_t HJ.out.2.2.2.2.2.2 HB4.out))
              have S7 := hid s7
              clear hown' hgrow s4 s5 s6 s7 hb'
              refine hK _ _ ?_
              clear hK K
              (try simp only [Act.put, List.setIfInBounds_toArray, List.set_cons_zero, List.set_cons_succ])
              refine wpAnyIn_ready (rs := [7]) (by kernel_rfl) (by simp) ?_
              refine AllReadyIn.cons (by simp only [List.getElem?_toArray, List.getElem?_cons_succ, List.getElem?_cons_zero]; rfl) (fun K hK => ?_) AllReadyIn.nil
              · go_simp
                refine hK _ _ ?_
                clear hK K
                (try simp only [Act.put, List.setIfInBounds_toArray, List.set_cons_zero, List.set_cons_succ])
                refine wpAnyIn_done (by kernel_rfl) ?_ _
                gi_wp2
                obtain ⟨j1, j2, j3, j4, j5, j6, j7⟩ := HJ.out
                have hms := HA4.out.ms
                have q1 : ∀ i u, V.cell? ⟨i, 0, none⟩ = some u → i ≠ w.heap.size + 1 → i ∉ S → (W1.setCell ⟨w.heap.size + 1, 0, none⟩ (.slice g' (k + 1) cap')).cell? ⟨i, 0, none⟩ = some u := fun i u hu hne hS => by
                  have h4 := keepc HB4.out hu
                  exact (World.cell?_of_block (a := ⟨i, 0, none⟩) (S7.out i (World.block_lt_of_cell? _ _ h4) hne hS)).trans h4
                refine ⟨_, (Touch.below HB4.out _ S).trans S5.out, q1 _ _ j1 (by omega) (fun q => by have := hms _ q; omega), q1 _ _ j2 (by omega) j4, q1 _ _ j3 (by omega) j5, ?_, ?_, ?_, S6.out⟩
                · exact notin_touch ((Touch.below HB4.out _ S).trans S5.out) j4 (World.block_lt_of_cell? V _ j2)
                · exact notin_touch ((Touch.below HB4.out _ S).trans S5.out) j5 (World.block_lt_of_cell? V _ j3)
                · rw [HTS.out]
                  exact S4.out
      · go_simp
        refine ⟨trivial, fun _ => (by omega), ?_⟩
        refine (callsIn_wide.2 (HATx.out _ HB0.out)).mono ?_
        rintro e w4 ⟨rfl, hb4⟩
        refine hK _ _ ?_
        clear hK K
        have HB4 := hid (below_t HB0.out hb4)
        have cv4 := keepc hb4 cv0
        have lt4 := World.block_lt_of_cell? w4 _ cv4
        have HA4 := hid (HA0.out.grow (Grow.below hb4 0))
        have HR4 := hid (own_below HR0.out hb4)
        have HC4 := hid cv4
        have hm4 : w1.heap.size ≤ w4.heap.size := Nat.le_trans hmV0 hb4.size
        clear hb4
        (try simp only [Act.put, List.setIfInBounds_toArray, List.set_cons_zero, List.set_cons_succ])
        refine wpAnyIn_take (i := 4) (v := .int .u8 x0) (fuel := 4) rfl rfl (by kernel_rfl) (by kernel_rfl) (by kernel_rfl) (fun _ _ _ h => h) ⟨Or.inl ⟨by rfl, fun w => ?_⟩, fun _ => rfl⟩ ?_
        · go_simp
          try with_reducible rfl
        simp only [Act.put, List.setIfInBounds_toArray, List.set_cons_zero, List.set_cons_succ]
        refine wpAnyIn_ready (rs := [0, 5]) (by kernel_rfl) (by simp) ?_
        refine AllReadyIn.cons (by simp only [List.getElem?_toArray, List.getElem?_cons_zero]; rfl) (fun K hK => ?_) (AllReadyIn.cons (by simp only [List.getElem?_toArray, List.getElem?_cons_succ, List.getElem?_cons_zero]; rfl) (fun K hK => ?_) AllReadyIn.nil)
        · go_simp
          refine hK _ _ ?_
          clear hK K
          (try simp only [Act.put, List.setIfInBounds_toArray, List.set_cons_zero, List.set_cons_succ])
          refine wpAnyIn_ready (rs := [5]) (by kernel_rfl) (by simp) ?_
          refine AllReadyIn.cons (by simp only [List.getElem?_toArray, List.getElem?_cons_succ, List.getElem?_cons_zero]; rfl) (fun K hK => ?_) AllReadyIn.nil
          · go_simp
            refine hK _ _ ?_
            clear hK K
            (try simp only [Act.put, List.setIfInBounds_toArray, List.set_cons_zero, List.set_cons_succ])
            refine wpAnyIn_ready (rs := [6]) (by kernel_rfl) (by simp) ?_
            refine AllReadyIn.cons (by simp only [List.getElem?_toArray, List.getElem?_cons_succ, List.getElem?_cons_zero]; rfl) (fun K hK => ?_) AllReadyIn.nil
            · rw [if_pos (by rfl)]
              refine operIn_append_blk _ _ 60 rfl 5 i0 _ 1 1 Try.underlying60 hi hz0 hz1 hz2 rfl (by decide) v k (txV s (pl.take k)) rfl (HR4.out.alloc _) ⟨w4.heap.size, 0, none⟩ 1 1 [.int .u8 x0] rfl rfl (one8 w4 _ _ _ rfl) (by simp [Value.oneCell']) (by unfold maxLen; omega) (by omega) ?_
              intro v' W1 hown' hgrow hb'
              obtain ⟨s1, s2, s3, s4, s5, s6, s7⟩ := HA4.out.step HC4.out hown' hgrow hb' hm4
              obtain ⟨g', cap', rfl⟩ := row_any hown'
              have S4 := hid s4
              have S5 := hid s5
              have S6 := hid (s6 w.heap.size w (by omega) (below_t HJ.out.2.2.2.2.2.2 HB4.out))
              have S7 := hid s7
              clear hown' hgrow s4 s5 s6 s7 hb'
              refine hK _ _ ?_
              clear hK K
              (try simp only [Act.put, List.setIfInBounds_toArray, List.set_cons_zero, List.set_cons_succ])
              refine wpAnyIn_ready (rs := [7]) (by kernel_rfl) (by simp) ?_
              refine AllReadyIn.cons (by simp only [List.getElem?_toArray, List.getElem?_cons_succ, List.getElem?_cons_zero]; rfl) (fun K hK => ?_) AllReadyIn.nil
              · go_simp
                refine hK _ _ ?_
                clear hK K
                (try simp only [Act.put, List.setIfInBounds_toArray, List.set_cons_zero, List.set_cons_succ])
                refine wpAnyIn_done (by kernel_rfl) ?_ _
                gi_wp2
                obtain ⟨j1, j2, j3, j4, j5, j6, j7⟩ := HJ.out
                have hms := HA4.out.ms
                have q1 : ∀ i u, V.cell? ⟨i, 0, none⟩ = some u → i ≠ w.heap.size + 1 → i ∉ S → (W1.setCell ⟨w.heap.size + 1, 0, none⟩ (.slice g' (k + 1) cap')).cell? ⟨i, 0, none⟩ = some u := fun i u hu hne hS => by
                  have h4 := keepc HB4.out hu
                  exact (World.cell?_of_block (a := ⟨i, 0, none⟩) (S7.out i (World.block_lt_of_cell? _ _ h4) hne hS)).trans h4
                refine ⟨_, (Touch.below HB4.out _ S).trans S5.out, q1 _ _ j1 (by omega) (fun q => by have := hms _ q; omega), q1 _ _ j2 (by omega) j4, q1 _ _ j3 (by omega) j5, ?_, ?_, ?_, S6.out⟩
                · exact notin_touch ((Touch.below HB4.out _ S).trans S5.out) j4 (World.block_lt_of_cell? V _ j2)
                · exact notin_touch ((Touch.below HB4.out _ S).trans S5.out) j5 (World.block_lt_of_cell? V _ j3)
                · rw [HTS.out]
                  exact S4.out
        · go_simp
          refine hK _ _ ?_
          clear hK K
          (try simp only [Act.put, List.setIfInBounds_toArray, List.set_cons_zero, List.set_cons_succ])
          refine wpAnyIn_ready (rs := [0]) (by kernel_rfl) (by simp) ?_
          refine AllReadyIn.cons (by simp only [List.getElem?_toArray, List.getElem?_cons_zero]; rfl) (fun K hK => ?_) AllReadyIn.nil
          · go_simp
            refine hK _ _ ?_
            clear hK K
            (try simp only [Act.put, List.setIfInBounds_toArray, List.set_cons_zero, List.set_cons_succ])
            refine wpAnyIn_ready (rs := [6]) (by kernel_rfl) (by simp) ?_
            refine AllReadyIn.cons (by simp only [List.getElem?_toArray, List.getElem?_cons_succ, List.getElem?_cons_zero]; rfl) (fun K hK => ?_) AllReadyIn.nil
            · rw [if_pos (by rfl)]
              refine operIn_append_blk _ _ 60 rfl 5 i0 _ 1 1 Try.underlying60 hi hz0 hz1 hz2 rfl (by decide) v k (txV s (pl.take k)) rfl (HR4.out.alloc _) ⟨w4.heap.size, 0, none⟩ 1 1 [.int .u8 x0] rfl rfl (one8 w4 _ _ _ rfl) (by simp [Value.oneCell']) (by unfold maxLen; omega) (by omega) ?_
              intro v' W1 hown' hgrow hb'
              obtain ⟨s1, s2, s3, s4, s5, s6, s7⟩ := HA4.out.step HC4.out hown' hgrow hb' hm4
              obtain ⟨g', cap', rfl⟩ := row_any hown'
              have S4 := hid s4
              have S5 := hid s5
              have S6 := hid (s6 w.heap.size w (by omega) (below_t HJ.out.2.2.2.2.2.2 HB4.out))
              have S7 := hid s7
              clear hown' hgrow s4 s5 s6 s7 hb'
              refine hK _ _ ?_
              clear hK K
              (try simp only [Act.put, List.setIfInBounds_toArray, List.set_cons_zero, List.set_cons_succ])
              refine wpAnyIn_ready (rs := [7]) (by kernel_rfl) (by simp) ?_
              refine AllReadyIn.cons (by simp only [List.getElem?_toArray, List.getElem?_cons_succ, List.getElem?_cons_zero]; rfl) (fun K hK => ?_) AllReadyIn.nil
              · go_simp
                refine hK _ _ ?_
                clear hK K
                (try simp only [Act.put, List.setIfInBounds_toArray, List.set_cons_zero, List.set_cons_succ])
                refine wpAnyIn_done (by kernel_rfl) ?_ _
                gi_wp2
                obtain ⟨j1, j2, j3, j4, j5, j6, j7⟩ := HJ.out
                have hms := HA4.out.ms
                have q1 : ∀ i u, V.cell? ⟨i, 0, none⟩ = some u → i ≠ w.heap.size + 1 → i ∉ S → (W1.setCell ⟨w.heap.size + 1, 0, none⟩ (.slice g' (k + 1) cap')).cell? ⟨i, 0, none⟩ = some u := fun i u hu hne hS => by
                  have h4 := keepc HB4.out hu
                  exact (World.cell?_of_block (a := ⟨i, 0, none⟩) (S7.out i (World.block_lt_of_cell? _ _ h4) hne hS)).trans h4
                refine ⟨_, (Touch.below HB4.out _ S).trans S5.out, q1 _ _ j1 (by omega) (fun q => by have := hms _ q; omega), q1 _ _ j2 (by omega) j4, q1 _ _ j3 (by omega) j5, ?_, ?_, ?_, S6.out⟩
                · exact notin_touch ((Touch.below HB4.out _ S).trans S5.out) j4 (World.block_lt_of_cell? V _ j2)
                · exact notin_touch ((Touch.below HB4.out _ S).trans S5.out) j5 (World.block_lt_of_cell? V _ j3)
                · rw [HTS.out]
                  exact S4.out
  case done =>
    rintro D S V hD hJ hK
    obtain ⟨v, hv, hf, hrow, hbl⟩ := hJ.2.2.2.2.2.1.ex
    have hlt := World.block_lt_of_cell? V _ hv
    obtain ⟨y, cap, rfl⟩ := row_any hrow
    have HK := hid hK
    have HJ := hid hJ
    have HROW := hid hrow
    have HBL := hid hbl
    clear hK hJ hrow hbl
    gi_wp2
    refine ⟨by simp, .inl ⟨_, _, rfl, run_takeDeferred HK.out, ?_⟩⟩
    have hg := Grow.put (m := w1.heap.size) (.deferred none) hD HK.out rfl
    refine ⟨.slice y pl.length cap, by simp [results, Try.f61, go_sem], .slice y pl.length cap, rfl, ?_, fun k hk => ?_, below_grow HJ.out.2.2.2.2.2.2 hg hlz (Nat.le_refl _)⟩
    · have := own_grow HROW.out hg
      rwa [List.take_length] at this
    · have := HJ.out.2.2.2.2.2.1.ms k (HBL.out k hk)
      omega
  case stop => exact fun _ _ _ _ _ _ _ h => h.elim
end
end Go.Proofs.Ytpehhinpohmpiaa
