/-
  A space's fields, told: places and what their attributes say.
-/
import Derived.Test.YtdaainifnbbhiaaWe
import Derived.OrdersIn
namespace Go.Proofs.Ytdaainifnbbhiaa
open Go.RowKit Go.Lib Go.Deep

section
variable {F : Fence} {n l : Nat} {P : Program} {ops : Array Oper} {Q : Exit → Act → World → Prop} {md : Region.Mode}
/-- No operation of these is a defer. -/
def noDefer (ops : Array Oper) : Bool := ops.all (fun o => match o.op with | .defer _ => false | _ => true)
theorem noDefer_at (h : noDefer ops = true) {i : Nat} {o : Oper} (ho : ops[i]? = some o) (c) : o.op ≠ .defer c := fun e => by
  unfold noDefer at h
  rw [Array.all_eq_true] at h
  obtain ⟨hi, rfl⟩ := Array.getElem?_eq_some_iff.1 ho
  have := h i hi
  rw [e] at this
  cases this
theorem wpOpIn_round (h : noDefer ops = true) {i : Nat} {K : Act → World → Prop} {a : Act} {w : World} (hh : wpOpIn F n P ops Q i K a w) : wpOpIn (F.inRound l) n P ops Q i K a w := by
  unfold wpOpIn at *
  split
  · rename_i ho
    simpa only [ho] using hh
  · rename_i o ho
    simp only [ho] at hh
    split
    · rename_i hw
      rw [if_pos hw] at hh
      unfold Oper.wpIn at *
      refine ⟨hh.1, ?_⟩
      have h2 := hh.2
      rw [Oper.semAt_plain F a.eval o (noDefer_at h ho)] at h2
      rw [Oper.semAt_plain (F.inRound l) a.eval o (noDefer_at h ho)]
      generalize (execOp a.eval o).run P w = r at *
      cases r with
      | ok x w' => cases x <;> exact h2
      | halt x w' => cases x <;> exact h2
    · rename_i hw
      rw [if_neg hw] at hh
      exact hh
theorem wpAnyIn_round (h : noDefer ops = true) : ∀ (fuel : Nat) (listed : Array Bool) (a : Act) (w : World), wpAnyIn F n P md ops Q fuel listed a w → wpAnyIn (F.inRound l) n P md ops Q fuel listed a w
  | 0, _, _, _, hh => hh
  | fuel + 1, _, _, _, hh => ⟨hh.1, fun i hi => wpOpIn_mono (fun a w q => wpAnyIn_round h fuel _ a w q) (wpOpIn_round h (hh.2 i hi))⟩
/-- A region that draws its order, inside a round. -/
theorem wpIn_region_round {id : Nat} {a : Act} {w : World} (hm : P.follows .mixedOrders = true) (hd : noDefer ops = true)
    (h : wpAnyIn F n P .any ops Q ops.size (Array.replicate ops.size false) a w.drew) : (Code.region id ops true).wpIn (F.inRound l) n P Q a w :=
  wpIn_region_any hm (wpAnyIn_round hd _ _ _ _ h)
end
section
variable {l n m : Nat} {P : Program} {f : FuncId} {tmps : Array Value} {assign body : Code} {w : World} {R : Ending → World → Prop}
theorem roundIn_wide0 (h : RoundIn Fence.wide n P l f tmps assign body w R) : RoundIn Fence.wide m P l f tmps assign body w R := ⟨h.1, fun c cs _ => h.2 c cs (room_wide _)⟩
end
attribute [local go_sem] Oper.semAt_some
abbrev encF (x : Nat × Value) : Array Value := #[.int .i64 x.1, x.2]
/-- The space at b is s; its pointer lies in the box bx. -/
def RFs (bx b g : Nat) (s : Spc) (V : World) : Prop := V.cell? ⟨bx, 0, none⟩ = some (.pointer (some ⟨b, 0, none⟩)) ∧ SpM V b g s
/-- Between two attributes. -/
def IFd (I : Nat → List Nat → World → Prop) (m yb bs b l : Nat) (k : Nat) (S : List Nat) (V : World) : Prop :=
  I k S V ∧ V.cell? ⟨yb, 0, none⟩ = some (.func (.yield l) #[] #[]) ∧ yb ∉ S ∧ V.cell? ⟨bs, 0, none⟩ = some (.pointer (some ⟨b, 0, none⟩)) ∧ bs ∉ S ∧ m ≤ yb ∧ m ≤ bs
theorem IFd.grow {I : Nat → List Nat → World → Prop} {m yb bs b l k m' : Nat} {S : List Nat} {A C : World} (h : IFd I m yb bs b l k S A) (hI : ∀ k S, Abides m (I k S)) (hm : m ≤ m') (hg : Grow m' A C) : IFd I m yb bs b l k S C :=
  ⟨hI _ _ _ _ (hg.mono hm) h.1, cell_grow hg h.2.1, h.2.2.1, cell_grow hg h.2.2.2.1, h.2.2.2.2⟩
def AxFd (I : Nat → List Nat → World → Prop) (s : Spc) (m yb bs b l : Nat) (fr : Value → Array Value) (k : Nat) (S : List Nat) (x : Nat) (a : Act) (V : World) : Prop :=
  s.A[k]? = some x ∧ IFd I m yb bs b l k S V ∧ m ≤ V.heap.size ∧ a = { tmps := fr (.int .i64 x), defers := [] }
set_option maxRecDepth 100000 in
set_option maxHeartbeats 8000000 in
theorem fields_seq (n : Nat) (hn : 5 ≤ n) (bx b g : Nat) (s : Spc) (hpos : 0 < s.L.length ∧ s.L.length ≤ 3564) (W : World) : SeqF Fence.wide n Try.prog 81 #[.pointer (some ⟨bx, 0, none⟩)] encF (fun k x _ => s.A[k]? = some x.1 ∧ x.2 = (s.cel x.1).fv) s.A.length (RFs bx b g s) W := fun l I Ix hI hIx hR h0 hY => by
  obtain ⟨hb, _⟩ := hR _ _ _ h0
  have hlt : bx < W.heap.size := World.block_lt_of_cell? W _ hb
  have HMEM := hid (fun a (h : a ∈ s.A) => attP_mem (P := s.P) (N := s.L.length) h)
  have HY := hid hY
  have HR := hid hR
  have H0 := hid h0
  clear hY hR h0
  refine callsIn_of_wp_marks Try.func81 rfl trivial ?_ rfl
  simp only [Try.ntmps81, List.size_toArray, List.length_cons, List.length_nil, Nat.reduceAdd, Nat.reduceSub, Array.replicate_succ, Array.replicate_zero, List.push_toArray, List.append_toArray, List.nil_append, List.cons_append]
  gi_wp2
  refine ⟨trivial, fun _ => (by omega), ?_⟩
  refine (callsIn_wide.2 (attrsIt_any b _)).mono ?_
  rintro e w1 ⟨bs, rfl, hbs, hcs, hb1⟩
  have hy1 : w1.cell? ⟨W.heap.size, 0, none⟩ = some (.func (.yield l) #[] #[]) := keepc hb1 (by simp [go_sem])
  have hg1 : Grow W.heap.size W w1 := (Grow.alloc W _ _).trans (Grow.below hb1 _)
  have hz1 : W.heap.size ≤ w1.heap.size := hg1.size
  have hbs' : W.heap.size ≤ bs := by simp at hbs; omega
  have HI0 := hid (show IFd I W.heap.size W.heap.size bs b l 0 [] w1 from ⟨hI _ _ _ _ hg1 H0.out, hy1, by simp, hcs, by simp, Nat.le_refl _, hbs'⟩)
  clear hb1 hy1 hg1 hcs hbs hb hlt
  gi_wp2
  refine rangeFunc_seq (n := n) (w := w1) rfl (by omega) (gf := 93) (lb := #[.pointer (some ⟨bs, 0, none⟩)]) rfl trivial (enters_of Try.func93 (by kernel_rfl) rfl)
    (encs := encI) (fun _ => rfl) (el := fun k x _ => s.A[k]? = some x) (N := s.A.length) (R := RP bs b s.L.length s.P) (IFd I W.heap.size W.heap.size bs b l) (IxAt Ix s.A.length) ?hI ?hIx ?hR HI0.out
    (AxFd I s W.heap.size W.heap.size bs b l (fun k => #[.func (.yield l) #[] #[], .pointer (some ⟨bx, 0, none⟩), .pointer (some ⟨W.heap.size, 0, none⟩), k, .pointer (some ⟨b, 0, none⟩), .func (.func 93) #[] #[.pointer (some ⟨bs, 0, none⟩)], k, undef, undef, undef, undef, undef, undef, undef])) ?hAx ?assign ?body ?iter ?done ?stop
  case hI => exact fun k S A C hg h => h.grow hI hz1 hg
  case hIx => exact fun c k S A C hg ⟨h1, j, h2, h3⟩ => ⟨h1, j, h2, hIx _ _ _ _ (hg.mono hz1) h3⟩
  case hR => exact fun k S V h => ⟨h.2.2.2.1, g, s, (HR.out _ _ _ h.1).2, rfl, fun i _ => rfl⟩
  case hAx => exact fun k S x a A C hg ⟨h1, h2, h3, h4⟩ => ⟨h1, h2.grow hI hz1 hg, Nat.le_trans h3 hg.size, h4⟩
  case iter => exact fun o1 o2 _ _ => attrs_seq (n - 1) (by omega) bs b s.L.length s.P hpos.2 _
  case assign =>
    rintro l' k x S V KK hk hx1 hi hsz hK
    have HK := hid hK
    have HI := hid (And.intro hi hx1)
    have hbz := Nat.le_trans hz1 (show w1.heap.size ≤ V.heap.size by omega)
    clear hK hi hx1
    gi_wp2
    exact HK.out _ _ (Touch.refl _ _ _) ⟨HI.out.2, HI.out.1, hbz, rfl⟩
  case body =>
    rintro l' k x S a' V hk ⟨h5, hi, hVz, rfl⟩ hsz
    have hmem := HMEM.out _ (List.mem_of_getElem? h5)
    have hxi : I64 (x : Int) := i64_small (by omega) (by omega)
    have HX := hid h5
    have HI := hid hi
    have HFA := hid (fun W1 (h : Below V.heap.size V W1) => (show Calls Try.prog 79 #[.pointer (some ⟨b, 0, none⟩), .int .i64 x] W1 fun e w' => e = .returned (s.cel x).fv ∧ Below W1.heap.size W1 w' from by
      have q := fat_any (b := b) (g := g) (s := s) (x : Int) hxi W1 ((HR.out _ _ _ hi.1).2.below h)
      have e0 : s.atC (x : Int) = s.cel x := by unfold Spc.atC; rw [wr_nat hmem.1]
      rwa [e0] at q))
    have hcy := hi.2.1
    have hcb := (HR.out _ _ _ hi.1).1
    have hly := World.block_lt_of_cell? V _ hcy
    have hlb := World.block_lt_of_cell? V _ hcb
    obtain ⟨w0, hw0⟩ : ∃ w0, V.drew = w0 := ⟨_, rfl⟩
    have hb0 : Below V.heap.size V w0 := by rw [← hw0]; exact (Below.refl _ _).drew
    have hcy0 := keepc hb0 hcy
    have hcb0 := keepc hb0 hcb
    have HB0 := hid hb0
    clear h5 hi hmem hcy hcb hb0
    gi_wp2
    refine wpIn_region_round (by kernel_rfl) (by kernel_rfl) ?_
    rw [hw0]
    refine wpAnyIn_take (i := 1) (v := .int .i64 (x : Int)) (fuel := 6) rfl rfl (by kernel_rfl) (by kernel_rfl) (by kernel_rfl) (fun _ _ _ h => h) ⟨Or.inl ⟨by rfl, fun w => ?_⟩, fun _ => rfl⟩ ?_
    · go_simp
      try with_reducible rfl
    simp only [Act.put, List.setIfInBounds_toArray]
    refine wpAnyIn_take (i := 3) (v := .int .i64 (x : Int)) (fuel := 5) rfl rfl (by kernel_rfl) (by kernel_rfl) (by kernel_rfl) (fun _ _ _ h => h) ⟨Or.inl ⟨by rfl, fun w => ?_⟩, fun _ => rfl⟩ ?_
    · go_simp
      try with_reducible rfl
    simp only [Act.put]
    refine wpAnyIn_ready (rs := [0, 2]) (by kernel_rfl) (by simp) ?_
    refine AllReadyIn.cons (by simp only [List.getElem?_toArray, List.getElem?_cons_zero]; rfl) (fun K hK => ?_) (AllReadyIn.cons (by simp only [List.getElem?_toArray, List.getElem?_cons_succ, List.getElem?_cons_zero]; rfl) (fun K hK => ?_) AllReadyIn.nil)
    · go_simp
      refine hK _ _ ?_
      clear hK K
      (try simp only [Act.put, List.setIfInBounds_toArray, List.set_cons_zero, List.set_cons_succ])
      refine wpAnyIn_ready (rs := [2]) (by kernel_rfl) (by simp) ?_
      refine AllReadyIn.cons (by simp only [List.getElem?_toArray, List.getElem?_cons_succ, List.getElem?_cons_zero]; rfl) (fun K hK => ?_) AllReadyIn.nil
      · go_simp
        refine hK _ _ ?_
        clear hK K
        (try simp only [Act.put, List.setIfInBounds_toArray, List.set_cons_zero, List.set_cons_succ])
        refine wpAnyIn_ready (rs := [4]) (by kernel_rfl) (by simp) ?_
        refine AllReadyIn.cons (by simp only [List.getElem?_toArray, List.getElem?_cons_succ, List.getElem?_cons_zero]; rfl) (fun K hK => ?_) AllReadyIn.nil
        · go_simp
          refine ⟨trivial, fun _ => (by omega), ?_⟩
          refine (callsIn_wide.2 (HFA.out _ HB0.out)).mono ?_
          rintro e w4 ⟨rfl, hb4⟩
          refine hK _ _ ?_
          clear hK K
          have HB4 := hid (below_t HB0.out hb4)
          have hcy4 := keepc hb4 hcy0
          have hcb4 := keepc hb4 hcb0
          have hly4 := World.block_lt_of_cell? w4 _ hcy4
          have hlb4 := World.block_lt_of_cell? w4 _ hcb4
          clear hb4
          (try simp only [Act.put, List.setIfInBounds_toArray, List.set_cons_zero, List.set_cons_succ])
          refine wpAnyIn_ready (rs := [5]) (by kernel_rfl) (by simp) ?_
          refine AllReadyIn.cons (by simp only [List.getElem?_toArray, List.getElem?_cons_succ, List.getElem?_cons_zero]; rfl) (fun K hK => ?_) AllReadyIn.nil
          · have hg4 := Grow.below HB4.out V.heap.size
            obtain ⟨f1, t1, a6, b1, hy, hr⟩ := HY.out k (x, (s.cel x).fv) S w4 hk ⟨HX.out, rfl⟩ (hI _ _ _ _ (hg4.mono hVz) HI.out.1) (Nat.le_trans hVz hg4.size)
            have HRR := hid (fun m => roundIn_wide0 (m := m) hr)
            have hI4 := HI.out.grow hI hVz hg4
            have hT4 := Touch.below HB4.out w1.heap.size S
            clear hr hg4 HB4 HFA HB0 hcy0 hcb0
            generalize (s.cel x).fv = fv at *
            go_simp
            refine ⟨fun _ => (by omega), (HRR.out _).mono ?_⟩
            obtain ⟨-, h2, h3, h4, h5, h6, h7⟩ := hI4
            have l2 := World.block_lt_of_cell? w4 _ h2
            have l4 := World.block_lt_of_cell? w4 _ h4
            rintro e W1 ⟨S', ht, ⟨rfl, hj⟩ | ⟨rfl, hj⟩⟩
            · have HJ := hid (show IFd I W.heap.size W.heap.size bs b l (k + 1) S' W1 from ⟨hj, cell_touch ht h6 h3 h2, notin_touch ht h3 l2, cell_touch ht h7 h5 h4, notin_touch ht h5 l4, h6, h7⟩)
              have HT := hid (hT4.trans (ht.mono hz1))
              clear hj ht h2 h3 h4 h5 hT4
              refine hK _ _ ?_
              clear hK K
              (try simp only [Act.put, List.setIfInBounds_toArray, List.set_cons_zero, List.set_cons_succ])
              refine wpAnyIn_ready (rs := [6]) (by kernel_rfl) (by simp) ?_
              refine AllReadyIn.cons (by simp only [List.getElem?_toArray, List.getElem?_cons_succ, List.getElem?_cons_zero]; rfl) (fun K hK => ?_) AllReadyIn.nil
              go_simp
              refine hK _ _ ?_
              clear hK K
              (try simp only [Act.put, List.setIfInBounds_toArray, List.set_cons_zero, List.set_cons_succ])
              refine wpAnyIn_done (by kernel_rfl) ?_ _
              gi_wp2
              exact ⟨S', HT.out, HJ.out⟩
            · have HJ := hid (show IxAt Ix s.A.length .ret (k + 1) S' W1 from ⟨rfl, k, hk, hj⟩)
              have HT := hid (hT4.trans (ht.mono hz1))
              clear hj ht h2 h3 h4 h5 hT4
              refine hK _ _ ?_
              clear hK K
              (try simp only [Act.put, List.setIfInBounds_toArray, List.set_cons_zero, List.set_cons_succ])
              refine wpAnyIn_ready (rs := [6]) (by kernel_rfl) (by simp) ?_
              refine AllReadyIn.cons (by simp only [List.getElem?_toArray, List.getElem?_cons_succ, List.getElem?_cons_zero]; rfl) (fun K hK => ?_) AllReadyIn.nil
              go_simp
              refine hK _ _ ?_
              clear hK K
              (try simp only [Act.put, List.setIfInBounds_toArray, List.set_cons_zero, List.set_cons_succ])
              refine wpAnyIn_done (by kernel_rfl) ?_ _
              gi_wp2
              exact ⟨S', HT.out, HJ.out⟩
    · go_simp
      refine hK _ _ ?_
      clear hK K
      (try simp only [Act.put, List.setIfInBounds_toArray, List.set_cons_zero, List.set_cons_succ])
      refine wpAnyIn_ready (rs := [0, 4]) (by kernel_rfl) (by simp) ?_
      refine AllReadyIn.cons (by simp only [List.getElem?_toArray, List.getElem?_cons_zero]; rfl) (fun K hK => ?_) (AllReadyIn.cons (by simp only [List.getElem?_toArray, List.getElem?_cons_succ, List.getElem?_cons_zero]; rfl) (fun K hK => ?_) AllReadyIn.nil)
      · go_simp
        refine hK _ _ ?_
        clear hK K
        (try simp only [Act.put, List.setIfInBounds_toArray, List.set_cons_zero, List.set_cons_succ])
        refine wpAnyIn_ready (rs := [4]) (by kernel_rfl) (by simp) ?_
        refine AllReadyIn.cons (by simp only [List.getElem?_toArray, List.getElem?_cons_succ, List.getElem?_cons_zero]; rfl) (fun K hK => ?_) AllReadyIn.nil
        · go_simp
          refine ⟨trivial, fun _ => (by omega), ?_⟩
          refine (callsIn_wide.2 (HFA.out _ HB0.out)).mono ?_
          rintro e w4 ⟨rfl, hb4⟩
          refine hK _ _ ?_
          clear hK K
          have HB4 := hid (below_t HB0.out hb4)
          have hcy4 := keepc hb4 hcy0
          have hcb4 := keepc hb4 hcb0
          have hly4 := World.block_lt_of_cell? w4 _ hcy4
          have hlb4 := World.block_lt_of_cell? w4 _ hcb4
          clear hb4
          (try simp only [Act.put, List.setIfInBounds_toArray, List.set_cons_zero, List.set_cons_succ])
          refine wpAnyIn_ready (rs := [5]) (by kernel_rfl) (by simp) ?_
          refine AllReadyIn.cons (by simp only [List.getElem?_toArray, List.getElem?_cons_succ, List.getElem?_cons_zero]; rfl) (fun K hK => ?_) AllReadyIn.nil
          · have hg4 := Grow.below HB4.out V.heap.size
            obtain ⟨f1, t1, a6, b1, hy, hr⟩ := HY.out k (x, (s.cel x).fv) S w4 hk ⟨HX.out, rfl⟩ (hI _ _ _ _ (hg4.mono hVz) HI.out.1) (Nat.le_trans hVz hg4.size)
            have HRR := hid (fun m => roundIn_wide0 (m := m) hr)
            have hI4 := HI.out.grow hI hVz hg4
            have hT4 := Touch.below HB4.out w1.heap.size S
            clear hr hg4 HB4 HFA HB0 hcy0 hcb0
            generalize (s.cel x).fv = fv at *
            go_simp
            refine ⟨fun _ => (by omega), (HRR.out _).mono ?_⟩
            obtain ⟨-, h2, h3, h4, h5, h6, h7⟩ := hI4
            have l2 := World.block_lt_of_cell? w4 _ h2
            have l4 := World.block_lt_of_cell? w4 _ h4
            rintro e W1 ⟨S', ht, ⟨rfl, hj⟩ | ⟨rfl, hj⟩⟩
            · have HJ := hid (show IFd I W.heap.size W.heap.size bs b l (k + 1) S' W1 from ⟨hj, cell_touch ht h6 h3 h2, notin_touch ht h3 l2, cell_touch ht h7 h5 h4, notin_touch ht h5 l4, h6, h7⟩)
              have HT := hid (hT4.trans (ht.mono hz1))
              clear hj ht h2 h3 h4 h5 hT4
              refine hK _ _ ?_
              clear hK K
              (try simp only [Act.put, List.setIfInBounds_toArray, List.set_cons_zero, List.set_cons_succ])
              refine wpAnyIn_ready (rs := [6]) (by kernel_rfl) (by simp) ?_
              refine AllReadyIn.cons (by simp only [List.getElem?_toArray, List.getElem?_cons_succ, List.getElem?_cons_zero]; rfl) (fun K hK => ?_) AllReadyIn.nil
              go_simp
              refine hK _ _ ?_
              clear hK K
              (try simp only [Act.put, List.setIfInBounds_toArray, List.set_cons_zero, List.set_cons_succ])
              refine wpAnyIn_done (by kernel_rfl) ?_ _
              gi_wp2
              exact ⟨S', HT.out, HJ.out⟩
            · have HJ := hid (show IxAt Ix s.A.length .ret (k + 1) S' W1 from ⟨rfl, k, hk, hj⟩)
              have HT := hid (hT4.trans (ht.mono hz1))
              clear hj ht h2 h3 h4 h5 hT4
              refine hK _ _ ?_
              clear hK K
              (try simp only [Act.put, List.setIfInBounds_toArray, List.set_cons_zero, List.set_cons_succ])
              refine wpAnyIn_ready (rs := [6]) (by kernel_rfl) (by simp) ?_
              refine AllReadyIn.cons (by simp only [List.getElem?_toArray, List.getElem?_cons_succ, List.getElem?_cons_zero]; rfl) (fun K hK => ?_) AllReadyIn.nil
              go_simp
              refine hK _ _ ?_
              clear hK K
              (try simp only [Act.put, List.setIfInBounds_toArray, List.set_cons_zero, List.set_cons_succ])
              refine wpAnyIn_done (by kernel_rfl) ?_ _
              gi_wp2
              exact ⟨S', HT.out, HJ.out⟩
      · go_simp
        refine ⟨trivial, fun _ => (by omega), ?_⟩
        refine (callsIn_wide.2 (HFA.out _ HB0.out)).mono ?_
        rintro e w4 ⟨rfl, hb4⟩
        refine hK _ _ ?_
        clear hK K
        have HB4 := hid (below_t HB0.out hb4)
        have hcy4 := keepc hb4 hcy0
        have hcb4 := keepc hb4 hcb0
        have hly4 := World.block_lt_of_cell? w4 _ hcy4
        have hlb4 := World.block_lt_of_cell? w4 _ hcb4
        clear hb4
        (try simp only [Act.put, List.setIfInBounds_toArray, List.set_cons_zero, List.set_cons_succ])
        refine wpAnyIn_ready (rs := [0]) (by kernel_rfl) (by simp) ?_
        refine AllReadyIn.cons (by simp only [List.getElem?_toArray, List.getElem?_cons_zero]; rfl) (fun K hK => ?_) AllReadyIn.nil
        · go_simp
          refine hK _ _ ?_
          clear hK K
          (try simp only [Act.put, List.setIfInBounds_toArray, List.set_cons_zero, List.set_cons_succ])
          refine wpAnyIn_ready (rs := [5]) (by kernel_rfl) (by simp) ?_
          refine AllReadyIn.cons (by simp only [List.getElem?_toArray, List.getElem?_cons_succ, List.getElem?_cons_zero]; rfl) (fun K hK => ?_) AllReadyIn.nil
          · have hg4 := Grow.below HB4.out V.heap.size
            obtain ⟨f1, t1, a6, b1, hy, hr⟩ := HY.out k (x, (s.cel x).fv) S w4 hk ⟨HX.out, rfl⟩ (hI _ _ _ _ (hg4.mono hVz) HI.out.1) (Nat.le_trans hVz hg4.size)
            have HRR := hid (fun m => roundIn_wide0 (m := m) hr)
            have hI4 := HI.out.grow hI hVz hg4
            have hT4 := Touch.below HB4.out w1.heap.size S
            clear hr hg4 HB4 HFA HB0 hcy0 hcb0
            generalize (s.cel x).fv = fv at *
            go_simp
            refine ⟨fun _ => (by omega), (HRR.out _).mono ?_⟩
            obtain ⟨-, h2, h3, h4, h5, h6, h7⟩ := hI4
            have l2 := World.block_lt_of_cell? w4 _ h2
            have l4 := World.block_lt_of_cell? w4 _ h4
            rintro e W1 ⟨S', ht, ⟨rfl, hj⟩ | ⟨rfl, hj⟩⟩
            · have HJ := hid (show IFd I W.heap.size W.heap.size bs b l (k + 1) S' W1 from ⟨hj, cell_touch ht h6 h3 h2, notin_touch ht h3 l2, cell_touch ht h7 h5 h4, notin_touch ht h5 l4, h6, h7⟩)
              have HT := hid (hT4.trans (ht.mono hz1))
              clear hj ht h2 h3 h4 h5 hT4
              refine hK _ _ ?_
              clear hK K
              (try simp only [Act.put, List.setIfInBounds_toArray, List.set_cons_zero, List.set_cons_succ])
              refine wpAnyIn_ready (rs := [6]) (by kernel_rfl) (by simp) ?_
              refine AllReadyIn.cons (by simp only [List.getElem?_toArray, List.getElem?_cons_succ, List.getElem?_cons_zero]; rfl) (fun K hK => ?_) AllReadyIn.nil
              go_simp
              refine hK _ _ ?_
              clear hK K
              (try simp only [Act.put, List.setIfInBounds_toArray, List.set_cons_zero, List.set_cons_succ])
              refine wpAnyIn_done (by kernel_rfl) ?_ _
              gi_wp2
              exact ⟨S', HT.out, HJ.out⟩
            · have HJ := hid (show IxAt Ix s.A.length .ret (k + 1) S' W1 from ⟨rfl, k, hk, hj⟩)
              have HT := hid (hT4.trans (ht.mono hz1))
              clear hj ht h2 h3 h4 h5 hT4
              refine hK _ _ ?_
              clear hK K
              (try simp only [Act.put, List.setIfInBounds_toArray, List.set_cons_zero, List.set_cons_succ])
              refine wpAnyIn_ready (rs := [6]) (by kernel_rfl) (by simp) ?_
              refine AllReadyIn.cons (by simp only [List.getElem?_toArray, List.getElem?_cons_succ, List.getElem?_cons_zero]; rfl) (fun K hK => ?_) AllReadyIn.nil
              go_simp
              refine hK _ _ ?_
              clear hK K
              (try simp only [Act.put, List.setIfInBounds_toArray, List.set_cons_zero, List.set_cons_succ])
              refine wpAnyIn_done (by kernel_rfl) ?_ _
              gi_wp2
              exact ⟨S', HT.out, HJ.out⟩
  case done =>
    rintro D S V hD hi hK
    have HK := hid hK
    have HI := hid hi
    clear hi hK
    gi_wp2
    refine ⟨by simp, .inl ⟨_, _, rfl, run_takeDeferred HK.out, ?_⟩⟩
    exact ⟨_, results_none rfl _ _ _, ⟨_, rfl⟩, .inl ⟨S, hI _ _ _ _ (Grow.put _ (by omega) HK.out rfl) HI.out.1⟩⟩
  case stop =>
    rintro D k c S V hD hk ⟨rfl, j, hj, hx⟩ hK
    have HK := hid hK
    have HX := hid hx
    clear hx hK
    gi_wp2
    refine ⟨by simp, .inl ⟨_, _, rfl, run_takeDeferred HK.out, ?_⟩⟩
    exact ⟨_, results_none rfl _ _ _, ⟨_, rfl⟩, .inr ⟨j, S, hj, hIx _ _ _ _ (Grow.put _ (by omega) HK.out rfl) HX.out⟩⟩
end Go.Proofs.Ytdaainifnbbhiaa
