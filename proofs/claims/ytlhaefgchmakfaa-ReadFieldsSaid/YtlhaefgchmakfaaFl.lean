/-
  A space's fields, told: places and what their attributes say.
  The modified ones, told.
  Each place is an attribute or one field's: their numbers add up.
  A field's places, collected.
  Unprotected: the places of the fields that are open.
  Unprotected.
-/
import Derived.Test.YtlhaefgchmakfaaFk
import Derived.OrdersIn
namespace Go.Proofs.Ytlhaefgchmakfaa
open Go.RowKit Go.Lib Go.Deep

section
variable {F : Fence} {n l : Nat} {P : Program} {ops : Array Oper} {Q : Exit → Act → World → Prop} {md : Region.Mode}
/-- No operation of these is a defer. -/
def noDefer (ops : Array Oper) : Bool := ops.all (fun o => match o.op with | .defer _ => false | _ => true)
theorem noDefer_at (h : noDefer ops = true) {i : Nat} {o : Oper} (ho : ops[i]? = some o) (c) : o.op ≠ .defer c := fun e => by
  unfold noDefer at h
  rw [Array.all_eq_true] at h
  obtain ⟨hi, rfl⟩ := Array.getElem?_eq_some_iff.1 ho
  have := h i hi
  rw [e] at this
  cases this
theorem wpOpIn_round (h : noDefer ops = true) {i : Nat} {K : Act → World → Prop} {a : Act} {w : World} (hh : wpOpIn F n P ops Q i K a w) : wpOpIn (F.inRound l) n P ops Q i K a w := by
  unfold wpOpIn at *
  split
  · rename_i ho
    simpa only [ho] using hh
  · rename_i o ho
    simp only [ho] at hh
    split
    · rename_i hw
      rw [if_pos hw] at hh
      unfold Oper.wpIn at *
      refine ⟨hh.1, ?_⟩
      have h2 := hh.2
      rw [Oper.semAt_plain F a.eval o (noDefer_at h ho)] at h2
      rw [Oper.semAt_plain (F.inRound l) a.eval o (noDefer_at h ho)]
      generalize (execOp a.eval o).run P w = r at *
      cases r with
      | ok x w' => cases x <;> exact h2
      | halt x w' => cases x <;> exact h2
    · rename_i hw
      rw [if_neg hw] at hh
      exact hh
theorem wpAnyIn_round (h : noDefer ops = true) : ∀ (fuel : Nat) (listed : Array Bool) (a : Act) (w : World), wpAnyIn F n P md ops Q fuel listed a w → wpAnyIn (F.inRound l) n P md ops Q fuel listed a w
  | 0, _, _, _, hh => hh
  | fuel + 1, _, _, _, hh => ⟨hh.1, fun i hi => wpOpIn_mono (fun a w q => wpAnyIn_round h fuel _ a w q) (wpOpIn_round h (hh.2 i hi))⟩
/-- A region that draws its order, inside a round. -/
theorem wpIn_region_round {id : Nat} {a : Act} {w : World} (hm : P.follows .mixedOrders = true) (hd : noDefer ops = true)
    (h : wpAnyIn F n P .any ops Q ops.size (Array.replicate ops.size false) a w.drew) : (Code.region id ops true).wpIn (F.inRound l) n P Q a w :=
  wpIn_region_any hm (wpAnyIn_round hd _ _ _ _ h)
end
section
variable {l n m : Nat} {P : Program} {f : FuncId} {tmps : Array Value} {assign body : Code} {w : World} {R : Ending → World → Prop}
theorem roundIn_wide0 (h : RoundIn Fence.wide n P l f tmps assign body w R) : RoundIn Fence.wide m P l f tmps assign body w R := ⟨h.1, fun c cs _ => h.2 c cs (room_wide _)⟩
end
attribute [local go_sem] Oper.semAt_some
abbrev encF (x : Nat × Value) : Array Value := #[.int .i64 x.1, x.2]
/-- The space at b is s; its pointer lies in the box bx. -/
def RFs (bx b g : Nat) (s : Spc) (V : World) : Prop := V.cell? ⟨bx, 0, none⟩ = some (.pointer (some ⟨b, 0, none⟩)) ∧ SpM V b g s
/-- Between two attributes. -/
def IFd (I : Nat → List Nat → World → Prop) (m yb bs b l : Nat) (k : Nat) (S : List Nat) (V : World) : Prop :=
  I k S V ∧ V.cell? ⟨yb, 0, none⟩ = some (.func (.yield l) #[] #[]) ∧ yb ∉ S ∧ V.cell? ⟨bs, 0, none⟩ = some (.pointer (some ⟨b, 0, none⟩)) ∧ bs ∉ S ∧ m ≤ yb ∧ m ≤ bs
theorem IFd.grow {I : Nat → List Nat → World → Prop} {m yb bs b l k m' : Nat} {S : List Nat} {A C : World} (h : IFd I m yb bs b l k S A) (hI : ∀ k S, Abides m (I k S)) (hm : m ≤ m') (hg : Grow m' A C) : IFd I m yb bs b l k S C :=
  ⟨hI _ _ _ _ (hg.mono hm) h.1, cell_grow hg h.2.1, h.2.2.1, cell_grow hg h.2.2.2.1, h.2.2.2.2⟩
def AxFd (I : Nat → List Nat → World → Prop) (s : Spc) (m yb bs b l : Nat) (fr : Value → Array Value) (k : Nat) (S : List Nat) (x : Nat) (a : Act) (V : World) : Prop :=
  s.A[k]? = some x ∧ IFd I m yb bs b l k S V ∧ m ≤ V.heap.size ∧ a = { tmps := fr (.int .i64 x), defers := [] }
set_option maxRecDepth 100000 in
set_option maxHeartbeats 8000000 in
theorem fields_seq (n : Nat) (hn : 5 ≤ n) (bx b g : Nat) (s : Spc) (hpos : 0 < s.L.length ∧ s.L.length ≤ 3564) (W : World) : SeqF Fence.wide n Try.prog 115 #[.pointer (some ⟨bx, 0, none⟩)] encF (fun k x _ => s.A[k]? = some x.1 ∧ x.2 = (s.cel x.1).fv) s.A.length (RFs bx b g s) W := fun l I Ix hI hIx hR h0 hY => by
  obtain ⟨hb, _⟩ := hR _ _ _ h0
  have hlt : bx < W.heap.size := World.block_lt_of_cell? W _ hb
  have HMEM := hid (fun a (h : a ∈ s.A) => attP_mem (P := s.P) (N := s.L.length) h)
  have HY := hid hY
  have HR := hid hR
  have H0 := hid h0
  clear hY hR h0
  refine callsIn_of_wp_marks Try.func115 rfl trivial ?_ rfl
  simp only [Try.ntmps115, List.size_toArray, List.length_cons, List.length_nil, Nat.reduceAdd, Nat.reduceSub, Array.replicate_succ, Array.replicate_zero, List.push_toArray, List.append_toArray, List.nil_append, List.cons_append]
  gi_wp2
  refine ⟨trivial, fun _ => (by omega), ?_⟩
  refine (callsIn_wide.2 (attrsIt_any b _)).mono ?_
  rintro e w1 ⟨bs, rfl, hbs, hcs, hb1⟩
  have hy1 : w1.cell? ⟨W.heap.size, 0, none⟩ = some (.func (.yield l) #[] #[]) := keepc hb1 (by simp [go_sem])
  have hg1 : Grow W.heap.size W w1 := (Grow.alloc W _ _).trans (Grow.below hb1 _)
  have hz1 : W.heap.size ≤ w1.heap.size := hg1.size
  have hbs' : W.heap.size ≤ bs := by simp at hbs; omega
  have HI0 := hid (show IFd I W.heap.size W.heap.size bs b l 0 [] w1 from ⟨hI _ _ _ _ hg1 H0.out, hy1, by simp, hcs, by simp, Nat.le_refl _, hbs'⟩)
  clear hb1 hy1 hg1 hcs hbs hb hlt
  gi_wp2
  refine rangeFunc_seq (n := n) (w := w1) rfl (by omega) (gf := 97) (lb := #[.pointer (some ⟨bs, 0, none⟩)]) rfl trivial (enters_of Try.func97 (by kernel_rfl) rfl)
    (encs := encI) (fun _ => rfl) (el := fun k x _ => s.A[k]? = some x) (N := s.A.length) (R := RP bs b s.L.length s.P) (IFd I W.heap.size W.heap.size bs b l) (IxAt Ix s.A.length) ?hI ?hIx ?hR HI0.out
    (AxFd I s W.heap.size W.heap.size bs b l (fun k => #[.func (.yield l) #[] #[], .pointer (some ⟨bx, 0, none⟩), .pointer (some ⟨W.heap.size, 0, none⟩), k, .pointer (some ⟨b, 0, none⟩), .func (.func 97) #[] #[.pointer (some ⟨bs, 0, none⟩)], k, undef, undef, undef, undef, undef, undef, undef])) ?hAx ?assign ?body ?iter ?done ?stop
  case hI => exact fun k S A C hg h => h.grow hI hz1 hg
  case hIx => exact fun c k S A C hg ⟨h1, j, h2, h3⟩ => ⟨h1, j, h2, hIx _ _ _ _ (hg.mono hz1) h3⟩
  case hR => exact fun k S V h => ⟨h.2.2.2.1, g, s, (HR.out _ _ _ h.1).2, rfl, fun i _ => rfl⟩
  case hAx => exact fun k S x a A C hg ⟨h1, h2, h3, h4⟩ => ⟨h1, h2.grow hI hz1 hg, Nat.le_trans h3 hg.size, h4⟩
  case iter => exact fun o1 o2 _ _ => attrs_seq (n - 1) (by omega) bs b s.L.length s.P hpos.2 _
  case assign =>
    rintro l' k x S V KK hk hx1 hi hsz hK
    have HK := hid hK
    have HI := hid (And.intro hi hx1)
    have hbz := Nat.le_trans hz1 (show w1.heap.size ≤ V.heap.size by omega)
    clear hK hi hx1
    gi_wp2
    exact HK.out _ _ (Touch.refl _ _ _) ⟨HI.out.2, HI.out.1, hbz, rfl⟩
  case body =>
    rintro l' k x S a' V hk ⟨h5, hi, hVz, rfl⟩ hsz
    have hmem := HMEM.out _ (List.mem_of_getElem? h5)
    have hxi : I64 (x : Int) := i64_small (by omega) (by omega)
    have HX := hid h5
    have HI := hid hi
    have HFA := hid (fun W1 (h : Below V.heap.size V W1) => (show Calls Try.prog 116 #[.pointer (some ⟨b, 0, none⟩), .int .i64 x] W1 fun e w' => e = .returned (s.cel x).fv ∧ Below W1.heap.size W1 w' from by
      have q := fat_any (b := b) (g := g) (s := s) (x : Int) hxi W1 ((HR.out _ _ _ hi.1).2.below h)
      have e0 : s.atC (x : Int) = s.cel x := by unfold Spc.atC; rw [wr_nat hmem.1]
      rwa [e0] at q))
    have hcy := hi.2.1
    have hcb := (HR.out _ _ _ hi.1).1
    have hly := World.block_lt_of_cell? V _ hcy
    have hlb := World.block_lt_of_cell? V _ hcb
    obtain ⟨w0, hw0⟩ : ∃ w0, V.drew = w0 := ⟨_, rfl⟩
    have hb0 : Below V.heap.size V w0 := by rw [← hw0]; exact (Below.refl _ _).drew
    have hcy0 := keepc hb0 hcy
    have hcb0 := keepc hb0 hcb
    have HB0 := hid hb0
    clear h5 hi hmem hcy hcb hb0
    gi_wp2
    refine wpIn_region_round (by kernel_rfl) (by kernel_rfl) ?_
    rw [hw0]
    refine wpAnyIn_take (i := 1) (v := .int .i64 (x : Int)) (fuel := 6) rfl rfl (by kernel_rfl) (by kernel_rfl) (by kernel_rfl) (fun _ _ _ h => h) ⟨Or.inl ⟨by rfl, fun w => ?_⟩, fun _ => rfl⟩ ?_
    · go_simp
      try with_reducible rfl
    simp only [Act.put, List.setIfInBounds_toArray]
    refine wpAnyIn_take (i := 3) (v := .int .i64 (x : Int)) (fuel := 5) rfl rfl (by kernel_rfl) (by kernel_rfl) (by kernel_rfl) (fun _ _ _ h => h) ⟨Or.inl ⟨by rfl, fun w => ?_⟩, fun _ => rfl⟩ ?_
    · go_simp
      try with_reducible rfl
    simp only [Act.put]
    refine wpAnyIn_ready (rs := [0, 2]) (by kernel_rfl) (by simp) ?_
    refine AllReadyIn.cons (by simp only [List.getElem?_toArray, List.getElem?_cons_zero]; rfl) (fun K hK => ?_) (AllReadyIn.cons (by simp only [List.getElem?_toArray, List.getElem?_cons_succ, List.getElem?_cons_zero]; rfl) (fun K hK => ?_) AllReadyIn.nil)
    · go_simp
      refine hK _ _ ?_
      clear hK K
      (try simp only [Act.put, List.setIfInBounds_toArray, List.set_cons_zero, List.set_cons_succ])
      refine wpAnyIn_ready (rs := [2]) (by kernel_rfl) (by simp) ?_
      refine AllReadyIn.cons (by simp only [List.getElem?_toArray, List.getElem?_cons_succ, List.getElem?_cons_zero]; rfl) (fun K hK => ?_) AllReadyIn.nil
      · go_simp
        refine hK _ _ ?_
        clear hK K
        (try simp only [Act.put, List.setIfInBounds_toArray, List.set_cons_zero, List.set_cons_succ])
        refine wpAnyIn_ready (rs := [4]) (by kernel_rfl) (by simp) ?_
        refine AllReadyIn.cons (by simp only [List.getElem?_toArray, List.getElem?_cons_succ, List.getElem?_cons_zero]; rfl) (fun K hK => ?_) AllReadyIn.nil
        · go_simp
          refine ⟨trivial, fun _ => (by omega), ?_⟩
          refine (callsIn_wide.2 (HFA.out _ HB0.out)).mono ?_
          rintro e w4 ⟨rfl, hb4⟩
          refine hK _ _ ?_
          clear hK K
          have HB4 := hid (below_t HB0.out hb4)
          have hcy4 := keepc hb4 hcy0
          have hcb4 := keepc hb4 hcb0
          have hly4 := World.block_lt_of_cell? w4 _ hcy4
          have hlb4 := World.block_lt_of_cell? w4 _ hcb4
          clear hb4
          (try simp only [Act.put, List.setIfInBounds_toArray, List.set_cons_zero, List.set_cons_succ])
          refine wpAnyIn_ready (rs := [5]) (by kernel_rfl) (by simp) ?_
          refine AllReadyIn.cons (by simp only [List.getElem?_toArray, List.getElem?_cons_succ, List.getElem?_cons_zero]; rfl) (fun K hK => ?_) AllReadyIn.nil
          · have hg4 := Grow.below HB4.out V.heap.size
            obtain ⟨f1, t1, a6, b1, hy, hr⟩ := HY.out k (x, (s.cel x).fv) S w4 hk ⟨HX.out, rfl⟩ (hI _ _ _ _ (hg4.mono hVz) HI.out.1) (Nat.le_trans hVz hg4.size)
            have HRR := hid (fun m => roundIn_wide0 (m := m) hr)
            have hI4 := HI.out.grow hI hVz hg4
            have hT4 := Touch.below HB4.out w1.heap.size S
            clear hr hg4 HB4 HFA HB0 hcy0 hcb0
            generalize (s.cel x).fv = fv at *
            go_simp
            refine ⟨fun _ => (by omega), (HRR.out _).mono ?_⟩
            obtain ⟨-, h2, h3, h4, h5, h6, h7⟩ := hI4
            have l2 := World.block_lt_of_cell? w4 _ h2
            have l4 := World.block_lt_of_cell? w4 _ h4
            rintro e W1 ⟨S', ht, ⟨rfl, hj⟩ | ⟨rfl, hj⟩⟩
            · have HJ := hid (show IFd I W.heap.size W.heap.size bs b l (k + 1) S' W1 from ⟨hj, cell_touch ht h6 h3 h2, notin_touch ht h3 l2, cell_touch ht h7 h5 h4, notin_touch ht h5 l4, h6, h7⟩)
              have HT := hid (hT4.trans (ht.mono hz1))
              clear hj ht h2 h3 h4 h5 hT4
              refine hK _ _ ?_
              clear hK K
              (try simp only [Act.put, List.setIfInBounds_toArray, List.set_cons_zero, List.set_cons_succ])
              refine wpAnyIn_ready (rs := [6]) (by kernel_rfl) (by simp) ?_
              refine AllReadyIn.cons (by simp only [List.getElem?_toArray, List.getElem?_cons_succ, List.getElem?_cons_zero]; rfl) (fun K hK => ?_) AllReadyIn.nil
              go_simp
              refine hK _ _ ?_
              clear hK K
              (try simp only [Act.put, List.setIfInBounds_toArray, List.set_cons_zero, List.set_cons_succ])
              refine wpAnyIn_done (by kernel_rfl) ?_ _
              gi_wp2
              exact ⟨S', HT.out, HJ.out⟩
            · have HJ := hid (show IxAt Ix s.A.length .ret (k + 1) S' W1 from ⟨rfl, k, hk, hj⟩)
              have HT := hid (hT4.trans (ht.mono hz1))
              clear hj ht h2 h3 h4 h5 hT4
              refine hK _ _ ?_
              clear hK K
              (try simp only [Act.put, List.setIfInBounds_toArray, List.set_cons_zero, List.set_cons_succ])
              refine wpAnyIn_ready (rs := [6]) (by kernel_rfl) (by simp) ?_
              refine AllReadyIn.cons (by simp only [List.getElem?_toArray, List.getElem?_cons_succ, List.getElem?_cons_zero]; rfl) (fun K hK => ?_) AllReadyIn.nil
              go_simp
              refine hK _ _ ?_
              clear hK K
              (try simp only [Act.put, List.setIfInBounds_toArray, List.set_cons_zero, List.set_cons_succ])
              refine wpAnyIn_done (by kernel_rfl) ?_ _
              gi_wp2
              exact ⟨S', HT.out, HJ.out⟩
    · go_simp
      refine hK _ _ ?_
      clear hK K
      (try simp only [Act.put, List.setIfInBounds_toArray, List.set_cons_zero, List.set_cons_succ])
      refine wpAnyIn_ready (rs := [0, 4]) (by kernel_rfl) (by simp) ?_
      refine AllReadyIn.cons (by simp only [List.getElem?_toArray, List.getElem?_cons_zero]; rfl) (fun K hK => ?_) (AllReadyIn.cons (by simp only [List.getElem?_toArray, List.getElem?_cons_succ, List.getElem?_cons_zero]; rfl) (fun K hK => ?_) AllReadyIn.nil)
      · go_simp
        refine hK _ _ ?_
        clear hK K
        (try simp only [Act.put, List.setIfInBounds_toArray, List.set_cons_zero, List.set_cons_succ])
        refine wpAnyIn_ready (rs := [4]) (by kernel_rfl) (by simp) ?_
        refine AllReadyIn.cons (by simp only [List.getElem?_toArray, List.getElem?_cons_succ, List.getElem?_cons_zero]; rfl) (fun K hK => ?_) AllReadyIn.nil
        · go_simp
          refine ⟨trivial, fun _ => (by omega), ?_⟩
          refine (callsIn_wide.2 (HFA.out _ HB0.out)).mono ?_
          rintro e w4 ⟨rfl, hb4⟩
          refine hK _ _ ?_
          clear hK K
          have HB4 := hid (below_t HB0.out hb4)
          have hcy4 := keepc hb4 hcy0
          have hcb4 := keepc hb4 hcb0
          have hly4 := World.block_lt_of_cell? w4 _ hcy4
          have hlb4 := World.block_lt_of_cell? w4 _ hcb4
          clear hb4
          (try simp only [Act.put, List.setIfInBounds_toArray, List.set_cons_zero, List.set_cons_succ])
          refine wpAnyIn_ready (rs := [5]) (by kernel_rfl) (by simp) ?_
          refine AllReadyIn.cons (by simp only [List.getElem?_toArray, List.getElem?_cons_succ, List.getElem?_cons_zero]; rfl) (fun K hK => ?_) AllReadyIn.nil
          · have hg4 := Grow.below HB4.out V.heap.size
            obtain ⟨f1, t1, a6, b1, hy, hr⟩ := HY.out k (x, (s.cel x).fv) S w4 hk ⟨HX.out, rfl⟩ (hI _ _ _ _ (hg4.mono hVz) HI.out.1) (Nat.le_trans hVz hg4.size)
            have HRR := hid (fun m => roundIn_wide0 (m := m) hr)
            have hI4 := HI.out.grow hI hVz hg4
            have hT4 := Touch.below HB4.out w1.heap.size S
            clear hr hg4 HB4 HFA HB0 hcy0 hcb0
            generalize (s.cel x).fv = fv at *
            go_simp
            refine ⟨fun _ => (by omega), (HRR.out _).mono ?_⟩
            obtain ⟨-, h2, h3, h4, h5, h6, h7⟩ := hI4
            have l2 := World.block_lt_of_cell? w4 _ h2
            have l4 := World.block_lt_of_cell? w4 _ h4
            rintro e W1 ⟨S', ht, ⟨rfl, hj⟩ | ⟨rfl, hj⟩⟩
            · have HJ := hid (show IFd I W.heap.size W.heap.size bs b l (k + 1) S' W1 from ⟨hj, cell_touch ht h6 h3 h2, notin_touch ht h3 l2, cell_touch ht h7 h5 h4, notin_touch ht h5 l4, h6, h7⟩)
              have HT := hid (hT4.trans (ht.mono hz1))
              clear hj ht h2 h3 h4 h5 hT4
              refine hK _ _ ?_
              clear hK K
              (try simp only [Act.put, List.setIfInBounds_toArray, List.set_cons_zero, List.set_cons_succ])
              refine wpAnyIn_ready (rs := [6]) (by kernel_rfl) (by simp) ?_
              refine AllReadyIn.cons (by simp only [List.getElem?_toArray, List.getElem?_cons_succ, List.getElem?_cons_zero]; rfl) (fun K hK => ?_) AllReadyIn.nil
              go_simp
              refine hK _ _ ?_
              clear hK K
              (try simp only [Act.put, List.setIfInBounds_toArray, List.set_cons_zero, List.set_cons_succ])
              refine wpAnyIn_done (by kernel_rfl) ?_ _
              gi_wp2
              exact ⟨S', HT.out, HJ.out⟩
            · have HJ := hid (show IxAt Ix s.A.length .ret (k + 1) S' W1 from ⟨rfl, k, hk, hj⟩)
              have HT := hid (hT4.trans (ht.mono hz1))
              clear hj ht h2 h3 h4 h5 hT4
              refine hK _ _ ?_
              clear hK K
              (try simp only [Act.put, List.setIfInBounds_toArray, List.set_cons_zero, List.set_cons_succ])
              refine wpAnyIn_ready (rs := [6]) (by kernel_rfl) (by simp) ?_
              refine AllReadyIn.cons (by simp only [List.getElem?_toArray, List.getElem?_cons_succ, List.getElem?_cons_zero]; rfl) (fun K hK => ?_) AllReadyIn.nil
              go_simp
              refine hK _ _ ?_
              clear hK K
              (try simp only [Act.put, List.setIfInBounds_toArray, List.set_cons_zero, List.set_cons_succ])
              refine wpAnyIn_done (by kernel_rfl) ?_ _
              gi_wp2
              exact ⟨S', HT.out, HJ.out⟩
      · go_simp
        refine ⟨trivial, fun _ => (by omega), ?_⟩
        refine (callsIn_wide.2 (HFA.out _ HB0.out)).mono ?_
        rintro e w4 ⟨rfl, hb4⟩
        refine hK _ _ ?_
        clear hK K
        have HB4 := hid (below_t HB0.out hb4)
        have hcy4 := keepc hb4 hcy0
        have hcb4 := keepc hb4 hcb0
        have hly4 := World.block_lt_of_cell? w4 _ hcy4
        have hlb4 := World.block_lt_of_cell? w4 _ hcb4
        clear hb4
        (try simp only [Act.put, List.setIfInBounds_toArray, List.set_cons_zero, List.set_cons_succ])
        refine wpAnyIn_ready (rs := [0]) (by kernel_rfl) (by simp) ?_
        refine AllReadyIn.cons (by simp only [List.getElem?_toArray, List.getElem?_cons_zero]; rfl) (fun K hK => ?_) AllReadyIn.nil
        · go_simp
          refine hK _ _ ?_
          clear hK K
          (try simp only [Act.put, List.setIfInBounds_toArray, List.set_cons_zero, List.set_cons_succ])
          refine wpAnyIn_ready (rs := [5]) (by kernel_rfl) (by simp) ?_
          refine AllReadyIn.cons (by simp only [List.getElem?_toArray, List.getElem?_cons_succ, List.getElem?_cons_zero]; rfl) (fun K hK => ?_) AllReadyIn.nil
          · have hg4 := Grow.below HB4.out V.heap.size
            obtain ⟨f1, t1, a6, b1, hy, hr⟩ := HY.out k (x, (s.cel x).fv) S w4 hk ⟨HX.out, rfl⟩ (hI _ _ _ _ (hg4.mono hVz) HI.out.1) (Nat.le_trans hVz hg4.size)
            have HRR := hid (fun m => roundIn_wide0 (m := m) hr)
            have hI4 := HI.out.grow hI hVz hg4
            have hT4 := Touch.below HB4.out w1.heap.size S
            clear hr hg4 HB4 HFA HB0 hcy0 hcb0
            generalize (s.cel x).fv = fv at *
            go_simp
            refine ⟨fun _ => (by omega), (HRR.out _).mono ?_⟩
            obtain ⟨-, h2, h3, h4, h5, h6, h7⟩ := hI4
            have l2 := World.block_lt_of_cell? w4 _ h2
            have l4 := World.block_lt_of_cell? w4 _ h4
            rintro e W1 ⟨S', ht, ⟨rfl, hj⟩ | ⟨rfl, hj⟩⟩
            · have HJ := hid (show IFd I W.heap.size W.heap.size bs b l (k + 1) S' W1 from ⟨hj, cell_touch ht h6 h3 h2, notin_touch ht h3 l2, cell_touch ht h7 h5 h4, notin_touch ht h5 l4, h6, h7⟩)
              have HT := hid (hT4.trans (ht.mono hz1))
              clear hj ht h2 h3 h4 h5 hT4
              refine hK _ _ ?_
              clear hK K
              (try simp only [Act.put, List.setIfInBounds_toArray, List.set_cons_zero, List.set_cons_succ])
              refine wpAnyIn_ready (rs := [6]) (by kernel_rfl) (by simp) ?_
              refine AllReadyIn.cons (by simp only [List.getElem?_toArray, List.getElem?_cons_succ, List.getElem?_cons_zero]; rfl) (fun K hK => ?_) AllReadyIn.nil
              go_simp
              refine hK _ _ ?_
              clear hK K
              (try simp only [Act.put, List.setIfInBounds_toArray, List.set_cons_zero, List.set_cons_succ])
              refine wpAnyIn_done (by kernel_rfl) ?_ _
              gi_wp2
              exact ⟨S', HT.out, HJ.out⟩
            · have HJ := hid (show IxAt Ix s.A.length .ret (k + 1) S' W1 from ⟨rfl, k, hk, hj⟩)
              have HT := hid (hT4.trans (ht.mono hz1))
              clear hj ht h2 h3 h4 h5 hT4
              refine hK _ _ ?_
              clear hK K
              (try simp only [Act.put, List.setIfInBounds_toArray, List.set_cons_zero, List.set_cons_succ])
              refine wpAnyIn_ready (rs := [6]) (by kernel_rfl) (by simp) ?_
              refine AllReadyIn.cons (by simp only [List.getElem?_toArray, List.getElem?_cons_succ, List.getElem?_cons_zero]; rfl) (fun K hK => ?_) AllReadyIn.nil
              go_simp
              refine hK _ _ ?_
              clear hK K
              (try simp only [Act.put, List.setIfInBounds_toArray, List.set_cons_zero, List.set_cons_succ])
              refine wpAnyIn_done (by kernel_rfl) ?_ _
              gi_wp2
              exact ⟨S', HT.out, HJ.out⟩
  case done =>
    rintro D S V hD hi hK
    have HK := hid hK
    have HI := hid hi
    clear hi hK
    gi_wp2
    refine ⟨by simp, .inl ⟨_, _, rfl, run_takeDeferred HK.out, ?_⟩⟩
    exact ⟨_, results_none rfl _ _ _, ⟨_, rfl⟩, .inl ⟨S, hI _ _ _ _ (Grow.put _ (by omega) HK.out rfl) HI.out.1⟩⟩
  case stop =>
    rintro D k c S V hD hk ⟨rfl, j, hj, hx⟩ hK
    have HK := hid hK
    have HX := hid hx
    clear hx hK
    gi_wp2
    refine ⟨by simp, .inl ⟨_, _, rfl, run_takeDeferred HK.out, ?_⟩⟩
    exact ⟨_, results_none rfl _ _ _, ⟨_, rfl⟩, .inr ⟨j, S, hj, hIx _ _ _ _ (Grow.put _ (by omega) HK.out rfl) HX.out⟩⟩
end Go.Proofs.Ytlhaefgchmakfaa
namespace Go.Proofs.Ytlhaefgchmakfaa
open Go.RowKit Go.Lib Go.Deep
attribute [local go_sem] Oper.semAt_some

theorem md_step (s : Spc) {k x : Nat} (h : s.A[k]? = some x) : mdS s (s.A.take (k + 1)) = mdS s (s.A.take k) ++ (if (s.cel x).modi then [x] else []) := by
  rw [List.take_add_one, h]
  exact mdS_add s _ x
theorem md_pre (s : Spc) (k : Nat) : ∃ t, mdS s s.A = mdS s (s.A.take k) ++ t := by
  refine ⟨mdS s (s.A.drop k), ?_⟩
  unfold mdS
  rw [← List.filter_append, List.take_append_drop]
theorem md_at (s : Spc) {k x : Nat} (h : s.A[k]? = some x) (hp : (s.cel x).modi = true) : (mdS s (s.A.take k)).length < (mdS s s.A).length ∧ (mdS s s.A)[(mdS s (s.A.take k)).length]? = some x ∧ (mdS s (s.A.take (k + 1))).length = (mdS s (s.A.take k)).length + 1 := by
  have e := md_step s h
  rw [if_pos hp] at e
  obtain ⟨t, ht⟩ := md_pre s (k + 1)
  rw [e] at ht
  refine ⟨by rw [ht]; simp, by rw [ht]; simp, by rw [e]; simp⟩
theorem md_not (s : Spc) {k x : Nat} (h : s.A[k]? = some x) (hp : (s.cel x).modi = false) : (mdS s (s.A.take (k + 1))).length = (mdS s (s.A.take k)).length := by
  rw [md_step s h, if_neg (by rw [hp]; decide), List.append_nil]
/-- Between two fields. -/
def IMd (I : Nat → List Nat → World → Prop) (s : Spc) (m yb bs b l : Nat) (k : Nat) (S : List Nat) (V : World) : Prop :=
  I (mdS s (s.A.take k)).length S V ∧ V.cell? ⟨yb, 0, none⟩ = some (.func (.yield l) #[] #[]) ∧ yb ∉ S ∧ V.cell? ⟨bs, 0, none⟩ = some (.pointer (some ⟨b, 0, none⟩)) ∧ bs ∉ S ∧ m ≤ yb ∧ m ≤ bs
theorem IMd.grow {I : Nat → List Nat → World → Prop} {s : Spc} {m yb bs b l k m' : Nat} {S : List Nat} {A C : World} (h : IMd I s m yb bs b l k S A) (hI : ∀ k S, Abides m (I k S)) (hm : m ≤ m') (hg : Grow m' A C) : IMd I s m yb bs b l k S C :=
  ⟨hI _ _ _ _ (hg.mono hm) h.1, cell_grow hg h.2.1, h.2.2.1, cell_grow hg h.2.2.2.1, h.2.2.2.2⟩
def AxMd (I : Nat → List Nat → World → Prop) (s : Spc) (m yb bs b l : Nat) (fr : Value → Value → Value → Array Value) (k : Nat) (S : List Nat) (x : Nat × Value) (a : Act) (V : World) : Prop :=
  (s.A[k]? = some x.1 ∧ x.2 = (s.cel x.1).fv) ∧ IMd I s m yb bs b l k S V ∧ m ≤ V.heap.size ∧ ∃ cb, V.cell? ⟨cb, 3, none⟩ = some (.bool (s.cel x.1).modi) ∧ a = { tmps := fr (.int .i64 x.1) (.pointer (some ⟨cb, 0, none⟩)) x.2, defers := [] }
set_option maxRecDepth 100000 in
set_option maxHeartbeats 1000000 in
/-- Fields: the iterator's value. -/
theorem fieldsIt_any (b : Nat) (w : World) : Calls Try.prog 99 #[.pointer (some ⟨b, 0, none⟩)] w fun e w' => ∃ bx, e = .returned (.func (.func 115) #[] #[.pointer (some ⟨bx, 0, none⟩)]) ∧ w.heap.size ≤ bx ∧ w'.cell? ⟨bx, 0, none⟩ = some (.pointer (some ⟨b, 0, none⟩)) ∧ Below w.heap.size w w' := by
  go_enter Try.func99, Try.ntmps99
  go_wp2
  go_ret
  exact ⟨w.heap.size, rfl, Nat.le_refl _, by simp [go_sem], (Below.refl _ _).al (Nat.le_refl _) _⟩
set_option maxRecDepth 100000 in
set_option maxHeartbeats 1000000 in
/-- Modified: the iterator's value. -/
theorem modifiedIt_any (b : Nat) (w : World) : Calls Try.prog 76 #[.pointer (some ⟨b, 0, none⟩)] w fun e w' => ∃ bx, e = .returned (.func (.func 98) #[] #[.pointer (some ⟨bx, 0, none⟩)]) ∧ w.heap.size ≤ bx ∧ w'.cell? ⟨bx, 0, none⟩ = some (.pointer (some ⟨b, 0, none⟩)) ∧ Below w.heap.size w w' := by
  go_enter Try.func76, Try.ntmps76
  go_wp2
  go_ret
  exact ⟨w.heap.size, rfl, Nat.le_refl _, by simp [go_sem], (Below.refl _ _).al (Nat.le_refl _) _⟩
set_option maxRecDepth 100000 in
set_option maxHeartbeats 8000000 in
theorem modified_seq (n : Nat) (hn : 6 ≤ n) (bx b g : Nat) (s : Spc) (hpos : 0 < s.L.length ∧ s.L.length ≤ 3564) (W : World) : SeqF Fence.wide n Try.prog 98 #[.pointer (some ⟨bx, 0, none⟩)] encI (fun k x _ => (mdS s s.A)[k]? = some x) (mdS s s.A).length (RFs bx b g s) W := fun l I Ix hI hIx hR h0 hY => by
  obtain ⟨hb, _⟩ := hR _ _ _ h0
  have hlt : bx < W.heap.size := World.block_lt_of_cell? W _ hb
  have HY := hid hY
  have HR := hid hR
  have H0 := hid h0
  clear hY hR h0
  refine callsIn_of_wp_marks Try.func98 rfl trivial ?_ rfl
  simp only [Try.ntmps98, List.size_toArray, List.length_cons, List.length_nil, Nat.reduceAdd, Nat.reduceSub, Array.replicate_succ, Array.replicate_zero, List.push_toArray, List.append_toArray, List.nil_append, List.cons_append]
  gi_wp2
  refine ⟨trivial, fun _ => (by omega), ?_⟩
  refine (callsIn_wide.2 (fieldsIt_any b _)).mono ?_
  rintro e w1 ⟨bs, rfl, hbs, hcs, hb1⟩
  have hy1 : w1.cell? ⟨W.heap.size, 0, none⟩ = some (.func (.yield l) #[] #[]) := keepc hb1 (by simp [go_sem])
  have hg1 : Grow W.heap.size W w1 := (Grow.alloc W _ _).trans (Grow.below hb1 _)
  have hz1 : W.heap.size ≤ w1.heap.size := hg1.size
  have hbs' : W.heap.size ≤ bs := by simp at hbs; omega
  have HI0 := hid (show IMd I s W.heap.size W.heap.size bs b l 0 [] w1 from ⟨hI _ _ _ _ hg1 H0.out, hy1, by simp, hcs, by simp, Nat.le_refl _, hbs'⟩)
  clear hb1 hy1 hg1 hcs hbs hb hlt
  gi_wp2
  refine rangeFunc_seq (n := n) (w := w1) rfl (by omega) (gf := 115) (lb := #[.pointer (some ⟨bs, 0, none⟩)]) rfl trivial (enters_of Try.func115 (by kernel_rfl) rfl)
    (encs := encF) (fun _ => rfl) (el := fun k x _ => s.A[k]? = some x.1 ∧ x.2 = (s.cel x.1).fv) (N := s.A.length) (R := RFs bs b g s) (IMd I s W.heap.size W.heap.size bs b l) (IxAt Ix (mdS s s.A).length) ?hI ?hIx ?hR HI0.out
    (AxMd I s W.heap.size W.heap.size bs b l (fun k c v => #[.func (.yield l) #[] #[], .pointer (some ⟨bx, 0, none⟩), .pointer (some ⟨W.heap.size, 0, none⟩), k, c, .pointer (some ⟨b, 0, none⟩), .func (.func 115) #[] #[.pointer (some ⟨bs, 0, none⟩)], k, v, undef, undef, undef, undef, undef, undef, undef, undef])) ?hAx ?assign ?body ?iter ?done ?stop
  case hI => exact fun k S A C hg h => h.grow hI hz1 hg
  case hIx => exact fun c k S A C hg ⟨h1, j, h2, h3⟩ => ⟨h1, j, h2, hIx _ _ _ _ (hg.mono hz1) h3⟩
  case hR => exact fun k S V h => ⟨h.2.2.2.1, (HR.out _ _ _ h.1).2⟩
  case hAx => exact fun k S x a A C hg ⟨h1, h2, h3, cb, h5, h6⟩ => ⟨h1, h2.grow hI hz1 hg, Nat.le_trans h3 hg.size, cb, cell_grow hg h5, h6⟩
  case iter => exact fun o1 o2 _ _ => fields_seq (n - 1) (by omega) bs b g s hpos _
  case assign =>
    rintro l' k ⟨x, c⟩ S V KK hk ⟨hx, hc⟩ hi hsz hK
    dsimp only at hx hc
    subst hc
    have HK := hid hK
    have HI := hid hi
    have HX := hid hx
    have hbz := Nat.le_trans hz1 (show w1.heap.size ≤ V.heap.size by omega)
    have HFV := hid (show (s.cel x).fv = .agg #[.bool (ofP (s.cel x).fa.toNat), .bool (ofN (s.cel x).fa.toNat), .int .i64 (ofD (s.cel x).fa.toNat), .bool (s.cel x).modi] from rfl)
    have HK2 := hid (fun a V1 (ht : Touch w1.heap.size V V1 S S) q => HK.out a V1 ht q)
    clear hK hi hx
    rw [HFV.out] at HK2 ⊢
    generalize ofP (s.cel x).fa.toNat = fp at *
    generalize ofN (s.cel x).fa.toNat = fn at *
    generalize ofD (s.cel x).fa.toNat = fd at *
    gi_wp2
    refine HK.out _ _ (Touch.alloc V _ _ S) ⟨⟨HX.out, rfl⟩, HI.out.grow hI hz1 (Grow.alloc V _ _), by simp; omega, V.heap.size, by simp [go_sem], by rw [HFV.out]⟩
  case body =>
    rintro l' k ⟨x, c⟩ S a' V hk ⟨⟨hx, hc⟩, hi, hVz, cb, hcb, rfl⟩ hsz
    dsimp only at hx hc hcb
    subst hc
    have hyb := hi.2.1
    have HX := hid hx
    generalize (s.cel x).fv = fv
    cases hp : (s.cel x).modi
    · rw [hp] at hcb
      have HI := hid hi
      clear hi hx
      gi_wp2
      rename_i aK _ _ _ _
      refine ⟨fun _ f => (by cases f), aK _ _ ?_⟩
      gi_wp2
      obtain ⟨h1, h2, h3, h4, h5, h6, h7⟩ := HI.out
      exact ⟨S, Touch.refl _ _ _, by rw [md_not s HX.out hp]; exact h1, h2, h3, h4, h5, h6, h7⟩
    · obtain ⟨q1, q2, q3⟩ := md_at s hx hp
      rw [hp] at hcb
      obtain ⟨f1, t1, a1, b1, hy, hr⟩ := HY.out _ x S V q1 q2 hi.1 hVz
      have HRR := hid (fun l' m => roundIn_wide (l' := l') (m := m) hr)
      have HI := hid hi
      clear hi hr hx
      gi_wp2
      refine ⟨fun _ => (by omega), (HRR.out _ _).mono ?_⟩
      obtain ⟨h1, h2, h3, h4, h5, h6, h7⟩ := HI.out
      have l2 := World.block_lt_of_cell? V _ h2
      have l4 := World.block_lt_of_cell? V _ h4
      rintro e W1 ⟨S', ht, ⟨rfl, hj⟩ | ⟨rfl, hj⟩⟩
      · have HJ := hid (show IMd I s W.heap.size W.heap.size bs b l (k + 1) S' W1 from ⟨by rw [q3]; exact hj, cell_touch ht h6 h3 h2, notin_touch ht h3 l2, cell_touch ht h7 h5 h4, notin_touch ht h5 l4, h6, h7⟩)
        have HT := hid (ht.mono hz1)
        clear hj ht h1 h2 h3 h4 h5
        gi_wp2
        exact ⟨S', HT.out, HJ.out⟩
      · have HJ := hid (show IxAt Ix (mdS s s.A).length .ret (k + 1) S' W1 from ⟨rfl, (mdS s (s.A.take k)).length, q1, hj⟩)
        have HT := hid (ht.mono hz1)
        clear hj ht h1 h2 h3 h4 h5
        gi_wp2
        exact ⟨S', HT.out, HJ.out⟩
  case done =>
    rintro D S V hD hi hK
    have HK := hid hK
    have HI := hid hi
    clear hi hK
    gi_wp2
    refine ⟨by simp, .inl ⟨_, _, rfl, run_takeDeferred HK.out, ?_⟩⟩
    have h1 := HI.out.1
    rw [List.take_length] at h1
    exact ⟨_, results_none rfl _ _ _, ⟨_, rfl⟩, .inl ⟨S, hI _ _ _ _ (Grow.put _ (by omega) HK.out rfl) h1⟩⟩
  case stop =>
    rintro D k c S V hD hk ⟨rfl, j, hj, hx⟩ hK
    have HK := hid hK
    have HX := hid hx
    clear hx hK
    gi_wp2
    refine ⟨by simp, .inl ⟨_, _, rfl, run_takeDeferred HK.out, ?_⟩⟩
    exact ⟨_, results_none rfl _ _ _, ⟨_, rfl⟩, .inr ⟨j, S, hj, hIx _ _ _ _ (Grow.put _ (by omega) HK.out rfl) HX.out⟩⟩
end Go.Proofs.Ytlhaefgchmakfaa
namespace Go.Proofs.Ytlhaefgchmakfaa
open Go.RowKit Go.Lib Go.Deep

theorem pl_len {P : Nat → Bool} {N a d : Nat} (ha : P a = true) (h1 : 1 ≤ d) (hd : d ≤ N) (hf : P ((a + d) % N) = true) (hn : ∀ k, 1 ≤ k → k < d → P ((a + k) % N) = false) : (plL P N a).length + 1 = d := by
  unfold plL
  rw [if_pos ha]
  have h0 := plF_len P N a (N - 1) 0
  have hg := plF_get P N a (N - 1) 0
  have hs := plF_stop P N a (N - 1) 0
  generalize (plF P N a (N - 1) 0).length = L at h0 hg hs ⊢
  apply Nat.le_antisymm
  · apply Nat.le_of_not_lt
    intro h
    have q := (hg (d - 1) (by omega)).2
    rw [show a + 1 + (0 + (d - 1)) = a + d by omega, hf] at q
    cases q
  · apply Nat.le_of_not_lt
    intro h
    have q := hs (by omega)
    rw [show a + 1 + (0 + L) = a + (L + 1) by omega, hn (L + 1) (by omega) h] at q
    cases q
theorem attP_mono (P : Nat → Bool) {i j : Nat} (h : i ≤ j) : (attP P i).length ≤ (attP P j).length := by
  obtain ⟨t, ht⟩ := attP_pre P h
  rw [ht]
  simp
theorem attP_idx {P : Nat → Bool} {N k x : Nat} (h : (attP P N)[k]? = some x) : x < N ∧ P x = true ∧ (attP P x).length = k := by
  have hm := attP_mem (P := P) (N := N) (List.mem_of_getElem? h)
  obtain ⟨q1, q2, _⟩ := attP_at P hm.1 hm.2
  exact ⟨hm.1, hm.2, (List.getElem?_inj q1 (List.nodup_range.filter _)).1 (q2.trans h.symm)⟩
theorem attP_next {P : Nat → Bool} {N k x y : Nat} (h : (attP P N)[k]? = some x) (h' : (attP P N)[k + 1]? = some y) : x < y ∧ ∀ z, x < z → z < y → P z = false := by
  obtain ⟨x1, x2, x3⟩ := attP_idx h
  obtain ⟨y1, y2, y3⟩ := attP_idx h'
  have ex := (attP_at P x1 x2).2.2
  refine ⟨?_, fun z hz hy => ?_⟩
  · apply Nat.lt_of_not_le
    intro q
    have := attP_mono P q
    omega
  · cases hp : P z
    · rfl
    · have e := (attP_at P (Nat.lt_trans hy y1) hp).2.2
      have a1 := attP_mono P (show x + 1 ≤ z from hz)
      have a2 := attP_mono P (show z + 1 ≤ y from hy)
      omega
theorem attP_first {P : Nat → Bool} {N x : Nat} (h : (attP P N)[0]? = some x) : ∀ z, z < x → P z = false := fun z hz => by
  obtain ⟨x1, x2, x3⟩ := attP_idx h
  cases hp : P z
  · rfl
  · have e := (attP_at P (Nat.lt_trans hz x1) hp).2.2
    have a2 := attP_mono P (show z + 1 ≤ x from hz)
    omega
theorem attP_end {P : Nat → Bool} {N x : Nat} (h : (attP P N)[(attP P N).length - 1]? = some x) : ∀ z, x < z → z < N → P z = false := fun z hz hN => by
  obtain ⟨x1, x2, x3⟩ := attP_idx h
  have q := (attP_at P x1 x2).1
  have ex := (attP_at P x1 x2).2.2
  cases hp : P z
  · rfl
  · have e := attP_at P hN hp
    have a1 := attP_mono P (show x + 1 ≤ z from hz)
    omega
/-- How many places the first k fields take up, each with its attribute. -/
def plSum (P : Nat → Bool) (N : Nat) (l : List Nat) : Nat := (l.map (fun a => (plL P N a).length + 1)).sum
theorem plSum_add (P : Nat → Bool) (N : Nat) (l : List Nat) (a : Nat) : plSum P N (l ++ [a]) = plSum P N l + ((plL P N a).length + 1) := by
  unfold plSum
  rw [List.map_append, List.sum_append]
  simp
theorem plSum_take {P : Nat → Bool} {N f : Nat} (hf : (attP P N)[0]? = some f) : ∀ k x, (attP P N)[k]? = some x → plSum P N ((attP P N).take k) + f = x := by
  intro k
  induction k with
  | zero =>
    intro x hx
    rw [hf] at hx
    injection hx with hx
    rw [List.take_zero, ← hx]
    show 0 + f = f
    omega
  | succ k ih =>
    intro y hy
    obtain ⟨x, hx⟩ : ∃ x, (attP P N)[k]? = some x := ⟨_, List.getElem?_eq_getElem (by have := (List.getElem?_eq_some_iff.1 hy).1; omega)⟩
    have q := ih x hx
    obtain ⟨n1, n2⟩ := attP_next hx hy
    obtain ⟨x1, x2, -⟩ := attP_idx hx
    obtain ⟨y1, y2, -⟩ := attP_idx hy
    rw [List.take_add_one, hx]
    show plSum P N ((attP P N).take k ++ [x]) + f = y
    rw [plSum_add, pl_len (d := y - x) x2 (by omega) (by omega) (by rw [show x + (y - x) = y by omega, Nat.mod_eq_of_lt y1]; exact y2) (fun j j1 j2 => by rw [Nat.mod_eq_of_lt (by omega)]; exact n2 _ (by omega) (by omega))]
    omega
theorem plSum_all {P : Nat → Bool} {N : Nat} (h : attP P N ≠ []) : plSum P N (attP P N) = N := by
  have hl : 0 < (attP P N).length := List.length_pos_iff.2 h
  obtain ⟨f, hf⟩ : ∃ f, (attP P N)[0]? = some f := ⟨_, List.getElem?_eq_getElem hl⟩
  obtain ⟨x, hx⟩ : ∃ x, (attP P N)[(attP P N).length - 1]? = some x := ⟨_, List.getElem?_eq_getElem (by omega)⟩
  have q := plSum_take hf _ x hx
  have hfst := attP_first hf
  have hlst := attP_end hx
  obtain ⟨x1, x2, -⟩ := attP_idx hx
  obtain ⟨f1, f2, -⟩ := attP_idx hf
  have hfx : f ≤ x := by omega
  have hlen := pl_len (N := N) (d := N - x + f) x2 (by omega) (by omega) (by rw [show x + (N - x + f) = f + N by omega, Nat.add_mod_right, Nat.mod_eq_of_lt f1]; exact f2) (fun j j1 j2 => by
    by_cases hj : x + j < N
    · rw [Nat.mod_eq_of_lt hj]
      exact hlst _ (by omega) hj
    · rw [show x + j = (x + j - N) + N by omega, Nat.add_mod_right, Nat.mod_eq_of_lt (by omega)]
      exact hfst _ (by omega))
  have e : attP P N = (attP P N).take ((attP P N).length - 1) ++ [x] := by
    have t := List.take_add_one (l := attP P N) (i := (attP P N).length - 1)
    rw [hx, show (attP P N).length - 1 + 1 = (attP P N).length by omega, List.take_length] at t
    exact t
  rw [e, plSum_add, hlen]
  omega
end Go.Proofs.Ytlhaefgchmakfaa
namespace Go.Proofs.Ytlhaefgchmakfaa
open Go.RowKit Go.Lib Go.Deep

theorem plL_len (P : Nat → Bool) (N a : Nat) : (plL P N a).length ≤ N := by
  unfold plL
  split
  · have := plF_len P N a (N - 1) 0
    omega
  · simp
end Go.Proofs.Ytlhaefgchmakfaa
namespace Go.Proofs.Ytlhaefgchmakfaa
open Go.RowKit Go.Lib Go.Deep

/-- How many places the open ones of these fields have. -/
def opN (s : Spc) (l : List Nat) : Nat := (l.map (fun a => if ofP (s.cel a).fa.toNat then 0 else (plL s.P s.L.length a).length)).sum
theorem opN_add (s : Spc) (l : List Nat) (a : Nat) : opN s (l ++ [a]) = opN s l + (if ofP (s.cel a).fa.toNat then 0 else (plL s.P s.L.length a).length) := by
  unfold opN
  rw [List.map_append, List.sum_append]
  simp
theorem opN_le (s : Spc) (l : List Nat) : opN s l ≤ plSum s.P s.L.length l := by
  unfold opN plSum
  induction l with
  | nil => exact Nat.le_refl _
  | cons a l ih =>
    simp only [List.map_cons, List.sum_cons]
    split <;> omega
theorem opN_bd {s : Spc} (k : Nat) : opN s (s.A.take k) ≤ s.L.length := by
  by_cases h : s.A = []
  · rw [h]
    simp [opN]
  · refine Nat.le_trans (opN_le s _) ?_
    have e : plSum s.P s.L.length s.A = s.L.length := plSum_all h
    have t : plSum s.P s.L.length s.A = plSum s.P s.L.length (s.A.take k) + plSum s.P s.L.length (s.A.drop k) := by
      unfold plSum
      rw [← List.sum_append, ← List.map_append, List.take_append_drop]
    omega
end Go.Proofs.Ytlhaefgchmakfaa
namespace Go.Proofs.Ytlhaefgchmakfaa
open Go.RowKit Go.Lib Go.Deep
section
attribute [local go_sem] Oper.semAt_some
end
end Go.Proofs.Ytlhaefgchmakfaa
