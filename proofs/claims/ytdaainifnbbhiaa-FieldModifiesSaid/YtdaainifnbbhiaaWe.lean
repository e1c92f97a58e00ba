/-
  Unmodify: each attribute is unmarked, while they are told.
-/
import Derived.Test.YtdaainifnbbhiaaWd
namespace Go.Proofs.Ytdaainifnbbhiaa
open Go.RowKit Go.Lib Go.Deep

theorem moved_grow {m : Nat} {w A C : World} {S S' : List Nat} (h : Moved w A S S') (k : Grow m A C) (hm : w.heap.size ≤ m) : Moved w C S S' :=
  ⟨k.os.trans h.os, k.tape.trans h.tape, k.output.trans h.output, Nat.le_trans h.size k.size, fun i hi hs => by
    have e := h.block i hi hs
    rw [← e]
    rw [Array.getElem?_eq_getElem hi] at e
    exact (k.block i _ e (.inl (Nat.lt_of_lt_of_le hi hm))).trans e.symm, h.from'⟩
section
attribute [local go_sem] Oper.semAt_some
variable {b g : Nat} {s : Spc}
set_option maxRecDepth 100000 in
set_option maxHeartbeats 8000000 in
theorem unmod_in (m : Nat) (hm : 8 ≤ m) (w : World) (h : SpM w b g s) : CallsIn Fence.wide m Try.prog 65 #[.pointer (some ⟨b, 0, none⟩)] w (SpD b g (unS s s.A.length) w) := by
  have hN := h.ok.pos
  have hlt := h.lt
  have HMEM := hid (fun a (h : a ∈ s.A) => attP_mem (P := s.P) (N := s.L.length) h)
  have HMK := hid (fun (k a : Nat) (ha : a < s.L.length) (hp : s.P a = true) W (h : SpM W b g (unS s k)) => mark_any (b := b) (g := g) (s := unS s k) a (by rw [unS_len]; exact ha) (by rw [unS_P]; exact hp) false W h)
  have HH := hid h
  clear h
  refine callsIn_of_wp_marks Try.func65 rfl trivial ?_ rfl
  simp only [Try.ntmps65, List.size_toArray, List.length_cons, List.length_nil, Nat.reduceAdd, Nat.reduceSub, Array.replicate_succ, Array.replicate_zero, List.push_toArray, List.append_toArray, List.nil_append, List.cons_append]
  gi_wp2
  obtain ⟨w0, hw0⟩ : ∃ w0, w.alloc (.cells #[.pointer (some ⟨b, 0, none⟩)] 24) = w0 := ⟨_, rfl⟩
  have hb0 : Below w.heap.size w w0 := by rw [← hw0]; exact bal (Below.refl _ _) _
  have hz0 : w0.heap.size = w.heap.size + 1 := by rw [← hw0]; simp
  have hc0 : w0.cell? ⟨w.heap.size, 0, none⟩ = some (.pointer (some ⟨b, 0, none⟩)) := by rw [← hw0]; simp [go_sem]
  simp only [hw0]
  refine ⟨trivial, fun _ => (by omega), ?_⟩
  refine (callsIn_wide.2 (attrsIt_any b _)).mono ?_
  rintro e w1 ⟨bs, rfl, hbs, hcs, hb1⟩
  have hbs' : w.heap.size + 1 ≤ bs := by omega
  have hlz : w.heap.size + 1 ≤ w1.heap.size := by have := hb1.size; omega
  have HI0 := hid (show w1.cell? ⟨bs, 0, none⟩ = some (.pointer (some ⟨b, 0, none⟩)) ∧ w1.cell? ⟨w.heap.size, 0, none⟩ = some (.pointer (some ⟨b, 0, none⟩)) ∧ SpM w1 b g (unS s 0) ∧ Moved w w1 [b, g] [b, g] from ⟨hcs, keepc hb1 hc0, (HH.out.below hb0).below hb1, Moved.below (below_t hb0 hb1) _⟩)
  clear hb1 hbs hcs hb0 hz0 hc0 hw0
  gi_wp2
  refine rangeFunc_seq (n := m) (w := w1) rfl (by omega) (gf := 93) (lb := #[.pointer (some ⟨bs, 0, none⟩)]) rfl trivial (enters_of Try.func93 (by kernel_rfl) rfl)
    (encs := encI) (fun _ => rfl) (el := fun k x _ => s.A[k]? = some x) (N := s.A.length) (R := RP bs b s.L.length s.P)
    (fun k _ V => V.cell? ⟨bs, 0, none⟩ = some (.pointer (some ⟨b, 0, none⟩)) ∧ V.cell? ⟨w.heap.size, 0, none⟩ = some (.pointer (some ⟨b, 0, none⟩)) ∧ SpM V b g (unS s k) ∧ Moved w V [b, g] [b, g]) (fun _ _ _ _ => False) ?hI ?hIx ?hR HI0.out
    (fun k _ x a V => (V.cell? ⟨bs, 0, none⟩ = some (.pointer (some ⟨b, 0, none⟩)) ∧ V.cell? ⟨w.heap.size, 0, none⟩ = some (.pointer (some ⟨b, 0, none⟩)) ∧ SpM V b g (unS s k) ∧ Moved w V [b, g] [b, g]) ∧ s.A[k]? = some x ∧ a = { tmps := #[.pointer (some ⟨b, 0, none⟩), .pointer (some ⟨w.heap.size, 0, none⟩), .int .i64 (x : Nat), .pointer (some ⟨b, 0, none⟩), .func (.func 93) #[] #[.pointer (some ⟨bs, 0, none⟩)], .int .i64 (x : Nat), undef, undef, undef], defers := [] }) ?hAx ?assign ?body ?iter ?done ?stop
  case hI => exact fun k S A C hg ⟨h1, h2, h3, h4⟩ => ⟨cell_grow hg h1, cell_grow hg h2, h3.grow hg, moved_grow h4 hg (by omega)⟩
  case hIx => exact fun c k S A C hg h => h.elim
  case hR => exact fun k S V h => ⟨h.1, g, unS s k, h.2.2.1, unS_len s k, fun i _ => congrFun (unS_P s k) i⟩
  case hAx => exact fun k S x a A C hg ⟨⟨h1, h2, h3, h4⟩, h5, h6⟩ => ⟨⟨cell_grow hg h1, cell_grow hg h2, h3.grow hg, moved_grow h4 hg (by omega)⟩, h5, h6⟩
  case iter => exact fun o1 o2 _ _ => attrs_seq (m - 1) (by omega) bs b s.L.length s.P hN.2 _
  case assign =>
    rintro l' k x S V KK hk hx1 hi hsz hK
    have HK := hid hK
    have HI := hid (And.intro hi hx1)
    clear hK hi hx1
    gi_wp2
    exact HK.out _ _ (Touch.refl _ _ _) ⟨HI.out.1, HI.out.2, rfl⟩
  case body =>
    rintro l' k x S a' V hk ⟨⟨h1, h2, h3, h4⟩, h5, rfl⟩ hsz
    have hl2 := World.block_lt_of_cell? V _ h2
    have hmem := HMEM.out _ (List.mem_of_getElem? h5)
    have HM1 := hid (HMK.out k x hmem.1 hmem.2 V h3)
    have HJ := hid (And.intro h1 (And.intro h2 h4))
    have HUN := hid (show unS s (k + 1) = mkS (unS s k) x false by
      show mkS (unS s k) (s.A.getD k 0) false = _
      rw [List.getD_eq_getElem?_getD, h5]
      rfl)
    clear h1 h3 h4 h5 hmem
    gi_wp2
    refine ⟨trivial, fun _ => (by omega), ?_⟩
    refine (CallsIn.inRound l' (callsIn_wide.2 HM1.out)).mono ?_
    rintro e W1 ⟨⟨v, rfl⟩, hs, hmv⟩
    have HR := hid (show Touch w1.heap.size V W1 S S ∧ W1.cell? ⟨bs, 0, none⟩ = some (.pointer (some ⟨b, 0, none⟩)) ∧ W1.cell? ⟨w.heap.size, 0, none⟩ = some (.pointer (some ⟨b, 0, none⟩)) ∧ SpM W1 b g (unS s (k + 1)) ∧ Moved w W1 [b, g] [b, g] from
      ⟨⟨hmv.size, fun q hq hq2 _ => hmv.block q hq2 (by simp; omega), fun _ q => .inl q⟩, cell_moved hmv HJ.out.1 (by simp; omega), cell_moved hmv HJ.out.2.1 (by simp; omega), by rw [HUN.out]; exact hs, HJ.out.2.2.trans hmv⟩)
    clear hs hmv
    gi_wp2
    exact ⟨S, HR.out.1, HR.out.2⟩
  case done =>
    rintro D S V hD ⟨_, _, h3, h4⟩ hK
    have HK := hid hK
    have HJ := hid (And.intro h3 h4)
    clear hK h3 h4
    gi_wp2
    refine ⟨by simp, .inl ⟨_, _, rfl, run_takeDeferred HK.out, ?_⟩⟩
    have hg := Grow.put (m := w1.heap.size) (.deferred none) hD HK.out rfl
    exact ⟨_, results_none rfl _ _ _, ⟨_, rfl⟩, HJ.out.1.grow hg, moved_grow HJ.out.2 hg (by omega)⟩
  case stop => exact fun _ _ _ _ _ _ _ h => h.elim
end
end Go.Proofs.Ytdaainifnbbhiaa
