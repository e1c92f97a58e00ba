/-
  A terminal's end: a list of functions is taken.
-/
import Derived.Test.YtdpfjbpfafekfaaNn
namespace Go.Proofs.Ytdpfjbpfafekfaa
open Go.RowKit Go.Lib

theorem few_of_nodup : ∀ (n : Nat) {r : List Int}, r.Nodup → (∀ x ∈ r, 0 ≤ x ∧ x < n) → r.length ≤ n
  | 0, [], _, _ => Nat.le_refl _
  | 0, x :: r, _, h => by have := h x (by simp); omega
  | n + 1, r, hn, h => by
    have h1 := few_of_nodup n (r := r.erase (n : Int)) (hn.erase _) fun x hx => by
      obtain ⟨h2, h3⟩ := hn.mem_erase_iff.1 hx
      have := h x h3
      omega
    rw [List.length_erase] at h1
    split at h1
    · omega
    · omega
theorem all_in {fs r : List Int} (h : allF fs r = true) (hf : ∀ x ∈ fs, 0 ≤ x ∧ x ≤ 4) : ∀ x ∈ r, 0 ≤ x ∧ x ≤ 4 := fun x hx => by
  unfold allF at h
  exact hf x (any_mem.1 (List.all_eq_true.1 h x hx))
theorem all_few {fs r : List Int} (h : allF fs r = true) (hf : ∀ x ∈ fs, 0 ≤ x ∧ x ≤ 4) (hn : r.Nodup) : r.length ≤ 12 := by
  have := few_of_nodup 5 hn (fun x hx => by have := all_in h hf x hx; omega)
  omega
theorem EDone.since {g : Nat} {sv : Value} {T D : ByteArray} {fs : List Int} {st : Int} {dev : ByteArray} {ag ans : List Int} {w w1 w' : World} {e : Ending} (hb : Below w.heap.size w w1) (hg : g < w.heap.size) (h : EDone g sv T D fs st dev ag ans w1 e w') : EDone g sv T D fs st dev ag ans w e w' := by
  obtain ⟨v, av', he, ho, hE, hM, hk, hn⟩ := h
  exact ⟨v, av', he, ho, hE, (Moved.below hb [g]).trans hM, (fun k q => ⟨Nat.le_trans hb.size (hk k q).1, (hk k q).2⟩), hn.since hb hg⟩
/-- An end has moved; nothing is answered. -/
def VDone (g : Nat) (sv : Value) (T D : ByteArray) (fs : List Int) (st : Int) (dev : ByteArray) (ag : List Int) (w : World) (e : Ending) (w' : World) : Prop :=
  e = .returned (.tuple #[]) ∧ ∃ av', EndM w' g sv av' T D fs st dev ag ∧ Moved w w' [g] [g] ∧ OldNew w g av'
set_option maxRecDepth 100000 in
set_option maxHeartbeats 2000000 in
theorem acceptOrRefuse_no (g : Nat) (sv av : Value) (T D : ByteArray) (fs : List Int) (st : Int) (dev : ByteArray) (ag : List Int) (w : World) (h : EndM w g sv av T D fs st dev ag) (y : Option Addr) (n c : Nat) (r : List Int) (hr : RdG w (.slice y n c) r) (hn : n = r.length) (hl : n ≤ 1000) (hfl : fs.length ≤ 1000) (hg : g ∉ blkV (.slice y n c)) (ha : allF fs r = false) : Calls Try.prog 84 #[.pointer (some ⟨g, 0, none⟩), .slice y n c] w (VDone g sv T D fs 4 dev ag w) := by
  have hgl := h.lt
  have HS := hid (supported_any g sv av T D fs st dev ag w h y n c r hr hn hl hfl)
  have hlt := keep_lt.2 ha
  rw [← hn] at hlt
  have hli : ((keepL fs r).length : Int) < n := by omega
  have HH := hid h
  obtain ⟨ax, ac, rfl⟩ := own_len h.ra _ rfl
  clear h hr hn ha hg
  go_enter Try.func84, Try.ntmps84
  go_wp2_with fail
  with_reducible refine HS.out.mono ?_
  rintro e w1 ⟨v1, rfl, ho1, hb1, hk1⟩
  obtain ⟨x1, c1, rfl⟩ := own_len ho1 _ rfl
  have hE1 := HH.out.step hb1
  have c3 := hE1.c3
  have f3 := hE1.fr 3 (by omega)
  have HX := hid (show VDone g sv T D fs 4 dev ag w (.returned (.tuple #[])) (w1.setCell ⟨g, 3, none⟩ (.int .i64 4)) from ⟨rfl, _, hE1.set3 4, (Moved.below hb1 [g]).trans (set_moved w1 g 3 _), .inl HH.out.c5⟩)
  clear hE1 ho1 hb1 hk1 HS HH
  generalize (keepL fs r).length = m at *
  go_wp2
  refine bodyPost_ret (results_none rfl _ _ _) rfl ?_
  exact HX.out
set_option maxRecDepth 100000 in
set_option maxHeartbeats 2000000 in
theorem acceptOrRefuse_yes (g : Nat) (sv av : Value) (T D : ByteArray) (fs : List Int) (st : Int) (dev : ByteArray) (ag : List Int) (w : World) (h : EndM w g sv av T D fs st dev ag) (y : Option Addr) (n c : Nat) (r : List Int) (hr : RdG w (.slice y n c) r) (hn : n = r.length) (hl : n ≤ 1000) (hfl : fs.length ≤ 1000) (hg : g ∉ blkV (.slice y n c)) (ha : allF fs r = true) (hf : ∀ x ∈ fs, 0 ≤ x ∧ x ≤ 4) (hnd : r.Nodup) : Calls Try.prog 84 #[.pointer (some ⟨g, 0, none⟩), .slice y n c] w (VDone g sv T D fs 3 dev (sortL r) w) := by
  have hgl := h.lt
  have HS := hid (supported_any g sv av T D fs st dev ag w h y n c r hr hn hl hfl)
  have hlt : ¬ (keepL fs r).length < n := by rw [hn, keep_lt, ha]; decide
  have hli : ¬ ((keepL fs r).length : Int) < n := by omega
  have HAC := hid (fun (W : World) (hb : Below w.heap.size w W) => accept_any g sv av T D fs st dev ag W (h.step hb) (.slice y n c) r (hr.step hb).reads hg hnd (all_in ha hf) (all_few ha hf hnd))
  clear h hr hn ha hg
  go_enter Try.func84, Try.ntmps84
  go_wp2_with fail
  with_reducible refine HS.out.mono ?_
  rintro e w1 ⟨v1, rfl, ho1, hb1, hk1⟩
  obtain ⟨x1, c1, rfl⟩ := own_len ho1 _ rfl
  have HA1 := hid (HAC.out w1 hb1)
  have HB1 := hid hb1
  clear ho1 hb1 hk1 HS HAC
  generalize (keepL fs r).length = m at *
  go_wp2_with fail
  with_reducible refine HA1.out.mono ?_
  rintro e w2 ⟨rfl, av', hE, hM, hk⟩
  have HX := hid (show VDone g sv T D fs 3 dev (sortL r) w (.returned (.tuple #[])) w2 from ⟨rfl, _, hE, (Moved.below HB1.out [g]).trans hM, .inr (fun k q => Nat.le_trans HB1.out.size (hk k q))⟩)
  clear hE hM hk HA1
  go_wp2
  go_end0
  exact HX.out
set_option maxRecDepth 100000 in
set_option maxHeartbeats 2000000 in
theorem acceptOrAsk_no (g : Nat) (sv av : Value) (T D : ByteArray) (fs : List Int) (st : Int) (dev : ByteArray) (ag : List Int) (w : World) (h : EndM w g sv av T D fs st dev ag) (y : Option Addr) (n c : Nat) (r : List Int) (hr : RdG w (.slice y n c) r) (hn : n = r.length) (hl : n ≤ 1000) (hfl : fs.length ≤ 1000) (hg : g ∉ blkV (.slice y n c)) (ha : allF fs r = false) : Calls Try.prog 85 #[.pointer (some ⟨g, 0, none⟩), .slice y n c] w (EDone g sv T D fs 2 dev [] (3 :: 7 :: keepL fs r) w) := by
  have hgl := h.lt
  have HS := hid (supported_any g sv av T D fs st dev ag w h y n c r hr hn hl hfl)
  have hlt := keep_lt.2 ha
  rw [← hn] at hlt
  have hli : ((keepL fs r).length : Int) < n := by omega
  have hkl : (keepL fs r).length ≤ 1000 := by omega
  have HH := hid h
  clear h hr hn ha hg
  go_enter Try.func85, Try.ntmps85
  go_wp2_with fail
  with_reducible refine HS.out.mono ?_
  rintro e w1 ⟨v1, rfl, ho1, hb1, hk1⟩
  obtain ⟨x1, c1, rfl⟩ := own_len ho1 _ rfl
  have HAF := hid (askFunctions_any g sv av T D fs st dev ag w1 (HH.out.step hb1) x1 _ c1 (keepL fs r) ho1.reads (fun q => by have := hk1 g q; have := HH.out.lt; omega) hkl)
  have HB1 := hid hb1
  clear ho1 hb1 hk1 HS HH hkl
  generalize keepL fs r = K at *
  generalize K.length = m at *
  go_wp2_with fail
  with_reducible refine HAF.out.mono ?_
  rintro e w2 ⟨v2, av', rfl, h2⟩
  have HX := hid (EDone.since HB1.out hgl ⟨v2, av', rfl, h2⟩)
  obtain ⟨x2, n2, c2, rfl⟩ := own_slice h2.1
  clear h2 HAF
  go_wp2
  go_ret
  exact HX.out
set_option maxRecDepth 100000 in
set_option maxHeartbeats 2000000 in
theorem acceptOrAsk_yes (g : Nat) (sv av : Value) (T D : ByteArray) (fs : List Int) (st : Int) (dev : ByteArray) (ag : List Int) (w : World) (h : EndM w g sv av T D fs st dev ag) (y : Option Addr) (n c : Nat) (r : List Int) (hr : RdG w (.slice y n c) r) (hn : n = r.length) (hl : n ≤ 1000) (hfl : fs.length ≤ 1000) (hg : g ∉ blkV (.slice y n c)) (ha : allF fs r = true) (hf : ∀ x ∈ fs, 0 ≤ x ∧ x ≤ 4) (hnd : r.Nodup) : Calls Try.prog 85 #[.pointer (some ⟨g, 0, none⟩), .slice y n c] w (EDone g sv T D fs 3 dev (sortL r) (3 :: 4 :: r) w) := by
  have hgl := h.lt
  have HS := hid (supported_any g sv av T D fs st dev ag w h y n c r hr hn hl hfl)
  have hlt : ¬ (keepL fs r).length < n := by rw [hn, keep_lt, ha]; decide
  have hli : ¬ ((keepL fs r).length : Int) < n := by omega
  have HAC := hid (fun (W : World) (hb : Below w.heap.size w W) => accept_any g sv av T D fs st dev ag W (h.step hb) (.slice y n c) r (hr.step hb).reads hg hnd (all_in ha hf) (all_few ha hf hnd))
  have HRD := hid (fun (W W' : World) (hb : Below w.heap.size w W) (hM : Moved W W' [g] [g]) => (hr.step hb).moved hM (fun k hk q => hg (by rw [← List.mem_singleton.1 q]; exact hk)))
  have hrl : r.length ≤ 1000 := by omega
  clear h hr hn ha hg
  go_enter Try.func85, Try.ntmps85
  go_wp2_with fail
  with_reducible refine HS.out.mono ?_
  rintro e w1 ⟨v1, rfl, ho1, hb1, hk1⟩
  obtain ⟨x1, c1, rfl⟩ := own_len ho1 _ rfl
  have HA1 := hid (HAC.out w1 hb1)
  have HB1 := hid hb1
  clear ho1 hb1 hk1 HS HAC
  generalize (keepL fs r).length = m at *
  go_wp2_with fail
  with_reducible refine HA1.out.mono ?_
  rintro e w2 ⟨rfl, av', hE, hM, hk⟩
  have HE := hid hE
  have HM := hid ((Moved.below HB1.out [g]).trans hM)
  have HF := hid (Fresh.lit w2 #[.int .u8 3, .int .u8 4] 2 [3, 4] (fun q hq => by simp at hq; omega) rfl rfl (by omega) w2.heap.size rfl)
  have HR2 := hid ((HRD.out w1 w2 HB1.out hM).step HF.out.2.1).reads
  have HKA := hid hk
  clear hE hM hk HA1 HRD
  go_wp2_with (first
    | (at_builtin; refine wpList_append_rd rfl _ _ rfl rfl HF.out _ r rfl HR2.out (by simp; omega) ?_; intro x' c' w' hF'; have HF' := hid hF'; clear hF'))
  go_ret
  have hF := HF'.out
  exact ⟨_, _, rfl, hF.1, HE.out.step hF.2.1, HM.out.trans (Moved.below hF.2.1 _), (fun k hk => ⟨Nat.le_trans HM.out.size (hF.2.2 k hk), fun q => by have h1 := HE.out.ra.lt k q; have h2 := hF.2.2 k hk; omega⟩), .inr (fun k q => Nat.le_trans HB1.out.size (HKA.out k q))⟩
end Go.Proofs.Ytdpfjbpfafekfaa
