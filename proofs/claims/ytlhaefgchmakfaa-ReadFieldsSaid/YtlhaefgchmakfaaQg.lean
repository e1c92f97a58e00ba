/-
  A read of a formatted screen.
-/
import Derived.Test.YtlhaefgchmakfaaQf
namespace Go.Proofs.Ytlhaefgchmakfaa
open Go.RowKit Go.Lib Go.Deep

/-- These bytes are sent, in new memory. -/
def RdD (bs : List Int) (w : World) (e : Ending) (w' : World) : Prop := ∃ v, e = .returned (.tuple #[v, .int .i64 0]) ∧ OwnB w' v bs ∧ (∀ k ∈ blkV v, w.heap.size ≤ k) ∧ Below w.heap.size w w'
def sndB (aid : Int) (s : Spc) : List Int := aid :: encZ s.cu ++ fldB s (mdS s s.A)
section
variable {b g : Nat} {s : Spc}
set_option maxRecDepth 100000 in
set_option maxHeartbeats 2000000 in
theorem all_fmt (aid md : Int) (ha : U8 aid) (h0 : 0 ≤ md) (h2 : md ≤ 2) (hmd : (md == 2) = false) (hA : 0 < s.A.length) (w : World) (h : SpM w b g s) : Calls Try.prog 19 #[.pointer (some ⟨b, 0, none⟩), .int .u8 aid, .int .i64 md] w (RdD (sndB aid s) w) := by
  have HBN := hid (begin_any aid md ha h0 h2 w h)
  have HFM := hid (fun W (hW : SpM W b g s) => callsIn_wide.1 (formatted_in 6 (by omega) b g s W hW))
  rw [decide_eq_true hA] at HFM
  have HFI := hid (fun q v W hd hs hbq hgq hbv hgv => callsIn_wide.1 (fields_in 9 (by omega) (q := q) (v := v) (bs := aid :: encZ s.cu) (md := md) (lk := cel0) (b := b) (g := g) (s := s) hmd W hd hs hbq hgq hbv hgv (by simp [encZ])))
  have HS := hid h
  have HLT := hid h.lt
  clear h
  go_enter Try.func19, Try.ntmps19
  go_wp2_with fail
  with_reducible refine HBN.out.mono ?_
  rintro e w1 ⟨q, v, rfl, hq, hdt, hv, hb⟩
  have hbx := bal (Below.refl w1.heap.size w1) (.cells #[.pointer (some ⟨q, 0, none⟩)] 93)
  have HD1 := hid (hdt.step hbx)
  have HS1 := hid ((HS.out.below hb).below hbx)
  have hc1 : (w1.alloc (.cells #[.pointer (some ⟨q, 0, none⟩)] 93)).cell? ⟨w1.heap.size, 0, none⟩ = some (.pointer (some ⟨q, 0, none⟩)) := by simp [go_sem]
  have HC1 := hid hc1
  have HB1 := hid (below_t hb hbx)
  have hne : w1.heap.size ∉ q :: blkV v := fun e => by
    rcases List.mem_cons.1 e with e | e
    · have := hdt.lt; omega
    · have := hdt.ow.lt _ e; omega
  have HNE := hid hne
  have HQ := hid hq
  have HV := hid hv
  clear hdt hb hbx hc1 hne hq hv
  go_wp2_with fail
  with_reducible refine (HFM.out _ HS1.out).mono ?_
  rintro e w2 ⟨rfl, hb2⟩
  have HD2 := hid (HD1.out.step hb2)
  have HS2 := hid (HS1.out.below hb2)
  have hc2 := keepc hb2 HC1.out
  have HB2 := hid (below_t HB1.out hb2)
  clear hb2
  go_wp2_with fail
  with_reducible refine (HFI.out q v _ HD2.out HS2.out (by have := HLT.out.1; have := HQ.out; omega) (by have := HLT.out.2; have := HQ.out; omega) (fun e => by have := HV.out _ e; have := HLT.out.1; omega) (fun e => by have := HV.out _ e; have := HLT.out.2; omega)).mono ?_
  rintro e w3 ⟨⟨u, rfl⟩, v3, hd3, hm3⟩
  have hc3 := cell_moved hm3 hc2 HNE.out
  have hs3 := hd3.c0
  have HF := hid (show RdD (sndB aid s) w (.returned (.tuple #[v3, .int .i64 0])) w3 from ⟨v3, rfl, hd3.ow, fun k hk => by
    rcases hm3.from' k (List.mem_cons_of_mem _ hk) with e | e
    · rcases List.mem_cons.1 e with e | e
      · rw [e]; exact HQ.out
      · exact HV.out k e
    · exact Nat.le_trans HB2.out.size e, HB2.out.trans (hm3.toBelow HB2.out.size (fun k hk => by
      rcases List.mem_cons.1 hk with e | e
      · rw [e]; exact HQ.out
      · exact HV.out k e))⟩)
  clear hd3 hm3 hc2
  go_wp2_with fail
  go_ret2
  exact HF.out
set_option maxRecDepth 100000 in
theorem mod_fmt (aid md : Int) (ha : U8 aid) (hs : shZ aid = false) (h0 : 0 ≤ md) (h2 : md ≤ 2) (hmd : (md == 2) = false) (hA : 0 < s.A.length) (w : World) (h : SpM w b g s) : Calls Try.prog 12 #[.pointer (some ⟨b, 0, none⟩), .int .u8 aid, .int .i64 md] w (RdD (sndB aid s) w) := by
  have HA := hid (all_fmt aid md ha h0 h2 hmd hA w h)
  have HS := hid (fun w => short_any aid w ha)
  rw [hs] at HS
  clear h
  go_enter Try.func12, Try.ntmps12
  go_wp2_with fail
  with_reducible refine (HS.out _).mono ?_
  rintro e w1 ⟨rfl, rfl⟩
  go_wp2_with fail
  with_reducible refine HA.out.mono ?_
  rintro e w1 ⟨v, rfl, hv⟩
  have HF := hid (show RdD (sndB aid s) w (.returned (.tuple #[v, .int .i64 0])) w1 from ⟨v, rfl, hv⟩)
  clear hv
  go_wp2_with fail
  go_ret2
  exact HF.out
end
end Go.Proofs.Ytlhaefgchmakfaa
