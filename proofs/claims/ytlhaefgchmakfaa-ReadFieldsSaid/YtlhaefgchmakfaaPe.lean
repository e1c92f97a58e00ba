/-
  order.Bytes: orders told one behind the other.
-/
import Derived.Test.YtlhaefgchmakfaaPd
import Derived.Test.YtlhaefgchmakfaaOf
namespace Go.Proofs.Ytlhaefgchmakfaa
open Go.RowKit Go.Lib

/-- It is one of those that are told here. -/
def ToldO (d : OpD) : Prop := (∃ n, d = opA n) ∨ ∃ t, d = opT t
theorem opsB_stepV {os : List OpV} {k : Nat} (hk : k < os.length) (h : (opsB ((os.map OpV.d).take k)).1 = 0) : ((opB os[k].d).1 = 0 → (opsB ((os.map OpV.d).take (k + 1))).1 = 0 ∧ (opsB ((os.map OpV.d).take (k + 1))).2 = (opsB ((os.map OpV.d).take k)).2 ++ (opB os[k].d).2) ∧ ((opB os[k].d).1 ≠ 0 → opsB (os.map OpV.d) = ((opB os[k].d).1, [])) := by
  have q := opsB_step (os := os.map OpV.d) (k := k) (by simpa using hk) h
  rw [List.getElem_map] at q
  exact q
set_option maxRecDepth 100000 in
set_option maxHeartbeats 2000000 in
theorem obs_any (l : Value) (os : List OpV) (w : World) (h : OpsM w l os) (hk : ∀ x ∈ os, ToldO x.d) (hl : totO (os.map OpV.d) ≤ 1000000) :
    Calls Try.prog 58 #[l] w (BytD (opsB (os.map OpV.d)) w) := by
  have HO := hid h
  have HK := hid hk
  obtain ⟨xl, cl, rfl⟩ := row_slice h.row
  have hlen : (os.map OpV.d).length = os.length := by simp
  have HST := hid (fun k (q : k < os.length) => @opsB_stepV os k q)
  have HTO := hid (fun k => Nat.le_trans (opsB_len ((os.map OpV.d).take k)) (Nat.mul_le_mul_left 2 (Nat.le_trans (totO_take (os.map OpV.d) k) hl)))
  have HTX := hid (fun x (q : x ∈ os) => Nat.le_trans (Nat.le_of_lt (totO_mem (List.mem_map_of_mem (f := OpV.d) q))) hl)
  have HDO := hid (show (os.map OpV.d).take os.length = os.map OpV.d by rw [← hlen, List.take_length])
  have hnn := Nat.le_trans (totO_len (os.map OpV.d)) hl
  rw [hlen] at hnn
  clear h hk hl hlen
  go_enter Try.func58, Try.ntmps58
  go_wp2_with fail
  go_loopw [4, 11] (fun p i W => ∃ k : Nat, k ≤ os.length ∧ i = .int .i64 k ∧ Hid ((opsB ((os.map OpV.d).take k)).1 = 0) ∧ Hid (OwnB W p (opsB ((os.map OpV.d).take k)).2) ∧ Hid (Below w.heap.size w W) ∧ Hid (∀ b ∈ blkV p, w.heap.size ≤ b)) (fun _ i _ => os.length - (intOf i).toNat)
  case atStart => exact ⟨0, Nat.zero_le _, rfl, rfl, OwnB.nil _, Below.refl _ _, fun _ q => (by cases q)⟩
  case round =>
    obtain ⟨k, hk, rfl, H0, HP, HB, HN⟩ := hrel
    obtain ⟨xc, nc, cc, rfl⟩ := own_slice HP.out
    by_cases hlt : k < os.length
    · have hki : (k : Int) < os.length := by omega
      obtain ⟨xl', cl', hle, hat⟩ := (HO.out.step HB.out).at
      injection hle with hle1 _ hle3
      subst hle1 hle3
      obtain ⟨g, hg, hgl, hc⟩ := hat k hlt
      subst hg
      have hmem : os[k] ∈ os := List.getElem_mem hlt
      have HS := hid (HST.out k hlt H0.out)
      have hp := (HO.out.step HB.out).prs _ hmem
      have ht := (HO.out.step HB.out).txt _ hmem
      have hkd := HK.out _ hmem
      have htl := HTX.out _ hmem
      have HLN := hid (HTO.out k)
      generalize os[k] = x at hc HS hp ht hkd htl
      obtain ⟨⟨kd, ad, cd, gr, fa, ps, tx⟩, pv, tv⟩ := x
      dsimp only at HS hp ht hkd htl
      obtain ⟨xp, cp, rfl⟩ := row_slice hp
      obtain ⟨xt, ct, rfl⟩ := own_len ht tx.length rfl
      have a0 : wr.cell? ⟨g, k * 7, none⟩ = some (.int .i64 kd) := hc 0 (by omega)
      have a1 : wr.cell? ⟨g, k * 7 + 1, none⟩ = some (.int .i64 ad) := hc 1 (by omega)
      have a2 : wr.cell? ⟨g, k * 7 + 2, none⟩ = some (.int .u8 cd) := hc 2 (by omega)
      have a3 : wr.cell? ⟨g, k * 7 + 3, none⟩ = some (.bool gr) := hc 3 (by omega)
      have a4 : wr.cell? ⟨g, k * 7 + 4, none⟩ = some (.int .u8 fa) := hc 4 (by omega)
      have a5 : wr.cell? ⟨g, k * 7 + 5, none⟩ = some (.slice xp ps.length cp) := hc 5 (by omega)
      have a6 : wr.cell? ⟨g, k * 7 + 6, none⟩ = some (.slice xt tx.length ct) := hc 6 (by omega)
      have HC := hid (fun V (hV : Below wr.heap.size wr V) => opb_any ⟨kd, ad, cd, gr, fa, ps, tx⟩ hkd xp ps.length cp (.slice xt tx.length ct) V (reads_below ht.reads hV) htl)
      dsimp only at HC
      have HB1 := hid (fun o => bal (Below.refl wr.heap.size wr) o)
      have HLB := hid (opB_len ⟨kd, ad, cd, gr, fa, ps, tx⟩)
      have HTL := hid htl
      generalize opB ⟨kd, ad, cd, gr, fa, ps, tx⟩ = r at HC HS HLB
      obtain ⟨er, bs⟩ := r
      dsimp only at HS HLB
      clear hat hc hp ht hkd htl hmem
      go_wp2_with fail
      with_reducible refine (HC.out _ (HB1.out _)).mono ?_
      rintro e w1 ⟨v, rfl, ho, hk1, hb1⟩
      obtain ⟨xv, nv, cv, rfl⟩ := own_slice ho
      have HV := hid ho.reads
      have HBW := hid (below_t (HB1.out (.cells #[.int .i64 kd, .int .i64 ad, .int .u8 cd, .bool gr, .int .u8 fa, .slice xp ps.length cp, .slice xt tx.length ct] 144)) hb1)
      have HB2 := hid (below_t HB.out HBW.out)
      have HP2 := hid (HP.out.step HBW.out)
      clear ho hk1 hb1 HC a0 a1 a2 a3 a4 a5 a6
      by_cases he : er = 0
      · subst he
        have HN1 := hid (HS.out.1 rfl)
        have HSZ := hid (show (opsB ((os.map OpV.d).take k)).2.length + bs.length ≤ 10000000 by have := HLN.out; have := HLB.out; have := HTL.out; dsimp only at *; omega)
        obtain ⟨N, hN⟩ : ∃ N, ((opsB ((os.map OpV.d).take k)).2 ++ bs).length = N := ⟨_, rfl⟩
        have HNN := hid hN
        clear hN
        go_wp2_with (first
          | (at_builtin; refine wpList_append_at rfl (.tmp 23) (.tmp 24) rfl (.slice xc nc cc) (.slice xv nv cv) _ bs _ N rfl rfl HP2.out HV.out HSZ.out rfl HNN.out ?_; intro y3 c3 w3 h3 g3 k3; have HO3 := hid h3; have HB3 := hid (below_grown HB2.out g3 HN.out); have HN3 := hid (new_grown HB2.out HN.out k3); clear h3 g3 k3))
        go_roundw
        case rel =>
          refine ⟨k + 1, by omega, by go_num, HN1.out.1, ?_, HB3.out, HN3.out⟩
          show OwnB _ _ _
          rw [HN1.out.2]
          exact HO3.out
        case measure => simp [intOf]; omega
      · have e0 : (er == 0) = false := by simpa using he
        have e1 : (er != 0) = true := by simpa using he
        have HE := hid (HS.out.2 he)
        have HF := hid (show BytD (opsB (os.map OpV.d)) w (.returned (.tuple #[.slice none 0 0, .int .i64 er])) w1 by rw [HE.out]; exact byt_no er HB2.out)
        clear he
        go_wp2
        go_ret2
        exact HF.out
    · obtain rfl : k = os.length := by omega
      have HF := hid (show BytD (opsB (os.map OpV.d)) w (.returned (.tuple #[.slice xc nc cc, .int .i64 0])) wr by
        have q := HP.out
        have q0 := H0.out
        rw [HDO.out] at q q0
        exact ⟨_, by rw [q0], q, HN.out, HB.out⟩)
      go_wp2
      go_ret2
      exact HF.out
end Go.Proofs.Ytlhaefgchmakfaa
