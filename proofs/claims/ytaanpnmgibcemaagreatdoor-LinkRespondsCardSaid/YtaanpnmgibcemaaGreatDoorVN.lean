/-
  LinkResponds: a record behind a header is told, and answered (pure).
-/
import Derived.Test.YtaanpnmgibcemaaGreatDoorVH
namespace Go.Proofs.YtaanpnmgibcemaaGreatDoor
open Go.RowKit Go.Lib Go.Deep

/-- Nothing but data and commands. -/
def Pln (e : Tn.Ev) : Prop := e.kind = 0 ∨ e.kind = 1
theorem addD_pln {l : List Tn.Ev} (p : List Int) (h : ∀ e ∈ l, Pln e) : ∀ e ∈ Tn.addD l p, Pln e := by
  by_cases hp : p = []
  · subst hp; rw [Tn.addD_nil]; exact h
  rcases Tn.snoc_cases l with rfl | ⟨l', e', rfl⟩
  · rw [Tn.addD_empty hp]
    exact fun e he => by rw [List.mem_singleton.1 he]; exact .inl rfl
  · rw [Tn.addD_snoc _ _ hp]
    split
    · rename_i hz
      intro e he
      rcases List.mem_append.1 he with q | q
      · exact h e (List.mem_append.2 (.inl q))
      · rw [List.mem_singleton.1 q]; exact .inl hz
    · intro e he
      rcases List.mem_append.1 he with q | q
      · exact h e q
      · rw [List.mem_singleton.1 q]; exact .inl rfl
theorem merge_pln : ∀ (n : Nat) (l : List Tn.Ev), l.length = n → (∀ e ∈ l, Pln e) → ∀ e ∈ Tn.mergeL l, Pln e
  | 0, l, hl, _ => by rw [List.length_eq_zero_iff.1 hl]; exact fun e he => by cases he
  | n + 1, l, hl, h => by
    rcases Tn.snoc_cases l with rfl | ⟨l', e', rfl⟩
    · cases hl
    · have h1 := merge_pln n l' (by simpa using hl) (fun e he => h e (List.mem_append.2 (.inl he)))
      rw [Tn.mergeL_snoc]
      unfold Tn.mstep
      split
      · exact addD_pln _ h1
      · intro e he
        rcases List.mem_append.1 he with q | q
        · exact h1 e q
        · exact h e (List.mem_append.2 (.inr q))
theorem grps_pln {st : Tn.St} {ps : List Int} {es : List Tn.Ev} (h : Grps st ps es) : (∀ e ∈ Tn.emit st ps, Pln e) → ∀ e ∈ es, Pln e := by
  induction h with
  | nil st => exact fun _ e he => by cases he
  | @part st ps m es h1 h2 r ih =>
    intro hp e he
    have e1 : Tn.emit st ps = Tn.emit st (ps.take m) ++ Tn.emit (Tn.runS st (ps.take m)) (ps.drop m) := by
      rw [← Tn.emit_append, List.take_append_drop]
    rw [e1] at hp
    rcases List.mem_append.1 he with q | q
    · exact merge_pln _ _ rfl (fun e he => hp e (List.mem_append.2 (.inl he))) e q
    · exact ih (fun e he => hp e (List.mem_append.2 (.inr he))) e q
/-- In a mode with headers, nothing that is told is a text without one. -/
theorem run_notx {c : Cf} : ∀ (es : List Tn.Ev) (n : Nat) (k : Lk), k.mode = 2 → (∀ e ∈ es, Pln e) → ∀ x ∈ (runC c (fun n k _ => (n, k)) n k es).2.2, x.tx = false
  | [], _, _, _, _, x, hx => by cases hx
  | e :: es, n, k, hm, hp, x, hx => by
    have hpe := hp e (by simp)
    have hm1 : (procE c k e).1.mode = 2 := by
      unfold procE
      rcases hpe with h0 | h1
      · rw [if_pos h0]
        split
        · exact hm
        · exact hm
      · rw [if_neg (by omega), if_pos h1]
        split
        · exact hm
        · exact hm
    have h1 : (oneC c (fun n k _ => (n, k)) n k e).2.1 = (procE c k e).1 := by
      unfold oneC
      split <;> rfl
    simp only [runC] at hx
    rcases List.mem_append.1 hx with q | q
    · unfold oneC at q
      split at q
      · cases q
      · rename_i y hy
        rw [List.mem_singleton.1 q]
        rcases told_mode (c := c) (k0 := k) (k := (procE c k e).1) (e := e) (x := y) (Prod.ext rfl hy) with h | h | h
        · rw [hm1] at h; simp at h
        · rw [hm1] at h; simp at h
        · unfold Evt.tx
          rcases h.2 with g | g
          · simp [g]
          · simp [g]
    · exact run_notx es _ _ (by rw [h1]; exact hm1) (fun e he => hp e (List.mem_cons_of_mem _ he)) x q
theorem mrg_id : ∀ (l a : List Evt), (∀ x ∈ l, x.tx = false) → l.foldl mrgS a = a ++ l
  | [], a, _ => by simp
  | x :: l, a, h => by
    rw [List.foldl_cons, mrgS_no a (h x (by simp)), mrg_id l _ (fun y hy => h y (List.mem_cons_of_mem _ hy))]
    simp
/-- The elements of a record's bytes. -/
theorem emit_esc (p : List Int) (r : List Int) : Tn.emit .between (Tn.escI p ++ r) = p.map (fun b => Tn.dat [b]) ++ Tn.emit .between r := by
  induction p with
  | nil => rfl
  | cons b p ih =>
    simp only [Tn.escI]
    by_cases hb : b = 255
    · subst hb
      rw [if_pos rfl]
      simp only [List.cons_append, Tn.emit, Tn.stepS, if_pos, List.nil_append, List.map_cons]
      simp only [Tn.iacS, if_pos, List.cons_append, List.nil_append]
      rw [ih]
    · rw [if_neg hb]
      simp only [List.cons_append, Tn.emit, Tn.stepS, if_neg hb, List.map_cons, List.nil_append]
      rw [ih]
theorem run_data {c : Cf} : ∀ (p : List Int) (k : Lk), k.mode ≠ 0 → k.lg = false → k.rc.length + p.length ≤ 8192 → runC c (fun n k _ => (n, k)) 0 k (p.map fun b => Tn.dat [b]) = (0, { k with rc := k.rc ++ p }, [])
  | [], k, _, _, _ => by simp [runC]
  | b :: p, k, hm, hl, hs => by
    have h0 : procE c k (Tn.dat [b]) = ({ k with rc := k.rc ++ [b] }, none) := by
      unfold procE
      rw [if_pos (show (Tn.dat [b]).kind = 0 from rfl), if_neg hm]
      have : addR k.rc k.lg (Tn.dat [b]).data = (k.rc ++ [b], false) := by
        unfold addR
        rw [hl]
        simp only [Bool.false_eq_true, if_false]
        rw [if_pos (by simp at hs ⊢; simp [Tn.dat]; omega)]
        rfl
      rw [this, ← hl]
    have h1 : oneC c (fun n k _ => (n, k)) 0 k (Tn.dat [b]) = (0, { k with rc := k.rc ++ [b] }, []) := by unfold oneC; rw [h0]
    have := run_data (c := c) p { k with rc := k.rc ++ [b] } hm hl (by simp at hs ⊢; omega)
    simp only [List.map_cons, runC, h1, this, List.append_assoc, List.cons_append, List.nil_append]
/-- A record behind a header. -/
theorem run_rec {c : Cf} {k : Lk} {t r s q : Int} {p : List Int} (hm : k.mode = 2) (hrc : k.rc = []) (hl : k.lg = false) (hp : p.length ≤ 8000) (hk : Hd.okH t s = true) (hq : 0 ≤ q ∧ q < 65536) :
    runC c (fun n k _ => (n, k)) 0 k (Tn.emit .between (Tn.escI (Hd.hdrL t r s q ++ p) ++ [255, 239])) = (0, k, [⟨kindH t, p, ⟨t, r, s, q⟩, true⟩]) := by
  rw [emit_esc, runC_append, run_data _ k (by rw [hm]; decide) hl (by rw [hrc]; simp [Hd.hdrL]; omega)]
  have he : Tn.emit .between [255, 239] = [⟨1, 239, 0, [], false, false⟩] := rfl
  rw [he, hrc]
  have h0 : procE c { k with rc := [] ++ (Hd.hdrL t r s q ++ p) } ⟨1, 239, 0, [], false, false⟩ = (k, some ⟨kindH t, p, ⟨t, r, s, q⟩, true⟩) := by
    unfold procE
    rw [if_neg (by decide), if_pos rfl, if_pos ⟨rfl, by show k.mode ≠ 0; rw [hm]; decide⟩]
    have e1 : ({ k with rc := [] ++ (Hd.hdrL t r s q ++ p) } : Lk).drop = k := by
      unfold Lk.drop
      obtain ⟨st, ms, es, dev, ag, rc, lg, out, sq⟩ := k
      dsimp only at hrc hl ⊢
      rw [hrc, hl]
    have e2 : evtOf ({ k with rc := [] ++ (Hd.hdrL t r s q ++ p) } : Lk).mode ([] ++ (Hd.hdrL t r s q ++ p)) k.lg = ⟨kindH t, p, ⟨t, r, s, q⟩, true⟩ := by
      have hm' : ({ k with rc := [] ++ (Hd.hdrL t r s q ++ p) } : Lk).mode = 2 := hm
      rw [hm', hl]
      unfold evtOf
      rw [if_neg (by decide)]
      have hpl : parseL ([] ++ (Hd.hdrL t r s q ++ p)) = some (⟨t, r, s, q⟩, p) := by
        show parseL (t :: r :: s :: (q / 256) :: (q % 256) :: p) = _
        unfold parseL
        simp only [hk, if_true]
        rw [show 256 * (q / 256) + q % 256 = q by omega]
      rw [hpl]
      simp
    rw [e1, e2]
  have h1 : oneC c (fun n k _ => (n, k)) 0 { k with rc := [] ++ (Hd.hdrL t r s q ++ p) } ⟨1, 239, 0, [], false, false⟩ = (0, k, [⟨kindH t, p, ⟨t, r, s, q⟩, true⟩]) := by unfold oneC; rw [h0]
  simp only [List.nil_append] at h1
  simp only [runC, List.nil_append, List.append_nil, h1]
theorem emit_pln (p : List Int) : ∀ e ∈ Tn.emit .between (Tn.escI p ++ [255, 239]), Pln e := by
  rw [emit_esc]
  intro e he
  rcases List.mem_append.1 he with q | q
  · obtain ⟨b, _, rfl⟩ := List.mem_map.1 q
    exact .inl rfl
  · have h0 : Tn.emit .between [255, 239] = [⟨1, 239, 0, [], false, false⟩] := rfl
    rw [h0] at q
    rw [List.mem_singleton.1 q]
    exact .inr rfl
/-- However the record's bytes are read, it is told, and nothing else. -/
theorem rec_told {c : Cf} {k k' : Lk} {t r s q : Int} {p : List Int} {es : List Tn.Ev} {l : List Evt} (hst : k.st = .between) (hm : k.mode = 2) (hrc : k.rc = []) (hl : k.lg = false) (hp : p.length ≤ 8000) (hk : Hd.okH t s = true) (hq : 0 ≤ q ∧ q < 65536)
    (hg : Grps k.st (Tn.escI (Hd.hdrL t r s q ++ p) ++ [255, 239]) es) (hr : runC c (fun n k _ => (n, k)) 0 k.z es = (0, k'.z, l)) (hs' : k'.st = .between) : k' = k ∧ l = [⟨kindH t, p, ⟨t, r, s, q⟩, true⟩] := by
  have hz : k.z = k := by
    obtain ⟨st, ms, es, dev, ag, rc, lg, out, sq⟩ := k
    dsimp only at hst
    subst hst
    rfl
  obtain ⟨h1, h2⟩ := taken_is hg hr
  rw [hst, hz] at h1 h2
  rw [run_rec hm hrc hl hp hk hq] at h1 h2
  refine ⟨lk_z h1.symm hs', ?_⟩
  have hn := run_notx (c := c) es 0 k.z hm (grps_pln hg (by rw [hst]; exact emit_pln _))
  rw [hr] at hn
  have e1 : mrgE l = l := by unfold mrgE; rw [mrg_id l [] hn]; rfl
  rw [e1] at h2
  rw [h2]
  show mrgS [] _ = _
  rw [mrgS_no _ (by simp [Evt.tx])]
  rfl
def helloR : List Int := [255, 253, 40, 255, 250, 40, 8, 2, 255, 240, 255, 250, 40, 2, 4, 84, 1, 76, 255, 240, 255, 250, 40, 3, 4, 2, 255, 240]
def exR : Cf := cfOf ⟨#[84]⟩ ⟨#[]⟩ [2] true
def exRK : Lk := (runC exR (fun n k _ => (n, k)) 0 Lk.new.z (Tn.emit .between helloR)).2.1
theorem exRK_mode : exRK.mode = 2 := by kernel_rfl
theorem exRK_has : exRK.has = true := by kernel_rfl
theorem exRK_st : exRK.st = .between := by kernel_rfl
theorem exRK_rc : exRK.rc = [] := by kernel_rfl
theorem exRK_lg : exRK.lg = false := by kernel_rfl
theorem exRS : Tn.runS .between helloR = .between := by kernel_rfl
theorem exR_err : cfErr ⟨#[84]⟩ ⟨#[]⟩ [2] = 0 := by kernel_rfl
def exRL : Lk := { exRK with out := [] }
theorem ans_no {t s q x : Int} (h : Hd.ansB t s x = false) : Hd.ansL t s q x = [] := by
  by_cases h0 : t = 2 ∨ t = 6
  · exact (Hd.ans_type h0).1
  · by_cases h1 : s = 2 ∧ x = 0
    · rw [(Hd.ans_pos (q := q) h0 h1.1 h1.2).2] at h
      cases h
    · by_cases h2 : (s = 1 ∨ s = 2) ∧ x ≠ 0
      · rw [(Hd.ans_neg (q := q) h0 h2.1 h2.2).2] at h
        cases h
      · exact (Hd.ans_none h0 h1 h2).1
end Go.Proofs.YtaanpnmgibcemaaGreatDoor
