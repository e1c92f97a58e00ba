/-
  The reference's Same, of orders that are alike.
-/
import Derived.Test.YtjhmjjlmdmmilaaIj
namespace Go.Proofs.Ytjhmjjlmdmmilaa
open Go.RowKit Go.Lib

/-- Cells of two rows of pairs, beside the boxes that hold the rows. -/
def SixC (w0 V : World) (p p' q q' a b : Addr) (x y : Nat) (u v : Value) : Prop := V.cell? p = some (.int .u8 x) ∧ V.cell? p' = some (.int .u8 y) ∧ V.cell? q = some (.int .u8 x) ∧ V.cell? q' = some (.int .u8 y) ∧ V.cell? a = some u ∧ V.cell? b = some v ∧ Below w0.heap.size w0 V
theorem six_step {w0 V V' : World} {p p' q q' a b : Addr} {x y : Nat} {u v : Value} (h : V.cell? p = some (.int .u8 x) ∧ V.cell? p' = some (.int .u8 y) ∧ V.cell? q = some (.int .u8 x) ∧ V.cell? q' = some (.int .u8 y) ∧ V.cell? a = some u ∧ V.cell? b = some v ∧ Below w0.heap.size w0 V) (hb : Below V.heap.size V V') : V'.cell? p = some (.int .u8 x) ∧ V'.cell? p' = some (.int .u8 y) ∧ V'.cell? q = some (.int .u8 x) ∧ V'.cell? q' = some (.int .u8 y) ∧ V'.cell? a = some u ∧ V'.cell? b = some v ∧ Below w0.heap.size w0 V' :=
  ⟨keepc hb h.1, keepc hb h.2.1, keepc hb h.2.2.1, keepc hb h.2.2.2.1, keepc hb h.2.2.2.2.1, keepc hb h.2.2.2.2.2.1, below_t h.2.2.2.2.2.2 hb⟩
set_option maxRecDepth 100000 in
set_option maxHeartbeats 4000000 in
theorem sameO_true (kd ad cd : Int) (gr : Bool) (fa : Int) (ps : List (Nat × Nat)) (tx : List Int) (xp : Option Addr) (np cp : Nat) (xt : Option Addr) (nt ct : Nat) (xq : Option Addr) (nq cq : Nat) (xs : Option Addr) (ns cs : Nat) (w : World) (hps : ps.length ≤ 100000) (h : PairsIn w (.slice xp np cp) ps) (h' : PairsIn w (.slice xq nq cq) ps) (ht : Reads w (.slice xt nt ct) tx) (ht' : Reads w (.slice xs ns cs) tx) :
    Calls Try.prog 13 #[.agg #[.int .i64 kd, .int .i64 ad, .int .u8 cd, .bool gr, .int .u8 fa, .slice xp np cp, .slice xt nt ct], .agg #[.int .i64 kd, .int .i64 ad, .int .u8 cd, .bool gr, .int .u8 fa, .slice xq nq cq, .slice xs ns cs]] w fun e w' => e = .returned (.bool true) ∧ Below w.heap.size w w' := by
  have hnp : np = ps.length := by
    rcases h with ⟨e, rfl⟩ | ⟨g, off, cap, e, _⟩
    · injection e
    · injection e
  have hnq : nq = ps.length := by
    rcases h' with ⟨e, rfl⟩ | ⟨g, off, cap, e, _⟩
    · injection e
    · injection e
  subst hnp hnq
  have HPI := hid h
  have HQI := hid h'
  obtain ⟨n, hn⟩ : ∃ n, ps.length = n := ⟨_, rfl⟩
  have HT := hid (fun W (hb : Below w.heap.size w W) => same_true _ _ tx W (reads_below ht hb) (reads_below ht' hb))
  rw [hn] at HPI HQI hps ⊢
  have HLN := hid hn
  clear hn h h' ht ht'
  have HB2 := hid (bal (bal (Below.refl w.heap.size w) (.cells #[.int .i64 kd, .int .i64 ad, .int .u8 cd, .bool gr, .int .u8 fa, .slice xp n cp, .slice xt nt ct] 38)) (.cells #[.int .i64 kd, .int .i64 ad, .int .u8 cd, .bool gr, .int .u8 fa, .slice xq n cq, .slice xs ns cs] 38))
  go_enter Try.func13, Try.ntmps13
  go_wp2_with fail
  with_reducible refine (HT.out _ HB2.out).mono ?_
  rintro e w1 ⟨rfl, rfl⟩
  have k5 : ((w.alloc (.cells #[.int .i64 kd, .int .i64 ad, .int .u8 cd, .bool gr, .int .u8 fa, .slice xp n cp, .slice xt nt ct] 38)).alloc (.cells #[.int .i64 kd, .int .i64 ad, .int .u8 cd, .bool gr, .int .u8 fa, .slice xq n cq, .slice xs ns cs] 38)).cell? ⟨w.heap.size, 5, none⟩ = some (.slice xp n cp) := by simp [go_sem]
  have k5' : ((w.alloc (.cells #[.int .i64 kd, .int .i64 ad, .int .u8 cd, .bool gr, .int .u8 fa, .slice xp n cp, .slice xt nt ct] 38)).alloc (.cells #[.int .i64 kd, .int .i64 ad, .int .u8 cd, .bool gr, .int .u8 fa, .slice xq n cq, .slice xs ns cs] 38)).cell? ⟨w.heap.size + 1, 5, none⟩ = some (.slice xq n cq) := by simp [go_sem]
  go_wp2
  generalize (w.alloc (.cells #[.int .i64 kd, .int .i64 ad, .int .u8 cd, .bool gr, .int .u8 fa, .slice xp n cp, .slice xt nt ct] 38)).alloc (.cells #[.int .i64 kd, .int .i64 ad, .int .u8 cd, .bool gr, .int .u8 fa, .slice xq n cq, .slice xs ns cs] 38) = W0 at HB2 k5 k5' ⊢
  have HK5 := hid k5
  have HK5' := hid k5'
  clear k5 k5'
  go_loopw [59] (fun i W => ∃ k : Nat, k ≤ n ∧ i = .int .i64 k ∧ Hid (Below W0.heap.size W0 W)) (fun i _ => n - (intOf i).toNat)
  case atStart => exact ⟨0, Nat.zero_le _, rfl, Below.refl _ _⟩
  case round =>
    obtain ⟨k, hk, rfl, HB⟩ := hrel
    by_cases hlt : k < n
    · obtain ⟨g, off, cap, hxe, hcell⟩ : ∃ g off cap, Value.slice xp n cp = .slice (some ⟨g, off, none⟩) n cap ∧ ∀ i, i < n → w.cell? ⟨g, off + i * 2, none⟩ = some (.int .u8 (ps.getD i (0, 0)).1) ∧ w.cell? ⟨g, off + i * 2 + 1, none⟩ = some (.int .u8 (ps.getD i (0, 0)).2) := by
        rcases HPI.out with ⟨e, _⟩ | ⟨g, off, cap, e, hc⟩
        · injection e with _ e2 _; omega
        · rw [HLN.out] at e hc; exact ⟨g, off, cap, e, hc⟩
      obtain ⟨g', off', cap', hxe', hcell'⟩ : ∃ g off cap, Value.slice xq n cq = .slice (some ⟨g, off, none⟩) n cap ∧ ∀ i, i < n → w.cell? ⟨g, off + i * 2, none⟩ = some (.int .u8 (ps.getD i (0, 0)).1) ∧ w.cell? ⟨g, off + i * 2 + 1, none⟩ = some (.int .u8 (ps.getD i (0, 0)).2) := by
        rcases HQI.out with ⟨e, _⟩ | ⟨g, off, cap, e, hc⟩
        · injection e with _ e2 _; omega
        · rw [HLN.out] at e hc; exact ⟨g, off, cap, e, hc⟩
      injection hxe with hx1 _ hx3
      injection hxe' with hx1' _ hx3'
      subst hx1 hx3 hx1' hx3'
      have hbw := below_t HB2.out HB.out
      have hki : (k : Int) < n := by omega
      have hk0 : (0 : Int) ≤ k := by omega
      have HX := hid (And.intro (keepc hbw (hcell k hlt).1) (And.intro (keepc hbw (hcell k hlt).2) (And.intro (keepc hbw (hcell' k hlt).1) (And.intro (keepc hbw (hcell' k hlt).2) (And.intro (keepc HB.out HK5.out) (And.intro (keepc HB.out HK5'.out) HB.out))))))
      generalize (ps.getD k (0, 0)).1 = x at HX
      generalize (ps.getD k (0, 0)).2 = y at HX
      clear hcell hcell' hbw
      go_wp2
      go_region_held3 (fun V => V.cell? ⟨g, off + k * 2, none⟩ = some (.int .u8 x) ∧ V.cell? ⟨g, off + k * 2 + 1, none⟩ = some (.int .u8 y) ∧ V.cell? ⟨g', off' + k * 2, none⟩ = some (.int .u8 x) ∧ V.cell? ⟨g', off' + k * 2 + 1, none⟩ = some (.int .u8 y) ∧ V.cell? ⟨w.heap.size, 5, none⟩ = some (.slice (some ⟨g, off, none⟩) n cp) ∧ V.cell? ⟨w.heap.size + 1, 5, none⟩ = some (.slice (some ⟨g', off', none⟩) n cq) ∧ Below W0.heap.size W0 V) (first | exact six_step HX.out (Below.refl _ _).drew | assumption | fail) (first | fail)
      rename_i hH
      have HB' := hid hH.2.2.2.2.2.2
      clear hH
      go_wp2
      go_roundw
      case rel => exact ⟨k + 1, by omega, by go_num, HB'.out⟩
      case measure => simp [intOf]; omega
    · go_wp2
      go_ret
      exact ⟨rfl, below_t HB2.out HB.out⟩
end Go.Proofs.Ytjhmjjlmdmmilaa
