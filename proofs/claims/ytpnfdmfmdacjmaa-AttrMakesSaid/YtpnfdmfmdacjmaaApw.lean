/-
  AttrApplies' walk.
-/
import Derived.Test.YtpnfdmfmdacjmaaApc
import Derived.Deep.DeepCutAuto
namespace Go.Proofs.Ytpnfdmfmdacjmaa
open Go.RowKit Go.Lib

section
variable {P : Program} {ops : Array Oper} {Q : Exit → Act → World → Prop} {md : Region.Mode} {S : World → Prop}
/-- An operation is taken first: its slot is written. -/
theorem takeD {i : Nat} {oi : Oper} {v : Value} (d : Tmp) {fuel : Nat} {listed : Array Bool} {ts : Array Value} {ds : List Deferred} {w : World} (hi : ops[i]? = some oi) (hd : oi.dst = some d)
    (hs : Region.noSelect ops = true) (hf : Region.free md ops listed i = true) (hr : (Region.ready md ops listed).contains i = true)
    (hQ : ∀ c a w, Q (.panic c) (a.put oi.dst v) w → Q (.panic c) a w) (hS : S w) (hy : YieldsIf P ops S oi v ⟨ts, ds⟩)
    (h : wpAnyH P md ops Q S fuel (listed.setIfInBounds i true) ⟨ts.setIfInBounds d v, ds⟩ w) : wpAnyH P md ops Q S (fuel + 1) listed ⟨ts, ds⟩ w :=
  wpAnyH_take hi hs hf hr hQ hy hS (by rw [hd]; exact h)
end

/-- Both answers are one. -/
theorem apply_both (t v : Nat) (hv : v < 256) (ch fa hi co se : Int) (a : Bool) : ∃ (ch' fa' hi' co' se' : Int) (a' : Bool), (∀ w, Calls Try.prog 55 #[pairV t v, cellV ch a fa hi co se] w fun e w' => e = .returned (.tuple #[cellV ch' a' fa' hi' co' se', .int .i64 (if knownB t v then 0 else 10)]) ∧ Below w.heap.size w w') ∧
    (∀ w, Calls Try.prog 56 #[pairV t v, cellV ch a fa hi co se] w fun e w' => e = .returned (.tuple #[cellV ch' a' fa' hi' co' se', .int .i64 (if knownB t v then 0 else 10)]) ∧ Below w.heap.size w w') := by
  cases hk : knownB t v
  · exact ⟨0, 0, 0, 0, 0, false, fun w => apply_no t v hv hk ch fa hi co se a w, fun w => rapply_no t v hv hk ch fa hi co se a w⟩
  · rcases known_type hk with h | h | h | h | h
    · exact ⟨ch, fa, 0, 0, 0, a, fun w => apply_0 t v h hv hk ch fa hi co se a w, fun w => rapply_0 t v h hv hk ch fa hi co se a w⟩
    · exact ⟨ch, fa, v, co, se, a, fun w => apply_65 t v h hv hk ch fa hi co se a w, fun w => rapply_65 t v h hv hk ch fa hi co se a w⟩
    · exact ⟨ch, fa, hi, v, se, a, fun w => apply_66 t v h hv hk ch fa hi co se a w, fun w => rapply_66 t v h hv hk ch fa hi co se a w⟩
    · exact ⟨ch, fa, hi, co, v, a, fun w => apply_67 t v h hv hk ch fa hi co se a w, fun w => rapply_67 t v h hv hk ch fa hi co se a w⟩
    · cases a
      · exact ⟨ch, fa, hi, co, se, false, fun w => apply_192f t v h hv hk ch fa hi co se w, fun w => rapply_192f t v h hv hk ch fa hi co se w⟩
      · exact ⟨ch, six6 v, hi, co, se, true, fun w => apply_192t t v h hv hk ch fa hi co se _ (and61 v hv) w, fun w => rapply_192t t v h hv hk ch fa hi co se _ rfl w⟩
set_option maxRecDepth 100000 in
set_option maxHeartbeats 4000000 in
theorem attrApplies_true (t v : Nat) (hv : v < 256) (ch fa hi co se : Int) (a : Bool) (w : World) : Calls Try.prog 10 #[pairV t v, cellV ch a fa hi co se] w fun e w' => e = .returned (.bool true) ∧ Below w.heap.size w w' := by
  obtain ⟨ch', fa', hi', co', se', a', hA, hR⟩ := apply_both t v hv ch fa hi co se a
  have HA := hid hA
  have HR := hid hR
  have HCK := hid (check_any t v hv)
  have HRT := hid (right_any t v hv)
  clear hA hR
  cases hk : knownB t v
  · rw [hk] at HA HR HCK HRT
    simp only [Bool.false_eq_true, if_false] at HA HR HCK
    clear hk
    go_enter Try.func10, Try.ntmps10
    go_wp2_with fail
    with_reducible refine (awake5_true _).mono ?_
    rintro e w1 ⟨rfl, hb1⟩
    have K1 := hid (show w1.cell? ⟨w.heap.size, 0, none⟩ = some (.int .u8 t) ∧ w1.cell? ⟨w.heap.size, 1, none⟩ = some (.int .u8 v) ∧ w1.cell? ⟨w.heap.size + 1, 0, none⟩ = some (.int .u8 ch) ∧ w1.cell? ⟨w.heap.size + 1, 1, none⟩ = some (.bool a) ∧ w1.cell? ⟨w.heap.size + 1, 2, none⟩ = some (.int .u8 fa) ∧ w1.cell? ⟨w.heap.size + 1, 3, none⟩ = some (.int .u8 hi) ∧ w1.cell? ⟨w.heap.size + 1, 4, none⟩ = some (.int .u8 co) ∧ w1.cell? ⟨w.heap.size + 1, 5, none⟩ = some (.int .u8 se) ∧ Below w.heap.size w w1 from ⟨keepc hb1 (by simp [go_sem]), keepc hb1 (by simp [go_sem]), keepc hb1 (by simp [go_sem]), keepc hb1 (by simp [go_sem]), keepc hb1 (by simp [go_sem]), keepc hb1 (by simp [go_sem]), keepc hb1 (by simp [go_sem]), keepc hb1 (by simp [go_sem]), (((Below.refl _ _).alloc (Nat.le_refl _) _).alloc (by simp) _).trans (hb1.mono (by simp; omega))⟩)
    clear hb1
    obtain ⟨c0, c1, c2, c3, c4, c5, c6, c7, hbb⟩ := K1.out
    clear hbb
    go_wp2_with fail
    with_reducible refine (HA.out _).mono ?_
    rintro e w2 ⟨rfl, hb⟩
    have K2 := hid (show w2.cell? ⟨w.heap.size, 0, none⟩ = some (.int .u8 t) ∧ w2.cell? ⟨w.heap.size, 1, none⟩ = some (.int .u8 v) ∧ w2.cell? ⟨w.heap.size + 1, 0, none⟩ = some (.int .u8 ch) ∧ w2.cell? ⟨w.heap.size + 1, 1, none⟩ = some (.bool a) ∧ w2.cell? ⟨w.heap.size + 1, 2, none⟩ = some (.int .u8 fa) ∧ w2.cell? ⟨w.heap.size + 1, 3, none⟩ = some (.int .u8 hi) ∧ w2.cell? ⟨w.heap.size + 1, 4, none⟩ = some (.int .u8 co) ∧ w2.cell? ⟨w.heap.size + 1, 5, none⟩ = some (.int .u8 se) ∧ Below w.heap.size w w2 from ⟨keepc hb K1.out.1, keepc hb K1.out.2.1, keepc hb K1.out.2.2.1, keepc hb K1.out.2.2.2.1, keepc hb K1.out.2.2.2.2.1, keepc hb K1.out.2.2.2.2.2.1, keepc hb K1.out.2.2.2.2.2.2.1, keepc hb K1.out.2.2.2.2.2.2.2.1, below_t K1.out.2.2.2.2.2.2.2.2 hb⟩)
    clear hb c0 c1 c2 c3 c4 c5 c6 c7 K1
    go_upto_region 4 with fail
    have KB : Below w2.heap.size w2 (w2.alloc (.cells #[Value.int .u8 ch', Value.bool a', Value.int .u8 fa', Value.int .u8 hi', Value.int .u8 co', Value.int .u8 se'] 80)) := (Below.refl _ _).alloc (Nat.le_refl _) _
    have K3 := hid (show (w2.alloc (.cells #[Value.int .u8 ch', Value.bool a', Value.int .u8 fa', Value.int .u8 hi', Value.int .u8 co', Value.int .u8 se'] 80)).cell? ⟨w.heap.size, 0, none⟩ = some (.int .u8 t) ∧ (w2.alloc (.cells #[Value.int .u8 ch', Value.bool a', Value.int .u8 fa', Value.int .u8 hi', Value.int .u8 co', Value.int .u8 se'] 80)).cell? ⟨w.heap.size, 1, none⟩ = some (.int .u8 v) ∧ (w2.alloc (.cells #[Value.int .u8 ch', Value.bool a', Value.int .u8 fa', Value.int .u8 hi', Value.int .u8 co', Value.int .u8 se'] 80)).cell? ⟨w.heap.size + 1, 0, none⟩ = some (.int .u8 ch) ∧ (w2.alloc (.cells #[Value.int .u8 ch', Value.bool a', Value.int .u8 fa', Value.int .u8 hi', Value.int .u8 co', Value.int .u8 se'] 80)).cell? ⟨w.heap.size + 1, 1, none⟩ = some (.bool a) ∧ (w2.alloc (.cells #[Value.int .u8 ch', Value.bool a', Value.int .u8 fa', Value.int .u8 hi', Value.int .u8 co', Value.int .u8 se'] 80)).cell? ⟨w.heap.size + 1, 2, none⟩ = some (.int .u8 fa) ∧ (w2.alloc (.cells #[Value.int .u8 ch', Value.bool a', Value.int .u8 fa', Value.int .u8 hi', Value.int .u8 co', Value.int .u8 se'] 80)).cell? ⟨w.heap.size + 1, 3, none⟩ = some (.int .u8 hi) ∧ (w2.alloc (.cells #[Value.int .u8 ch', Value.bool a', Value.int .u8 fa', Value.int .u8 hi', Value.int .u8 co', Value.int .u8 se'] 80)).cell? ⟨w.heap.size + 1, 4, none⟩ = some (.int .u8 co) ∧ (w2.alloc (.cells #[Value.int .u8 ch', Value.bool a', Value.int .u8 fa', Value.int .u8 hi', Value.int .u8 co', Value.int .u8 se'] 80)).cell? ⟨w.heap.size + 1, 5, none⟩ = some (.int .u8 se) ∧ (w2.alloc (.cells #[Value.int .u8 ch', Value.bool a', Value.int .u8 fa', Value.int .u8 hi', Value.int .u8 co', Value.int .u8 se'] 80)).cell? ⟨w2.heap.size, 0, none⟩ = some (Value.int .u8 ch') ∧ (w2.alloc (.cells #[Value.int .u8 ch', Value.bool a', Value.int .u8 fa', Value.int .u8 hi', Value.int .u8 co', Value.int .u8 se'] 80)).cell? ⟨w2.heap.size, 1, none⟩ = some (Value.bool a') ∧ (w2.alloc (.cells #[Value.int .u8 ch', Value.bool a', Value.int .u8 fa', Value.int .u8 hi', Value.int .u8 co', Value.int .u8 se'] 80)).cell? ⟨w2.heap.size, 2, none⟩ = some (Value.int .u8 fa') ∧ (w2.alloc (.cells #[Value.int .u8 ch', Value.bool a', Value.int .u8 fa', Value.int .u8 hi', Value.int .u8 co', Value.int .u8 se'] 80)).cell? ⟨w2.heap.size, 3, none⟩ = some (Value.int .u8 hi') ∧ (w2.alloc (.cells #[Value.int .u8 ch', Value.bool a', Value.int .u8 fa', Value.int .u8 hi', Value.int .u8 co', Value.int .u8 se'] 80)).cell? ⟨w2.heap.size, 4, none⟩ = some (Value.int .u8 co') ∧ (w2.alloc (.cells #[Value.int .u8 ch', Value.bool a', Value.int .u8 fa', Value.int .u8 hi', Value.int .u8 co', Value.int .u8 se'] 80)).cell? ⟨w2.heap.size, 5, none⟩ = some (Value.int .u8 se') ∧ Below w.heap.size w (w2.alloc (.cells #[Value.int .u8 ch', Value.bool a', Value.int .u8 fa', Value.int .u8 hi', Value.int .u8 co', Value.int .u8 se'] 80)) from ⟨keepc KB K2.out.1, keepc KB K2.out.2.1, keepc KB K2.out.2.2.1, keepc KB K2.out.2.2.2.1, keepc KB K2.out.2.2.2.2.1, keepc KB K2.out.2.2.2.2.2.1, keepc KB K2.out.2.2.2.2.2.2.1, keepc KB K2.out.2.2.2.2.2.2.2.1, by simp [go_sem], by simp [go_sem], by simp [go_sem], by simp [go_sem], by simp [go_sem], by simp [go_sem], below_t K2.out.2.2.2.2.2.2.2.2 KB⟩)
    clear KB K2
    generalize (w2.alloc (.cells #[Value.int .u8 ch', Value.bool a', Value.int .u8 fa', Value.int .u8 hi', Value.int .u8 co', Value.int .u8 se'] 80)) = wa at K3 ⊢
    obtain ⟨bx, hbx⟩ : ∃ bx, bx = w2.heap.size := ⟨_, rfl⟩
    rw [← hbx] at K3 ⊢
    clear hbx
    obtain ⟨c0, c1, c2, c3, c4, c5, c6, c7, c8, c9, c10, c11, c12, c13, hbb⟩ := K3.out
    clear hbb
    go_wp2_with fail
    with_reducible refine (HR.out _).mono ?_
    rintro e w3 ⟨rfl, hb⟩
    have K4 := hid (show w3.cell? ⟨w.heap.size, 0, none⟩ = some (.int .u8 t) ∧ w3.cell? ⟨w.heap.size, 1, none⟩ = some (.int .u8 v) ∧ w3.cell? ⟨w.heap.size + 1, 0, none⟩ = some (.int .u8 ch) ∧ w3.cell? ⟨w.heap.size + 1, 1, none⟩ = some (.bool a) ∧ w3.cell? ⟨w.heap.size + 1, 2, none⟩ = some (.int .u8 fa) ∧ w3.cell? ⟨w.heap.size + 1, 3, none⟩ = some (.int .u8 hi) ∧ w3.cell? ⟨w.heap.size + 1, 4, none⟩ = some (.int .u8 co) ∧ w3.cell? ⟨w.heap.size + 1, 5, none⟩ = some (.int .u8 se) ∧ w3.cell? ⟨bx, 0, none⟩ = some (Value.int .u8 ch') ∧ w3.cell? ⟨bx, 1, none⟩ = some (Value.bool a') ∧ w3.cell? ⟨bx, 2, none⟩ = some (Value.int .u8 fa') ∧ w3.cell? ⟨bx, 3, none⟩ = some (Value.int .u8 hi') ∧ w3.cell? ⟨bx, 4, none⟩ = some (Value.int .u8 co') ∧ w3.cell? ⟨bx, 5, none⟩ = some (Value.int .u8 se') ∧ Below w.heap.size w w3 from ⟨keepc hb K3.out.1, keepc hb K3.out.2.1, keepc hb K3.out.2.2.1, keepc hb K3.out.2.2.2.1, keepc hb K3.out.2.2.2.2.1, keepc hb K3.out.2.2.2.2.2.1, keepc hb K3.out.2.2.2.2.2.2.1, keepc hb K3.out.2.2.2.2.2.2.2.1, keepc hb K3.out.2.2.2.2.2.2.2.2.1, keepc hb K3.out.2.2.2.2.2.2.2.2.2.1, keepc hb K3.out.2.2.2.2.2.2.2.2.2.2.1, keepc hb K3.out.2.2.2.2.2.2.2.2.2.2.2.1, keepc hb K3.out.2.2.2.2.2.2.2.2.2.2.2.2.1, keepc hb K3.out.2.2.2.2.2.2.2.2.2.2.2.2.2.1, below_t K3.out.2.2.2.2.2.2.2.2.2.2.2.2.2.2 hb⟩)
    clear hb c0 c1 c2 c3 c4 c5 c6 c7 c8 c9 c10 c11 c12 c13 K3
    go_upto_region 5 with fail
    have KB : Below w3.heap.size w3 (w3.alloc (.cells #[Value.int .u8 ch', Value.bool a', Value.int .u8 fa', Value.int .u8 hi', Value.int .u8 co', Value.int .u8 se'] 80)) := (Below.refl _ _).alloc (Nat.le_refl _) _
    have HX := hid (show (w3.alloc (.cells #[Value.int .u8 ch', Value.bool a', Value.int .u8 fa', Value.int .u8 hi', Value.int .u8 co', Value.int .u8 se'] 80)).cell? ⟨w.heap.size, 0, none⟩ = some (.int .u8 t) ∧ (w3.alloc (.cells #[Value.int .u8 ch', Value.bool a', Value.int .u8 fa', Value.int .u8 hi', Value.int .u8 co', Value.int .u8 se'] 80)).cell? ⟨w.heap.size, 1, none⟩ = some (.int .u8 v) ∧ (w3.alloc (.cells #[Value.int .u8 ch', Value.bool a', Value.int .u8 fa', Value.int .u8 hi', Value.int .u8 co', Value.int .u8 se'] 80)).cell? ⟨bx, 0, none⟩ = some (Value.int .u8 ch') ∧ (w3.alloc (.cells #[Value.int .u8 ch', Value.bool a', Value.int .u8 fa', Value.int .u8 hi', Value.int .u8 co', Value.int .u8 se'] 80)).cell? ⟨bx, 1, none⟩ = some (Value.bool a') ∧ (w3.alloc (.cells #[Value.int .u8 ch', Value.bool a', Value.int .u8 fa', Value.int .u8 hi', Value.int .u8 co', Value.int .u8 se'] 80)).cell? ⟨bx, 2, none⟩ = some (Value.int .u8 fa') ∧ (w3.alloc (.cells #[Value.int .u8 ch', Value.bool a', Value.int .u8 fa', Value.int .u8 hi', Value.int .u8 co', Value.int .u8 se'] 80)).cell? ⟨bx, 3, none⟩ = some (Value.int .u8 hi') ∧ (w3.alloc (.cells #[Value.int .u8 ch', Value.bool a', Value.int .u8 fa', Value.int .u8 hi', Value.int .u8 co', Value.int .u8 se'] 80)).cell? ⟨bx, 4, none⟩ = some (Value.int .u8 co') ∧ (w3.alloc (.cells #[Value.int .u8 ch', Value.bool a', Value.int .u8 fa', Value.int .u8 hi', Value.int .u8 co', Value.int .u8 se'] 80)).cell? ⟨bx, 5, none⟩ = some (Value.int .u8 se') ∧ (w3.alloc (.cells #[Value.int .u8 ch', Value.bool a', Value.int .u8 fa', Value.int .u8 hi', Value.int .u8 co', Value.int .u8 se'] 80)).cell? ⟨w3.heap.size, 0, none⟩ = some (Value.int .u8 ch') ∧ (w3.alloc (.cells #[Value.int .u8 ch', Value.bool a', Value.int .u8 fa', Value.int .u8 hi', Value.int .u8 co', Value.int .u8 se'] 80)).cell? ⟨w3.heap.size, 1, none⟩ = some (Value.bool a') ∧ (w3.alloc (.cells #[Value.int .u8 ch', Value.bool a', Value.int .u8 fa', Value.int .u8 hi', Value.int .u8 co', Value.int .u8 se'] 80)).cell? ⟨w3.heap.size, 2, none⟩ = some (Value.int .u8 fa') ∧ (w3.alloc (.cells #[Value.int .u8 ch', Value.bool a', Value.int .u8 fa', Value.int .u8 hi', Value.int .u8 co', Value.int .u8 se'] 80)).cell? ⟨w3.heap.size, 3, none⟩ = some (Value.int .u8 hi') ∧ (w3.alloc (.cells #[Value.int .u8 ch', Value.bool a', Value.int .u8 fa', Value.int .u8 hi', Value.int .u8 co', Value.int .u8 se'] 80)).cell? ⟨w3.heap.size, 4, none⟩ = some (Value.int .u8 co') ∧ (w3.alloc (.cells #[Value.int .u8 ch', Value.bool a', Value.int .u8 fa', Value.int .u8 hi', Value.int .u8 co', Value.int .u8 se'] 80)).cell? ⟨w3.heap.size, 5, none⟩ = some (Value.int .u8 se') ∧ Below w.heap.size w (w3.alloc (.cells #[Value.int .u8 ch', Value.bool a', Value.int .u8 fa', Value.int .u8 hi', Value.int .u8 co', Value.int .u8 se'] 80)) from ⟨keepc KB K4.out.1, keepc KB K4.out.2.1, keepc KB K4.out.2.2.2.2.2.2.2.2.1, keepc KB K4.out.2.2.2.2.2.2.2.2.2.1, keepc KB K4.out.2.2.2.2.2.2.2.2.2.2.1, keepc KB K4.out.2.2.2.2.2.2.2.2.2.2.2.1, keepc KB K4.out.2.2.2.2.2.2.2.2.2.2.2.2.1, keepc KB K4.out.2.2.2.2.2.2.2.2.2.2.2.2.2.1, by simp [go_sem], by simp [go_sem], by simp [go_sem], by simp [go_sem], by simp [go_sem], by simp [go_sem], below_t K4.out.2.2.2.2.2.2.2.2.2.2.2.2.2.2 KB⟩)
    clear KB K4
    generalize (w3.alloc (.cells #[Value.int .u8 ch', Value.bool a', Value.int .u8 fa', Value.int .u8 hi', Value.int .u8 co', Value.int .u8 se'] 80)) = wb at HX ⊢
    obtain ⟨by', hby⟩ : ∃ by', by' = w3.heap.size := ⟨_, rfl⟩
    rw [← hby] at HX ⊢
    clear hby
    refine wp_region_held_drew (S := (fun w' => w'.cell? ⟨w.heap.size, 0, none⟩ = some (.int .u8 t) ∧ w'.cell? ⟨w.heap.size, 1, none⟩ = some (.int .u8 v) ∧ w'.cell? ⟨bx, 0, none⟩ = some (Value.int .u8 ch') ∧ w'.cell? ⟨bx, 1, none⟩ = some (Value.bool a') ∧ w'.cell? ⟨bx, 2, none⟩ = some (Value.int .u8 fa') ∧ w'.cell? ⟨bx, 3, none⟩ = some (Value.int .u8 hi') ∧ w'.cell? ⟨bx, 4, none⟩ = some (Value.int .u8 co') ∧ w'.cell? ⟨bx, 5, none⟩ = some (Value.int .u8 se') ∧ w'.cell? ⟨by', 0, none⟩ = some (Value.int .u8 ch') ∧ w'.cell? ⟨by', 1, none⟩ = some (Value.bool a') ∧ w'.cell? ⟨by', 2, none⟩ = some (Value.int .u8 fa') ∧ w'.cell? ⟨by', 3, none⟩ = some (Value.int .u8 hi') ∧ w'.cell? ⟨by', 4, none⟩ = some (Value.int .u8 co') ∧ w'.cell? ⟨by', 5, none⟩ = some (Value.int .u8 se') ∧ Below w.heap.size w w')) (by kernel_rfl) ?_ (fun hHeld => ?_)
    · exact ⟨HX.out.1, HX.out.2.1, HX.out.2.2.1, HX.out.2.2.2.1, HX.out.2.2.2.2.1, HX.out.2.2.2.2.2.1, HX.out.2.2.2.2.2.2.1, HX.out.2.2.2.2.2.2.2.1, HX.out.2.2.2.2.2.2.2.2.1, HX.out.2.2.2.2.2.2.2.2.2.1, HX.out.2.2.2.2.2.2.2.2.2.2.1, HX.out.2.2.2.2.2.2.2.2.2.2.2.1, HX.out.2.2.2.2.2.2.2.2.2.2.2.2.1, HX.out.2.2.2.2.2.2.2.2.2.2.2.2.2.1, HX.out.2.2.2.2.2.2.2.2.2.2.2.2.2.2.drew⟩
    refine takeD (i := 0) (v := ?_) 23 rfl rfl (by kernel_rfl) (by kernel_rfl) (by kernel_rfl) (fun _ _ _ h => h) (by assumption) (Or.inl ⟨by rfl, ?_⟩) ?_
    rotate_left
    · intro w hSw
      (try dsimp only at hSw)
      go_simp
      try with_reducible rfl
    simp only [List.setIfInBounds_toArray, List.set_cons_zero, List.set_cons_succ]
    refine takeD (i := 1) (v := ?_) 24 rfl rfl (by kernel_rfl) (by kernel_rfl) (by kernel_rfl) (fun _ _ _ h => h) (by assumption) (Or.inl ⟨by rfl, ?_⟩) ?_
    rotate_left
    · intro w hSw
      (try dsimp only at hSw)
      go_simp
      try with_reducible rfl
    simp only [List.setIfInBounds_toArray, List.set_cons_zero, List.set_cons_succ]
    refine takeD (i := 2) (v := ?_) 25 rfl rfl (by kernel_rfl) (by kernel_rfl) (by kernel_rfl) (fun _ _ _ h => h) (by assumption) (Or.inl ⟨by rfl, ?_⟩) ?_
    rotate_left
    · intro w hSw
      (try dsimp only at hSw)
      go_simp
      try with_reducible rfl
    simp only [List.setIfInBounds_toArray, List.set_cons_zero, List.set_cons_succ]
    refine takeD (i := 3) (v := ?_) 26 rfl rfl (by kernel_rfl) (by kernel_rfl) (by kernel_rfl) (fun _ _ _ h => h) (by assumption) (Or.inl ⟨by rfl, ?_⟩) ?_
    rotate_left
    · intro w hSw
      (try dsimp only at hSw)
      go_simp
      try with_reducible rfl
    simp only [List.setIfInBounds_toArray, List.set_cons_zero, List.set_cons_succ]
    refine takeD (i := 4) (v := ?_) 27 rfl rfl (by kernel_rfl) (by kernel_rfl) (by kernel_rfl) (fun _ _ _ h => h) (by assumption) (Or.inl ⟨by rfl, ?_⟩) ?_
    rotate_left
    · intro w hSw
      (try dsimp only at hSw)
      go_simp
      try with_reducible rfl
    simp only [List.setIfInBounds_toArray, List.set_cons_zero, List.set_cons_succ]
    refine takeD (i := 5) (v := ?_) 28 rfl rfl (by kernel_rfl) (by kernel_rfl) (by kernel_rfl) (fun _ _ _ h => h) (by assumption) (Or.inl ⟨by rfl, ?_⟩) ?_
    rotate_left
    · intro w hSw
      (try dsimp only at hSw)
      go_simp
      try with_reducible rfl
    simp only [List.setIfInBounds_toArray, List.set_cons_zero, List.set_cons_succ]
    refine takeD (i := 6) (v := ?_) 29 rfl rfl (by kernel_rfl) (by kernel_rfl) (by kernel_rfl) (fun _ _ _ h => h) (by assumption) (Or.inl ⟨by rfl, ?_⟩) ?_
    rotate_left
    · intro w hSw
      (try dsimp only at hSw)
      go_simp
      try with_reducible rfl
    simp only [List.setIfInBounds_toArray, List.set_cons_zero, List.set_cons_succ]
    refine takeD (i := 7) (v := ?_) 30 rfl rfl (by kernel_rfl) (by kernel_rfl) (by kernel_rfl) (fun _ _ _ h => h) (by assumption) (Or.inl ⟨by rfl, ?_⟩) ?_
    rotate_left
    · intro w hSw
      (try dsimp only at hSw)
      go_simp
      try with_reducible rfl
    simp only [List.setIfInBounds_toArray, List.set_cons_zero, List.set_cons_succ]
    refine takeD (i := 8) (v := ?_) 31 rfl rfl (by kernel_rfl) (by kernel_rfl) (by kernel_rfl) (fun _ _ _ h => h) (by assumption) (Or.inl ⟨by rfl, ?_⟩) ?_
    rotate_left
    · intro w hSw
      (try dsimp only at hSw)
      go_simp
      try with_reducible rfl
    simp only [List.setIfInBounds_toArray, List.set_cons_zero, List.set_cons_succ]
    refine takeD (i := 9) (v := ?_) 32 rfl rfl (by kernel_rfl) (by kernel_rfl) (by kernel_rfl) (fun _ _ _ h => h) (by assumption) (Or.inl ⟨by rfl, ?_⟩) ?_
    rotate_left
    · intro w hSw
      (try dsimp only at hSw)
      go_simp
      try with_reducible rfl
    simp only [List.setIfInBounds_toArray, List.set_cons_zero, List.set_cons_succ]
    refine takeD (i := 12) (v := ?_) 35 rfl rfl (by kernel_rfl) (by kernel_rfl) (by kernel_rfl) (fun _ _ _ h => h) (by assumption) (Or.inl ⟨by rfl, ?_⟩) ?_
    rotate_left
    · intro w hSw
      (try dsimp only at hSw)
      go_simp
      try with_reducible rfl
    simp only [List.setIfInBounds_toArray, List.set_cons_zero, List.set_cons_succ]
    refine wpAnyH_ready (rs := [10]) (by kernel_rfl) (by simp) ?_
    refine AllReadyH.cons (by simp only [List.getElem?_toArray, List.getElem?_cons_succ, List.getElem?_cons_zero]; rfl) (fun K hK => ?_) AllReadyH.nil
    go_simp
    (with_reducible refine (HCK.out _).mono ?_)
    rintro e w2 ⟨rfl, hb2⟩
    (try go_wp2_with fail)
    refine hK.out _ _ ?_ (fun hHeldN => ?_)
    · exact ⟨keepc hb2 hHeld.1, keepc hb2 hHeld.2.1, keepc hb2 hHeld.2.2.1, keepc hb2 hHeld.2.2.2.1, keepc hb2 hHeld.2.2.2.2.1, keepc hb2 hHeld.2.2.2.2.2.1, keepc hb2 hHeld.2.2.2.2.2.2.1, keepc hb2 hHeld.2.2.2.2.2.2.2.1, keepc hb2 hHeld.2.2.2.2.2.2.2.2.1, keepc hb2 hHeld.2.2.2.2.2.2.2.2.2.1, keepc hb2 hHeld.2.2.2.2.2.2.2.2.2.2.1, keepc hb2 hHeld.2.2.2.2.2.2.2.2.2.2.2.1, keepc hb2 hHeld.2.2.2.2.2.2.2.2.2.2.2.2.1, keepc hb2 hHeld.2.2.2.2.2.2.2.2.2.2.2.2.2.1, below_t hHeld.2.2.2.2.2.2.2.2.2.2.2.2.2.2 hb2⟩
    clear hK K hHeld
    have hHeld := hHeldN
    clear hHeldN
    refine takeD (i := 11) (v := ?_) 34 rfl rfl (by kernel_rfl) (by kernel_rfl) (by kernel_rfl) (fun _ _ _ h => h) (by assumption) (Or.inl ⟨by rfl, ?_⟩) ?_
    rotate_left
    · intro w hSw
      (try dsimp only at hSw)
      go_simp
      try with_reducible rfl
    simp only [List.setIfInBounds_toArray, List.set_cons_zero, List.set_cons_succ]
    refine wpAnyH_ready (rs := [13]) (by kernel_rfl) (by simp) ?_
    refine AllReadyH.cons (by simp only [List.getElem?_toArray, List.getElem?_cons_succ, List.getElem?_cons_zero]; rfl) (fun K hK => ?_) AllReadyH.nil
    go_simp
    (with_reducible refine (HRT.out _).mono ?_)
    rintro e w2 ⟨rfl, hb2⟩
    (try go_wp2_with fail)
    refine hK.out _ _ ?_ (fun hHeldN => ?_)
    · exact ⟨keepc hb2 hHeld.1, keepc hb2 hHeld.2.1, keepc hb2 hHeld.2.2.1, keepc hb2 hHeld.2.2.2.1, keepc hb2 hHeld.2.2.2.2.1, keepc hb2 hHeld.2.2.2.2.2.1, keepc hb2 hHeld.2.2.2.2.2.2.1, keepc hb2 hHeld.2.2.2.2.2.2.2.1, keepc hb2 hHeld.2.2.2.2.2.2.2.2.1, keepc hb2 hHeld.2.2.2.2.2.2.2.2.2.1, keepc hb2 hHeld.2.2.2.2.2.2.2.2.2.2.1, keepc hb2 hHeld.2.2.2.2.2.2.2.2.2.2.2.1, keepc hb2 hHeld.2.2.2.2.2.2.2.2.2.2.2.2.1, keepc hb2 hHeld.2.2.2.2.2.2.2.2.2.2.2.2.2.1, below_t hHeld.2.2.2.2.2.2.2.2.2.2.2.2.2.2 hb2⟩
    clear hK K hHeld
    have hHeld := hHeldN
    clear hHeldN
    refine takeD (i := 14) (v := ?_) 37 rfl rfl (by kernel_rfl) (by kernel_rfl) (by kernel_rfl) (fun _ _ _ h => h) (by assumption) (Or.inl ⟨by rfl, ?_⟩) ?_
    rotate_left
    · intro w hSw
      (try dsimp only at hSw)
      go_simp
      try with_reducible rfl
    simp only [List.setIfInBounds_toArray, List.set_cons_zero, List.set_cons_succ]
    refine takeD (i := 15) (v := ?_) 38 rfl rfl (by kernel_rfl) (by kernel_rfl) (by kernel_rfl) (fun _ _ _ h => h) (by assumption) (Or.inl ⟨by rfl, ?_⟩) ?_
    rotate_left
    · intro w hSw
      (try dsimp only at hSw)
      go_simp
      try with_reducible rfl
    simp only [List.setIfInBounds_toArray, List.set_cons_zero, List.set_cons_succ]
    refine takeD (i := 16) (v := ?_) 39 rfl rfl (by kernel_rfl) (by kernel_rfl) (by kernel_rfl) (fun _ _ _ h => h) (by assumption) (Or.inl ⟨by rfl, ?_⟩) ?_
    rotate_left
    · intro w hSw
      (try dsimp only at hSw)
      go_simp
      try with_reducible rfl
    simp only [List.setIfInBounds_toArray, List.set_cons_zero, List.set_cons_succ]
    refine takeD (i := 17) (v := ?_) 40 rfl rfl (by kernel_rfl) (by kernel_rfl) (by kernel_rfl) (fun _ _ _ h => h) (by assumption) (Or.inl ⟨by rfl, ?_⟩) ?_
    rotate_left
    · intro w hSw
      (try dsimp only at hSw)
      go_simp
      try with_reducible rfl
    simp only [List.setIfInBounds_toArray, List.set_cons_zero, List.set_cons_succ]
    refine wpAnyH_ready (rs := [18]) (by kernel_rfl) (by simp) ?_
    refine AllReadyH.cons (by simp only [List.getElem?_toArray, List.getElem?_cons_succ, List.getElem?_cons_zero]; rfl) (fun K hK => ?_) AllReadyH.nil
    go_simp
    (with_reducible refine (HRT.out _).mono ?_)
    rintro e w2 ⟨rfl, hb2⟩
    (try go_wp2_with fail)
    refine hK.out _ _ ?_ (fun hHeldN => ?_)
    · exact ⟨keepc hb2 hHeld.1, keepc hb2 hHeld.2.1, keepc hb2 hHeld.2.2.1, keepc hb2 hHeld.2.2.2.1, keepc hb2 hHeld.2.2.2.2.1, keepc hb2 hHeld.2.2.2.2.2.1, keepc hb2 hHeld.2.2.2.2.2.2.1, keepc hb2 hHeld.2.2.2.2.2.2.2.1, keepc hb2 hHeld.2.2.2.2.2.2.2.2.1, keepc hb2 hHeld.2.2.2.2.2.2.2.2.2.1, keepc hb2 hHeld.2.2.2.2.2.2.2.2.2.2.1, keepc hb2 hHeld.2.2.2.2.2.2.2.2.2.2.2.1, keepc hb2 hHeld.2.2.2.2.2.2.2.2.2.2.2.2.1, keepc hb2 hHeld.2.2.2.2.2.2.2.2.2.2.2.2.2.1, below_t hHeld.2.2.2.2.2.2.2.2.2.2.2.2.2.2 hb2⟩
    clear hK K hHeld
    have hHeld := hHeldN
    clear hHeldN
    refine takeD (i := 19) (v := ?_) 42 rfl rfl (by kernel_rfl) (by kernel_rfl) (by kernel_rfl) (fun _ _ _ h => h) (by assumption) (Or.inl ⟨by rfl, ?_⟩) ?_
    rotate_left
    · intro w hSw
      (try dsimp only at hSw)
      go_simp
      try with_reducible rfl
    simp only [List.setIfInBounds_toArray, List.set_cons_zero, List.set_cons_succ]
    refine takeD (i := 20) (v := ?_) 43 rfl rfl (by kernel_rfl) (by kernel_rfl) (by kernel_rfl) (fun _ _ _ h => h) (by assumption) (Or.inl ⟨by rfl, ?_⟩) ?_
    rotate_left
    · intro w hSw
      (try dsimp only at hSw)
      go_simp
      try with_reducible rfl
    simp only [List.setIfInBounds_toArray, List.set_cons_zero, List.set_cons_succ]
    refine wpAnyH_ready (rs := [21]) (by kernel_rfl) (by simp) ?_
    refine AllReadyH.cons (by simp only [List.getElem?_toArray, List.getElem?_cons_succ, List.getElem?_cons_zero]; rfl) (fun K hK => ?_) AllReadyH.nil
    go_simp
    (with_reducible refine (HCK.out _).mono ?_)
    rintro e w2 ⟨rfl, hb2⟩
    (try go_wp2_with fail)
    refine hK.out _ _ ?_ (fun hHeldN => ?_)
    · exact ⟨keepc hb2 hHeld.1, keepc hb2 hHeld.2.1, keepc hb2 hHeld.2.2.1, keepc hb2 hHeld.2.2.2.1, keepc hb2 hHeld.2.2.2.2.1, keepc hb2 hHeld.2.2.2.2.2.1, keepc hb2 hHeld.2.2.2.2.2.2.1, keepc hb2 hHeld.2.2.2.2.2.2.2.1, keepc hb2 hHeld.2.2.2.2.2.2.2.2.1, keepc hb2 hHeld.2.2.2.2.2.2.2.2.2.1, keepc hb2 hHeld.2.2.2.2.2.2.2.2.2.2.1, keepc hb2 hHeld.2.2.2.2.2.2.2.2.2.2.2.1, keepc hb2 hHeld.2.2.2.2.2.2.2.2.2.2.2.2.1, keepc hb2 hHeld.2.2.2.2.2.2.2.2.2.2.2.2.2.1, below_t hHeld.2.2.2.2.2.2.2.2.2.2.2.2.2.2 hb2⟩
    clear hK K hHeld
    have hHeld := hHeldN
    clear hHeldN
    refine takeD (i := 22) (v := ?_) 45 rfl rfl (by kernel_rfl) (by kernel_rfl) (by kernel_rfl) (fun _ _ _ h => h) (by assumption) (Or.inl ⟨by rfl, ?_⟩) ?_
    rotate_left
    · intro w hSw
      (try dsimp only at hSw)
      go_simp
      try with_reducible rfl
    simp only [List.setIfInBounds_toArray, List.set_cons_zero, List.set_cons_succ]
    refine takeD (i := 23) (v := ?_) 46 rfl rfl (by kernel_rfl) (by kernel_rfl) (by kernel_rfl) (fun _ _ _ h => h) (by assumption) (Or.inl ⟨by rfl, ?_⟩) ?_
    rotate_left
    · intro w hSw
      (try dsimp only at hSw)
      go_simp
      try with_reducible rfl
    simp only [List.setIfInBounds_toArray, List.set_cons_zero, List.set_cons_succ]
    refine takeD (i := 24) (v := ?_) 47 rfl rfl (by kernel_rfl) (by kernel_rfl) (by kernel_rfl) (fun _ _ _ h => h) (by assumption) (Or.inl ⟨by rfl, ?_⟩) ?_
    rotate_left
    · intro w hSw
      (try dsimp only at hSw)
      go_simp
      try with_reducible rfl
    simp only [List.setIfInBounds_toArray, List.set_cons_zero, List.set_cons_succ]
    refine takeD (i := 25) (v := ?_) 4 rfl rfl (by kernel_rfl) (by kernel_rfl) (by kernel_rfl) (fun _ _ _ h => h) (by assumption) (Or.inl ⟨by rfl, ?_⟩) ?_
    rotate_left
    · intro w hSw
      (try dsimp only at hSw)
      go_simp
      try with_reducible rfl
    simp only [List.setIfInBounds_toArray, List.set_cons_zero, List.set_cons_succ]
    refine wpAnyH_done (by kernel_rfl) ?_ _
    go_wp2
    go_ret
    exact ⟨rfl, hHeld.2.2.2.2.2.2.2.2.2.2.2.2.2.2⟩
  · rw [hk] at HA HR HCK HRT
    simp only [if_true] at HA HR HCK
    clear hk
    go_enter Try.func10, Try.ntmps10
    go_wp2_with fail
    with_reducible refine (awake5_true _).mono ?_
    rintro e w1 ⟨rfl, hb1⟩
    have K1 := hid (show w1.cell? ⟨w.heap.size, 0, none⟩ = some (.int .u8 t) ∧ w1.cell? ⟨w.heap.size, 1, none⟩ = some (.int .u8 v) ∧ w1.cell? ⟨w.heap.size + 1, 0, none⟩ = some (.int .u8 ch) ∧ w1.cell? ⟨w.heap.size + 1, 1, none⟩ = some (.bool a) ∧ w1.cell? ⟨w.heap.size + 1, 2, none⟩ = some (.int .u8 fa) ∧ w1.cell? ⟨w.heap.size + 1, 3, none⟩ = some (.int .u8 hi) ∧ w1.cell? ⟨w.heap.size + 1, 4, none⟩ = some (.int .u8 co) ∧ w1.cell? ⟨w.heap.size + 1, 5, none⟩ = some (.int .u8 se) ∧ Below w.heap.size w w1 from ⟨keepc hb1 (by simp [go_sem]), keepc hb1 (by simp [go_sem]), keepc hb1 (by simp [go_sem]), keepc hb1 (by simp [go_sem]), keepc hb1 (by simp [go_sem]), keepc hb1 (by simp [go_sem]), keepc hb1 (by simp [go_sem]), keepc hb1 (by simp [go_sem]), (((Below.refl _ _).alloc (Nat.le_refl _) _).alloc (by simp) _).trans (hb1.mono (by simp; omega))⟩)
    clear hb1
    obtain ⟨c0, c1, c2, c3, c4, c5, c6, c7, hbb⟩ := K1.out
    clear hbb
    go_wp2_with fail
    with_reducible refine (HA.out _).mono ?_
    rintro e w2 ⟨rfl, hb⟩
    have K2 := hid (show w2.cell? ⟨w.heap.size, 0, none⟩ = some (.int .u8 t) ∧ w2.cell? ⟨w.heap.size, 1, none⟩ = some (.int .u8 v) ∧ w2.cell? ⟨w.heap.size + 1, 0, none⟩ = some (.int .u8 ch) ∧ w2.cell? ⟨w.heap.size + 1, 1, none⟩ = some (.bool a) ∧ w2.cell? ⟨w.heap.size + 1, 2, none⟩ = some (.int .u8 fa) ∧ w2.cell? ⟨w.heap.size + 1, 3, none⟩ = some (.int .u8 hi) ∧ w2.cell? ⟨w.heap.size + 1, 4, none⟩ = some (.int .u8 co) ∧ w2.cell? ⟨w.heap.size + 1, 5, none⟩ = some (.int .u8 se) ∧ Below w.heap.size w w2 from ⟨keepc hb K1.out.1, keepc hb K1.out.2.1, keepc hb K1.out.2.2.1, keepc hb K1.out.2.2.2.1, keepc hb K1.out.2.2.2.2.1, keepc hb K1.out.2.2.2.2.2.1, keepc hb K1.out.2.2.2.2.2.2.1, keepc hb K1.out.2.2.2.2.2.2.2.1, below_t K1.out.2.2.2.2.2.2.2.2 hb⟩)
    clear hb c0 c1 c2 c3 c4 c5 c6 c7 K1
    go_upto_region 4 with fail
    have KB : Below w2.heap.size w2 (w2.alloc (.cells #[Value.int .u8 ch', Value.bool a', Value.int .u8 fa', Value.int .u8 hi', Value.int .u8 co', Value.int .u8 se'] 80)) := (Below.refl _ _).alloc (Nat.le_refl _) _
    have K3 := hid (show (w2.alloc (.cells #[Value.int .u8 ch', Value.bool a', Value.int .u8 fa', Value.int .u8 hi', Value.int .u8 co', Value.int .u8 se'] 80)).cell? ⟨w.heap.size, 0, none⟩ = some (.int .u8 t) ∧ (w2.alloc (.cells #[Value.int .u8 ch', Value.bool a', Value.int .u8 fa', Value.int .u8 hi', Value.int .u8 co', Value.int .u8 se'] 80)).cell? ⟨w.heap.size, 1, none⟩ = some (.int .u8 v) ∧ (w2.alloc (.cells #[Value.int .u8 ch', Value.bool a', Value.int .u8 fa', Value.int .u8 hi', Value.int .u8 co', Value.int .u8 se'] 80)).cell? ⟨w.heap.size + 1, 0, none⟩ = some (.int .u8 ch) ∧ (w2.alloc (.cells #[Value.int .u8 ch', Value.bool a', Value.int .u8 fa', Value.int .u8 hi', Value.int .u8 co', Value.int .u8 se'] 80)).cell? ⟨w.heap.size + 1, 1, none⟩ = some (.bool a) ∧ (w2.alloc (.cells #[Value.int .u8 ch', Value.bool a', Value.int .u8 fa', Value.int .u8 hi', Value.int .u8 co', Value.int .u8 se'] 80)).cell? ⟨w.heap.size + 1, 2, none⟩ = some (.int .u8 fa) ∧ (w2.alloc (.cells #[Value.int .u8 ch', Value.bool a', Value.int .u8 fa', Value.int .u8 hi', Value.int .u8 co', Value.int .u8 se'] 80)).cell? ⟨w.heap.size + 1, 3, none⟩ = some (.int .u8 hi) ∧ (w2.alloc (.cells #[Value.int .u8 ch', Value.bool a', Value.int .u8 fa', Value.int .u8 hi', Value.int .u8 co', Value.int .u8 se'] 80)).cell? ⟨w.heap.size + 1, 4, none⟩ = some (.int .u8 co) ∧ (w2.alloc (.cells #[Value.int .u8 ch', Value.bool a', Value.int .u8 fa', Value.int .u8 hi', Value.int .u8 co', Value.int .u8 se'] 80)).cell? ⟨w.heap.size + 1, 5, none⟩ = some (.int .u8 se) ∧ (w2.alloc (.cells #[Value.int .u8 ch', Value.bool a', Value.int .u8 fa', Value.int .u8 hi', Value.int .u8 co', Value.int .u8 se'] 80)).cell? ⟨w2.heap.size, 0, none⟩ = some (Value.int .u8 ch') ∧ (w2.alloc (.cells #[Value.int .u8 ch', Value.bool a', Value.int .u8 fa', Value.int .u8 hi', Value.int .u8 co', Value.int .u8 se'] 80)).cell? ⟨w2.heap.size, 1, none⟩ = some (Value.bool a') ∧ (w2.alloc (.cells #[Value.int .u8 ch', Value.bool a', Value.int .u8 fa', Value.int .u8 hi', Value.int .u8 co', Value.int .u8 se'] 80)).cell? ⟨w2.heap.size, 2, none⟩ = some (Value.int .u8 fa') ∧ (w2.alloc (.cells #[Value.int .u8 ch', Value.bool a', Value.int .u8 fa', Value.int .u8 hi', Value.int .u8 co', Value.int .u8 se'] 80)).cell? ⟨w2.heap.size, 3, none⟩ = some (Value.int .u8 hi') ∧ (w2.alloc (.cells #[Value.int .u8 ch', Value.bool a', Value.int .u8 fa', Value.int .u8 hi', Value.int .u8 co', Value.int .u8 se'] 80)).cell? ⟨w2.heap.size, 4, none⟩ = some (Value.int .u8 co') ∧ (w2.alloc (.cells #[Value.int .u8 ch', Value.bool a', Value.int .u8 fa', Value.int .u8 hi', Value.int .u8 co', Value.int .u8 se'] 80)).cell? ⟨w2.heap.size, 5, none⟩ = some (Value.int .u8 se') ∧ Below w.heap.size w (w2.alloc (.cells #[Value.int .u8 ch', Value.bool a', Value.int .u8 fa', Value.int .u8 hi', Value.int .u8 co', Value.int .u8 se'] 80)) from ⟨keepc KB K2.out.1, keepc KB K2.out.2.1, keepc KB K2.out.2.2.1, keepc KB K2.out.2.2.2.1, keepc KB K2.out.2.2.2.2.1, keepc KB K2.out.2.2.2.2.2.1, keepc KB K2.out.2.2.2.2.2.2.1, keepc KB K2.out.2.2.2.2.2.2.2.1, by simp [go_sem], by simp [go_sem], by simp [go_sem], by simp [go_sem], by simp [go_sem], by simp [go_sem], below_t K2.out.2.2.2.2.2.2.2.2 KB⟩)
    clear KB K2
    generalize (w2.alloc (.cells #[Value.int .u8 ch', Value.bool a', Value.int .u8 fa', Value.int .u8 hi', Value.int .u8 co', Value.int .u8 se'] 80)) = wa at K3 ⊢
    obtain ⟨bx, hbx⟩ : ∃ bx, bx = w2.heap.size := ⟨_, rfl⟩
    rw [← hbx] at K3 ⊢
    clear hbx
    obtain ⟨c0, c1, c2, c3, c4, c5, c6, c7, c8, c9, c10, c11, c12, c13, hbb⟩ := K3.out
    clear hbb
    go_wp2_with fail
    with_reducible refine (HR.out _).mono ?_
    rintro e w3 ⟨rfl, hb⟩
    have K4 := hid (show w3.cell? ⟨w.heap.size, 0, none⟩ = some (.int .u8 t) ∧ w3.cell? ⟨w.heap.size, 1, none⟩ = some (.int .u8 v) ∧ w3.cell? ⟨w.heap.size + 1, 0, none⟩ = some (.int .u8 ch) ∧ w3.cell? ⟨w.heap.size + 1, 1, none⟩ = some (.bool a) ∧ w3.cell? ⟨w.heap.size + 1, 2, none⟩ = some (.int .u8 fa) ∧ w3.cell? ⟨w.heap.size + 1, 3, none⟩ = some (.int .u8 hi) ∧ w3.cell? ⟨w.heap.size + 1, 4, none⟩ = some (.int .u8 co) ∧ w3.cell? ⟨w.heap.size + 1, 5, none⟩ = some (.int .u8 se) ∧ w3.cell? ⟨bx, 0, none⟩ = some (Value.int .u8 ch') ∧ w3.cell? ⟨bx, 1, none⟩ = some (Value.bool a') ∧ w3.cell? ⟨bx, 2, none⟩ = some (Value.int .u8 fa') ∧ w3.cell? ⟨bx, 3, none⟩ = some (Value.int .u8 hi') ∧ w3.cell? ⟨bx, 4, none⟩ = some (Value.int .u8 co') ∧ w3.cell? ⟨bx, 5, none⟩ = some (Value.int .u8 se') ∧ Below w.heap.size w w3 from ⟨keepc hb K3.out.1, keepc hb K3.out.2.1, keepc hb K3.out.2.2.1, keepc hb K3.out.2.2.2.1, keepc hb K3.out.2.2.2.2.1, keepc hb K3.out.2.2.2.2.2.1, keepc hb K3.out.2.2.2.2.2.2.1, keepc hb K3.out.2.2.2.2.2.2.2.1, keepc hb K3.out.2.2.2.2.2.2.2.2.1, keepc hb K3.out.2.2.2.2.2.2.2.2.2.1, keepc hb K3.out.2.2.2.2.2.2.2.2.2.2.1, keepc hb K3.out.2.2.2.2.2.2.2.2.2.2.2.1, keepc hb K3.out.2.2.2.2.2.2.2.2.2.2.2.2.1, keepc hb K3.out.2.2.2.2.2.2.2.2.2.2.2.2.2.1, below_t K3.out.2.2.2.2.2.2.2.2.2.2.2.2.2.2 hb⟩)
    clear hb c0 c1 c2 c3 c4 c5 c6 c7 c8 c9 c10 c11 c12 c13 K3
    go_upto_region 5 with fail
    have KB : Below w3.heap.size w3 (w3.alloc (.cells #[Value.int .u8 ch', Value.bool a', Value.int .u8 fa', Value.int .u8 hi', Value.int .u8 co', Value.int .u8 se'] 80)) := (Below.refl _ _).alloc (Nat.le_refl _) _
    have HX := hid (show (w3.alloc (.cells #[Value.int .u8 ch', Value.bool a', Value.int .u8 fa', Value.int .u8 hi', Value.int .u8 co', Value.int .u8 se'] 80)).cell? ⟨w.heap.size, 0, none⟩ = some (.int .u8 t) ∧ (w3.alloc (.cells #[Value.int .u8 ch', Value.bool a', Value.int .u8 fa', Value.int .u8 hi', Value.int .u8 co', Value.int .u8 se'] 80)).cell? ⟨w.heap.size, 1, none⟩ = some (.int .u8 v) ∧ (w3.alloc (.cells #[Value.int .u8 ch', Value.bool a', Value.int .u8 fa', Value.int .u8 hi', Value.int .u8 co', Value.int .u8 se'] 80)).cell? ⟨bx, 0, none⟩ = some (Value.int .u8 ch') ∧ (w3.alloc (.cells #[Value.int .u8 ch', Value.bool a', Value.int .u8 fa', Value.int .u8 hi', Value.int .u8 co', Value.int .u8 se'] 80)).cell? ⟨bx, 1, none⟩ = some (Value.bool a') ∧ (w3.alloc (.cells #[Value.int .u8 ch', Value.bool a', Value.int .u8 fa', Value.int .u8 hi', Value.int .u8 co', Value.int .u8 se'] 80)).cell? ⟨bx, 2, none⟩ = some (Value.int .u8 fa') ∧ (w3.alloc (.cells #[Value.int .u8 ch', Value.bool a', Value.int .u8 fa', Value.int .u8 hi', Value.int .u8 co', Value.int .u8 se'] 80)).cell? ⟨bx, 3, none⟩ = some (Value.int .u8 hi') ∧ (w3.alloc (.cells #[Value.int .u8 ch', Value.bool a', Value.int .u8 fa', Value.int .u8 hi', Value.int .u8 co', Value.int .u8 se'] 80)).cell? ⟨bx, 4, none⟩ = some (Value.int .u8 co') ∧ (w3.alloc (.cells #[Value.int .u8 ch', Value.bool a', Value.int .u8 fa', Value.int .u8 hi', Value.int .u8 co', Value.int .u8 se'] 80)).cell? ⟨bx, 5, none⟩ = some (Value.int .u8 se') ∧ (w3.alloc (.cells #[Value.int .u8 ch', Value.bool a', Value.int .u8 fa', Value.int .u8 hi', Value.int .u8 co', Value.int .u8 se'] 80)).cell? ⟨w3.heap.size, 0, none⟩ = some (Value.int .u8 ch') ∧ (w3.alloc (.cells #[Value.int .u8 ch', Value.bool a', Value.int .u8 fa', Value.int .u8 hi', Value.int .u8 co', Value.int .u8 se'] 80)).cell? ⟨w3.heap.size, 1, none⟩ = some (Value.bool a') ∧ (w3.alloc (.cells #[Value.int .u8 ch', Value.bool a', Value.int .u8 fa', Value.int .u8 hi', Value.int .u8 co', Value.int .u8 se'] 80)).cell? ⟨w3.heap.size, 2, none⟩ = some (Value.int .u8 fa') ∧ (w3.alloc (.cells #[Value.int .u8 ch', Value.bool a', Value.int .u8 fa', Value.int .u8 hi', Value.int .u8 co', Value.int .u8 se'] 80)).cell? ⟨w3.heap.size, 3, none⟩ = some (Value.int .u8 hi') ∧ (w3.alloc (.cells #[Value.int .u8 ch', Value.bool a', Value.int .u8 fa', Value.int .u8 hi', Value.int .u8 co', Value.int .u8 se'] 80)).cell? ⟨w3.heap.size, 4, none⟩ = some (Value.int .u8 co') ∧ (w3.alloc (.cells #[Value.int .u8 ch', Value.bool a', Value.int .u8 fa', Value.int .u8 hi', Value.int .u8 co', Value.int .u8 se'] 80)).cell? ⟨w3.heap.size, 5, none⟩ = some (Value.int .u8 se') ∧ Below w.heap.size w (w3.alloc (.cells #[Value.int .u8 ch', Value.bool a', Value.int .u8 fa', Value.int .u8 hi', Value.int .u8 co', Value.int .u8 se'] 80)) from ⟨keepc KB K4.out.1, keepc KB K4.out.2.1, keepc KB K4.out.2.2.2.2.2.2.2.2.1, keepc KB K4.out.2.2.2.2.2.2.2.2.2.1, keepc KB K4.out.2.2.2.2.2.2.2.2.2.2.1, keepc KB K4.out.2.2.2.2.2.2.2.2.2.2.2.1, keepc KB K4.out.2.2.2.2.2.2.2.2.2.2.2.2.1, keepc KB K4.out.2.2.2.2.2.2.2.2.2.2.2.2.2.1, by simp [go_sem], by simp [go_sem], by simp [go_sem], by simp [go_sem], by simp [go_sem], by simp [go_sem], below_t K4.out.2.2.2.2.2.2.2.2.2.2.2.2.2.2 KB⟩)
    clear KB K4
    generalize (w3.alloc (.cells #[Value.int .u8 ch', Value.bool a', Value.int .u8 fa', Value.int .u8 hi', Value.int .u8 co', Value.int .u8 se'] 80)) = wb at HX ⊢
    obtain ⟨by', hby⟩ : ∃ by', by' = w3.heap.size := ⟨_, rfl⟩
    rw [← hby] at HX ⊢
    clear hby
    refine wp_region_held_drew (S := (fun w' => w'.cell? ⟨w.heap.size, 0, none⟩ = some (.int .u8 t) ∧ w'.cell? ⟨w.heap.size, 1, none⟩ = some (.int .u8 v) ∧ w'.cell? ⟨bx, 0, none⟩ = some (Value.int .u8 ch') ∧ w'.cell? ⟨bx, 1, none⟩ = some (Value.bool a') ∧ w'.cell? ⟨bx, 2, none⟩ = some (Value.int .u8 fa') ∧ w'.cell? ⟨bx, 3, none⟩ = some (Value.int .u8 hi') ∧ w'.cell? ⟨bx, 4, none⟩ = some (Value.int .u8 co') ∧ w'.cell? ⟨bx, 5, none⟩ = some (Value.int .u8 se') ∧ w'.cell? ⟨by', 0, none⟩ = some (Value.int .u8 ch') ∧ w'.cell? ⟨by', 1, none⟩ = some (Value.bool a') ∧ w'.cell? ⟨by', 2, none⟩ = some (Value.int .u8 fa') ∧ w'.cell? ⟨by', 3, none⟩ = some (Value.int .u8 hi') ∧ w'.cell? ⟨by', 4, none⟩ = some (Value.int .u8 co') ∧ w'.cell? ⟨by', 5, none⟩ = some (Value.int .u8 se') ∧ Below w.heap.size w w')) (by kernel_rfl) ?_ (fun hHeld => ?_)
    · exact ⟨HX.out.1, HX.out.2.1, HX.out.2.2.1, HX.out.2.2.2.1, HX.out.2.2.2.2.1, HX.out.2.2.2.2.2.1, HX.out.2.2.2.2.2.2.1, HX.out.2.2.2.2.2.2.2.1, HX.out.2.2.2.2.2.2.2.2.1, HX.out.2.2.2.2.2.2.2.2.2.1, HX.out.2.2.2.2.2.2.2.2.2.2.1, HX.out.2.2.2.2.2.2.2.2.2.2.2.1, HX.out.2.2.2.2.2.2.2.2.2.2.2.2.1, HX.out.2.2.2.2.2.2.2.2.2.2.2.2.2.1, HX.out.2.2.2.2.2.2.2.2.2.2.2.2.2.2.drew⟩
    refine takeD (i := 0) (v := ?_) 23 rfl rfl (by kernel_rfl) (by kernel_rfl) (by kernel_rfl) (fun _ _ _ h => h) (by assumption) (Or.inl ⟨by rfl, ?_⟩) ?_
    rotate_left
    · intro w hSw
      (try dsimp only at hSw)
      go_simp
      try with_reducible rfl
    simp only [List.setIfInBounds_toArray, List.set_cons_zero, List.set_cons_succ]
    refine takeD (i := 1) (v := ?_) 24 rfl rfl (by kernel_rfl) (by kernel_rfl) (by kernel_rfl) (fun _ _ _ h => h) (by assumption) (Or.inl ⟨by rfl, ?_⟩) ?_
    rotate_left
    · intro w hSw
      (try dsimp only at hSw)
      go_simp
      try with_reducible rfl
    simp only [List.setIfInBounds_toArray, List.set_cons_zero, List.set_cons_succ]
    refine takeD (i := 2) (v := ?_) 25 rfl rfl (by kernel_rfl) (by kernel_rfl) (by kernel_rfl) (fun _ _ _ h => h) (by assumption) (Or.inl ⟨by rfl, ?_⟩) ?_
    rotate_left
    · intro w hSw
      (try dsimp only at hSw)
      go_simp
      try with_reducible rfl
    simp only [List.setIfInBounds_toArray, List.set_cons_zero, List.set_cons_succ]
    refine takeD (i := 3) (v := ?_) 26 rfl rfl (by kernel_rfl) (by kernel_rfl) (by kernel_rfl) (fun _ _ _ h => h) (by assumption) (Or.inl ⟨by rfl, ?_⟩) ?_
    rotate_left
    · intro w hSw
      (try dsimp only at hSw)
      go_simp
      try with_reducible rfl
    simp only [List.setIfInBounds_toArray, List.set_cons_zero, List.set_cons_succ]
    refine takeD (i := 4) (v := ?_) 27 rfl rfl (by kernel_rfl) (by kernel_rfl) (by kernel_rfl) (fun _ _ _ h => h) (by assumption) (Or.inl ⟨by rfl, ?_⟩) ?_
    rotate_left
    · intro w hSw
      (try dsimp only at hSw)
      go_simp
      try with_reducible rfl
    simp only [List.setIfInBounds_toArray, List.set_cons_zero, List.set_cons_succ]
    refine takeD (i := 5) (v := ?_) 28 rfl rfl (by kernel_rfl) (by kernel_rfl) (by kernel_rfl) (fun _ _ _ h => h) (by assumption) (Or.inl ⟨by rfl, ?_⟩) ?_
    rotate_left
    · intro w hSw
      (try dsimp only at hSw)
      go_simp
      try with_reducible rfl
    simp only [List.setIfInBounds_toArray, List.set_cons_zero, List.set_cons_succ]
    refine takeD (i := 6) (v := ?_) 29 rfl rfl (by kernel_rfl) (by kernel_rfl) (by kernel_rfl) (fun _ _ _ h => h) (by assumption) (Or.inl ⟨by rfl, ?_⟩) ?_
    rotate_left
    · intro w hSw
      (try dsimp only at hSw)
      go_simp
      try with_reducible rfl
    simp only [List.setIfInBounds_toArray, List.set_cons_zero, List.set_cons_succ]
    refine takeD (i := 7) (v := ?_) 30 rfl rfl (by kernel_rfl) (by kernel_rfl) (by kernel_rfl) (fun _ _ _ h => h) (by assumption) (Or.inl ⟨by rfl, ?_⟩) ?_
    rotate_left
    · intro w hSw
      (try dsimp only at hSw)
      go_simp
      try with_reducible rfl
    simp only [List.setIfInBounds_toArray, List.set_cons_zero, List.set_cons_succ]
    refine takeD (i := 8) (v := ?_) 31 rfl rfl (by kernel_rfl) (by kernel_rfl) (by kernel_rfl) (fun _ _ _ h => h) (by assumption) (Or.inl ⟨by rfl, ?_⟩) ?_
    rotate_left
    · intro w hSw
      (try dsimp only at hSw)
      go_simp
      try with_reducible rfl
    simp only [List.setIfInBounds_toArray, List.set_cons_zero, List.set_cons_succ]
    refine takeD (i := 9) (v := ?_) 32 rfl rfl (by kernel_rfl) (by kernel_rfl) (by kernel_rfl) (fun _ _ _ h => h) (by assumption) (Or.inl ⟨by rfl, ?_⟩) ?_
    rotate_left
    · intro w hSw
      (try dsimp only at hSw)
      go_simp
      try with_reducible rfl
    simp only [List.setIfInBounds_toArray, List.set_cons_zero, List.set_cons_succ]
    refine takeD (i := 12) (v := ?_) 35 rfl rfl (by kernel_rfl) (by kernel_rfl) (by kernel_rfl) (fun _ _ _ h => h) (by assumption) (Or.inl ⟨by rfl, ?_⟩) ?_
    rotate_left
    · intro w hSw
      (try dsimp only at hSw)
      go_simp
      try with_reducible rfl
    simp only [List.setIfInBounds_toArray, List.set_cons_zero, List.set_cons_succ]
    refine wpAnyH_ready (rs := [10]) (by kernel_rfl) (by simp) ?_
    refine AllReadyH.cons (by simp only [List.getElem?_toArray, List.getElem?_cons_succ, List.getElem?_cons_zero]; rfl) (fun K hK => ?_) AllReadyH.nil
    go_simp
    (with_reducible refine (HCK.out _).mono ?_)
    rintro e w2 ⟨rfl, hb2⟩
    (try go_wp2_with fail)
    refine hK.out _ _ ?_ (fun hHeldN => ?_)
    · exact ⟨keepc hb2 hHeld.1, keepc hb2 hHeld.2.1, keepc hb2 hHeld.2.2.1, keepc hb2 hHeld.2.2.2.1, keepc hb2 hHeld.2.2.2.2.1, keepc hb2 hHeld.2.2.2.2.2.1, keepc hb2 hHeld.2.2.2.2.2.2.1, keepc hb2 hHeld.2.2.2.2.2.2.2.1, keepc hb2 hHeld.2.2.2.2.2.2.2.2.1, keepc hb2 hHeld.2.2.2.2.2.2.2.2.2.1, keepc hb2 hHeld.2.2.2.2.2.2.2.2.2.2.1, keepc hb2 hHeld.2.2.2.2.2.2.2.2.2.2.2.1, keepc hb2 hHeld.2.2.2.2.2.2.2.2.2.2.2.2.1, keepc hb2 hHeld.2.2.2.2.2.2.2.2.2.2.2.2.2.1, below_t hHeld.2.2.2.2.2.2.2.2.2.2.2.2.2.2 hb2⟩
    clear hK K hHeld
    have hHeld := hHeldN
    clear hHeldN
    refine takeD (i := 11) (v := ?_) 34 rfl rfl (by kernel_rfl) (by kernel_rfl) (by kernel_rfl) (fun _ _ _ h => h) (by assumption) (Or.inl ⟨by rfl, ?_⟩) ?_
    rotate_left
    · intro w hSw
      (try dsimp only at hSw)
      go_simp
      try with_reducible rfl
    simp only [List.setIfInBounds_toArray, List.set_cons_zero, List.set_cons_succ]
    refine wpAnyH_ready (rs := [13]) (by kernel_rfl) (by simp) ?_
    refine AllReadyH.cons (by simp only [List.getElem?_toArray, List.getElem?_cons_succ, List.getElem?_cons_zero]; rfl) (fun K hK => ?_) AllReadyH.nil
    go_simp
    (with_reducible refine (HRT.out _).mono ?_)
    rintro e w2 ⟨rfl, hb2⟩
    (try go_wp2_with fail)
    refine hK.out _ _ ?_ (fun hHeldN => ?_)
    · exact ⟨keepc hb2 hHeld.1, keepc hb2 hHeld.2.1, keepc hb2 hHeld.2.2.1, keepc hb2 hHeld.2.2.2.1, keepc hb2 hHeld.2.2.2.2.1, keepc hb2 hHeld.2.2.2.2.2.1, keepc hb2 hHeld.2.2.2.2.2.2.1, keepc hb2 hHeld.2.2.2.2.2.2.2.1, keepc hb2 hHeld.2.2.2.2.2.2.2.2.1, keepc hb2 hHeld.2.2.2.2.2.2.2.2.2.1, keepc hb2 hHeld.2.2.2.2.2.2.2.2.2.2.1, keepc hb2 hHeld.2.2.2.2.2.2.2.2.2.2.2.1, keepc hb2 hHeld.2.2.2.2.2.2.2.2.2.2.2.2.1, keepc hb2 hHeld.2.2.2.2.2.2.2.2.2.2.2.2.2.1, below_t hHeld.2.2.2.2.2.2.2.2.2.2.2.2.2.2 hb2⟩
    clear hK K hHeld
    have hHeld := hHeldN
    clear hHeldN
    refine takeD (i := 14) (v := ?_) 37 rfl rfl (by kernel_rfl) (by kernel_rfl) (by kernel_rfl) (fun _ _ _ h => h) (by assumption) (Or.inl ⟨by rfl, ?_⟩) ?_
    rotate_left
    · intro w hSw
      (try dsimp only at hSw)
      go_simp
      try with_reducible rfl
    simp only [List.setIfInBounds_toArray, List.set_cons_zero, List.set_cons_succ]
    refine takeD (i := 15) (v := ?_) 38 rfl rfl (by kernel_rfl) (by kernel_rfl) (by kernel_rfl) (fun _ _ _ h => h) (by assumption) (Or.inl ⟨by rfl, ?_⟩) ?_
    rotate_left
    · intro w hSw
      (try dsimp only at hSw)
      go_simp
      try with_reducible rfl
    simp only [List.setIfInBounds_toArray, List.set_cons_zero, List.set_cons_succ]
    refine takeD (i := 16) (v := ?_) 39 rfl rfl (by kernel_rfl) (by kernel_rfl) (by kernel_rfl) (fun _ _ _ h => h) (by assumption) (Or.inl ⟨by rfl, ?_⟩) ?_
    rotate_left
    · intro w hSw
      (try dsimp only at hSw)
      go_simp
      try with_reducible rfl
    simp only [List.setIfInBounds_toArray, List.set_cons_zero, List.set_cons_succ]
    refine takeD (i := 17) (v := ?_) 40 rfl rfl (by kernel_rfl) (by kernel_rfl) (by kernel_rfl) (fun _ _ _ h => h) (by assumption) (Or.inl ⟨by rfl, ?_⟩) ?_
    rotate_left
    · intro w hSw
      (try dsimp only at hSw)
      go_simp
      try with_reducible rfl
    simp only [List.setIfInBounds_toArray, List.set_cons_zero, List.set_cons_succ]
    refine wpAnyH_ready (rs := [18]) (by kernel_rfl) (by simp) ?_
    refine AllReadyH.cons (by simp only [List.getElem?_toArray, List.getElem?_cons_succ, List.getElem?_cons_zero]; rfl) (fun K hK => ?_) AllReadyH.nil
    go_simp
    (with_reducible refine (HRT.out _).mono ?_)
    rintro e w2 ⟨rfl, hb2⟩
    (try go_wp2_with fail)
    refine hK.out _ _ ?_ (fun hHeldN => ?_)
    · exact ⟨keepc hb2 hHeld.1, keepc hb2 hHeld.2.1, keepc hb2 hHeld.2.2.1, keepc hb2 hHeld.2.2.2.1, keepc hb2 hHeld.2.2.2.2.1, keepc hb2 hHeld.2.2.2.2.2.1, keepc hb2 hHeld.2.2.2.2.2.2.1, keepc hb2 hHeld.2.2.2.2.2.2.2.1, keepc hb2 hHeld.2.2.2.2.2.2.2.2.1, keepc hb2 hHeld.2.2.2.2.2.2.2.2.2.1, keepc hb2 hHeld.2.2.2.2.2.2.2.2.2.2.1, keepc hb2 hHeld.2.2.2.2.2.2.2.2.2.2.2.1, keepc hb2 hHeld.2.2.2.2.2.2.2.2.2.2.2.2.1, keepc hb2 hHeld.2.2.2.2.2.2.2.2.2.2.2.2.2.1, below_t hHeld.2.2.2.2.2.2.2.2.2.2.2.2.2.2 hb2⟩
    clear hK K hHeld
    have hHeld := hHeldN
    clear hHeldN
    refine takeD (i := 19) (v := ?_) 42 rfl rfl (by kernel_rfl) (by kernel_rfl) (by kernel_rfl) (fun _ _ _ h => h) (by assumption) (Or.inl ⟨by rfl, ?_⟩) ?_
    rotate_left
    · intro w hSw
      (try dsimp only at hSw)
      go_simp
      try with_reducible rfl
    simp only [List.setIfInBounds_toArray, List.set_cons_zero, List.set_cons_succ]
    refine takeD (i := 20) (v := undef) 43 rfl rfl (by kernel_rfl) (by kernel_rfl) (by kernel_rfl) (fun _ _ _ h => h) (by assumption) (Or.inr ⟨by rfl, rfl⟩) ?_
    simp only [List.setIfInBounds_toArray, List.set_cons_zero, List.set_cons_succ]
    refine wpAnyH_ready (rs := [21]) (by kernel_rfl) (by simp) ?_
    refine AllReadyH.cons (by simp only [List.getElem?_toArray, List.getElem?_cons_succ, List.getElem?_cons_zero]; rfl) (fun K hK => ?_) AllReadyH.nil
    go_simp
    refine hK.out _ _ hHeld (fun _ => ?_)
    clear hK K
    refine takeD (i := 22) (v := undef) 45 rfl rfl (by kernel_rfl) (by kernel_rfl) (by kernel_rfl) (fun _ _ _ h => h) (by assumption) (Or.inr ⟨by rfl, rfl⟩) ?_
    simp only [List.setIfInBounds_toArray, List.set_cons_zero, List.set_cons_succ]
    refine takeD (i := 23) (v := ?_) 46 rfl rfl (by kernel_rfl) (by kernel_rfl) (by kernel_rfl) (fun _ _ _ h => h) (by assumption) (Or.inl ⟨by rfl, ?_⟩) ?_
    rotate_left
    · intro w hSw
      (try dsimp only at hSw)
      go_simp
      try with_reducible rfl
    simp only [List.setIfInBounds_toArray, List.set_cons_zero, List.set_cons_succ]
    refine takeD (i := 24) (v := ?_) 47 rfl rfl (by kernel_rfl) (by kernel_rfl) (by kernel_rfl) (fun _ _ _ h => h) (by assumption) (Or.inl ⟨by rfl, ?_⟩) ?_
    rotate_left
    · intro w hSw
      (try dsimp only at hSw)
      go_simp
      try with_reducible rfl
    simp only [List.setIfInBounds_toArray, List.set_cons_zero, List.set_cons_succ]
    refine takeD (i := 25) (v := ?_) 4 rfl rfl (by kernel_rfl) (by kernel_rfl) (by kernel_rfl) (fun _ _ _ h => h) (by assumption) (Or.inl ⟨by rfl, ?_⟩) ?_
    rotate_left
    · intro w hSw
      (try dsimp only at hSw)
      go_simp
      try with_reducible rfl
    simp only [List.setIfInBounds_toArray, List.set_cons_zero, List.set_cons_succ]
    refine wpAnyH_done (by kernel_rfl) ?_ _
    go_wp2
    go_ret
    exact ⟨rfl, hHeld.2.2.2.2.2.2.2.2.2.2.2.2.2.2⟩
end Go.Proofs.Ytpnfdmfmdacjmaa
