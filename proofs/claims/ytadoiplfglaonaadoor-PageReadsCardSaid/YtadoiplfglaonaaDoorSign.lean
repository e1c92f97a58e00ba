/-
  Sign and Code of a page that is not nil: the sign of each code; the code of a sign, or that there is none.
-/
import Derived.Test.YtadoiplfglaonaaDoorOnce
namespace Go.Proofs.YtadoiplfglaonaaDoor
open Go.RowKit Go.Lib

theorem mapD_isMap (S : List Int) : ∀ k, Maps.IsMap (mapD S k)
  | 0 => Maps.isMap_empty
  | k + 1 => (mapD_isMap S k).put _ _
theorem lit_ne {a b : Int} (h : a ≠ b) : (Lit.int .i32 a) ≠ Lit.int .i32 b := fun e => h (by cases e; rfl)
theorem mapD_none (S : List Int) (s : Int) : ∀ k, (∀ i, i < k → S.getD i 0 ≠ s) → Maps.has (mapD S k) (.int .i32 s) = false
  | 0, _ => rfl
  | k + 1, h => by
    rw [mapD, Maps.has_put_other (lit_ne (fun e => h k (by omega) e.symm))]
    exact mapD_none S s k (fun i hi => h i (by omega))
theorem mapD_some (S : List Int) (s : Int) (i : Nat) (hi : S.getD i 0 = s) : ∀ k, i < k → (∀ j, j < k → j ≠ i → S.getD j 0 ≠ s) → Maps.has (mapD S k) (.int .i32 s) = true ∧ ∀ z, (mapD S k).atKey (.int .i32 s) z = .lit (.int .u8 i)
  | 0, h, _ => by omega
  | k + 1, h, hn => by
    by_cases e : k = i
    · subst e
      rw [mapD, hi]
      exact ⟨Maps.has_put_same (mapD_isMap S k) (by simp [WideAt.IsKeyLit]) _, fun z => Maps.atKey_put_same (mapD_isMap S k) (by simp [WideAt.IsKeyLit]) _ z⟩
    · have hne : S.getD k 0 ≠ s := hn k (by omega) e
      obtain ⟨h1, h2⟩ := mapD_some S s i hi k (by omega) (fun j hj hji => hn j (by omega) hji)
      rw [mapD]
      exact ⟨by rw [Maps.has_put_other (lit_ne (fun e => hne e.symm))]; exact h1, fun z => by rw [Maps.atKey_put_other (lit_ne (fun e => hne e.symm))]; exact h2 z⟩
theorem nodup_getD {S : List Int} (h : S.Nodup) {i j : Nat} (hi : i < S.length) (hj : j < S.length) (hne : j ≠ i) : S.getD j 0 ≠ S.getD i 0 := by
  intro e
  rw [List.getD, List.getD, List.getElem?_eq_getElem hi, List.getElem?_eq_getElem hj] at e
  simp only [Option.getD_some] at e
  have hp := List.pairwise_iff_getElem.1 h
  rcases Nat.lt_or_gt_of_ne hne with hlt | hlt
  · exact hp j i hj hi hlt e
  · exact hp i j hi hj hlt e.symm

/-- A call on a page has answered; the page is ready; nothing below it has turned. -/
def PageDone (v : Value) (b : Nat) (num : Int) (w : World) (e : Ending) (w' : World) : Prop := e = .returned v ∧ (∃ m, Ready w' b num m) ∧ But b w w'

theorem Ready.sign {w : World} {b : Nat} {num : Int} {m : Nat} (h : Ready w b num m) {k : Nat} (hk : k < 256) : w.cell? ⟨b, 4 + k, none⟩ = some (.int .i32 ((signsL num).getD k 0)) := by
  obtain ⟨se, h⟩ := h.page
  exact h.sign hk
theorem Ready.codes {w : World} {b : Nat} {num : Int} {m : Nat} (h : Ready w b num m) : w.cell? ⟨b, 260, none⟩ = some (.map (some m)) := by
  obtain ⟨se, h⟩ := h.page
  exact h.codes
theorem zero5 (w : World) : (zeroValue 5).run Tryd.prog w = .ok (.int .u8 0) w := by kernel_rfl

set_option maxRecDepth 100000 in
set_option maxHeartbeats 1000000 in
theorem sign_any (b : Nat) (num : Int) (k : Nat) (hk : k < 256) (w : World) (hP : Page w b num) :
    Calls Tryd.prog 17 #[.pointer (some ⟨b, 0, none⟩), .int .u8 k] w (PageDone (.int .i32 ((signsL num).getD k 0)) b num w) := by
  have HD := hid (do_any b num w hP)
  clear hP
  have hmf : ∀ (fn : Fn) (first cap : Array Value) (w : World), (Instr.makeFunc fn first cap).run Tryd.prog w = .ok (.func fn first cap) w := fun _ _ _ _ => rfl
  go_enter Tryd.func17, Tryd.ntmps17
  go_wp2_with (go_at_call 55; refine HD.out.mono ?_; rintro e w1 ⟨rfl, ⟨m, hR⟩, hB⟩; have hs := hR.sign hk; have HR := hid hR; have HB := hid hB; clear hR hB)
  go_ret
  have hs2 : (signsL num)[k]?.getD 0 = (signsL num).getD k 0 := rfl
  exact ⟨rfl, ⟨m, HR.out⟩, HB.out⟩

set_option maxRecDepth 100000 in
set_option maxHeartbeats 1000000 in
theorem code_core (b : Nat) (num s : Int) (c : Int) (ok : Bool) (w : World) (hP : Page w b num) (hs : (Lit.int .i32 s).wf = true)
    (hh : Maps.has (mapD (signsL num) 256) (.int .i32 s) = ok) (ha : (mapD (signsL num) 256).atKey (.int .i32 s) (.lit (.int .u8 0)) = .lit (.int .u8 c)) :
    Calls Tryd.prog 18 #[.pointer (some ⟨b, 0, none⟩), .int .i32 s] w (PageDone (.tuple #[.int .u8 c, .bool ok]) b num w) := by
  have HD := hid (do_any b num w hP)
  have HH := hid hh
  have HA := hid ha
  clear hP hh ha
  have hmf : ∀ (fn : Fn) (first cap : Array Value) (w : World), (Instr.makeFunc fn first cap).run Tryd.prog w = .ok (.func fn first cap) w := fun _ _ _ _ => rfl
  go_enter Tryd.func18, Tryd.ntmps18
  go_wp2_with (first
    | (go_at_call 55; refine HD.out.mono ?_; rintro e w1 ⟨rfl, ⟨m, hR⟩, hB⟩; have hcd := hR.codes; have HR := hid hR; have HB := hid hB; clear hR hB)
    | (at_lookup; refine wpList_lookup_own_ok_int _ rfl _ _ 87 rfl 21 5 .u8 (Maps.int_keyed Tryd.underlying21) Tryd.underlying87 Tryd.underlying5 (zero5 _) m 256 _ rfl HR.out.map _ _ rfl (Maps.keyOf_int_mk Tryd.underlying21 hs) ?_; intro c1 hat hwc; have HT := hid hat; clear hat))
  go_ret2
  have e := HT.out
  rw [HA.out] at e
  have e2 := HH.out
  refine ⟨?_, ⟨m, HR.out⟩, HB.out⟩
  simp only [DataW.lit.injEq, Lit.int.injEq, true_and] at e
  rw [e, ← e2]
  rfl

theorem code_found (b : Nat) (num s : Int) (i : Nat) (hi : i < 256) (w : World) (hP : Page w b num) (hs : (signsL num).getD i 0 = s) :
    Calls Tryd.prog 18 #[.pointer (some ⟨b, 0, none⟩), .int .i32 s] w (PageDone (.tuple #[.int .u8 i, .bool true]) b num w) := by
  have hl : (signsL num).length = 256 := signsAt_length _ _
  obtain ⟨h1, h2⟩ := mapD_some (signsL num) s i hs 256 hi (fun j hj hji => by rw [← hs]; exact nodup_getD (signs_nodup num hP.1) (by omega) (by omega) hji)
  refine code_core b num s i true w hP ?_ h1 (h2 _)
  have := List.all_eq_true.1 (signs_ok num hP.1) s (by rw [← hs, List.getD, List.getElem?_eq_getElem (show i < (signsL num).length by omega)]; simp)
  simp only [decide_eq_true_eq] at this
  exact wf_rune this.1 this.2
theorem code_none (b : Nat) (num s : Int) (w : World) (hP : Page w b num) (hw : (Lit.int .i32 s).wf = true) (hs : s ∉ signsL num) :
    Calls Tryd.prog 18 #[.pointer (some ⟨b, 0, none⟩), .int .i32 s] w (PageDone (.tuple #[.int .u8 0, .bool false]) b num w) := by
  have hl : (signsL num).length = 256 := signsAt_length _ _
  have h1 := mapD_none (signsL num) s 256 (fun i hi e => hs (by rw [← e, List.getD, List.getElem?_eq_getElem (show i < (signsL num).length by omega)]; simp))
  exact code_core b num s 0 false w hP hw h1 (Maps.atKey_of_not_has h1 _)
end Go.Proofs.YtadoiplfglaonaaDoor
