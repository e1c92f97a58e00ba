/-
  A page's tables are built once: the first call of the once builds them, each later one does nothing.
-/
import Derived.Test.YtadoiplfglaonaaDoorBuilda
import Derived.Defers
import Derived.Laws.LoneSync
import Derived.RegionCalls
import Derived.ChangeAlike
namespace Go.Proofs.YtadoiplfglaonaaDoor
open Go.RowKit Go.Lib

theorem disable (w : World) : (callFunc 85 #[]).run Tryd.prog w = .ok (.value (.tuple #[])) w := run_call_mark0 Tryd.func85 (by kernel_rfl) (by kernel_rfl) (by kernel_rfl) .disable (by kernel_rfl) w
theorem enable (w : World) : (callFunc 87 #[]).run Tryd.prog w = .ok (.value (.tuple #[])) w := run_call_mark0 Tryd.func87 (by kernel_rfl) (by kernel_rfl) (by kernel_rfl) .enable (by kernel_rfl) w
theorem acquire (a : Addr) (w : World) : (callFunc 88 #[.pointer (some a)]).run Tryd.prog w = .ok (.value (.tuple #[])) w := run_call_marked Tryd.func88 (by kernel_rfl) (by kernel_rfl) (by kernel_rfl) .acquire (by kernel_rfl) a w
theorem releaseMerge (a : Addr) (w : World) : (callFunc 90 #[.pointer (some a)]).run Tryd.prog w = .ok (.value (.tuple #[])) w := run_call_marked Tryd.func90 (by kernel_rfl) (by kernel_rfl) (by kernel_rfl) .releaseMerge (by kernel_rfl) a w

theorem store_deferred (a : Addr) (x : Value) (u : FrameMode) (w : World) (hc : w.cell? a = some x) (hz : w.frozen? a = false) :
    CallsD Tryd.prog 78 #[.pointer (some a), .bool true] u w fun e u' w' => u' = u ∧ (e = .returned (.tuple #[]) ∧ w' = w.drew.setCell a (.int .u32 1)) := by
  have hc' : w.drew.cell? a = some x := by go_simp
  have hz' : w.drew.frozen? a = false := by go_simp
  have hst := run_call_store (P := Tryd.prog) Tryd.func83 (by kernel_rfl) (by kernel_rfl) (by kernel_rfl) (by kernel_rfl) (k := .u32) (y := 1) hc' hz'
  go_enter_d Tryd.func78, Tryd.ntmps78
  go_wp2
  go_region_calls
  all_goals (go_end0; exact ⟨rfl, rfl⟩)

set_option maxRecDepth 100000 in
theorem unlock_deferred (a : Addr) (u : FrameMode) (w : World) (hc : w.cell? a = some (.int .i32 1)) (hz : w.frozen? a = false) :
    CallsD Tryd.prog 77 #[.pointer (some a)] u w fun e u' w' => u' = u ∧ (e = .returned (.tuple #[]) ∧ w' = w.setCell a (.int .i32 0)) := by
  have hd := disable
  have he := enable
  have hr := releaseMerge
  have hadd := run_call_add (P := Tryd.prog) Tryd.func91 (by kernel_rfl) (by kernel_rfl) (by kernel_rfl) .i32 (by kernel_rfl) (y := -1) (s := 0) hc hz (by simp [go_sem]; rfl)
  have hcv := run_convert_to_unsafe (P := Tryd.prog) (src := 130) (dst := 125) Tryd.underlying130 Tryd.underlying125 (by kernel_rfl) hc
  go_enter_d Tryd.func77, Tryd.ntmps77
  go_wp2
  go_end0
  go_wp2
  go_end0
  exact ⟨rfl, rfl⟩

set_option maxRecDepth 100000 in
theorem lock_free (a : Addr) (w : World) (hc : w.cell? a = some (.int .i32 0)) (hz : w.frozen? a = false) :
    Calls Tryd.prog 76 #[.pointer (some a)] w fun e w' => e = .returned (.tuple #[]) ∧ w' = w.setCell a (.int .i32 1) := by
  have hd := disable
  have he := enable
  have ha := acquire
  have hcas := run_call_cas_hit (P := Tryd.prog) Tryd.func86 (by kernel_rfl) (by kernel_rfl) (by kernel_rfl) .i32 (by kernel_rfl) (y := 1) hc hz
  have hc' : (w.setCell a (.int .i32 1)).cell? a = some (.int .i32 1) := World.cell?_setCell_same w a _ hc
  have hcv := run_convert_to_unsafe (P := Tryd.prog) (src := 130) (dst := 125) Tryd.underlying130 Tryd.underlying125 (by kernel_rfl) hc'
  go_enter Tryd.func76, Tryd.ntmps76
  go_wp2
  first | go_end0 | (simp only [Exit.inBlock, Exit.then]; refine bodyPost_ret (results_none rfl _ _ _) rfl ?_) | refine bodyPost_ret (results_none rfl _ _ _) rfl ?_
  go_wp2
  go_end0
  exact ⟨rfl, rfl⟩

theorem load_bool (a : Addr) (v : Int) (w : World) (hc : w.cell? a = some (.int .u32 v)) : Calls Tryd.prog 69 #[.pointer (some a)] w fun e w' => e = .returned (.bool (v != 0)) ∧ w = w' := by
  have hl := run_call_load (P := Tryd.prog) Tryd.func75 (by kernel_rfl) (by kernel_rfl) (by kernel_rfl) .u32 (by kernel_rfl) hc
  go_enter Tryd.func69, Tryd.ntmps69
  go_wp2
  go_ret
  exact ⟨rfl, rfl⟩

theorem ownsMap_setCell {w : World} {P : Program} {k : TypeId} {R : Value → Option (DataW Unit × List MemPlace)} {b n : Nat} {D : DataW Unit} (h : w.ownsMap P k R b n D) {a : Addr} (ha : b ≠ a.block) (v : Value) : (w.setCell a v).ownsMap P k R b n D := by
  obtain ⟨es, clock, hb, F, hs, hD⟩ := h
  exact ⟨es, clock, (Below.heap_setCell _ _ _ _ ha).trans hb, F, hs, hD⟩
/-- A page that is built, its map in block m. -/
structure Ready (w : World) (b : Nat) (num : Int) (m : Nat) : Prop where
  page : ∃ se, PageIn w b num 1 0 se (signsL num) (.map (some m))
  map : w.ownsMap (H := Unit) Tryd.prog 21 (plainElem Tryd.prog 5) m 256 (mapD (signsL num) 256)
  lt : b < m

/-- The page is ready, and nothing below it has turned. -/
def Readied (b : Nat) (num : Int) (w : World) (e : Ending) (w' : World) : Prop := e = .returned (.tuple #[]) ∧ (∃ m, Ready w' b num m) ∧ But b w w'

set_option maxRecDepth 100000 in
set_option maxHeartbeats 1600000 in
theorem slow_walk (b : Nat) (num se : Int) (S : List Int) (cv : Value) (w : World) (hP : PageIn w b num 0 0 se S cv) (hnum : num ∈ pagesL) :
    Calls Tryd.prog 70 #[.pointer (some ⟨b, 1, none⟩), .func (.func 56) #[.pointer (some ⟨b, 0, none⟩)] #[]] w (Readied b num w) := by
  have h1 := hP.putState 1
  have HB := hid (build_walk b num 0 1 se S cv _ h1 hnum)
  have hs := hP.state
  have hf := hP.frozen 2
  have hd := h1.done
  have HP := hid hP
  have HN := hid hnum
  clear hP h1 hnum
  have hnot : ∀ (x : Bool) (w : World), (Op.unary .not (.bool x)).run Tryd.prog w = .ok (.bool (!x)) w := fun _ _ => rfl
  go_enter_defers Tryd.func70, Tryd.ntmps70
  go_wp2_with (first
    | (go_at_call 76; refine (lock_free ⟨b, 2, none⟩ _ (by go_simp) (by go_simp)).mono ?_; rintro e w' ⟨rfl, rfl⟩)
    | (go_at_call 69; refine (load_bool ⟨b, 1, none⟩ 0 _ hd).mono ?_; rintro e w' ⟨rfl, rfl⟩)
    | (go_at_call 56; refine HB.out.mono ?_; rintro e w2 ⟨rfl, m, H2, HO, HL, hbm, _⟩))
  refine leaves_cons (f := 78) (args := #[.pointer (some ⟨b, 1, none⟩), .bool true]) (by simp) (by simp [go_sem]) ?_
  refine (store_deferred ⟨b, 1, none⟩ (.int .u32 0) .returning _ H2.done (H2.frozen 1)).mono ?_
  rintro e u' w3 ⟨rfl, rfl, rfl⟩
  have H3 := (PageIn.of_heap (w' := w2.drew) H2 rfl).putDone 1
  refine leaves_cons (f := 77) (args := #[.pointer (some ⟨b, 2, none⟩)]) (by simp [settle]) (by simp [go_sem]) ?_
  refine (unlock_deferred ⟨b, 2, none⟩ _ _ H3.state (H3.frozen 2)).mono ?_
  rintro e u' w4 ⟨rfl, rfl, rfl⟩
  have H4 := H3.putState 0
  have HO4 := ownsMap_setCell (ownsMap_setCell HO.drew (a := ⟨b, 1, none⟩) (by simp; omega) (.int .u32 1)) (a := ⟨b, 2, none⟩) (by simp; omega) (.int .i32 0)
  have HB4 : But b w (((w2.drew.setCell ⟨b, 1, none⟩ (.int .u32 1))).setCell ⟨b, 2, none⟩ (.int .i32 0)) :=
    (((((But.refl b w).setCell (p := ⟨b, 2, none⟩) rfl _).trans HL).drew).setCell (p := ⟨b, 1, none⟩) rfl _).setCell (p := ⟨b, 2, none⟩) rfl _
  have fin : Readied b num w (.returned (.tuple #[])) (((w2.drew.setCell ⟨b, 1, none⟩ (.int .u32 1))).setCell ⟨b, 2, none⟩ (.int .i32 0)) := ⟨rfl, ⟨m, ⟨⟨se, H4⟩, HO4, hbm⟩⟩, HB4⟩
  simp [Leaves, settle, results, Tryd.results70]
  exact fin

set_option maxRecDepth 100000 in
set_option maxHeartbeats 1600000 in
/-- Do, not yet done. -/
theorem do_first (b : Nat) (num se : Int) (S : List Int) (cv : Value) (w : World) (hP : PageIn w b num 0 0 se S cv) (hnum : num ∈ pagesL) :
    Calls Tryd.prog 55 #[.pointer (some ⟨b, 1, none⟩), .func (.func 56) #[.pointer (some ⟨b, 0, none⟩)] #[]] w (Readied b num w) := by
  have HS := hid (slow_walk b num se S cv w hP hnum)
  have hd := hP.done
  clear hP hnum
  have hnot : ∀ (x : Bool) (w : World), (Op.unary .not (.bool x)).run Tryd.prog w = .ok (.bool (!x)) w := fun _ _ => rfl
  go_enter Tryd.func55, Tryd.ntmps55
  go_wp2_with (first
    | (go_at_call 69; refine (load_bool ⟨b, 1, none⟩ 0 _ hd).mono ?_; rintro e w' ⟨rfl, rfl⟩)
    | (go_at_call 70; refine HS.out.mono ?_; rintro e w' ⟨rfl, hR, hB⟩))
  go_end0
  exact ⟨rfl, hR, hB⟩

/-- Do, done already. -/
theorem do_done (b : Nat) (num : Int) (m : Nat) (fv : Value) (w : World) (hR : Ready w b num m) :
    Calls Tryd.prog 55 #[.pointer (some ⟨b, 1, none⟩), fv] w fun e w' => e = .returned (.tuple #[]) ∧ w = w' := by
  obtain ⟨se, hP⟩ := hR.page
  have hd := hP.done
  clear hP hR
  have hnot : ∀ (x : Bool) (w : World), (Op.unary .not (.bool x)).run Tryd.prog w = .ok (.bool (!x)) w := fun _ _ => rfl
  go_enter Tryd.func55, Tryd.ntmps55
  go_wp2_with (go_at_call 69; refine (load_bool ⟨b, 1, none⟩ 1 _ hd).mono ?_; rintro e w' ⟨rfl, rfl⟩)
  go_end0
  exact ⟨rfl, rfl⟩

/-- A page, built or not yet. -/
def Page (w : World) (b : Nat) (num : Int) : Prop := num ∈ pagesL ∧ ((∃ se S cv, PageIn w b num 0 0 se S cv) ∨ ∃ m, Ready w b num m)
theorem do_any (b : Nat) (num : Int) (w : World) (hP : Page w b num) :
    Calls Tryd.prog 55 #[.pointer (some ⟨b, 1, none⟩), .func (.func 56) #[.pointer (some ⟨b, 0, none⟩)] #[]] w (Readied b num w) := by
  rcases hP with ⟨hn, ⟨se, S, cv, h⟩ | ⟨m, h⟩⟩
  · exact do_first b num se S cv w h hn
  · exact (do_done b num m _ w h).mono fun e w' ⟨he, hw⟩ => ⟨he, ⟨m, hw ▸ h⟩, hw ▸ But.refl _ _⟩
end Go.Proofs.YtadoiplfglaonaaDoor
