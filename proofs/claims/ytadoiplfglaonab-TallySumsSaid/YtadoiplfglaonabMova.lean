/-
  The calls on a tally, and which block they turn: the counts' alone.
-/
import Derived.Test.YtadoiplfglaonabAdda
namespace Go.Proofs.Ytadoiplfglaonab
open Go.RowKit Go.Shelf Go.Deep Go.Lib

section
variable {P : Program} {f : Nat} {fn : Func}
theorem run_call_swap (hf : P.funcs[f]? = some fn) (hname : (fn.name == "runtime.NumGoroutine") = false) (hb : fn.body.isNone = true) (hn : Extern.findNext fn = none) (k : IntKind)
    (he : Extern.find fn = some (Extern.Atomic.swapT (.int k))) {a : Addr} {x y : Int} {w : World} (hc : w.cell? a = some (.int k x)) (hz : w.frozen? a = false) :
    (callFunc f #[.pointer (some a), .int k y]).run P w = .ok (.value (.int k x)) (w.setCell a (.int k y)) := by
  rw [run_callFunc_extern hf hname hb hn he]
  change (Sem.run P (do
    let a' ← asAddr (.pointer (some a))
    let old ← Extern.Atomic.read (.int k) a'
    store a' (.int k y) .atomic
    pure old) w).andThen _ = _
  simp [Extern.Atomic.read, asAddr, hc, hz, run_store P w a (.int k y) .atomic rfl, Result.andThen]
end
theorem atomic_swap (a : Addr) (c n : Int) (w : World) (hc : w.cell? a = some (.int .u64 c)) (hz : w.frozen? a = false) :
    Calls Try.prog 30 #[.pointer (some a), .int .u64 n] w fun e w' => e = .returned (.int .u64 c) ∧ w' = w.setCell a (.int .u64 n) := by
  have hl := run_call_swap (P := Try.prog) Try.func39 (by kernel_rfl) (by kernel_rfl) (by kernel_rfl) .u64 (by kernel_rfl) (y := n) hc hz
  go_enter Try.func30, Try.ntmps30
  go_wp2
  go_ret
  exact ⟨rfl, rfl⟩
theorem atomic_store (a : Addr) (c n : Int) (w : World) (hc : w.cell? a = some (.int .u64 c)) (hz : w.frozen? a = false) :
    Calls Try.prog 26 #[.pointer (some a), .int .u64 n] w fun e w' => e = .returned (.tuple #[]) ∧ w' = w.setCell a (.int .u64 n) := by
  have hl := run_call_store (P := Try.prog) Try.func35 (by kernel_rfl) (by kernel_rfl) (by kernel_rfl) (by kernel_rfl) (k := .u64) (y := n) hc hz
  go_enter Try.func26, Try.ntmps26
  go_wp2
  first | go_end0 | refine bodyPost_ret (results_none rfl _ _ _) rfl ?_
  exact ⟨rfl, rfl⟩

theorem grown_put (w : World) (q g j : Nat) (c : Value) : w.grownBy ((w.drewN q).setCell ⟨g, j, none⟩ c) (some g) := ⟨rfl, rfl, rfl, by simp [World.setCell], fun i _ hi => Below.heap_setCell (w.drewN q) _ _ _ (fun e => hi (by rw [e]))⟩
theorem grown_dr (w : World) (q : Nat) (row : Option Nat) : w.grownBy (w.drewN q) row := ⟨rfl, rfl, rfl, Nat.le_refl _, fun _ _ _ => rfl⟩
section
variable {B t : Nat} {vn : Value} {g : Nat} {ts : List (List UInt8)} {cs : List Int}
/-- A call on a tally has answered, the counts are now so, and no other block has turned. -/
def DoneG (v : Value) (B t : Nat) (vn : Value) (g : Nat) (ts : List (List UInt8)) (cs : List Int) (w : World) (e : Ending) (w' : World) : Prop := e = .returned v ∧ TallyIn w' B t vn g ts cs ∧ w.grownBy w' (some g)
theorem TallyIn.same {w : World} (hT : TallyIn w B t vn g ts cs) (v : Value) : ∀ q, DoneG v B t vn g ts cs w (.returned v) (w.drewN q) := fun q => ⟨rfl, hT.drewN q, grown_dr w q _⟩
theorem TallyIn.turned {w : World} (hT : TallyIn w B t vn g ts cs) (j : Nat) (n : Int) (v : Value) : ∀ q, DoneG v B t vn g ts (cs.set j n) w (.returned v) ((w.drewN q).setCell ⟨g, j, none⟩ (.int .u64 n)) := fun q =>
  ⟨rfl, (hT.drewN q).put j _, grown_put w q g j _⟩
set_option maxRecDepth 100000 in
theorem add_g (x : ByteArray) (n : Int) (w : World) (hT : TallyIn w B t vn g ts cs) (j : Nat) (hj : j < ts.length) (hx : ts.getD j [] = x.data.toList) :
    Calls Try.prog 17 #[.pointer (some ⟨t, 0, none⟩), .string x, .int .u64 n] w (DoneG (.bool true) B t vn g ts (cs.set j ((cs.getD j 0 + n) % 18446744073709551616)) w) := by
  have HC := hid (count_found x w hT j hj hx)
  obtain ⟨h1, h2⟩ := hT.count hj
  have FIN := hid (hT.turned j ((cs.getD j 0 + n) % 18446744073709551616) (.bool true))
  obtain ⟨c, hcc⟩ : ∃ c, c = cs.getD j 0 := ⟨_, rfl⟩
  rw [← hcc] at h1 FIN ⊢
  clear hT hj hx hcc
  go_enter Try.func17, Try.ntmps17
  go_wp2_with (first | (go_at_call 25; refine HC.out.mono ?_; rintro e w' ⟨rfl, q, rfl⟩) | (go_at_call 27; refine (atomic_add _ c n _ (by simpa using h1) (by simpa using h2)).mono ?_; rintro e w' ⟨rfl, rfl⟩))
  go_ret
  exact FIN.out _
theorem add_no (x : ByteArray) (n : Int) (w : World) (hT : TallyIn w B t vn g ts cs) (hx : x.data.toList ∉ ts) :
    Calls Try.prog 17 #[.pointer (some ⟨t, 0, none⟩), .string x, .int .u64 n] w (DoneG (.bool false) B t vn g ts cs w) := by
  have HC := hid (count_none x w hT hx)
  have FIN := hid (hT.same (.bool false))
  clear hT hx
  go_enter Try.func17, Try.ntmps17
  go_wp2_with (go_at_call 25; refine HC.out.mono ?_; rintro e w' ⟨rfl, q, rfl⟩)
  go_ret
  exact FIN.out _
theorem get_g (x : ByteArray) (w : World) (hT : TallyIn w B t vn g ts cs) (j : Nat) (hj : j < ts.length) (hx : ts.getD j [] = x.data.toList) :
    Calls Try.prog 20 #[.pointer (some ⟨t, 0, none⟩), .string x] w (DoneG (.int .u64 (cs.getD j 0)) B t vn g ts cs w) := by
  have HC := hid (count_found x w hT j hj hx)
  obtain ⟨h1, _⟩ := hT.count hj
  have FIN := hid (hT.same (.int .u64 (cs.getD j 0)))
  obtain ⟨c, hcc⟩ : ∃ c, c = cs.getD j 0 := ⟨_, rfl⟩
  rw [← hcc] at h1 FIN ⊢
  clear hT hj hx hcc
  go_enter Try.func20, Try.ntmps20
  go_wp2_with (first | (go_at_call 25; refine HC.out.mono ?_; rintro e w' ⟨rfl, q, rfl⟩) | (go_at_call 28; refine (atomic_load _ c _ (by simpa using h1)).mono ?_; rintro e w' ⟨rfl, rfl⟩))
  go_ret
  exact FIN.out _
theorem get_no (x : ByteArray) (w : World) (hT : TallyIn w B t vn g ts cs) (hx : x.data.toList ∉ ts) :
    Calls Try.prog 20 #[.pointer (some ⟨t, 0, none⟩), .string x] w (DoneG (.int .u64 0) B t vn g ts cs w) := by
  have HC := hid (count_none x w hT hx)
  have FIN := hid (hT.same (.int .u64 0))
  clear hT hx
  go_enter Try.func20, Try.ntmps20
  go_wp2_with (go_at_call 25; refine HC.out.mono ?_; rintro e w' ⟨rfl, q, rfl⟩)
  go_ret
  exact FIN.out _
theorem take_g (x : ByteArray) (w : World) (hT : TallyIn w B t vn g ts cs) (j : Nat) (hj : j < ts.length) (hx : ts.getD j [] = x.data.toList) :
    Calls Try.prog 19 #[.pointer (some ⟨t, 0, none⟩), .string x] w (DoneG (.int .u64 (cs.getD j 0)) B t vn g ts (cs.set j 0) w) := by
  have HC := hid (count_found x w hT j hj hx)
  obtain ⟨h1, h2⟩ := hT.count hj
  have FIN := hid (hT.turned j 0 (.int .u64 (cs.getD j 0)))
  obtain ⟨c, hcc⟩ : ∃ c, c = cs.getD j 0 := ⟨_, rfl⟩
  rw [← hcc] at h1 FIN ⊢
  clear hT hj hx hcc
  go_enter Try.func19, Try.ntmps19
  go_wp2_with (first | (go_at_call 25; refine HC.out.mono ?_; rintro e w' ⟨rfl, q, rfl⟩) | (go_at_call 30; refine (atomic_swap _ c 0 _ (by simpa using h1) (by simpa using h2)).mono ?_; rintro e w' ⟨rfl, rfl⟩))
  go_ret
  exact FIN.out _
theorem take_no (x : ByteArray) (w : World) (hT : TallyIn w B t vn g ts cs) (hx : x.data.toList ∉ ts) :
    Calls Try.prog 19 #[.pointer (some ⟨t, 0, none⟩), .string x] w (DoneG (.int .u64 0) B t vn g ts cs w) := by
  have HC := hid (count_none x w hT hx)
  have FIN := hid (hT.same (.int .u64 0))
  clear hT hx
  go_enter Try.func19, Try.ntmps19
  go_wp2_with (go_at_call 25; refine HC.out.mono ?_; rintro e w' ⟨rfl, q, rfl⟩)
  go_ret
  exact FIN.out _
set_option maxRecDepth 100000 in
theorem most_g (x : ByteArray) (n : Int) (w : World) (hT : TallyIn w B t vn g ts cs) (j : Nat) (hj : j < ts.length) (hx : ts.getD j [] = x.data.toList) :
    Calls Try.prog 18 #[.pointer (some ⟨t, 0, none⟩), .string x, .int .u64 n] w (DoneG (.bool true) B t vn g ts (cs.set j (max (cs.getD j 0) n)) w) := by
  have HC := hid (count_found x w hT j hj hx)
  obtain ⟨h1, h2⟩ := hT.count hj
  have FIN := hid (hT.turned j n (.bool true))
  have FIN2 := hid (hT.same (.bool true))
  have hsame : cs.set j (cs.getD j 0) = cs := by
    rw [List.getD, List.getElem?_eq_getElem (show j < cs.length by rw [hT.size]; exact hj)]
    simp
  by_cases hle : n ≤ cs.getD j 0
  · rw [Int.max_eq_left hle, hsame]
    obtain ⟨c, hcc⟩ : ∃ c, c = cs.getD j 0 := ⟨_, rfl⟩
    rw [← hcc] at h1 hle
    clear hT hj hx hcc hsame FIN
    go_enter Try.func18, Try.ntmps18
    go_wp2_with (go_at_call 25; refine HC.out.mono ?_; rintro e w' ⟨rfl, q, rfl⟩)
    go_loop [8] (fun _ => True) (fun _ => 0)
    case atStart => trivial
    case round =>
      go_wp2_with (go_at_call 28; refine (atomic_load _ c _ (by simpa using h1)).mono ?_; rintro e w' ⟨rfl, rfl⟩)
      go_ret
      exact FIN2.out _
  · have hlt : cs.getD j 0 < n := by omega
    rw [Int.max_eq_right (by omega)]
    obtain ⟨c, hcc⟩ : ∃ c, c = cs.getD j 0 := ⟨_, rfl⟩
    rw [← hcc] at h1 hlt
    clear hT hj hx hcc hle hsame FIN2
    go_enter Try.func18, Try.ntmps18
    go_wp2_with (go_at_call 25; refine HC.out.mono ?_; rintro e w' ⟨rfl, q, rfl⟩)
    go_loop [8] (fun _ => True) (fun _ => 0)
    case atStart => trivial
    case round =>
      go_wp2_with (first | (go_at_call 28; refine (atomic_load _ c _ (by simpa using h1)).mono ?_; rintro e w' ⟨rfl, rfl⟩) | (go_at_call 29; refine (atomic_cas _ c n _ (by simpa using h1) (by simpa using h2)).mono ?_; rintro e w' ⟨rfl, rfl⟩))
      go_ret
      exact FIN.out _
theorem most_no (x : ByteArray) (n : Int) (w : World) (hT : TallyIn w B t vn g ts cs) (hx : x.data.toList ∉ ts) :
    Calls Try.prog 18 #[.pointer (some ⟨t, 0, none⟩), .string x, .int .u64 n] w (DoneG (.bool false) B t vn g ts cs w) := by
  have HC := hid (count_none x w hT hx)
  have FIN := hid (hT.same (.bool false))
  clear hT hx
  go_enter Try.func18, Try.ntmps18
  go_wp2_with (go_at_call 25; refine HC.out.mono ?_; rintro e w' ⟨rfl, q, rfl⟩)
  go_ret
  exact FIN.out _
end
end Go.Proofs.Ytadoiplfglaonab
