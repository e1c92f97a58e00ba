/-
  The reference's Plain: an act without what its kind has not.
-/
import Derived.Test.YtdpgmepblmlaaaaDoorRv
namespace Go.Proofs.YtdpgmepblmlaaaaDoor
open Go.RowKit Go.Lib Go.Deep

/-- An act without what its kind has not. -/
def plainF (a : AcD) : AcD :=
  if a.kind = 2 then ⟨a.kind, 0, 0, false, a.req, a.codes, []⟩
  else if a.kind = 3 then ⟨a.kind, a.cmd, 0, false, 0, [], []⟩
  else if a.kind = 4 then ⟨a.kind, 0, 0, a.alt, 0, [], []⟩
  else if a.kind = 5 then ⟨a.kind, 0, a.mode, false, 0, [], []⟩
  else if a.kind = 9 then ⟨a.kind, 0, 0, false, 0, [], a.rcd⟩
  else ⟨a.kind, 0, 0, false, 0, [], []⟩
def fewF (a : AcD) : AcD := ⟨a.kind, a.cmd, a.mode, a.alt, a.req, a.codes.take 20, a.rcd.take 300⟩
/-- An act whose bytes can be read, and nothing older has changed. -/
def RdA (a : AcD) (w : World) (e : Ending) (w' : World) : Prop := ∃ cv rv, e = .returned (acV a cv rv) ∧ Reads w' cv a.codes ∧ Reads w' rv a.rcd ∧ Below w.heap.size w w'
set_option maxRecDepth 100000 in
set_option maxHeartbeats 4000000 in
theorem plain_any (a : AcD) (cv rv : Value) (w : World) (h1 : Reads w cv a.codes) (h2 : Reads w rv a.rcd) : Calls Tryd.prog 29 #[acV a cv rv] w (RdA (plainF a) w) := by
  obtain ⟨k, cd, md, al, rq, cs, rs⟩ := a
  unfold acV
  dsimp only at h1 h2 ⊢
  have HC := hid (fun W (hW : Below w.heap.size w W) => reads_below h1 hW)
  have HR := hid (fun W (hW : Below w.heap.size w W) => reads_below h2 hW)
  have HN := hid (fun W (_ : Below w.heap.size w W) => reads_nil W)
  obtain ⟨x1, c1, rfl⟩ := reads_sl h1
  obtain ⟨x2, c2, rfl⟩ := reads_sl h2
  clear h1 h2
  obtain ⟨n1, hn1⟩ : ∃ n, cs.length = n := ⟨_, rfl⟩
  obtain ⟨n2, hn2⟩ : ∃ n, rs.length = n := ⟨_, rfl⟩
  rw [hn1] at HC ⊢
  rw [hn2] at HR ⊢
  clear hn1 hn2
  by_cases e2 : k = 2
  · rw [show plainF ⟨k, cd, md, al, rq, cs, rs⟩ = ⟨k, 0, 0, false, rq, cs, []⟩ by simp [plainF, e2]]
    subst e2
    go_enter Tryd.func29, Tryd.ntmps29
    go_wp2
    go_region
    all_goals go_wp2
    all_goals
      refine bodyPost_ret (v := .agg #[.int .i64 2, .int .i64 0, .int .i64 0, .bool false, .int .u8 rq, .slice x1 n1 c1, .slice none 0 0]) (by simp [results, Tryd.results29, go_sem]) rfl ?_
      refine (fun hB3 => ⟨_, _, rfl, HC.out _ hB3, HN.out _ hB3, hB3⟩) ?_
      first | exact (bal (bal (bal (Below.refl _ _) _) _) _).drew | exact bal (bal (bal (Below.refl _ _) _) _) _
  have f2 : (k == 2) = false := by simpa using e2
  by_cases e3 : k = 3
  · rw [show plainF ⟨k, cd, md, al, rq, cs, rs⟩ = ⟨k, cd, 0, false, 0, [], []⟩ by simp [plainF, e3]]
    subst e3
    go_enter Tryd.func29, Tryd.ntmps29
    go_wp2
    refine bodyPost_ret (v := .agg #[.int .i64 3, .int .i64 cd, .int .i64 0, .bool false, .int .u8 0, .slice none 0 0, .slice none 0 0]) (by simp [results, Tryd.results29, go_sem]) rfl ?_
    refine (fun hB3 => ⟨_, _, rfl, HN.out _ hB3, HN.out _ hB3, hB3⟩) ?_
    first | exact (bal (bal (bal (Below.refl _ _) _) _) _).drew | exact bal (bal (bal (Below.refl _ _) _) _) _
  have f3 : (k == 3) = false := by simpa using e3
  by_cases e4 : k = 4
  · rw [show plainF ⟨k, cd, md, al, rq, cs, rs⟩ = ⟨k, 0, 0, al, 0, [], []⟩ by simp [plainF, e4]]
    subst e4
    go_enter Tryd.func29, Tryd.ntmps29
    go_wp2
    refine bodyPost_ret (v := .agg #[.int .i64 4, .int .i64 0, .int .i64 0, .bool al, .int .u8 0, .slice none 0 0, .slice none 0 0]) (by simp [results, Tryd.results29, go_sem]) rfl ?_
    refine (fun hB3 => ⟨_, _, rfl, HN.out _ hB3, HN.out _ hB3, hB3⟩) ?_
    first | exact (bal (bal (bal (Below.refl _ _) _) _) _).drew | exact bal (bal (bal (Below.refl _ _) _) _) _
  have f4 : (k == 4) = false := by simpa using e4
  by_cases e5 : k = 5
  · rw [show plainF ⟨k, cd, md, al, rq, cs, rs⟩ = ⟨k, 0, md, false, 0, [], []⟩ by simp [plainF, e5]]
    subst e5
    go_enter Tryd.func29, Tryd.ntmps29
    go_wp2
    refine bodyPost_ret (v := .agg #[.int .i64 5, .int .i64 0, .int .i64 md, .bool false, .int .u8 0, .slice none 0 0, .slice none 0 0]) (by simp [results, Tryd.results29, go_sem]) rfl ?_
    refine (fun hB3 => ⟨_, _, rfl, HN.out _ hB3, HN.out _ hB3, hB3⟩) ?_
    first | exact (bal (bal (bal (Below.refl _ _) _) _) _).drew | exact bal (bal (bal (Below.refl _ _) _) _) _
  have f5 : (k == 5) = false := by simpa using e5
  by_cases e9 : k = 9
  · rw [show plainF ⟨k, cd, md, al, rq, cs, rs⟩ = ⟨k, 0, 0, false, 0, [], rs⟩ by simp [plainF, e9]]
    subst e9
    go_enter Tryd.func29, Tryd.ntmps29
    go_wp2
    refine bodyPost_ret (v := .agg #[.int .i64 9, .int .i64 0, .int .i64 0, .bool false, .int .u8 0, .slice none 0 0, .slice x2 n2 c2]) (by simp [results, Tryd.results29, go_sem]) rfl ?_
    refine (fun hB3 => ⟨_, _, rfl, HN.out _ hB3, HR.out _ hB3, hB3⟩) ?_
    first | exact (bal (bal (bal (Below.refl _ _) _) _) _).drew | exact bal (bal (bal (Below.refl _ _) _) _) _
  have f9 : (k == 9) = false := by simpa using e9
  rw [show plainF ⟨k, cd, md, al, rq, cs, rs⟩ = ⟨k, 0, 0, false, 0, [], []⟩ by simp [plainF, e2, e3, e4, e5, e9]]
  go_enter Tryd.func29, Tryd.ntmps29
  go_wp2
  refine bodyPost_ret (v := .agg #[.int .i64 k, .int .i64 0, .int .i64 0, .bool false, .int .u8 0, .slice none 0 0, .slice none 0 0]) (by simp [results, Tryd.results29, go_sem]) rfl ?_
  refine (fun hB3 => ⟨_, _, rfl, HN.out _ hB3, HN.out _ hB3, hB3⟩) ?_
  first | exact (bal (bal (bal (Below.refl _ _) _) _) _).drew | exact bal (bal (bal (Below.refl _ _) _) _) _
end Go.Proofs.YtdpgmepblmlaaaaDoor
