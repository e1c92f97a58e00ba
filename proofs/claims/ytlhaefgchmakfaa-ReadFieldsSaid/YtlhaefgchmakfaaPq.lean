/-
  The reference's names of orders.
-/
import Derived.Test.YtlhaefgchmakfaaPp
import Derived.Test.YtlhaefgchmakfaaPl
namespace Go.Proofs.Ytlhaefgchmakfaa
open Go.RowKit Go.Lib

def kindL : List Int := [0, 5, 8, 17, 18, 19, 29, 40, 41, 44, 60]
def nameL : List ByteArray := [(⟨#[84, 101, 120, 116]⟩ : ByteArray), (⟨#[80, 84]⟩ : ByteArray), (⟨#[71, 69]⟩ : ByteArray), (⟨#[83, 66, 65]⟩ : ByteArray), (⟨#[69, 85, 65]⟩ : ByteArray), (⟨#[73, 67]⟩ : ByteArray), (⟨#[83, 70]⟩ : ByteArray), (⟨#[83, 65]⟩ : ByteArray), (⟨#[83, 70, 69]⟩ : ByteArray), (⟨#[77, 70]⟩ : ByteArray), (⟨#[82, 65]⟩ : ByteArray)]
theorem nameV_at : ∀ k, k < 11 → nameV (kindL.getD k 0) = nameL.getD k ⟨#[]⟩ := by
  intro k hk
  match k, hk with
  | 0, _ => rfl
  | 1, _ => rfl
  | 2, _ => rfl
  | 3, _ => rfl
  | 4, _ => rfl
  | 5, _ => rfl
  | 6, _ => rfl
  | 7, _ => rfl
  | 8, _ => rfl
  | 9, _ => rfl
  | 10, _ => rfl
theorem nameV_none {k : Int} (h : ∀ j, j < 11 → kindL.getD j 0 ≠ k) : nameV k = ⟨#[]⟩ := by
  have h0 : k ≠ 0 := fun e => h 0 (by omega) e.symm
  have h1 : k ≠ 5 := fun e => h 1 (by omega) e.symm
  have h2 : k ≠ 8 := fun e => h 2 (by omega) e.symm
  have h3 : k ≠ 17 := fun e => h 3 (by omega) e.symm
  have h4 : k ≠ 18 := fun e => h 4 (by omega) e.symm
  have h5 : k ≠ 19 := fun e => h 5 (by omega) e.symm
  have h6 : k ≠ 29 := fun e => h 6 (by omega) e.symm
  have h7 : k ≠ 40 := fun e => h 7 (by omega) e.symm
  have h8 : k ≠ 41 := fun e => h 8 (by omega) e.symm
  have h9 : k ≠ 44 := fun e => h 9 (by omega) e.symm
  have h10 : k ≠ 60 := fun e => h 10 (by omega) e.symm
  unfold nameV
  simp only [h0, h1, h2, h3, h4, h5, h6, h7, h8, h9, h10, if_false]
set_option maxRecDepth 100000 in
set_option maxHeartbeats 2000000 in
theorem rname_any (kd : Int) (w : World) : Calls Try.prog 88 #[.int .i64 kd] w fun e w' => e = .returned (.string (nameV kd)) ∧ Below w.heap.size w w' := by
  have HCC : ∀ k, k < 11 → ((w.alloc (.cells #[.string ⟨#[84, 101, 120, 116]⟩, .string ⟨#[80, 84]⟩, .string ⟨#[71, 69]⟩, .string ⟨#[83, 66, 65]⟩, .string ⟨#[69, 85, 65]⟩, .string ⟨#[73, 67]⟩, .string ⟨#[83, 70]⟩, .string ⟨#[83, 65]⟩, .string ⟨#[83, 70, 69]⟩, .string ⟨#[77, 70]⟩, .string ⟨#[82, 65]⟩] 9)).alloc (.cells #[.int .i64 0, .int .i64 5, .int .i64 8, .int .i64 17, .int .i64 18, .int .i64 19, .int .i64 29, .int .i64 40, .int .i64 41, .int .i64 44, .int .i64 60] 3)).cell? ⟨w.heap.size, k, none⟩ = some (.string (nameL.getD k ⟨#[]⟩)) ∧ ((w.alloc (.cells #[.string ⟨#[84, 101, 120, 116]⟩, .string ⟨#[80, 84]⟩, .string ⟨#[71, 69]⟩, .string ⟨#[83, 66, 65]⟩, .string ⟨#[69, 85, 65]⟩, .string ⟨#[73, 67]⟩, .string ⟨#[83, 70]⟩, .string ⟨#[83, 65]⟩, .string ⟨#[83, 70, 69]⟩, .string ⟨#[77, 70]⟩, .string ⟨#[82, 65]⟩] 9)).alloc (.cells #[.int .i64 0, .int .i64 5, .int .i64 8, .int .i64 17, .int .i64 18, .int .i64 19, .int .i64 29, .int .i64 40, .int .i64 41, .int .i64 44, .int .i64 60] 3)).cell? ⟨w.heap.size + 1, k, none⟩ = some (.int .i64 (kindL.getD k 0)) := by
    intro k hk
    match k, hk with
    | 0, _ => exact ⟨by simp [go_sem]; rfl, by simp [go_sem]; rfl⟩
    | 1, _ => exact ⟨by simp [go_sem]; rfl, by simp [go_sem]; rfl⟩
    | 2, _ => exact ⟨by simp [go_sem]; rfl, by simp [go_sem]; rfl⟩
    | 3, _ => exact ⟨by simp [go_sem]; rfl, by simp [go_sem]; rfl⟩
    | 4, _ => exact ⟨by simp [go_sem]; rfl, by simp [go_sem]; rfl⟩
    | 5, _ => exact ⟨by simp [go_sem]; rfl, by simp [go_sem]; rfl⟩
    | 6, _ => exact ⟨by simp [go_sem]; rfl, by simp [go_sem]; rfl⟩
    | 7, _ => exact ⟨by simp [go_sem]; rfl, by simp [go_sem]; rfl⟩
    | 8, _ => exact ⟨by simp [go_sem]; rfl, by simp [go_sem]; rfl⟩
    | 9, _ => exact ⟨by simp [go_sem]; rfl, by simp [go_sem]; rfl⟩
    | 10, _ => exact ⟨by simp [go_sem]; rfl, by simp [go_sem]; rfl⟩
  have HB := hid (bal (bal (Below.refl w.heap.size w) (.cells #[.string ⟨#[84, 101, 120, 116]⟩, .string ⟨#[80, 84]⟩, .string ⟨#[71, 69]⟩, .string ⟨#[83, 66, 65]⟩, .string ⟨#[69, 85, 65]⟩, .string ⟨#[73, 67]⟩, .string ⟨#[83, 70]⟩, .string ⟨#[83, 65]⟩, .string ⟨#[83, 70, 69]⟩, .string ⟨#[77, 70]⟩, .string ⟨#[82, 65]⟩] 9)) (.cells #[.int .i64 0, .int .i64 5, .int .i64 8, .int .i64 17, .int .i64 18, .int .i64 19, .int .i64 29, .int .i64 40, .int .i64 41, .int .i64 44, .int .i64 60] 3))
  have HAT := hid nameV_at
  have HNO := hid (fun h => nameV_none (k := kd) h)
  go_enter Try.func88, Try.ntmps88
  go_wp2
  generalize (w.alloc (.cells #[.string ⟨#[84, 101, 120, 116]⟩, .string ⟨#[80, 84]⟩, .string ⟨#[71, 69]⟩, .string ⟨#[83, 66, 65]⟩, .string ⟨#[69, 85, 65]⟩, .string ⟨#[73, 67]⟩, .string ⟨#[83, 70]⟩, .string ⟨#[83, 65]⟩, .string ⟨#[83, 70, 69]⟩, .string ⟨#[77, 70]⟩, .string ⟨#[82, 65]⟩] 9)).alloc (.cells #[.int .i64 0, .int .i64 5, .int .i64 8, .int .i64 17, .int .i64 18, .int .i64 19, .int .i64 29, .int .i64 40, .int .i64 41, .int .i64 44, .int .i64 60] 3) = W at HCC HB ⊢
  obtain ⟨g, hg⟩ : ∃ g, g = w.heap.size + 1 := ⟨_, rfl⟩
  obtain ⟨g0, hg0⟩ : ∃ g0, g0 = w.heap.size := ⟨_, rfl⟩
  rw [← hg, ← hg0] at HCC
  rw [← hg, ← hg0]
  have HC := hid HCC
  clear HCC hg hg0
  go_loop [9] (fun i => ∃ k : Nat, k ≤ 11 ∧ i = .int .i64 k ∧ Hid (∀ j, j < k → kindL.getD j 0 ≠ kd)) (fun i => 11 - (intOf i).toNat)
  case atStart => exact ⟨0, Nat.zero_le _, rfl, fun j h => absurd h (Nat.not_lt_zero _)⟩
  case round =>
    obtain ⟨k, hk, rfl, HN⟩ := hrel
    by_cases hlt : k < 11
    · obtain ⟨hc1, hc2⟩ := HC.out k hlt
      have hki : (k : Int) < 11 := by omega
      have HA1 := hid (HAT.out k hlt)
      generalize nameL.getD k ⟨#[]⟩ = nm at hc1 HA1
      obtain ⟨x, hx⟩ : ∃ x, x = kindL.getD k 0 := ⟨_, rfl⟩
      rw [← hx] at hc2 HA1
      by_cases hv : x = kd
      · subst hv
        clear hx
        go_wp2
        go_ret
        exact ⟨congrArg (fun z => Ending.returned (.string z)) HA1.out.symm, HB.out⟩
      · have HX := hid hx
        have e1 : (x == kd) = false := by simpa using hv
        clear hx
        go_wp2
        go_round
        case rel =>
          refine ⟨k + 1, by omega, by go_num, fun j hj => ?_⟩
          by_cases hjk : j = k
          · rw [hjk, ← HX.out]; exact hv
          · exact HN.out j (by omega)
        case measure => simp [intOf]; omega
    · have HR := hid (HNO.out (fun j hj => HN.out j (by omega)))
      go_wp2
      go_ret
      exact ⟨congrArg (fun z => Ending.returned (.string z)) HR.out.symm, HB.out⟩
theorem full_name {b : Int} (h : isO b = true) : (!(nameV b).toList.isEmpty) = true := by
  rcases isO_yes h with rfl | rfl | rfl | rfl | rfl | rfl | rfl | rfl | rfl | rfl <;> (rw [ByteArray.toList_eq]; rfl)
theorem no_name {b : Int} (h : isO b = false) (h0 : b ≠ 0) : (!(nameV b).toList.isEmpty) = false := by
  rw [nameV_no h h0, ByteArray.toList_eq]; rfl
set_option maxRecDepth 100000 in
set_option maxHeartbeats 2000000 in
theorem ris_any (b : Nat) (hb : b < 256) (w : World) : Calls Try.prog 60 #[.int .u8 b] w fun e w' => e = .returned (.bool (isO b)) ∧ Below w.heap.size w w' := by
  by_cases h0 : b = 0
  · subst h0
    go_enter Try.func60, Try.ntmps60
    go_wp2
    go_ret
    exact ⟨rfl, Below.refl _ _⟩
  · have h1 : (b : Int) ≠ 0 := by omega
    have H := hid (fun w => rname_any (b : Int) w)
    have HV := hid (show (!(nameV b).toList.isEmpty) = isO b by
      cases h : isO b
      · exact no_name h h1
      · exact full_name h)
    have e0 : ((b : Int) == 0) = false := by simpa using h1
    have e1 : ((b : Int) != 0) = true := by simpa using h1
    generalize nameV (b : Int) = nm at H HV
    generalize isO (b : Int) = bo at HV ⊢
    clear h0 h1
    go_enter Try.func60, Try.ntmps60
    go_wp2_with fail
    with_reducible refine (H.out _).mono ?_
    rintro e w1 ⟨rfl, hb1⟩
    have HB1 := hid hb1
    clear hb1
    go_wp2
    go_ret
    exact ⟨congrArg (fun x => Ending.returned (.bool x)) HV.out, HB1.out⟩
end Go.Proofs.Ytlhaefgchmakfaa
