/-
  The names of orders, and which bytes begin one.
-/
import Derived.Test.YtjhmjjlmdmmilaaIa
namespace Go.Proofs.Ytjhmjjlmdmmilaa
open Go.RowKit Go.Lib

/-- The name of a kind. -/
def nameV (k : Int) : ByteArray := if k = 0 then ⟨#[84, 101, 120, 116]⟩ else if k = 5 then ⟨#[80, 84]⟩ else if k = 8 then ⟨#[71, 69]⟩ else if k = 17 then ⟨#[83, 66, 65]⟩ else if k = 18 then ⟨#[69, 85, 65]⟩ else if k = 19 then ⟨#[73, 67]⟩ else if k = 29 then ⟨#[83, 70]⟩ else if k = 40 then ⟨#[83, 65]⟩ else if k = 41 then ⟨#[83, 70, 69]⟩ else if k = 44 then ⟨#[77, 70]⟩ else if k = 60 then ⟨#[82, 65]⟩ else ⟨#[]⟩
set_option maxRecDepth 100000 in
set_option maxHeartbeats 2000000 in
theorem name_any (k : Int) (w : World) : Calls Try.prog 6 #[.int .i64 k] w fun e w' => e = .returned (.string (nameV k)) ∧ w = w' := by
  by_cases h0 : k = 0
  · subst h0
    go_enter Try.func6, Try.ntmps6
    go_wp2
    go_ret
    exact ⟨rfl, rfl⟩
  by_cases h5 : k = 5
  · subst h5
    go_enter Try.func6, Try.ntmps6
    go_wp2
    go_ret
    exact ⟨rfl, rfl⟩
  by_cases h8 : k = 8
  · subst h8
    go_enter Try.func6, Try.ntmps6
    go_wp2
    go_ret
    exact ⟨rfl, rfl⟩
  by_cases h17 : k = 17
  · subst h17
    go_enter Try.func6, Try.ntmps6
    go_wp2
    go_ret
    exact ⟨rfl, rfl⟩
  by_cases h18 : k = 18
  · subst h18
    go_enter Try.func6, Try.ntmps6
    go_wp2
    go_ret
    exact ⟨rfl, rfl⟩
  by_cases h19 : k = 19
  · subst h19
    go_enter Try.func6, Try.ntmps6
    go_wp2
    go_ret
    exact ⟨rfl, rfl⟩
  by_cases h29 : k = 29
  · subst h29
    go_enter Try.func6, Try.ntmps6
    go_wp2
    go_ret
    exact ⟨rfl, rfl⟩
  by_cases h40 : k = 40
  · subst h40
    go_enter Try.func6, Try.ntmps6
    go_wp2
    go_ret
    exact ⟨rfl, rfl⟩
  by_cases h41 : k = 41
  · subst h41
    go_enter Try.func6, Try.ntmps6
    go_wp2
    go_ret
    exact ⟨rfl, rfl⟩
  by_cases h44 : k = 44
  · subst h44
    go_enter Try.func6, Try.ntmps6
    go_wp2
    go_ret
    exact ⟨rfl, rfl⟩
  by_cases h60 : k = 60
  · subst h60
    go_enter Try.func6, Try.ntmps6
    go_wp2
    go_ret
    exact ⟨rfl, rfl⟩
  have hn : nameV k = ⟨#[]⟩ := by unfold nameV; simp only [h0, h5, h8, h17, h18, h19, h29, h40, h41, h44, h60, if_false]
  rw [hn]
  have e0 : (k == 0) = false := by simpa using h0
  have e5 : (k == 5) = false := by simpa using h5
  have e8 : (k == 8) = false := by simpa using h8
  have e17 : (k == 17) = false := by simpa using h17
  have e18 : (k == 18) = false := by simpa using h18
  have e19 : (k == 19) = false := by simpa using h19
  have e29 : (k == 29) = false := by simpa using h29
  have e40 : (k == 40) = false := by simpa using h40
  have e41 : (k == 41) = false := by simpa using h41
  have e44 : (k == 44) = false := by simpa using h44
  have e60 : (k == 60) = false := by simpa using h60
  clear hn h0 h5 h8 h17 h18 h19 h29 h40 h41 h44 h60
  go_enter Try.func6, Try.ntmps6
  go_wp2
  go_ret
  exact ⟨rfl, rfl⟩
theorem isO_no {b : Int} (h : isO b = false) : b ≠ 5 ∧ b ≠ 8 ∧ b ≠ 17 ∧ b ≠ 18 ∧ b ≠ 19 ∧ b ≠ 29 ∧ b ≠ 40 ∧ b ≠ 41 ∧ b ≠ 44 ∧ b ≠ 60 := by
  refine ⟨?_, ?_, ?_, ?_, ?_, ?_, ?_, ?_, ?_, ?_⟩ <;> (rintro rfl; exact absurd h (by decide))
theorem isO_yes {b : Int} (h : isO b = true) : b = 5 ∨ b = 8 ∨ b = 17 ∨ b = 18 ∨ b = 19 ∨ b = 29 ∨ b = 40 ∨ b = 41 ∨ b = 44 ∨ b = 60 := by
  simpa [isO, ordL] using h
theorem nameV_no {b : Int} (h : isO b = false) (h0 : b ≠ 0) : nameV b = ⟨#[]⟩ := by
  obtain ⟨h1, h2, h3, h4, h5, h6, h7, h8, h9, h10⟩ := isO_no h
  unfold nameV
  simp only [h0, h1, h2, h3, h4, h5, h6, h7, h8, h9, h10, if_false]
set_option maxRecDepth 100000 in
set_option maxHeartbeats 2000000 in
theorem is_hit (b : Int) (h : isO b = true) (w : World) : Calls Try.prog 8 #[.int .u8 b] w fun e w' => e = .returned (.bool true) ∧ w = w' := by
  have HV := hid (show (!(nameV b).toList.isEmpty) = true by rcases isO_yes h with rfl | rfl | rfl | rfl | rfl | rfl | rfl | rfl | rfl | rfl <;> (rw [ByteArray.toList_eq]; rfl))
  rcases isO_yes h with rfl | rfl | rfl | rfl | rfl | rfl | rfl | rfl | rfl | rfl
  all_goals
    clear h
    have H := hid (fun k => name_any k)
    go_enter Try.func8, Try.ntmps8
    go_wp2_with fail
    with_reducible refine (H.out _ _).mono ?_
    rintro e w1 ⟨rfl, rfl⟩
    go_wp2
    go_ret
    exact ⟨congrArg (fun x => Ending.returned (.bool x)) HV.out, rfl⟩
set_option maxRecDepth 100000 in
set_option maxHeartbeats 2000000 in
theorem is_miss (b : Nat) (hb : b < 256) (h : isO (b : Int) = false) (w : World) : Calls Try.prog 8 #[.int .u8 b] w fun e w' => e = .returned (.bool false) ∧ w = w' := by
  by_cases h0 : b = 0
  · subst h0
    clear h
    go_enter Try.func8, Try.ntmps8
    go_wp2
    go_ret
    exact ⟨rfl, rfl⟩
  · have h1 : (b : Int) ≠ 0 := by omega
    have H := hid (show ∀ w, Calls Try.prog 6 #[.int .i64 b] w fun e w' => e = .returned (.string ⟨#[]⟩) ∧ w = w' from fun w => by
      have q := name_any b w
      rwa [nameV_no h h1] at q)
    have e0 : ((b : Int) == 0) = false := by simpa using h1
    have e1 : ((b : Int) != 0) = true := by simpa using h1
    clear h h0 h1
    go_enter Try.func8, Try.ntmps8
    go_wp2_with fail
    with_reducible refine (H.out _).mono ?_
    rintro e w1 ⟨rfl, rfl⟩
    go_wp2
    go_ret
    exact ⟨rfl, rfl⟩
theorem is_one (b : Int) (hb : 0 ≤ b ∧ b < 256) (w : World) : Calls Try.prog 8 #[.int .u8 b] w fun e w' => e = .returned (.bool (isO b)) ∧ w = w' := by
  cases h : isO b
  · obtain ⟨n, rfl⟩ : ∃ n : Nat, b = n := ⟨b.toNat, by omega⟩
    exact is_miss n (by omega) h w
  · exact is_hit b h w
theorem tkO_ge {xs : List Int} : ∀ {k : Nat}, k ≤ (tkO xs).length → (h : k < xs.length) → isO (xs.getD k 0) = false → k + 1 ≤ (tkO xs).length := by
  induction xs with
  | nil => intro k _ h; simp at h
  | cons b r ih =>
    intro k hk h hi
    match k with
    | 0 => rw [tkO_cons (by simpa using hi)]; simp
    | k + 1 =>
      cases hb : isO b
      · rw [tkO_cons hb] at hk ⊢
        have := ih (k := k) (by simpa using hk) (by simpa using h) (by simpa using hi)
        simpa using this
      · have : tkO (b :: r) = [] := by simp [tkO, hb]
        rw [this] at hk
        simp at hk
theorem tkO_eq {xs : List Int} : ∀ {k : Nat}, k ≤ (tkO xs).length → (h : k < xs.length) → isO (xs.getD k 0) = true → (tkO xs).length = k := by
  induction xs with
  | nil => intro k _ h; simp at h
  | cons b r ih =>
    intro k hk h hi
    match k with
    | 0 =>
      have : tkO (b :: r) = [] := by simp [tkO, show isO b = true by simpa using hi]
      rw [this]; rfl
    | k + 1 =>
      cases hb : isO b
      · rw [tkO_cons hb] at hk ⊢
        have := ih (k := k) (by simpa using hk) (by simpa using h) (by simpa using hi)
        simpa using this
      · have : tkO (b :: r) = [] := by simp [tkO, hb]
        rw [this] at hk
        simp at hk
/-- Where the first order begins. -/
def IdxD (xs : List Int) (w : World) (e : Ending) (w' : World) : Prop := ∃ r : Int, e = .returned (.int .i64 r) ∧ ((r = (tkO xs).length) ∨ (r = -1 ∧ (tkO xs).length = xs.length)) ∧ w = w'
theorem reads_cases {w : World} {v : Value} {xs : List Int} (h : Reads w v xs) : (∃ x c, v = .slice x 0 c ∧ xs = []) ∨ ∃ g o n c, v = .slice (some ⟨g, o, none⟩) n c ∧ n = xs.length ∧ g < w.heap.size ∧ ∀ i, i < xs.length → w.cell? ⟨g, o + i, none⟩ = some (.int .u8 (xs.getD i 0)) := by
  obtain ⟨hb, ⟨rfl, rfl⟩ | ⟨a, cap, rfl, h1, h2, h3⟩⟩ := h
  · exact .inl ⟨_, _, rfl, rfl⟩
  · by_cases hx : xs = []
    · subst hx
      exact .inl ⟨_, _, rfl, rfl⟩
    · have hp : 0 < xs.length := List.length_pos_iff.2 hx
      have c0 := h3 0 hp
      obtain ⟨g, off, spot⟩ := a
      obtain rfl : spot = none := by simpa [Addr.add] using World.cell?_spot c0
      refine .inr ⟨g, off, _, cap, rfl, rfl, ?_, fun i hi => ?_⟩
      · have := World.block_lt_of_cell? w _ c0
        rw [addr_add] at this
        exact this
      · have := h3 i hi
        rw [addr_add] at this
        exact this
set_option maxRecDepth 100000 in
set_option maxHeartbeats 1000000 in
theorem idx_empty (x : Option Addr) (c : Nat) (w : World) : Calls Try.prog 20 #[.slice x 0 c, .func (.func 8) #[] #[]] w (IdxD [] w) := by
  go_enter Try.func20, Try.ntmps20
  go_wp2
  go_loopw [8] (fun i W => i = .int .i64 0 ∧ W = w) (fun _ _ => 0)
  case atStart => exact ⟨rfl, rfl⟩
  case round =>
    obtain ⟨rfl, rfl⟩ := hrel
    go_wp2
    go_ret
    exact ⟨-1, rfl, .inr ⟨rfl, rfl⟩, rfl⟩
set_option maxRecDepth 100000 in
set_option maxHeartbeats 1000000 in
theorem idx_row (g off n c : Nat) (xs : List Int) (hx : ∀ x ∈ xs, 0 ≤ x ∧ x < 256) (hn : n = xs.length) (nb : n ≤ 1000000) (w : World) (hc : ∀ i, i < xs.length → w.cell? ⟨g, off + i, none⟩ = some (.int .u8 (xs.getD i 0))) : Calls Try.prog 20 #[.slice (some ⟨g, off, none⟩) n c, .func (.func 8) #[] #[]] w (IdxD xs w) := by
  have HC := hid (fun i (h : i < n) => hc i (hn ▸ h))
  have HBY := hid (fun i (h : i < n) => byte_at hx i (hn ▸ h))
  have HGE := hid (fun k h1 (h2 : k < n) h3 => tkO_ge (xs := xs) (k := k) h1 (hn ▸ h2) h3)
  have HEQ := hid (fun k h1 (h2 : k < n) h3 => tkO_eq (xs := xs) (k := k) h1 (hn ▸ h2) h3)
  have HLE := hid (show (tkO xs).length ≤ n from hn ▸ tkO_le xs)
  have HN := hid hn
  clear hc hn hx
  go_enter Try.func20, Try.ntmps20
  go_wp2
  go_loopw [8] (fun i W => ∃ k : Nat, k ≤ n ∧ i = .int .i64 k ∧ Hid (k ≤ (tkO xs).length) ∧ W = w) (fun i _ => n - (intOf i).toNat)
  case atStart => exact ⟨0, Nat.zero_le _, rfl, Nat.zero_le _, rfl⟩
  case round =>
    obtain ⟨k, hk, rfl, HK, rfl⟩ := hrel
    by_cases hlt : k < n
    · have c0 := HC.out k hlt
      obtain ⟨b, hb1, hb2, hb3⟩ := HBY.out k hlt
      have HG := hid (HGE.out k HK.out hlt)
      have HQ := hid (HEQ.out k HK.out hlt)
      have HS := hid (is_one b (by omega))
      rw [hb2] at c0 HG HQ
      have hki : (k : Int) < n := by omega
      clear hb2 hb3
      cases hi : isO (b : Int)
      · rw [hi] at HS HG
        have HG1 := hid (HG.out rfl)
        clear hi HG HQ
        go_wp2_with fail
        with_reducible refine (HS.out _).mono ?_
        rintro e w1 ⟨rfl, rfl⟩
        go_wp2
        go_roundw
        case rel => exact ⟨k + 1, by omega, by go_num, HG1.out, trivial⟩
        case measure => simp [intOf]; omega
      · rw [hi] at HS HQ
        have HQ1 := hid (HQ.out rfl)
        clear hi HG HQ
        go_wp2_with fail
        with_reducible refine (HS.out _).mono ?_
        rintro e w1 ⟨rfl, rfl⟩
        go_wp2
        go_ret
        exact ⟨k, rfl, .inl (by rw [HQ1.out]), rfl⟩
    · go_wp2
      go_ret
      exact ⟨-1, rfl, .inr ⟨rfl, by have := HK.out; have := HLE.out; have := HN.out; omega⟩, rfl⟩
theorem idx_any (v : Value) (xs : List Int) (w : World) (h : Reads w v xs) (hl : xs.length ≤ 1000000) : Calls Try.prog 20 #[v, .func (.func 8) #[] #[]] w (IdxD xs w) := by
  rcases reads_cases h with ⟨x, c, rfl, rfl⟩ | ⟨g, o, n, c, rfl, hn, _, hc⟩
  · exact idx_empty x c w
  · exact idx_row g o n c xs h.1 hn (by omega) w hc
set_option maxRecDepth 100000 in
set_option maxHeartbeats 1000000 in
theorem tlen_any (v : Value) (xs : List Int) (w : World) (h : Reads w v xs) (hl : xs.length ≤ 1000000) : Calls Try.prog 17 #[v] w fun e w' => e = .returned (.int .i64 (tkO xs).length) ∧ w = w' := by
  have HI := hid (idx_any v xs w h hl)
  obtain ⟨x, n, c, hv, hn⟩ : ∃ x n c, v = .slice x n c ∧ n = xs.length := by
    rcases reads_cases h with ⟨x, c, rfl, rfl⟩ | ⟨g, o, n, c, rfl, hn, _, hc⟩
    · exact ⟨_, _, _, rfl, rfl⟩
    · exact ⟨_, _, _, rfl, hn⟩
  subst hv
  have HN := hid hn
  clear h hl hn
  go_enter Try.func17, Try.ntmps17
  go_wp2_with fail
  with_reducible refine HI.out.mono ?_
  rintro e w1 ⟨r, rfl, hr, rfl⟩
  rcases hr with hr | ⟨hr, h2⟩
  · have h3 : ¬ r < 0 := by omega
    have HR := hid hr
    clear hr
    go_wp2
    go_ret
    exact ⟨ret_int HR.out, rfl⟩
  · have h3 : r < 0 := by omega
    have HR := hid h2
    clear hr h2
    go_wp2
    go_ret
    exact ⟨ret_int (by rw [HR.out, HN.out]), rfl⟩
end Go.Proofs.Ytjhmjjlmdmmilaa
