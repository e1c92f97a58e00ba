/-
  Attributes as bytes: no pairs, too many; both answers are one.
-/
import Derived.Test.YtpnfdmfmdacjmaaBya
namespace Go.Proofs.Ytpnfdmfmdacjmaa
open Go.RowKit Go.Lib

set_option maxRecDepth 100000 in
set_option maxHeartbeats 2000000 in
theorem bytes_nil (w : World) : Calls Try.prog 64 #[.slice none 0 0] w (BytesDone [] w) := by
  obtain ⟨i0, hi, hz0, hz1, hz2⟩ := info_parts info5'
  have HM2 : Hid (i0.bytes * 1 ≤ 281474976710656) := by show _ ≤ _; rw [hz2]; omega
  have HM3 : Hid (1 ≤ maxLen) := by show _ ≤ _; unfold maxLen; omega
  go_enter Try.func64, Try.ntmps64
  go_wp2_with (first
    | (at_make; refine wpList_make_own _ rfl _ _ 52 rfl w.heap.size 5 i0 (.int .u8 0) 1 Try.underlying52 hi hz0 hz1 .i64 .i64 _ 1 rfl rfl rfl HM2.out HM3.out (Nat.le_refl _) ?_; intro w1 hown1 hgrow1; have HO0 := hid hown1; have HB0 := hid (((Below.refl w.heap.size w).grown hgrow1 (Nat.le_refl _) (fun k hk => by cases hk))); have HOx := hid (HO0.out.alloc (.cells #[.int .u8 0] 5)); have HNx := hid (news_one w1 (.int .u8 0) 5); have HSx := hid (show w.heap.size ≤ (w1.alloc (.cells #[.int .u8 0] 5)).heap.size by have := HB0.out.size; simp; omega); clear hown1 hgrow1)
    | (at_builtin; refine wpList_append_own _ rfl _ _ 52 rfl w.heap.size 5 i0 (.int .u8 0) 1 1 Try.underlying52 hi hz0 hz1 hz2 rfl (by decide) _ 0 [] rfl HOx.out ⟨w1.heap.size, 0, none⟩ 1 1 [.int .u8 0] rfl rfl HNx.out (one_one 0) (by unfold maxLen; decide) (by decide) HSx.out ?_; intro v2 w2 hown2 hgrow2 hnil2; have HOy := hid hown2; have HGy := hid hgrow2; clear hown2 hgrow2 hnil2))
  have HB1 := hid ((HB0.out.alloc HB0.out.size (.cells #[.int .u8 0] 5)).grown HGy.out HSx.out (own_ge HO0.out))
  go_loopw [4, 24] (fun s i w' => s = v2 ∧ i = .int .i64 0 ∧ w' = w2) (fun _ _ _ => 0)
  case atStart => exact ⟨rfl, rfl, rfl⟩
  case round =>
    obtain ⟨rfl, rfl, rfl⟩ := hrel
    go_wp2
    go_ret2
    exact bytes_good rfl HOy.out HB1.out
set_option maxRecDepth 100000 in
set_option maxHeartbeats 2000000 in
theorem rbytes_nil (w : World) : Calls Try.prog 65 #[.slice none 0 0] w (BytesDone [] w) := by
  go_enter Try.func65, Try.ntmps65
  go_wp2
  have HO1 := hid (World.ownsRow_lit (base := w.heap.size) (e := 5) (size := 1) w #[.int .u8 0] 1 (Nat.le_refl _) (by unfold maxLen; decide) rfl)
  have HB1 := hid ((Below.refl w.heap.size w).alloc (Nat.le_refl _) (.cells #[.int .u8 0] 5))
  generalize w.alloc (.cells #[.int .u8 0] 5) = w1 at HO1 HB1 ⊢
  go_loopw [4, 16] (fun s i w' => s = .slice (some ⟨w.heap.size, 0, none⟩) 1 1 ∧ i = .int .i64 0 ∧ w' = w1) (fun _ _ _ => 0)
  case atStart => exact ⟨rfl, rfl, rfl⟩
  case round =>
    obtain ⟨rfl, rfl, rfl⟩ := hrel
    go_wp2
    go_ret2
    exact bytes_good rfl HO1.out HB1.out
set_option maxRecDepth 100000 in
theorem bytes_long (a : Option Addr) (n cap : Nat) (hn : 255 < n) (w : World) : Calls Try.prog 64 #[.slice a n cap] w fun e w' => e = .returned (.tuple #[.slice none 0 0, .int .i64 3]) ∧ Below w.heap.size w w' := by
  have n1 : (255 : Int) < n := by omega
  go_enter Try.func64, Try.ntmps64
  go_wp2
  go_ret2
  exact ⟨rfl, Below.refl _ _⟩
set_option maxRecDepth 100000 in
theorem rbytes_long (a : Option Addr) (n cap : Nat) (hn : 255 < n) (w : World) : Calls Try.prog 65 #[.slice a n cap] w fun e w' => e = .returned (.tuple #[.slice none 0 0, .int .i64 3]) ∧ Below w.heap.size w w' := by
  have n1 : (255 : Int) < n := by omega
  go_enter Try.func65, Try.ntmps65
  go_wp2
  go_ret2
  exact ⟨rfl, Below.refl _ _⟩
/-- Pairs of bytes. -/
def ByteP (ps : List (Nat × Nat)) : Prop := ∀ p ∈ ps, p.1 < 256 ∧ p.2 < 256
theorem byteP_at {ps : List (Nat × Nat)} (h : ByteP ps) (i : Nat) (hi : i < ps.length) : (ps.getD i (0, 0)).2 < 256 := by
  rw [List.getD, List.getElem?_eq_getElem hi]
  exact (h _ (List.getElem_mem hi)).2
theorem flat_byte {ps : List (Nat × Nat)} (h : ByteP ps) (n : Nat) (hn : n ≤ 255) : ∀ x ∈ bytesL n ps, 0 ≤ x ∧ x < 256 := by
  intro x hx
  unfold bytesL flatB at hx
  rcases List.mem_cons.1 hx with rfl | hx
  · omega
  · obtain ⟨p, hp, hx⟩ := List.mem_flatMap.1 hx
    have := h p hp
    simp only [List.mem_cons, List.not_mem_nil, or_false] at hx
    rcases hx with rfl | rfl <;> omega
theorem reads_owned {w : World} {B : Nat} {v : Value} {xs : List Int} {n : Nat} (hb : ∀ x ∈ xs, 0 ≤ x ∧ x < 256) (hn : n = xs.length) (h : w.ownsRow B 5 1 v n (xs.map (Value.int .u8))) : Reads w v xs := by
  subst hn
  refine ⟨hb, ?_⟩
  rcases h.2 with ⟨rfl, e⟩ | ⟨g, cap, cur, rfl, hg, hh, h1, h2, h3, h4⟩
  · exact .inl ⟨rfl, List.length_eq_zero_iff.1 e⟩
  · refine .inr ⟨⟨g, 0, none⟩, cap, rfl, h1, h2, fun i hi => ?_⟩
    rw [addr_add, Nat.zero_add, World.ownsRow.cellAt h i (by omega), List.getElem?_map, List.getD, List.getElem?_eq_getElem hi]
    rfl
theorem bytes_all {ps : List (Nat × Nat)} (hp : ByteP ps) (hn : ps.length ≤ 255) {w w' : World} {e : Ending} (hk : allP ps = true) (h : BytesDone ps w e w') : ∃ v, e = .returned (.tuple #[v, .int .i64 0]) ∧ Reads w' v (bytesL ps.length ps) ∧ Below w.heap.size w w' := by
  rcases h with ⟨_, v, rfl, ho, hb⟩ | ⟨h, _⟩
  · exact ⟨v, rfl, reads_owned (flat_byte hp _ hn) (by simp [bytesL, flatB_length]; omega) ho, hb⟩
  · rw [hk] at h; cases h
theorem bytes_not {ps : List (Nat × Nat)} {w w' : World} {e : Ending} (hk : allP ps = false) (h : BytesDone ps w e w') : ∃ v, e = .returned (.tuple #[v, .int .i64 10]) ∧ Reads w' v [] ∧ Below w.heap.size w w' := by
  rcases h with ⟨h, _⟩ | ⟨_, rfl, hb⟩
  · rw [hk] at h; cases h
  · exact ⟨_, rfl, reads_nil _, hb⟩
theorem bytes_any (ps : List (Nat × Nat)) (hp : ByteP ps) (hn : ps.length ≤ 255) (v : Value) (w : World) (h : PairsIn w v ps) : Calls Try.prog 64 #[v] w (BytesDone ps w) := by
  rcases h with ⟨rfl, rfl⟩ | ⟨g, off, cap, rfl, h⟩
  · exact bytes_nil w
  · exact bytes_row g off cap ps hn (fun i hi => byteP_at hp i hi) w h
theorem rbytes_any (ps : List (Nat × Nat)) (hp : ByteP ps) (hn : ps.length ≤ 255) (v : Value) (w : World) (h : PairsIn w v ps) : Calls Try.prog 65 #[v] w (BytesDone ps w) := by
  rcases h with ⟨rfl, rfl⟩ | ⟨g, off, cap, rfl, h⟩
  · exact rbytes_nil w
  · exact rbytes_row g off cap ps hn (fun i hi => byteP_at hp i hi) w h
/-- Both answers are one. -/
theorem bytes_both (ps : List (Nat × Nat)) (hp : ByteP ps) : ∃ (xs : List Int) (er : Int), (er = 0 ∧ ps.length ≤ 255 ∧ allP ps = true ∧ xs = bytesL ps.length ps ∨ er ≠ 0) ∧ (∀ v w, PairsIn w v ps → Calls Try.prog 64 #[v] w fun en w' => ∃ l, en = .returned (.tuple #[l, .int .i64 er]) ∧ Reads w' l xs ∧ Below w.heap.size w w') ∧ (∀ v w, PairsIn w v ps → Calls Try.prog 65 #[v] w fun en w' => ∃ l, en = .returned (.tuple #[l, .int .i64 er]) ∧ Reads w' l xs ∧ Below w.heap.size w w') := by
  by_cases hn : ps.length ≤ 255
  · cases hk : allP ps
    · exact ⟨[], 10, .inr (by decide), fun v w h => (bytes_any ps hp hn v w h).mono fun _ _ hd => bytes_not hk hd, fun v w h => (rbytes_any ps hp hn v w h).mono fun _ _ hd => bytes_not hk hd⟩
    · exact ⟨bytesL ps.length ps, 0, .inl ⟨rfl, hn, rfl, rfl⟩, fun v w h => (bytes_any ps hp hn v w h).mono fun _ _ hd => bytes_all hp hn hk hd, fun v w h => (rbytes_any ps hp hn v w h).mono fun _ _ hd => bytes_all hp hn hk hd⟩
  · refine ⟨[], 3, .inr (by decide), fun v w h => ?_, fun v w h => ?_⟩
    · rcases h with ⟨rfl, rfl⟩ | ⟨g, off, cap, rfl, h⟩
      · exact absurd (by simp) hn
      · exact (bytes_long _ _ _ (by omega) w).mono fun en w' ⟨he, hb⟩ => ⟨_, he, reads_nil _, hb⟩
    · rcases h with ⟨rfl, rfl⟩ | ⟨g, off, cap, rfl, h⟩
      · exact absurd (by simp) hn
      · exact (rbytes_long _ _ _ (by omega) w).mono fun en w' ⟨he, hb⟩ => ⟨_, he, reads_nil _, hb⟩
/-- What is told is read again, whatever stands behind. -/
theorem pairAt_cons (c x y : Int) (l : List Int) (i : Nat) : pairAt (c :: x :: y :: l) (i + 1) = pairAt (c :: l) i := by
  unfold pairAt
  rw [show 1 + 2 * (i + 1) = 1 + 2 * i + 1 + 1 by omega, show 1 + 2 * i = 2 * i + 1 by omega]
  rfl
theorem pairsL_bytes (c : Int) (tail : List Int) : ∀ ps : List (Nat × Nat), pairsL (c :: (flatB ps ++ tail)) ps.length = ps
  | [] => rfl
  | p :: ps => by
    have ih := pairsL_bytes c tail ps
    unfold pairsL at ih ⊢
    rw [List.length_cons, List.range_succ_eq_map, List.map_cons, List.map_map]
    have e0 : pairAt (c :: (flatB (p :: ps) ++ tail)) 0 = p := by
      show (((p.1 : Int)).toNat, ((p.2 : Int)).toNat) = p
      simp
    rw [e0]
    congr 1
    refine (List.map_congr_left fun i _ => ?_).trans ih
    exact pairAt_cons c p.1 p.2 (flatB ps ++ tail) i
end Go.Proofs.Ytpnfdmfmdacjmaa
