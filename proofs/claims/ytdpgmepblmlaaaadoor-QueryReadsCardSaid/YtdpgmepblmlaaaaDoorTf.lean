/-
  query: the codes of the document; the names of the codes.
-/
import Derived.Test.YtdpgmepblmlaaaaDoorTe
namespace Go.Proofs.YtdpgmepblmlaaaaDoor
open Go.RowKit Go.Lib Go.Deep

def codesL : List Int := [128, 129, 133, 134, 135, 136, 166]
def qtwoL : List ByteArray := [(⟨#[56, 48]⟩ : ByteArray), (⟨#[56, 49]⟩ : ByteArray), (⟨#[56, 53]⟩ : ByteArray), (⟨#[56, 54]⟩ : ByteArray), (⟨#[56, 55]⟩ : ByteArray), (⟨#[56, 56]⟩ : ByteArray), (⟨#[97, 54]⟩ : ByteArray)]
theorem seven7 {k : Nat} (h : k < 7) : k = 0 ∨ k = 1 ∨ k = 2 ∨ k = 3 ∨ k = 4 ∨ k = 5 ∨ k = 6 := by omega
theorem eight8 {k : Nat} (h : k < 8) : k = 0 ∨ k = 1 ∨ k = 2 ∨ k = 3 ∨ k = 4 ∨ k = 5 ∨ k = 6 ∨ k = 7 := by omega
set_option maxRecDepth 100000 in
theorem qsl_at (w : World) : ∀ k : Nat, k < 7 → (Instr.slice 9 (.string ⟨#[56, 48, 56, 49, 56, 53, 56, 54, 56, 55, 56, 56, 97, 54]⟩) (some (.int .i64 (2 * (k : Int)))) (some (.int .i64 (2 * (k : Int) + 2))) none).run Tryd.prog w = .ok (.string (qtwoL.getD k ByteArray.empty)) w := by
  intro k hk
  rcases seven7 hk with rfl | rfl | rfl | rfl | rfl | rfl | rfl
  all_goals kernel_rfl
theorem qnum_at (k : Nat) (hk : k < 7) (W : World) : Calls Tryd.prog 75 #[.string (qtwoL.getD k ByteArray.empty)] W fun e w' => e = .returned (.int .i64 (codesL.getD k 0)) ∧ w' = W := by
  rcases seven7 hk with rfl | rfl | rfl | rfl | rfl | rfl | rfl
  · exact qnum_128 W
  · exact qnum_129 W
  · exact qnum_133 W
  · exact qnum_134 W
  · exact qnum_135 W
  · exact qnum_136 W
  · exact qnum_166 W
theorem codesL_bd (k : Nat) : 0 ≤ codesL.getD k 0 ∧ codesL.getD k 0 < 256 := by
  by_cases h : k < 7
  · rcases seven7 h with rfl | rfl | rfl | rfl | rfl | rfl | rfl <;> decide
  · rw [List.getD_eq_getElem?_getD, List.getElem?_eq_none (by show 7 ≤ k; omega)]
    decide
theorem codesL_take (k : Nat) (hk : k < 7) : codesL.take (k + 1) = codesL.take k ++ [codesL.getD k 0] := by
  rcases seven7 hk with rfl | rfl | rfl | rfl | rfl | rfl | rfl <;> rfl
theorem own_base2 {w : World} {B n : Nat} {v : Value} {cs : List Value} (h : w.ownsRow 0 5 1 v n cs) (hk : ∀ k ∈ blkV v, B ≤ k) : w.ownsRow B 5 1 v n cs :=
  ⟨h.1, h.2.imp id (fun ⟨g, cap, cur, e, _, h1, h2, h3, h4, h5⟩ => ⟨g, cap, cur, e, hk g (by subst e; simp [blkV, Value.ownBlock]), h1, h2, h3, h4, h5⟩)⟩
theorem codesL_byt (k : Nat) : BytL (codesL.take k) := by
  intro x hx
  have h := List.mem_of_mem_take hx
  unfold codesL at h
  simp only [List.mem_cons, List.not_mem_nil, or_false] at h
  omega
set_option maxRecDepth 100000 in
set_option maxHeartbeats 4000000 in
theorem unhex_codes (w : World) : Calls Tryd.prog 66 #[.string ⟨#[56, 48, 56, 49, 56, 53, 56, 54, 56, 55, 56, 56, 97, 54]⟩] w (OwnDone codesL w) := by
  have HSL := hid (fun W => qsl_at W)
  have HNM := hid (fun k hk W => qnum_at k hk W)
  have HTK := hid codesL_take
  have HBD := hid codesL_bd
  have HBT := hid codesL_byt
  have HLN := hid (fun k (hk : k ≤ 7) => (show (codesL.take k).length = k from by rw [List.length_take]; show min k 7 = k; omega))
  have HDN := hid (fun W u (hu : OwnB W u (codesL.take 7)) (hb : Below w.heap.size w W) (hk : ∀ k ∈ blkV u, w.heap.size ≤ k) => (show OwnDone codesL w (.returned u) W from ⟨u, rfl, hu, hb, hk⟩))
  generalize codesL = CL at *
  go_enter Tryd.func66, Tryd.ntmps66
  go_wp2_with fail
  go_loopw [3, 4] (fun b i wr => ∃ k : Nat, k ≤ 7 ∧ i = .int .i64 (2 * (k : Int)) ∧ Hid (wr.ownsRow w.heap.size 5 1 b k ((CL.take k).map (Value.int .u8))) ∧ Hid (Below w.heap.size w wr)) (fun _ i _ => 14 - (RowKit.intOf i).toNat)
  case atStart => exact ⟨0, by omega, rfl, hid (World.ownsRow_nil _ _ _ _), hid (Below.refl _ _)⟩
  case round =>
    obtain ⟨k, hk, rfl, HO, HB⟩ := hrel
    obtain ⟨xb, cb, rfl⟩ := row_anyK HO.out
    by_cases hlt : k < 7
    · have hki : 2 * (k : Int) < 14 := by omega
      have hsl := HSL.out wr k hlt
      have HN := hid (HNM.out k hlt wr)
      have htk := HTK.out k hlt
      obtain ⟨hc0, hc1⟩ := HBD.out k
      have hwr : IntKind.i64.wrap (2 * (k : Int) + 2) = 2 * (k : Int) + 2 := IntWalk.i64_in _ (by omega)
      generalize CL.getD k 0 = c at *
      have hmd : c % 256 = c := by omega
      generalize qtwoL.getD k ByteArray.empty = tw at *
      have HTKK := hid htk
      clear htk
      go_wp2_with fail
      with_reducible refine HN.out.mono ?_
      rintro e w1 ⟨rfl, rfl⟩
      have hal : Below w1.heap.size w1 (w1.alloc (.cells #[.int .u8 c] 5)) := bal (Below.refl _ _) _
      have HOA := hid (own_moved HO.out (Moved.below hal []) (fun _ _ q => by cases q))
      have HBA := hid (below_t HB.out hal)
      have HU := hid (own_lit w1 #[.int .u8 c] 1 [c] (by intro x hx; rw [List.mem_singleton.1 hx]; exact ⟨hc0, hc1⟩) rfl rfl (by omega) w1.heap.size rfl).reads
      clear hal hsl
      go_wp2_with (at_builtin; refine wpList_append_bytes rfl (.tmp 11) (.tmp 19) rfl w.heap.size k _ _ (CL.take k) [c] rfl rfl HOA.out HU.out (by show k + 1 ≤ 10000000; omega) HBA.out.size (k + 1) rfl (CL.take (k + 1)) HTKK.out.symm ?_; intro y cap w' hown hgrow; have HW := hid hown; have HBG := hid (HBA.out.grown hgrow HBA.out.size (fun q hq => (HOA.out.lt q hq).1)); clear hown hgrow)
      go_roundw
      case rel => exact ⟨k + 1, by omega, by first | (congr 1; done) | (congr 1; push_cast; done) | (congr 1; push_cast; omega), HW, HBG⟩
      case measure => simp [RowKit.intOf]; omega
    · obtain rfl : k = 7 := by omega
      have HF := hid (HDN.out wr (.slice xb 7 cb) ⟨HBT.out 7, by
        show World.ownsRow wr 0 5 1 _ (CL.take 7).length _
        rw [HLN.out 7 (by omega)]
        exact HO.out.mono (Nat.zero_le _)⟩ HB.out (fun q hq => (HO.out.lt q (mem_blkV.1 hq)).1))
      go_wp2
      go_ret
      exact HF.out
set_option maxRecDepth 100000 in
set_option maxHeartbeats 4000000 in
theorem rcodes_any (w : World) : Calls Tryd.prog 41 #[] w (OwnDone codesL w) := by
  have HU := hid (unhex_codes w)
  go_enter Tryd.func41, Tryd.ntmps41
  go_wp2_with fail
  with_reducible refine HU.out.mono ?_
  rintro e w1 ⟨v, rfl, ho, hb, hk⟩
  have HF := hid (show OwnDone codesL w (.returned v) w1 from ⟨v, rfl, ho, hb, hk⟩)
  obtain ⟨x, n, c, rfl⟩ := own_slice ho
  clear ho hb hk
  go_wp2
  go_ret
  exact HF.out
theorem ret_str {a b : ByteArray} (h : a = b) : Ending.returned (.string a) = .returned (.string b) := by rw [h]
def nameL : List ByteArray := [(⟨#[83, 117, 109, 109, 97, 114, 121]⟩ : ByteArray), (⟨#[85, 115, 97, 98, 108, 101, 65, 114, 101, 97]⟩ : ByteArray), (⟨#[67, 104, 97, 114, 97, 99, 116, 101, 114, 83, 101, 116, 115]⟩ : ByteArray), (⟨#[67, 111, 108, 111, 114]⟩ : ByteArray), (⟨#[72, 105, 103, 104, 108, 105, 103, 104, 116, 105, 110, 103]⟩ : ByteArray), (⟨#[82, 101, 112, 108, 121, 77, 111, 100, 101, 115]⟩ : ByteArray), (⟨#[73, 109, 112, 108, 105, 99, 105, 116, 80, 97, 114, 116, 105, 116, 105, 111, 110]⟩ : ByteArray), (⟨#[78, 117, 108, 108]⟩ : ByteArray)]
def code8 : List Int := [128, 129, 133, 134, 135, 136, 166, 255]
/-- The name of a code. -/
def namS (c : Int) : ByteArray := nameL.getD (code8.idxOf c) ByteArray.empty
theorem namS_hit (c : Int) (k : Nat) (hk : k < 8) (h : code8.getD k 0 = c) : namS c = nameL.getD k ByteArray.empty := by
  rcases eight8 hk with rfl | rfl | rfl | rfl | rfl | rfl | rfl | rfl <;> (subst h; rfl)
theorem namS_no (c : Int) (h : ∀ k, k < 8 → code8.getD k 0 ≠ c) : namS c = ByteArray.empty := by
  have e : code8.idxOf c = 8 := by
    have hn : c ∉ code8 := fun q => by
      obtain ⟨k, hk, e⟩ := List.mem_iff_getElem.1 q
      exact h k hk (by rw [List.getD_eq_getElem?_getD, List.getElem?_eq_getElem hk]; exact e)
    exact List.idxOf_eq_length hn
  unfold namS
  rw [e]
  rfl
set_option maxRecDepth 100000 in
set_option maxHeartbeats 4000000 in
theorem qname_any (c : Int) (w : World) : Calls Tryd.prog 45 #[.int .u8 c] w fun e w' => e = .returned (.string (namS c)) ∧ w = w' := by
  by_cases h0 : c = 128
  · subst h0
    rw [show namS 128 = (⟨#[83, 117, 109, 109, 97, 114, 121]⟩ : ByteArray) from rfl]
    go_enter Tryd.func45, Tryd.ntmps45
    go_wp2
    go_ret
    exact ⟨rfl, rfl⟩
  by_cases h1 : c = 129
  · subst h1
    rw [show namS 129 = (⟨#[85, 115, 97, 98, 108, 101, 65, 114, 101, 97]⟩ : ByteArray) from rfl]
    go_enter Tryd.func45, Tryd.ntmps45
    go_wp2
    go_ret
    exact ⟨rfl, rfl⟩
  by_cases h2 : c = 133
  · subst h2
    rw [show namS 133 = (⟨#[67, 104, 97, 114, 97, 99, 116, 101, 114, 83, 101, 116, 115]⟩ : ByteArray) from rfl]
    go_enter Tryd.func45, Tryd.ntmps45
    go_wp2
    go_ret
    exact ⟨rfl, rfl⟩
  by_cases h3 : c = 134
  · subst h3
    rw [show namS 134 = (⟨#[67, 111, 108, 111, 114]⟩ : ByteArray) from rfl]
    go_enter Tryd.func45, Tryd.ntmps45
    go_wp2
    go_ret
    exact ⟨rfl, rfl⟩
  by_cases h4 : c = 135
  · subst h4
    rw [show namS 135 = (⟨#[72, 105, 103, 104, 108, 105, 103, 104, 116, 105, 110, 103]⟩ : ByteArray) from rfl]
    go_enter Tryd.func45, Tryd.ntmps45
    go_wp2
    go_ret
    exact ⟨rfl, rfl⟩
  by_cases h5 : c = 136
  · subst h5
    rw [show namS 136 = (⟨#[82, 101, 112, 108, 121, 77, 111, 100, 101, 115]⟩ : ByteArray) from rfl]
    go_enter Tryd.func45, Tryd.ntmps45
    go_wp2
    go_ret
    exact ⟨rfl, rfl⟩
  by_cases h6 : c = 166
  · subst h6
    rw [show namS 166 = (⟨#[73, 109, 112, 108, 105, 99, 105, 116, 80, 97, 114, 116, 105, 116, 105, 111, 110]⟩ : ByteArray) from rfl]
    go_enter Tryd.func45, Tryd.ntmps45
    go_wp2
    go_ret
    exact ⟨rfl, rfl⟩
  by_cases h7 : c = 255
  · subst h7
    rw [show namS 255 = (⟨#[78, 117, 108, 108]⟩ : ByteArray) from rfl]
    go_enter Tryd.func45, Tryd.ntmps45
    go_wp2
    go_ret
    exact ⟨rfl, rfl⟩
  rw [namS_no c (fun k hk => by
    rcases eight8 hk with rfl | rfl | rfl | rfl | rfl | rfl | rfl | rfl
    · exact fun q => h0 q.symm
    · exact fun q => h1 q.symm
    · exact fun q => h2 q.symm
    · exact fun q => h3 q.symm
    · exact fun q => h4 q.symm
    · exact fun q => h5 q.symm
    · exact fun q => h6 q.symm
    · exact fun q => h7 q.symm
    )]
  have e0 : (c == 128) = false := by simpa using h0
  have e1 : (c == 129) = false := by simpa using h1
  have e2 : (c == 133) = false := by simpa using h2
  have e3 : (c == 134) = false := by simpa using h3
  have e4 : (c == 135) = false := by simpa using h4
  have e5 : (c == 136) = false := by simpa using h5
  have e6 : (c == 166) = false := by simpa using h6
  have e7 : (c == 255) = false := by simpa using h7
  clear h0 h1 h2 h3 h4 h5 h6 h7
  go_enter Tryd.func45, Tryd.ntmps45
  go_wp2
  go_ret
  exact ⟨rfl, rfl⟩
set_option maxRecDepth 100000 in
set_option maxHeartbeats 4000000 in
theorem rqname_any (c : Int) (w : World) : Calls Tryd.prog 46 #[.int .u8 c] w fun e w' => e = .returned (.string (namS c)) ∧ Below w.heap.size w w' := by
  have HCD := hid (fun W => rcodes_any W)
  have HHIT := hid (fun k hk h => namS_hit c k hk h)
  have HNO := hid (fun h => namS_no c h)
  generalize namS c = R at HHIT HNO ⊢
  go_enter Tryd.func46, Tryd.ntmps46
  obtain ⟨w0, hw0⟩ : ∃ w0, w.alloc (.cells #[.string (⟨#[83, 117, 109, 109, 97, 114, 121]⟩ : ByteArray), .string (⟨#[85, 115, 97, 98, 108, 101, 65, 114, 101, 97]⟩ : ByteArray), .string (⟨#[67, 104, 97, 114, 97, 99, 116, 101, 114, 83, 101, 116, 115]⟩ : ByteArray), .string (⟨#[67, 111, 108, 111, 114]⟩ : ByteArray), .string (⟨#[72, 105, 103, 104, 108, 105, 103, 104, 116, 105, 110, 103]⟩ : ByteArray), .string (⟨#[82, 101, 112, 108, 121, 77, 111, 100, 101, 115]⟩ : ByteArray), .string (⟨#[73, 109, 112, 108, 105, 99, 105, 116, 80, 97, 114, 116, 105, 116, 105, 111, 110]⟩ : ByteArray), .string (⟨#[78, 117, 108, 108]⟩ : ByteArray)] 9) = w0 := ⟨_, rfl⟩
  have hb0 : Below w.heap.size w w0 := by rw [← hw0]; exact bal (Below.refl _ _) _
  have HCE := hid (show ∀ k, k < 8 → w0.cell? ⟨w.heap.size, k, none⟩ = some (.string (nameL.getD k ByteArray.empty)) from by
    intro k hk
    rw [← hw0]
    rcases eight8 hk with rfl | rfl | rfl | rfl | rfl | rfl | rfl | rfl <;> simp [go_sem, nameL])
  have hlt0 : w.heap.size < w0.heap.size := by rw [← hw0]; simp
  have HC0 := hid (HCD.out w0)
  go_wp2_with fail
  (try rw [hw0])
  clear hw0
  with_reducible refine HC0.out.mono ?_
  rintro e w1 ⟨v, rfl, ho, hb1, hk1⟩
  obtain ⟨xv, cv, rfl⟩ := own_len ho 7 rfl
  have hal : Below w1.heap.size w1 (w1.alloc (.cells #[.int .u8 255] 5)) := bal (Below.refl _ _) _
  have HOA := hid (own_moved (own_base2 ho.2 hk1) (Moved.below hal []) (fun _ _ q => by cases q))
  have HBA := hid (below_t hb0 (below_t hb1 hal))
  have HU := hid (own_lit w1 #[.int .u8 255] 1 [255] (by decide) rfl rfl (by omega) w1.heap.size rfl).reads
  have HB1 := hid (below_t hb1 hal)
  have hs01 := hb1.size
  clear ho hb1 hk1 hal HC0
  go_wp2_with (at_builtin; refine wpList_append_bytes rfl (.tmp 7) (.tmp 8) rfl w0.heap.size 7 _ _ codesL [255] rfl rfl HOA.out HU.out (by show 8 ≤ 10000000; omega) HB1.out.size 8 rfl code8 rfl ?_; intro y cap w' hown hgrow; have HW := hid hown; have HBG := hid (HB1.out.grown hgrow HB1.out.size (fun q hq => (HOA.out.lt q hq).1)); clear hown hgrow HOA HU)
  obtain ⟨w2, hw2⟩ : ∃ w2, w2 = w' := ⟨_, rfl⟩
  have HB2 := hid (below_t hb0 HBG.out)
  have HCE2 := hid (fun k hk => (HBG.out.cell (p := ⟨w.heap.size, k, none⟩) (by exact hlt0)).trans (HCE.out k hk))
  have HLC := hid (fun k (hk : k < 8) => (show ∃ g, y = some ⟨g, 0, none⟩ ∧ g < w'.heap.size ∧ w'.cell? ⟨g, k, none⟩ = some (.int .u8 (code8.getD k 0)) from by
    have hO : OwnB w' (.slice y 8 cap) code8 := ⟨by decide, HW.out.mono (Nat.zero_le _)⟩
    obtain ⟨g, cap', e, h1, h2, h3⟩ := hO.slice (by decide)
    injection e with e1 e2 e3
    subst e1 e3
    exact ⟨g, rfl, h3, hO.at k hk⟩))
  have hlt2 : w.heap.size < w'.heap.size := Nat.lt_of_lt_of_le hlt0 HBG.out.size
  clear hw2 HCE HBG HBA HB1
  go_loopw [11] (fun i wr => ∃ k : Nat, k ≤ 8 ∧ i = .int .i64 k ∧ Hid (∀ j, j < k → code8.getD j 0 ≠ c) ∧ wr = w') (fun i _ => 8 - (RowKit.intOf i).toNat)
  case atStart => exact ⟨0, by omega, rfl, hid (fun j q => absurd q (Nat.not_lt_zero j)), rfl⟩
  case round =>
    obtain ⟨k, hk, rfl, HN, rfl⟩ := hrel
    by_cases hlt : k < 8
    · have hki : (k : Int) < 8 := by omega
      obtain ⟨g, rfl, hg, a0⟩ := HLC.out k hlt
      by_cases hh : code8.getD k 0 = c
      · have HR := hid (HHIT.out k hlt hh)
        have hce := HCE2.out k hlt
        rw [hh] at a0
        clear hh
        generalize nameL.getD k ByteArray.empty = nm at HR hce
        go_wp2
        go_ret
        exact ⟨ret_str HR.out.symm, HB2.out⟩
      · have HN1 := hid (show ∀ j, j < k + 1 → code8.getD j 0 ≠ c from fun j hj => by
          rcases Nat.lt_succ_iff_lt_or_eq.1 hj with q | q
          · exact HN.out j q
          · subst q; exact hh)
        have hhb : (code8.getD k 0 == c) = false := by simpa using hh
        clear hh
        generalize code8.getD k 0 = b0 at *
        go_wp2
        go_roundw
        case rel => exact ⟨k + 1, by omega, by go_num, HN1, trivial⟩
        case measure => simp [RowKit.intOf]; omega
    · obtain rfl : k = 8 := by omega
      have HR := hid (HNO.out (fun j hj => HN.out j hj))
      go_wp2
      go_ret
      exact ⟨ret_str HR.out.symm, HB2.out⟩
end Go.Proofs.YtdpgmepblmlaaaaDoor
