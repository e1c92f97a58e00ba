/-
  What an end answers to a host that asks as the law does.
-/
import Derived.Test.YtdpfjbpfafekfaaNz
namespace Go.Proofs.Ytdpfjbpfafekfaa
open Go.RowKit Go.Lib

theorem strOf_strL (s : ByteArray) : strOfNums (strL s) = s := by
  unfold strOfNums strL
  rw [List.map_map]
  obtain ⟨a⟩ := s
  congr 1
  apply Array.ext'
  rw [List.toList_toArray]
  conv => rhs; rw [← List.map_id a.toList]
  apply List.map_congr_left
  intro b _
  simp
/-- DEVICE-TYPE IS name CONNECT name. -/
def devM (s : ByteArray) : List Int := [2, 4, 73, 66, 77, 45, 51, 50, 55, 56, 45, 50, 1] ++ strL s
theorem kindL_two (a b : Int) (r : List Int) : kindL (a :: b :: r) = kind2 a b r := by
  unfold kindL
  rw [if_neg (by simp)]
  rfl
theorem devM_kind {s : ByteArray} (h : nameB s = true) : kindL (devM s) = 2 ∧ secondN ((devM s).drop 2) = s := by
  have e : (devM s).drop 2 = [73, 66, 77, 45, 51, 50, 55, 56, 45, 50, 1] ++ strL s := rfl
  have ha : at1 ([73, 66, 77, 45, 51, 50, 55, 56, 45, 50, 1] ++ strL s) = 10 := by
    unfold at1
    simp [List.findIdx_cons]
  have hd : ([73, 66, 77, 45, 51, 50, 55, 56, 45, 50, 1] ++ strL s).drop 11 = strL s := rfl
  have ht : ([73, 66, 77, 45, 51, 50, 55, 56, 45, 50, 1] ++ strL s).take 10 = [73, 66, 77, 45, 51, 50, 55, 56, 45, 50] := rfl
  have hs : secondN ((devM s).drop 2) = s := by
    unfold secondN
    rw [e, ha, hd, strOf_strL]
  refine ⟨?_, hs⟩
  have hn : namesOk ((devM s).drop 2) = true := by
    unfold namesOk
    rw [e, ha, hd, ht, strOf_strL, h]
    rw [show nameB (strOfNums [73, 66, 77, 45, 51, 50, 55, 56, 45, 50]) = true by decide]
    simp
  show kindL (2 :: 4 :: (devM s).drop 2) = 2
  rw [kindL_two]
  unfold kind2 kindD
  rw [if_neg (by decide), if_pos rfl, if_pos rfl, if_pos hn]
theorem kind_is {r : List Int} (h : r.Nodup) : kindL (3 :: 4 :: r) = 4 := by
  rw [kindL_two]
  unfold kind2 kindF
  rw [if_neg (by decide), if_neg (by decide), if_pos rfl, if_pos (show onceL r = true from decide_eq_true h), if_pos rfl]
theorem kind_request {r : List Int} (h : r.Nodup) : kindL (3 :: 7 :: r) = 5 := by
  rw [kindL_two]
  unfold kind2 kindF
  rw [if_neg (by decide), if_neg (by decide), if_pos rfl, if_pos (show onceL r = true from decide_eq_true h), if_neg (by decide), if_pos rfl]
/-- Rising, of the five functions. -/
def Rise (r : List Int) : Prop := r.Pairwise (· < ·) ∧ ∀ x ∈ r, 0 ≤ x ∧ x ≤ 4
theorem Rise.sort {r : List Int} (h : Rise r) : sortL r = r := by
  refine strict_eq ?_ h.1 fun x => ?_
  · unfold sortL
    exact List.Pairwise.filter _ (by decide)
  · unfold sortL
    rw [List.mem_filter, any_mem]
    refine ⟨fun q => q.2, fun q => ⟨?_, q⟩⟩
    have := h.2 x q
    have h5 : x = 0 ∨ x = 1 ∨ x = 2 ∨ x = 3 ∨ x = 4 := by omega
    rcases h5 with rfl | rfl | rfl | rfl | rfl <;> decide
theorem Rise.nodup {r : List Int} (h : Rise r) : r.Nodup := h.1.imp (fun h => by omega)
theorem rise_once (l : List Int) : Rise (onceH l) := by
  unfold onceH
  exact ⟨List.Pairwise.filter _ (by decide), fun x hx => by
    have := (List.mem_filter.1 hx).1
    simp at this
    omega⟩
theorem rise_keep {fs r : List Int} (h : Rise r) : Rise (keepL fs r) := ⟨List.Pairwise.filter _ h.1, fun x hx => h.2 x (List.mem_filter.1 hx).1⟩
theorem all_keep (fs r : List Int) : allF fs (keepL fs r) = true := by
  unfold allF keepL
  rw [List.all_eq_true]
  exact fun x hx => (List.mem_filter.1 hx).2
theorem keep_all {fs r : List Int} (h : allF fs r = true) : keepL fs r = r := by
  unfold allF at h
  unfold keepL
  exact List.filter_eq_self.2 (List.all_eq_true.1 h)
theorem rises_nodup {fs : List Int} (h : risesL fs = true) : fs.Nodup := by
  have h' := of_decide_eq_true h
  have key : ∀ (j i : Nat), i < j → j < fs.length → fs.getD i 0 < fs.getD j 0 := by
    intro j
    induction j with
    | zero => intro i hi; omega
    | succ j ih =>
      intro i hi hj
      have h1 := (h' (j + 1) hj).2 (by omega)
      simp only [Nat.add_sub_cancel] at h1
      rcases Nat.lt_or_ge i j with h2 | h2
      · have := ih i h2 (by omega)
        omega
      · obtain rfl : i = j := by omega
        exact h1
  show fs.Pairwise (· ≠ ·)
  rw [List.pairwise_iff_getElem]
  intro i j hi hj hij e
  have := key j i hij hj
  rw [List.getD, List.getD, List.getElem?_eq_getElem hi, List.getElem?_eq_getElem hj] at this
  simp only [Option.getD_some] at this
  omega
theorem hear_dev (g : Nat) (sv av : Value) (T D : ByteArray) (fs : List Int) (st : Int) (dev : ByteArray) (ag : List Int) (w : World) (h : EndM w g sv av T D fs st dev ag) (hT : T.size ≤ 1000) (hD : D.size ≤ 1000) (hfl : fs.length ≤ 1000) (hf : ∀ x ∈ fs, 0 ≤ x ∧ x ≤ 4) (hst : st = 1) (s : ByteArray) (hs : nameB s = true) (y : Option Addr) (n c : Nat) (hr : RdG w (.slice y n c) (devM s)) (hn : n = (devM s).length) (hl : n ≤ 1000) (hg : g ∉ blkV (.slice y n c)) : Calls Try.prog 38 #[.pointer (some ⟨g, 0, none⟩), .int .u8 40, .slice y n c] w (HDone g sv T D fs 2 s [] (3 :: 7 :: fs) 0 w) := by
  subst hst
  have := hear_any g sv av T D fs 1 dev ag w h hT hD hfl hf (by omega) y n c (devM s) hr hn hl hg 40
  obtain ⟨hk, hs2⟩ := devM_kind hs
  have hok : okH 1 40 (devM s) = true := okH_yes (by rw [hk]; decide) (by rw [hk]; rfl)
  rw [show stH fs 1 40 (devM s) = 2 by unfold stH; rw [if_pos hok, hk]; rfl, show devH dev 1 40 (devM s) = s by unfold devH; rw [if_pos hok, hk]; rw [hs2]; rfl, show agH fs ag 1 40 (devM s) = [] by unfold agH; rw [if_pos hok, hk]; rfl, show ansH T D fs 1 40 (devM s) = 3 :: 7 :: fs by unfold ansH; rw [if_neg (by decide), if_pos hok, hk]; rfl, show erH 1 40 (devM s) = 0 by unfold erH; rw [if_neg (by decide), if_pos rfl, hk]; rfl] at this
  exact this
theorem hear_is (g : Nat) (sv av : Value) (T D : ByteArray) (fs : List Int) (st : Int) (dev : ByteArray) (ag : List Int) (w : World) (h : EndM w g sv av T D fs st dev ag) (hT : T.size ≤ 1000) (hD : D.size ≤ 1000) (hfl : fs.length ≤ 1000) (hf : ∀ x ∈ fs, 0 ≤ x ∧ x ≤ 4) (hst : st = 2) (r : List Int) (hri : Rise r) (ha : allF fs r = true) (y : Option Addr) (n c : Nat) (hr : RdG w (.slice y n c) (3 :: 4 :: r)) (hn : n = (3 :: 4 :: r).length) (hl : n ≤ 1000) (hg : g ∉ blkV (.slice y n c)) : Calls Try.prog 38 #[.pointer (some ⟨g, 0, none⟩), .int .u8 40, .slice y n c] w (HDone g sv T D fs 3 dev r [] 0 w) := by
  subst hst
  have := hear_any g sv av T D fs 2 dev ag w h hT hD hfl hf (by omega) y n c (3 :: 4 :: r) hr hn hl hg 40
  have hk := kind_is hri.nodup
  have hs := hri.sort
  have hok : okH 2 40 (3 :: 4 :: r) = true := okH_yes (by rw [hk]; decide) (by rw [hk]; rfl)
  rw [show stH fs 2 40 (3 :: 4 :: r) = 3 by unfold stH; rw [if_pos hok, hk]; unfold stK; rw [if_neg (by decide), if_neg (by decide), if_neg (by decide), if_pos rfl]; exact if_pos ha, show devH dev 2 40 (3 :: 4 :: r) = dev by unfold devH; rw [if_pos hok, hk]; rfl, show agH fs ag 2 40 (3 :: 4 :: r) = r by unfold agH; rw [if_pos hok, hk]; unfold agK; rw [if_neg (by decide), if_neg (by decide), if_pos rfl]; exact (if_pos ha).trans hs, show ansH T D fs 2 40 (3 :: 4 :: r) = [] by unfold ansH; rw [if_neg (by decide), if_pos hok, hk]; rfl, show erH 2 40 (3 :: 4 :: r) = 0 by unfold erH; rw [if_neg (by decide), if_pos rfl, hk]; rfl] at this
  exact this
theorem hear_req (g : Nat) (sv av : Value) (T D : ByteArray) (fs : List Int) (st : Int) (dev : ByteArray) (ag : List Int) (w : World) (h : EndM w g sv av T D fs st dev ag) (hT : T.size ≤ 1000) (hD : D.size ≤ 1000) (hfl : fs.length ≤ 1000) (hf : ∀ x ∈ fs, 0 ≤ x ∧ x ≤ 4) (hst : st = 2) (r : List Int) (hri : Rise r) (ha : allF fs r = true) (y : Option Addr) (n c : Nat) (hr : RdG w (.slice y n c) (3 :: 7 :: r)) (hn : n = (3 :: 7 :: r).length) (hl : n ≤ 1000) (hg : g ∉ blkV (.slice y n c)) : Calls Try.prog 38 #[.pointer (some ⟨g, 0, none⟩), .int .u8 40, .slice y n c] w (HDone g sv T D fs 3 dev r (3 :: 4 :: r) 0 w) := by
  subst hst
  have := hear_any g sv av T D fs 2 dev ag w h hT hD hfl hf (by omega) y n c (3 :: 7 :: r) hr hn hl hg 40
  have hk := kind_request hri.nodup
  have hs := hri.sort
  have hok : okH 2 40 (3 :: 7 :: r) = true := okH_yes (by rw [hk]; decide) (by rw [hk]; rfl)
  rw [show stH fs 2 40 (3 :: 7 :: r) = 3 by unfold stH; rw [if_pos hok, hk]; unfold stK; rw [if_neg (by decide), if_neg (by decide), if_neg (by decide), if_neg (by decide)]; exact if_pos ha, show devH dev 2 40 (3 :: 7 :: r) = dev by unfold devH; rw [if_pos hok, hk]; rfl, show agH fs ag 2 40 (3 :: 7 :: r) = r by unfold agH; rw [if_pos hok, hk]; unfold agK; rw [if_neg (by decide), if_neg (by decide), if_neg (by decide)]; exact (if_pos ha).trans hs, show ansH T D fs 2 40 (3 :: 7 :: r) = 3 :: 4 :: r by unfold ansH; rw [if_neg (by decide), if_pos hok, hk]; unfold ansK; rw [if_neg (by decide), if_neg (by decide), if_pos rfl]; exact if_pos ha, show erH 2 40 (3 :: 7 :: r) = 0 by unfold erH; rw [if_neg (by decide), if_pos rfl, hk]; rfl] at this
  exact this
theorem hear_req_no (g : Nat) (sv av : Value) (T D : ByteArray) (fs : List Int) (st : Int) (dev : ByteArray) (ag : List Int) (w : World) (h : EndM w g sv av T D fs st dev ag) (hT : T.size ≤ 1000) (hD : D.size ≤ 1000) (hfl : fs.length ≤ 1000) (hf : ∀ x ∈ fs, 0 ≤ x ∧ x ≤ 4) (hst : st = 2) (r : List Int) (hri : Rise r) (ha : allF fs r = false) (y : Option Addr) (n c : Nat) (hr : RdG w (.slice y n c) (3 :: 7 :: r)) (hn : n = (3 :: 7 :: r).length) (hl : n ≤ 1000) (hg : g ∉ blkV (.slice y n c)) : Calls Try.prog 38 #[.pointer (some ⟨g, 0, none⟩), .int .u8 40, .slice y n c] w (HDone g sv T D fs 2 dev [] (3 :: 7 :: keepL fs r) 0 w) := by
  subst hst
  have := hear_any g sv av T D fs 2 dev ag w h hT hD hfl hf (by omega) y n c (3 :: 7 :: r) hr hn hl hg 40
  have hk := kind_request hri.nodup
  have ha' : ¬ allF fs r = true := by rw [ha]; decide
  have hok : okH 2 40 (3 :: 7 :: r) = true := okH_yes (by rw [hk]; decide) (by rw [hk]; rfl)
  rw [show stH fs 2 40 (3 :: 7 :: r) = 2 by unfold stH; rw [if_pos hok, hk]; unfold stK; rw [if_neg (by decide), if_neg (by decide), if_neg (by decide), if_neg (by decide)]; exact if_neg ha', show devH dev 2 40 (3 :: 7 :: r) = dev by unfold devH; rw [if_pos hok, hk]; rfl, show agH fs ag 2 40 (3 :: 7 :: r) = [] by unfold agH; rw [if_pos hok, hk]; unfold agK; rw [if_neg (by decide), if_neg (by decide), if_neg (by decide)]; exact if_neg ha', show ansH T D fs 2 40 (3 :: 7 :: r) = 3 :: 7 :: keepL fs r by unfold ansH; rw [if_neg (by decide), if_pos hok, hk]; unfold ansK; rw [if_neg (by decide), if_neg (by decide), if_pos rfl]; exact if_neg ha', show erH 2 40 (3 :: 7 :: r) = 0 by unfold erH; rw [if_neg (by decide), if_pos rfl, hk]; rfl] at this
  exact this
end Go.Proofs.Ytdpfjbpfafekfaa
