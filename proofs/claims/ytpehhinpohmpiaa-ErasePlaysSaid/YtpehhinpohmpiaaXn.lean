/-
  The reference's codes, move, End. | The reference's Delete. | The reference's Insert.
-/
import Derived.Test.YtpehhinpohmpiaaXl
import Derived.Test.YtpehhinpohmpiaaEn
import Derived.ArgAppend
namespace Go.Proofs.Ytpehhinpohmpiaa
open Go.RowKit Go.Lib Go.Deep

/-- Codes, put at places one by one. -/
def mvR (s : Spc) (pl : List Nat) (cs : List Int) : Nat → Spc
  | 0 => s
  | k + 1 => (mvR s pl cs k).putC (pl.getD k 0 : Nat) (cs.getD k 0)
theorem mvR_alike (s : Spc) (pl : List Nat) (cs : List Int) : ∀ k, Alike s (mvR s pl cs k)
  | 0 => Alike.refl s
  | k + 1 => (mvR_alike s pl cs k).put _ _
section
variable {b g : Nat} {s : Spc}
set_option maxRecDepth 100000 in
set_option maxHeartbeats 8000000 in
theorem rcodes_any (pl : List Nat) (v : Value) (NA : Nat) (hNA : pl.length = NA) (hKB : NA ≤ 4000) (hmb : ∀ x ∈ pl, x < s.L.length) (w : World) (ho : w.ownsRow 0 3 1 v NA (intsV (pl.map Int.ofNat))) (h : RfM w b g s) : Calls Try.prog 124 #[.pointer (some ⟨b, 0, none⟩), v] w (ListD 5 1 (txV s pl) NA w) := by
  obtain ⟨i0, hi, hz0, hz1, hz2⟩ := info_parts info8
  obtain ⟨y1, c1, rfl, hlc⟩ := lst_cells (B := 0) ho hNA (fun _ _ => Nat.zero_le _)
  have HX := hid (fun W (hW : RfM W b g s) x (hx : x < s.L.length) => (show W.cell? ⟨b, 4, none⟩ = some (.slice (some ⟨g, 0, none⟩) s.L.length s.L.length) ∧ W.cell? ⟨g, x * 6, none⟩ = some (.int .u8 (s.cel x).ch) ∧ b < W.heap.size from ⟨hW.h4, (hW.row.six x hx _ rfl).1, hW.lt.1⟩))
  have HH := hid h
  have HLC := hid hlc
  have HPN := hid hNA
  have HMB := hid hmb
  obtain ⟨N, hNe⟩ : ∃ N, s.L.length = N := ⟨_, rfl⟩
  rw [hNe] at HX HMB
  clear h hlc hNA hmb ho hNe
  go_enter Try.func124, Try.ntmps124
  go_wp2_with fail
  go_loopw [5, 10] (fun o i W => ∃ k : Nat, k ≤ NA ∧ i = .int .i64 k ∧ Hid (W.ownsRow 0 5 1 o k (txV s (pl.take k))) ∧ Hid (∀ q ∈ blkV o, w.heap.size ≤ q) ∧ Hid (Below w.heap.size w W)) (fun _ i _ => NA - (RowKit.intOf i).toNat)
  case atStart => exact ⟨0, by omega, rfl, World.ownsRow_nil _ _ _ _, fun q hq => (by cases hq), Below.refl _ _⟩
  case round =>
    obtain ⟨k, hk, rfl, HR, HBk, HB⟩ := hrel
    obtain ⟨y, cc, rfl⟩ := row_any HR.out
    by_cases hkN : k < NA
    · have hki : (k : Int) < NA := by omega
      obtain ⟨gg, rfl, -, hc0⟩ := HLC.out k hkN
      have hc := keepc HB.out hc0
      have hlc := World.block_lt_of_cell? wr _ hc
      have hget : pl[k]? = some (pl.getD k 0) := by rw [List.getD_eq_getElem?_getD, List.getElem?_eq_getElem (by rw [HPN.out]; exact hkN)]; rfl
      have hxN := HMB.out _ (List.mem_of_getElem? hget)
      have HTS := hid (txV_one (s := s) hget)
      generalize pl.getD k 0 = x at hc hxN HTS
      have hxi : (x : Int) < N := by omega
      obtain ⟨h4, hcx, hlb⟩ := HX.out _ (HH.out.below HB.out) x hxN
      have hlg := World.block_lt_of_cell? wr _ hcx
      generalize (s.cel x).ch = ch at HTS hcx
      clear hget hc0
      go_wp2_with (first | (at_builtin; refine wpList_append_blk _ rfl _ _ 60 rfl 5 i0 _ 1 1 Try.underlying60 hi hz0 hz1 hz2 rfl (by decide) _ _ _ rfl (HR.out.alloc _) ⟨wr.heap.size, 0, none⟩ 1 1 [.int .u8 ch] rfl rfl (one_new _ _ _ _ (by simp)) (by simp [Value.oneCell']) (by unfold maxLen; omega) (by omega) ?_; intro v' W1 hown' hgrow _ hb'; obtain ⟨g', cap', rfl⟩ := row_any hown'; have H1 := hid hown'; have H2 := hid hgrow; have H3 := hid hb'; clear hown' hgrow hb') | fail)
      go_roundw
      case rel =>
        refine ⟨k + 1, by omega, by go_num, ?_, fun q hq => ?_, ?_⟩
        · rw [HTS.out]
          exact H1.out
        · rcases H3.out q hq with h | h
          · exact HBk.out q h
          · have := HB.out.size
            simp at h
            omega
        · exact (HB.out.al (Nat.le_refl _) _).grown H2.out (by have := HB.out.size; simp; omega) (fun q e => HBk.out q (mem_blkV.2 e))
      case measure => simp [RowKit.intOf]; omega
    · obtain rfl : k = NA := by omega
      go_wp2
      go_ret
      refine ⟨_, rfl, ?_, fun q hq => HBk.out q hq, HB.out⟩
      have q := HR.out
      rwa [List.take_of_length_le (by rw [HPN.out]; exact Nat.le_refl _)] at q
set_option maxRecDepth 100000 in
set_option maxHeartbeats 8000000 in
theorem rmove_any (pl : List Nat) (cs : List Int) (NA : Nat) (hNA : pl.length = NA) (hKB : NA ≤ 4000) (hmb : ∀ x ∈ pl, x < s.L.length) (hcs : ∀ k, k < NA → U8 (cs.getD k 0)) (y : Option Addr) (c ug uo ul uc : Nat) (hul : NA ≤ ul) (w : World)
    (hlc : ∀ k, k < NA → ∃ gg, y = some ⟨gg, 0, none⟩ ∧ gg ≠ b ∧ gg ≠ g ∧ w.cell? ⟨gg, k, none⟩ = some (.int .i64 (pl.getD k 0 : Nat))) (hub : ug ≠ b ∧ ug ≠ g) (huc : ∀ k, k < NA → w.cell? ⟨ug, uo + k, none⟩ = some (.int .u8 (cs.getD k 0))) (h : RfM w b g s) :
    Calls Try.prog 123 #[.pointer (some ⟨b, 0, none⟩), .slice y NA c, .slice (some ⟨ug, uo, none⟩) ul uc] w (RfD b g (mvR s pl cs NA) w) := by
  have HN := hid h.ok.pos
  have HPU := hid (fun (n : Int) (hn : I64 n) (v : Int) (hv : U8 v) W (t : Spc) (ht : RfM W b g t) => rput_any (b := b) (g := g) (s := t) n hn v hv W ht)
  have HLC := hid hlc
  have HUC := hid huc
  have HPN := hid hNA
  have HMB := hid hmb
  have HCS := hid hcs
  have HUB := hid hub
  have HR0 := hid h
  have HFS := hid (fun k => (show mvR s pl cs (k + 1) = (mvR s pl cs k).putC (pl.getD k 0 : Nat) (cs.getD k 0) from rfl))
  have HF0 := hid (show mvR s pl cs 0 = s from rfl)
  generalize mvR s pl cs = f at HFS HF0 ⊢
  clear h hlc hNA hmb huc hcs hub
  go_enter Try.func123, Try.ntmps123
  go_wp2_with fail
  go_loopw [10] (fun i W => ∃ k : Nat, k ≤ NA ∧ i = .int .i64 k ∧ Hid (RfM W b g (f k)) ∧ Hid (Moved w W [b, g] [b, g])) (fun i _ => NA - (RowKit.intOf i).toNat)
  case atStart => exact ⟨0, by omega, rfl, by show RfM _ _ _ _; rw [HF0.out]; exact HR0.out, Moved.refl _ _⟩
  case round =>
    obtain ⟨k, hk, rfl, HR, HM⟩ := hrel
    by_cases hkN : k < NA
    · have hki : (k : Int) < NA := by omega
      have hku : (k : Int) < ul := by omega
      obtain ⟨gg, rfl, hgb, hgg, hc0⟩ := HLC.out k hkN
      have hc := cell_moved HM.out hc0 (by simp; exact ⟨hgb, hgg⟩)
      have hu := cell_moved HM.out (HUC.out k hkN) (by simp; exact HUB.out)
      have hlg := World.block_lt_of_cell? wr _ hc
      have hlu := World.block_lt_of_cell? wr _ hu
      have HFK := hid (HFS.out k)
      have HVU := hid (HCS.out k hkN)
      have hxN := HMB.out (pl.getD k 0) (by rw [List.getD_eq_getElem?_getD, List.getElem?_eq_getElem (by rw [HPN.out]; exact hkN)]; exact List.getElem_mem _)
      generalize pl.getD k 0 = x at hc hxN HFK
      generalize cs.getD k 0 = v at hu HFK HVU
      have HX := hid (i64_small (n := (x : Int)) (by have := HN.out; omega) (by have := HN.out; omega))
      clear hc0
      go_wp2_with fail
      with_reducible refine (HPU.out _ HX.out _ HVU.out _ _ HR.out).mono ?_
      rintro e w2 ⟨⟨v2, rfl⟩, hs, hm⟩
      have HS2 := hid hs
      have HM2 := hid (HM.out.trans hm)
      clear hs hm hc hu
      go_wp2
      go_roundw
      case rel => exact ⟨k + 1, by omega, by go_num, by show RfM _ _ _ _; rw [HFK.out]; exact HS2.out, HM2.out⟩
      case measure => simp [RowKit.intOf]; omega
    · obtain rfl : k = NA := by omega
      have HFI := hid (show RfD b g (f k) w (.returned (.tuple #[])) wr from ⟨⟨_, rfl⟩, HR.out, HM.out⟩)
      go_wp2
      first
        | exact bodyPost_ret (results_none rfl _ _ _) rfl ⟨⟨_, rfl⟩, HFI.out.2.1, HFI.out.2.2⟩
        | (go_end0; exact ⟨⟨_, rfl⟩, HFI.out.2.1, HFI.out.2.2⟩)
/-- What an edit of the reference leaves. -/
def EdD (b g : Nat) (yes : Bool) (s' : Spc) (w : World) (e : Ending) (w' : World) : Prop := e = .returned (.bool yes) ∧ RfM w' b g s' ∧ Moved w w' [b, g] [b, g]
theorem open_P {s : Spc} {n : Int} (h : openB s n = true) : s.P (s.wr n) = false := by
  unfold openB at h
  rw [Bool.and_eq_true] at h
  have q := h.1
  have q2 : (s.atC n).at_ = false := by simpa using q
  exact q2
set_option maxRecDepth 100000 in
set_option maxHeartbeats 8000000 in
theorem rend_any (n : Int) (hn : I64 n) (w : World) (h : RfM w b g s) : Calls Try.prog 70 #[.pointer (some ⟨b, 0, none⟩), .int .i64 n] w (EdD b g (openB s n) (if openB s n then endS s n else s) w) := by
  have hok := h.ok
  have hb := h.lt.1
  have hg := h.lt.2
  have HOP := hid (fun W h => ropen_any (b := b) (g := g) (s := s) n hn W h)
  have HRS := hid (fun W h => rest_any (b := b) (g := g) (s := s) n hn false W h)
  have HPU := hid (fun (n : Int) (hn : I64 n) W (t : Spc) (ht : RfM W b g t) => rput_any (b := b) (g := g) (s := t) n hn 0 u8_zero W ht)
  have HMO := hid (fun W (t : Spc) (ht : RfM W b g t) => rmodify_any (b := b) (g := g) (s := t) n hn W ht)
  have HR0 := hid h
  have HN := hid hok.pos
  cases ho : openB s n
  · rw [if_neg (by decide)]
    rw [ho] at HOP
    clear h hn hok ho
    go_enter Try.func70, Try.ntmps70
    go_wp2_with fail
    with_reducible refine (HOP.out _ HR0.out).mono ?_
    rintro e w1 ⟨rfl, hb1⟩
    have HB1 := hid hb1
    clear hb1
    go_wp2
    go_ret
    exact ⟨rfl, HR0.out.below HB1.out, Moved.below HB1.out _⟩
  · rw [if_pos rfl]
    rw [rsL_end hok (open_P ho)] at HRS
    have HE := hid (show endS s n = modS (clrR s (endL s n) (endL s n).length) n from rfl)
    rw [HE.out]
    have hle : (endL s n).length ≤ 4000 := by
      unfold endL restL
      refine Nat.le_trans (List.Sublist.length_le (List.takeWhile_sublist _)) ?_
      rw [spN_len]
      exact Nat.le_trans (lenZ_le hok.sz) (by omega)
    have HMB := hid (fun x (hx : x ∈ endL s n) => restL_mem hok hx)
    rw [ho] at HOP
    generalize endL s n = pl at HRS HMB hle ⊢
    obtain ⟨NA, hNA⟩ : ∃ NA, pl.length = NA := ⟨_, rfl⟩
    have HPN := hid hNA
    rw [hNA] at HRS hle ⊢
    have HFS := hid (fun k => (show clrR s pl (k + 1) = (clrR s pl k).putC (pl.getD k 0 : Nat) 0 from rfl))
    have HF0 := hid (show clrR s pl 0 = s from rfl)
    generalize clrR s pl = f at HFS HF0 ⊢
    clear h hn hok ho hNA HE
    go_enter Try.func70, Try.ntmps70
    go_wp2_with fail
    with_reducible refine (HOP.out _ HR0.out).mono ?_
    rintro e w1 ⟨rfl, hb1⟩
    have HB1 := hid hb1
    clear hb1
    go_wp2_with fail
    with_reducible refine (HRS.out _ (HR0.out.below HB1.out)).mono ?_
    rintro e w2 ⟨v1, rfl, ho1, hk1, hb2⟩
    obtain ⟨y1, c1, rfl, hlc⟩ := lst_cells ho1 HPN.out hk1
    have HLC := hid hlc
    have HZ := hid HB1.out.size
    have HB2 := hid (below_t HB1.out hb2)
    clear ho1 hk1 hb2 hlc
    go_wp2_with fail
    go_loopw [15] (fun i W => ∃ k : Nat, k ≤ NA ∧ i = .int .i64 k ∧ Hid (RfM W b g (f k)) ∧ Hid (Moved w2 W [b, g] [b, g])) (fun i _ => NA - (RowKit.intOf i).toNat)
    case atStart => exact ⟨0, by omega, rfl, by show RfM _ _ _ _; rw [HF0.out]; exact HR0.out.below HB2.out, Moved.refl _ _⟩
    case round =>
      obtain ⟨k, hk, rfl, HR, HM⟩ := hrel
      by_cases hkN : k < NA
      · have hki : (k : Int) < NA := by omega
        obtain ⟨gg, rfl, hgg, hc0⟩ := HLC.out k hkN
        have hz1 := HZ.out
        have hc := cell_moved HM.out hc0 (by simp; omega)
        have hlg := World.block_lt_of_cell? wr _ hc
        have HFK := hid (HFS.out k)
        have hxN := HMB.out (pl.getD k 0) (by rw [List.getD_eq_getElem?_getD, List.getElem?_eq_getElem (by rw [HPN.out]; exact hkN)]; exact List.getElem_mem _)
        generalize pl.getD k 0 = x at hc hxN HFK
        have HX := hid (i64_small (n := (x : Int)) (by have := HN.out; omega) (by have := HN.out; omega))
        clear hc0 hz1
        go_wp2_with fail
        with_reducible refine (HPU.out _ HX.out _ _ HR.out).mono ?_
        rintro e w3 ⟨⟨v2, rfl⟩, hs, hm⟩
        have HS2 := hid hs
        have HM2 := hid (HM.out.trans hm)
        clear hs hm hc
        go_wp2
        go_roundw
        case rel => exact ⟨k + 1, by omega, by go_num, by show RfM _ _ _ _; rw [HFK.out]; exact HS2.out, HM2.out⟩
        case measure => simp [RowKit.intOf]; omega
      · obtain rfl : k = NA := by omega
        go_wp2_with fail
        with_reducible refine (HMO.out _ _ HR.out).mono ?_
        rintro e w3 ⟨rfl, hs, hm⟩
        have HFI := hid (And.intro hs ((Moved.below HB2.out [b, g]).trans (HM.out.trans hm)))
        clear hs hm
        go_wp2
        go_ret
        exact ⟨rfl, HFI.out.1, HFI.out.2⟩
end

/-- Different places of a space, none of them an attribute's. -/
structure Dst (s : Spc) (pl : List Nat) (K : Nat) : Prop where
  mem : ∀ k, k < K → pl.getD k 0 < s.L.length ∧ s.P (pl.getD k 0) = false
  ne : ∀ i j, i < j → j < K → pl.getD i 0 ≠ pl.getD j 0
theorem mvR_ch {s : Spc} {pl : List Nat} {K : Nat} (hd : Dst s pl K) (cs : List Int) : ∀ k, k ≤ K → ∀ j, k ≤ j → j < K → ((mvR s pl cs k).cel (pl.getD j 0)).ch = (s.cel (pl.getD j 0)).ch
  | 0, _, _, _, _ => rfl
  | k + 1, h, j, h1, h2 => by
    have hal := mvR_alike s pl cs k
    obtain ⟨m1, m2⟩ := hd.mem k (by omega)
    show (((mvR s pl cs k).putC (pl.getD k 0 : Nat) (cs.getD k 0)).cel (pl.getD j 0)).ch = _
    rw [putC_ch (p := pl.getD k 0) (wr_nat (by rw [hal.len]; exact m1)) (by rw [hal.P]; exact m2) (by rw [hal.len]; exact m1), if_neg (fun q => hd.ne k j (by omega) h2 q.symm)]
    exact mvR_ch hd cs k (by omega) j (by omega) h2
theorem putC_self {t : Spc} {m : Int} {p : Nat} (hm : t.wr m = p) (hl : p < t.L.length) (hf : FitC t) : t.putC m (t.cel p).ch = t := by
  unfold Spc.putC
  have ea : t.atC m = t.cel p := by unfold Spc.atC; rw [hm]
  rw [ea]
  split
  · rfl
  · have ec : ({ t.cel p with ch := (t.cel p).ch } : Cel) = t.cel p := rfl
    rw [ec]
    unfold Spc.setC
    rw [hm]
    exact put1_same fun _ => (hf p hl).symm
/-- A character less. -/
theorem del_mv {s : Spc} {n : Int} {pl : List Nat} {K : Nat} (hd : Dst s pl K) (hf : FitC s) (hn : s.wr n = pl.getD 0 0) (cs : List Int) (hcs : ∀ k, k + 1 < K → cs.getD k 0 = (s.cel (pl.getD (k + 1) 0)).ch) : ∀ k, k < K → delR s n pl (k + 1) = mvR s pl cs k
  | 0, h => by
    show s.putC (lastZ n pl 0) (s.cel (pl.getD 0 0)).ch = s
    exact putC_self (m := n) hn (hd.mem 0 h).1 hf
  | k + 1, h => by
    have ih := del_mv hd hf hn cs hcs k (by omega)
    show (delR s n pl (k + 1)).putC (lastZ n pl (k + 1)) ((delR s n pl (k + 1)).cel (pl.getD (k + 1) 0)).ch = (mvR s pl cs k).putC (pl.getD k 0 : Nat) (cs.getD k 0)
    rw [ih, mvR_ch hd cs k (by omega) (k + 1) (by omega) h, hcs k h]
    unfold lastZ
    rw [if_neg (by omega), Nat.add_sub_cancel]
theorem del_is {s : Spc} {n : Int} {pl : List Nat} {K : Nat} (hK : 0 < K) (hd : Dst s pl K) (hf : FitC s) (hn : s.wr n = pl.getD 0 0) (cs : List Int) (hcs : ∀ k, k + 1 < K → cs.getD k 0 = (s.cel (pl.getD (k + 1) 0)).ch) (hc0 : cs.getD (K - 1) 0 = 0) : (delR s n pl K).putC (lastZ n pl K) 0 = mvR s pl cs K := by
  obtain ⟨k, rfl⟩ : ∃ k, K = k + 1 := ⟨K - 1, by omega⟩
  rw [del_mv hd hf hn cs hcs k (by omega)]
  show _ = (mvR s pl cs k).putC (pl.getD k 0 : Nat) (cs.getD k 0)
  rw [Nat.add_sub_cancel] at hc0
  rw [hc0]
  unfold lastZ
  rw [if_neg (by omega), Nat.add_sub_cancel]
theorem row_dst (s : Spc) (n : Int) : Dst s (rowS s n) (rowS s n).length := by
  have h := row_is s n
  refine ⟨fun k hk => by rw [h.get k hk]; exact h.at_ k hk, fun i j h1 h2 => ?_⟩
  rw [h.get i (by omega), h.get j h2]
  omega
theorem row_pos {s : Spc} (h : s.OK) {n : Int} (hP : s.P (s.wr n) = false) : 0 < (rowS s n).length := by
  have hw := h.wr_lt n
  have hp := h.pos.1
  unfold rowS rowL
  obtain ⟨f, hf⟩ : ∃ f, s.L.length = f + 1 := ⟨s.L.length - 1, by omega⟩
  have hin : inB s.P s.L.length s.c ((s.wr n : Int) / s.c) (s.wr n) = true := by
    unfold inB
    rw [decide_eq_true hw, decide_eq_true rfl, hP]
    rfl
  generalize inB s.P s.L.length s.c ((s.wr n : Int) / s.c) = ib at hin
  show 0 < (rowF s.P s.L.length s.c ((s.wr n : Int) / s.c) s.L.length (s.wr n)).length
  rw [show rowF s.P s.L.length s.c ((s.wr n : Int) / s.c) s.L.length (s.wr n) = rowF s.P s.L.length s.c ((s.wr n : Int) / s.c) (f + 1) (s.wr n) by rw [← hf]]
  unfold rowF
  have hin2 : inB s.P s.L.length s.c ((s.wr n : Int) / s.c) (s.wr n) = true := by
    unfold inB
    rw [decide_eq_true hw, decide_eq_true rfl, hP]
    rfl
  rw [if_pos hin2]
  simp
theorem setCells_one (w : World) (b o : Nat) (u : Value) : w.setCells b o [u] = w.setCell ⟨b, o, none⟩ u := rfl
/-- A value behind a slice of what is one's own, its first element left out. -/
theorem wpList_append_tail {P : Program} (w : World) {ops : Array Oper} {rest : List Oper} {o : Oper} {a : Act} {Q : Exit → Act → World → Prop}
    (hg : o.guard = none) (s x : Operand) (t : TypeId) (hop : o.op = Op.call { callee := Callee.builtin Builtin.append, args := #[s, x], argTypes := #[t, t] })
    (e : TypeId) (i : TypeInfo) (z : Value) (bytes : Nat) (h1 : P.underlying t = some (.slice e)) (h2 : P.info? e = some i) (h3 : i.zero = some z) (h4 : i.size = 1) (h5 : i.bytes = bytes) (h6 : z.cells.size = 1)
    (b off n cap : Nat) (olds : List Value) (hs : a.eval s = .slice (some ⟨b, off, none⟩) n cap) (hlo : olds.length = n) (holds : ∀ j u, olds[j]? = some u → w.cell? ⟨b, off + j, none⟩ = some u)
    (ab c : Nat) (u : Value) (hx : a.eval x = .slice (some ⟨ab, 0, none⟩) 1 c) (hc : w.cell? ⟨ab, 0, none⟩ = some u) (h1c : u.oneCell' = true)
    (hspare : n + 1 ≤ cap → (w.cell? ⟨b, off + n, none⟩).isSome = true ∧ w.frozen? ⟨b, off + n, none⟩ = false)
    (b1 : n + 1 ≤ maxLen) (b2 : (n + 1) * bytes ≤ 140737488355328)
    (hK : ∀ v' w', (∃ ug uo uc, v' = .slice (some ⟨ug, uo, none⟩) (n + 1) uc ∧ (ug = b ∨ w.heap.size ≤ ug) ∧ ∀ j, j < n + 1 → w'.cell? ⟨ug, uo + j, none⟩ = (olds ++ [u])[j]?) → Moved w w' [b] [b] → wpList P ops Q rest (a.put o.dst v') w') :
    wpList P ops Q (o :: rest) a w := by
  refine wpList_append_arg w hg s x t hop e i z 1 bytes h1 h2 h3 h4 h5 h6 (by decide) b off n cap olds hs (by omega) holds ⟨ab, 0, none⟩ 1 c [u] hx rfl (fun j v hj => ?_) (fun v hv => by rw [List.mem_singleton.1 hv]; exact h1c) (fun hr j hj => ?_) b1 b2 (fun hr => ?_) (fun hr v' w' hown hgr => ?_)
  · cases j with
    | zero =>
      simp at hj
      subst hj
      exact hc
    | succ j => simp at hj
  · obtain rfl : j = 0 := by simp at hj; omega
    rw [Nat.mul_one, Nat.add_zero]
    exact hspare hr
  · obtain ⟨q1, q2⟩ := hspare hr
    obtain ⟨v0, hv0⟩ := Option.isSome_iff_exists.1 q1
    rw [Nat.mul_one, setCells_one]
    refine hK _ _ ⟨b, off, cap, rfl, .inl rfl, fun j hj => ?_⟩ (Moved.set (by simp) _ _)
    by_cases e : j = n
    · subst e
      rw [List.getElem?_append_right (by omega), hlo, Nat.sub_self, set_s hv0]
      rfl
    · rw [List.getElem?_append_left (by omega), set_o (u := olds[j]'(by omega)) (by omega) (holds j _ (List.getElem?_eq_getElem (by omega)))]
      exact (List.getElem?_eq_getElem (by omega)).symm
  · refine hK v' w' ?_ (Moved.grown hgr (fun k hk => by cases hk) (fun k hk => .inl hk))
    have hown0 := hown
    rcases hown.2 with ⟨_, h0⟩ | ⟨g, cap', _, rfl, hgB, _, hnc, hcm, _⟩
    · omega
    · exact ⟨g, 0, cap', rfl, .inr hgB, fun j hj => by rw [Nat.zero_add]; exact hown0.cellAt j (by omega)⟩
section
variable {b g : Nat} {s : Spc}
set_option maxRecDepth 100000 in
set_option maxHeartbeats 8000000 in
theorem rdelete_any (n : Int) (hn : I64 n) (w : World) (h : RfM w b g s) (hf : FitC s) : Calls Try.prog 71 #[.pointer (some ⟨b, 0, none⟩), .int .i64 n] w (EdD b g (openB s n) (if openB s n then delS s n else s) w) := by
  obtain ⟨i0, hi, hz0, hz1, hz2⟩ := info_parts info8
  have hok := h.ok
  have hb := h.lt.1
  have hg := h.lt.2
  have HOP := hid (fun W h => ropen_any (b := b) (g := g) (s := s) n hn W h)
  have HRW := hid (fun W h => rrow_any (b := b) (g := g) (s := s) n hn W h)
  have HMO := hid (fun W (t : Spc) (ht : RfM W b g t) => rmodify_any (b := b) (g := g) (s := t) n hn W ht)
  have HR0 := hid h
  have HN := hid hok.pos
  cases ho : openB s n
  · rw [if_neg (by decide)]
    rw [ho] at HOP
    clear h hn hok ho hf
    go_enter Try.func71, Try.ntmps71
    go_wp2_with fail
    with_reducible refine (HOP.out _ HR0.out).mono ?_
    rintro e w1 ⟨rfl, hb1⟩
    have HB1 := hid hb1
    clear hb1
    go_wp2
    go_ret
    exact ⟨rfl, HR0.out.below HB1.out, Moved.below HB1.out _⟩
  · rw [if_pos rfl]
    have hK := row_pos hok (open_P ho)
    have hle : (rowS s n).length ≤ 4000 := by have := (row_is s n).le; have := hok.pos; omega
    have hds := row_dst s n
    have hw0 : s.wr n = (rowS s n).getD 0 0 := ((row_is s n).get 0 hK).symm
    have HMB := fun x (hx : x ∈ rowS s n) => (show x < s.L.length from by
      obtain ⟨k, hk, e⟩ := List.mem_iff_getElem.1 hx
      have q := (hds.mem k hk).1
      rw [List.getD_eq_getElem?_getD, List.getElem?_eq_getElem hk] at q
      subst e
      exact q)
    have HTX := hid (show ∀ k, k < (rowS s n).length → (txL s (rowS s n)).getD k 0 = (s.cel ((rowS s n).getD k 0)).ch from fun k hk => by
      unfold txL
      rw [List.getD_eq_getElem?_getD, List.getElem?_map, List.getD_eq_getElem?_getD, List.getElem?_eq_getElem hk]
      rfl)
    have htl : (txL s (rowS s n)).length = (rowS s n).length := by unfold txL; rw [List.length_map]
    have HCS0 := fun (k : Nat) (hk : k < (txL s (rowS s n)).length) => (show U8 ((txL s (rowS s n)).getD k 0) from by
      have q := HTX.out k (by rw [← htl]; exact hk)
      rw [q]
      exact (hok.cel _).ch)
    obtain ⟨cs, hcs⟩ : ∃ cs, (txL s (rowS s n)).drop 1 ++ [0] = cs := ⟨_, rfl⟩
    have hcl : cs.length = (rowS s n).length := by rw [← hcs, List.length_append, List.length_drop, htl]; simp; omega
    have hcg : ∀ k, k + 1 < (rowS s n).length → cs.getD k 0 = (txL s (rowS s n)).getD (k + 1) 0 := fun k hk => by
      rw [← hcs, List.getD_eq_getElem?_getD, List.getElem?_append_left (by rw [List.length_drop, htl]; omega), List.getElem?_drop, Nat.add_comm 1 k, ← List.getD_eq_getElem?_getD]
    have hc0 : cs.getD ((rowS s n).length - 1) 0 = 0 := by
      rw [← hcs, List.getD_eq_getElem?_getD, List.getElem?_append_right (by rw [List.length_drop, htl]; exact Nat.le_refl _), List.length_drop, htl, Nat.sub_self]
      rfl
    have HE := hid (show delS s n = modS (mvR s (rowS s n) cs (rowS s n).length) n by
      unfold delS
      rw [del_is hK hds hf hw0 cs (fun k hk => by rw [hcg k hk, HTX.out _ hk]) hc0])
    rw [HE.out]
    have HCU := hid (show ∀ k, k < (rowS s n).length → U8 (cs.getD k 0) from fun k hk => by
      by_cases q : k + 1 < (rowS s n).length
      · rw [hcg k q]
        exact HCS0 _ (by rw [htl]; exact q)
      · rw [show k = (rowS s n).length - 1 by omega, hc0]
        exact u8_zero)
    have HCV := hid (show (txV s (rowS s n)).drop 1 ++ [.int .u8 0] = cs.map (Value.int .u8) by
      rw [← hcs, List.map_append]
      unfold txV
      rw [List.map_drop]
      rfl)
    have HCO := hid (fun v W (ho : W.ownsRow 0 3 1 v (rowS s n).length (intsV ((rowS s n).map Int.ofNat))) (hW : RfM W b g s) => rcodes_any (b := b) (g := g) (s := s) (rowS s n) v _ rfl hle HMB W ho hW)
    have HMV := hid (fun y c ug uo ul uc hul W hlc hub huc (hW : RfM W b g s) => rmove_any (b := b) (g := g) (s := s) (rowS s n) cs (rowS s n).length rfl hle HMB HCU.out y c ug uo ul uc hul W hlc hub huc hW)
    have HVL := hid (show (txV s (rowS s n)).length = (rowS s n).length by unfold txV; rw [List.length_map, htl])
    rw [ho] at HOP
    generalize txV s (rowS s n) = tv at HCV HCO HVL
    generalize mvR s (rowS s n) cs (rowS s n).length = sm at HMV ⊢
    generalize rowS s n = pl at HRW HCO HMV HVL hK hle hcl
    obtain ⟨NA, hNA⟩ : ∃ NA, pl.length = NA := ⟨_, rfl⟩
    have HPN := hid hNA
    rw [hNA] at HRW HCO HMV HVL hK hle hcl
    have HCL := hid hcl
    clear h hn hok ho hf hNA HE hds hw0 HMB HTX htl HCS0 hcs hcg hc0 HCU hcl
    go_enter Try.func71, Try.ntmps71
    go_wp2_with fail
    with_reducible refine (HOP.out _ HR0.out).mono ?_
    rintro e w1 ⟨rfl, hb1⟩
    have HB1 := hid hb1
    have HR1 := hid (HR0.out.below hb1)
    have hq1 := hb1.size
    clear hb1
    go_wp2_with fail
    with_reducible refine (HRW.out _ HR1.out).mono ?_
    rintro e w2 ⟨v1, rfl, ho1, hk1, hb2⟩
    have HO2 := hid ho1
    have HR2 := hid (HR1.out.below hb2)
    have HB2 := hid (below_t HB1.out hb2)
    have hq2 := hb2.size
    obtain ⟨y1, c1, rfl, hlc⟩ := lst_cells ho1 HPN.out hk1
    have HLC := hid hlc
    clear ho1 hk1 hb2 hlc
    go_wp2_with fail
    with_reducible refine (HCO.out _ _ HO2.out HR2.out).mono ?_
    rintro e w3 ⟨v3, rfl, ho3, hk3, hb3⟩
    have HR3 := hid (HR2.out.below hb3)
    have HB3 := hid (below_t HB2.out hb3)
    have HL3 := hid (show ∀ k, k < NA → ∃ gg, y1 = some ⟨gg, 0, none⟩ ∧ w1.heap.size ≤ gg ∧ gg < w2.heap.size ∧ w3.cell? ⟨gg, k, none⟩ = some (.int .i64 (pl.getD k 0 : Nat)) from fun k hk => by
      obtain ⟨gg, q1, q2, q3⟩ := HLC.out k hk
      exact ⟨gg, q1, q2, World.block_lt_of_cell? w2 _ q3, keepc hb3 q3⟩)
    have hq3 := hb3.size
    have hown3 := ho3
    rcases ho3.2 with ⟨_, e0⟩ | ⟨hh, cap, cur, rfl, _, hhp, hle3, hcm, hcz, hct⟩
    · omega
    have hkh := hk3 hh (by simp [blkV, Value.ownBlock])
    have hhl : hh < w3.heap.size := (Array.getElem?_eq_some_iff.1 hhp).1
    have HC3 := hid (show ∀ j, j < NA → w3.cell? ⟨hh, j, none⟩ = tv[j]? from fun j hj => hown3.cellAt j (by omega))
    have HS3 := hid (show ∀ j, j < cap → (w3.cell? ⟨hh, j, none⟩).isSome = true ∧ w3.frozen? ⟨hh, j, none⟩ = false from fun j hj => ⟨by
      rw [cell_of_heap hhp, Array.getElem?_eq_getElem (by omega)]
      rfl, frozen_of_heap hhp⟩)
    clear ho3 hk3 hb3 hown3 hhp hcz hct
    by_cases hcap : cap = 1
    · obtain rfl : NA = 1 := by omega
      subst hcap
      obtain ⟨W4, hW4⟩ : ∃ W4, w3.alloc (.cells #[.int .u8 0] 5) = W4 := ⟨_, rfl⟩
      have hb4 : Below w3.heap.size w3 W4 := by rw [← hW4]; exact bal (Below.refl _ _) _
      have HOL := hid (show ∀ j u, (tv.drop 1)[j]? = some u → (w3.alloc (.cells #[.int .u8 0] 5)).cell? ⟨hh, 0 + j, none⟩ = some u from fun j u hj => by
        rw [hW4]
        rw [List.getElem?_drop] at hj
        have hjl : 1 + j < 1 := by
          rcases Nat.lt_or_ge (1 + j) tv.length with q | q
          · have := HVL.out; omega
          · rw [List.getElem?_eq_none q] at hj; cases hj
        omega)
      have HSPR := hid (show 1 - 1 + 1 ≤ 1 - 1 → ((w3.alloc (.cells #[.int .u8 0] 5)).cell? ⟨hh, 0 + (1 - 1), none⟩).isSome = true ∧ (w3.alloc (.cells #[.int .u8 0] 5)).frozen? ⟨hh, 0 + (1 - 1), none⟩ = false from fun hle => by
        rw [hW4]
        omega)
      have HCN := hid (show (w3.alloc (.cells #[.int .u8 0] 5)).cell? ⟨w3.heap.size, 0, none⟩ = some (.int .u8 0) by simp [go_sem])
      have HDL := hid (show (tv.drop 1).length = 1 - 1 by rw [List.length_drop, HVL.out])
      have HR4 := hid (show RfM (w3.alloc (.cells #[.int .u8 0] 5)) b g s by rw [hW4]; exact HR3.out.below hb4)
      have HB4 := hid (show Below w.heap.size w (w3.alloc (.cells #[.int .u8 0] 5)) by rw [hW4]; exact below_t HB3.out hb4)
      have HL4 := hid (show ∀ k, k < 1 → ∃ gg, y1 = some ⟨gg, 0, none⟩ ∧ w1.heap.size ≤ gg ∧ gg < w2.heap.size ∧ (w3.alloc (.cells #[.int .u8 0] 5)).cell? ⟨gg, k, none⟩ = some (.int .i64 (pl.getD k 0 : Nat)) from fun k hk => by
        obtain ⟨gg, q1, q2, q3, q4⟩ := HL3.out k hk
        rw [hW4]
        exact ⟨gg, q1, q2, q3, keepc hb4 q4⟩)
      have HS4 := hid (show w3.heap.size ≤ (w3.alloc (.cells #[.int .u8 0] 5)).heap.size by rw [hW4]; exact hb4.size)
      clear hW4 hb4
      go_wp2_with (first | (at_builtin; go_loud (refine wpList_append_tail _ rfl _ _ 60 rfl 5 i0 _ 1 Try.underlying60 hi hz0 hz1 hz2 rfl hh 0 _ _ (tv.drop 1) rfl HDL.out HOL.out w3.heap.size 1 (.int .u8 0) rfl HCN.out rfl HSPR.out (by unfold maxLen; omega) (by omega) ?_); rintro v' w5 ⟨ug, uo, uc, rfl, hug, hcell⟩ hm5; have HU := hid hug; have HCE := hid hcell; have HM5 := hid hm5; clear hug hcell hm5) | fail)
      have hub : ug ≠ b ∧ ug ≠ g := by
        have := HU.out
        have := HS4.out
        omega
      have HR5 := hid (HR4.out.moved HM5.out (by simp; omega) (by simp; omega))
      have HB5 := hid (HB4.out.trans (HM5.out.toBelow (B := w.heap.size) HB4.out.size (fun k hk => by simp at hk; omega)))
      have HL5 := hid (show ∀ k, k < 1 → ∃ gg, y1 = some ⟨gg, 0, none⟩ ∧ gg ≠ b ∧ gg ≠ g ∧ w5.cell? ⟨gg, k, none⟩ = some (.int .i64 (pl.getD k 0 : Nat)) from fun k hk => by
        obtain ⟨gg, q1, q2, q3, q4⟩ := HL4.out k hk
        exact ⟨gg, q1, by omega, by omega, cell_moved HM5.out q4 (by simp; omega)⟩)
      have HC5 := hid (show ∀ k, k < 1 → w5.cell? ⟨ug, uo + k, none⟩ = some (.int .u8 (cs.getD k 0)) from fun k hk => by
        have q := HCE.out k (by omega)
        rw [HCV.out] at q
        rw [q, List.getElem?_map, List.getD_eq_getElem?_getD, List.getElem?_eq_getElem (by rw [HCL.out]; exact hk)]
        rfl)
      have HU5 := hid hub
      clear hub
      with_reducible refine (HMV.out _ _ _ _ _ _ (by omega) _ HL5.out HU5.out HC5.out HR5.out).mono ?_
      rintro e w6 ⟨⟨v6, rfl⟩, hs, hm⟩
      have HS6 := hid hs
      have HM6 := hid hm
      clear hs hm
      go_wp2_with fail
      with_reducible refine (HMO.out _ _ HS6.out).mono ?_
      rintro e w7 ⟨rfl, hs, hm⟩
      have HFI := hid (And.intro hs ((Moved.below HB5.out [b, g]).trans (HM6.out.trans hm)))
      clear hs hm
      go_wp2
      go_ret
      exact ⟨rfl, HFI.out.1, HFI.out.2⟩
    · obtain ⟨W4, hW4⟩ : ∃ W4, w3.alloc (.cells #[.int .u8 0] 5) = W4 := ⟨_, rfl⟩
      have hb4 : Below w3.heap.size w3 W4 := by rw [← hW4]; exact bal (Below.refl _ _) _
      have HOL := hid (show ∀ j u, (tv.drop 1)[j]? = some u → (w3.alloc (.cells #[.int .u8 0] 5)).cell? ⟨hh, 1 + j, none⟩ = some u from fun j u hj => by
        rw [hW4]
        rw [List.getElem?_drop] at hj
        have hjl : 1 + j < NA := by
          rcases Nat.lt_or_ge (1 + j) tv.length with q | q
          · rw [← HVL.out]; exact q
          · rw [List.getElem?_eq_none q] at hj; cases hj
        exact keepc hb4 ((HC3.out _ hjl).trans hj))
      have HSPR := hid (show NA - 1 + 1 ≤ cap - 1 → ((w3.alloc (.cells #[.int .u8 0] 5)).cell? ⟨hh, 1 + (NA - 1), none⟩).isSome = true ∧ (w3.alloc (.cells #[.int .u8 0] 5)).frozen? ⟨hh, 1 + (NA - 1), none⟩ = false from fun hle => by
        rw [hW4]
        obtain ⟨q1, q2⟩ := HS3.out (1 + (NA - 1)) (by omega)
        obtain ⟨v0, hv0⟩ := Option.isSome_iff_exists.1 q1
        exact ⟨by rw [keepc hb4 hv0]; rfl, (hb4.frozen (p := ⟨hh, 1 + (NA - 1), none⟩) hhl).trans q2⟩)
      have HCN := hid (show (w3.alloc (.cells #[.int .u8 0] 5)).cell? ⟨w3.heap.size, 0, none⟩ = some (.int .u8 0) by simp [go_sem])
      have HDL := hid (show (tv.drop 1).length = NA - 1 by rw [List.length_drop, HVL.out])
      have HR4 := hid (show RfM (w3.alloc (.cells #[.int .u8 0] 5)) b g s by rw [hW4]; exact HR3.out.below hb4)
      have HB4 := hid (show Below w.heap.size w (w3.alloc (.cells #[.int .u8 0] 5)) by rw [hW4]; exact below_t HB3.out hb4)
      have HL4 := hid (show ∀ k, k < NA → ∃ gg, y1 = some ⟨gg, 0, none⟩ ∧ w1.heap.size ≤ gg ∧ gg < w2.heap.size ∧ (w3.alloc (.cells #[.int .u8 0] 5)).cell? ⟨gg, k, none⟩ = some (.int .i64 (pl.getD k 0 : Nat)) from fun k hk => by
        obtain ⟨gg, q1, q2, q3, q4⟩ := HL3.out k hk
        rw [hW4]
        exact ⟨gg, q1, q2, q3, keepc hb4 q4⟩)
      have HS4 := hid (show w3.heap.size ≤ (w3.alloc (.cells #[.int .u8 0] 5)).heap.size by rw [hW4]; exact hb4.size)
      clear hW4 hb4
      go_wp2_with (first | (at_builtin; go_loud (refine wpList_append_tail _ rfl _ _ 60 rfl 5 i0 _ 1 Try.underlying60 hi hz0 hz1 hz2 rfl hh 1 _ _ (tv.drop 1) rfl HDL.out HOL.out w3.heap.size 1 (.int .u8 0) rfl HCN.out rfl HSPR.out (by unfold maxLen; omega) (by omega) ?_); rintro v' w5 ⟨ug, uo, uc, rfl, hug, hcell⟩ hm5; have HU := hid hug; have HCE := hid hcell; have HM5 := hid hm5; clear hug hcell hm5) | fail)
      have hub : ug ≠ b ∧ ug ≠ g := by
        have := HU.out
        have := HS4.out
        omega
      have HR5 := hid (HR4.out.moved HM5.out (by simp; omega) (by simp; omega))
      have HB5 := hid (HB4.out.trans (HM5.out.toBelow (B := w.heap.size) HB4.out.size (fun k hk => by simp at hk; omega)))
      have HL5 := hid (show ∀ k, k < NA → ∃ gg, y1 = some ⟨gg, 0, none⟩ ∧ gg ≠ b ∧ gg ≠ g ∧ w5.cell? ⟨gg, k, none⟩ = some (.int .i64 (pl.getD k 0 : Nat)) from fun k hk => by
        obtain ⟨gg, q1, q2, q3, q4⟩ := HL4.out k hk
        exact ⟨gg, q1, by omega, by omega, cell_moved HM5.out q4 (by simp; omega)⟩)
      have HC5 := hid (show ∀ k, k < NA → w5.cell? ⟨ug, uo + k, none⟩ = some (.int .u8 (cs.getD k 0)) from fun k hk => by
        have q := HCE.out k (by omega)
        rw [HCV.out] at q
        rw [q, List.getElem?_map, List.getD_eq_getElem?_getD, List.getElem?_eq_getElem (by rw [HCL.out]; exact hk)]
        rfl)
      have HU5 := hid hub
      clear hub
      with_reducible refine (HMV.out _ _ _ _ _ _ (by omega) _ HL5.out HU5.out HC5.out HR5.out).mono ?_
      rintro e w6 ⟨⟨v6, rfl⟩, hs, hm⟩
      have HS6 := hid hs
      have HM6 := hid hm
      clear hs hm
      go_wp2_with fail
      with_reducible refine (HMO.out _ _ HS6.out).mono ?_
      rintro e w7 ⟨rfl, hs, hm⟩
      have HFI := hid (And.intro hs ((Moved.below HB5.out [b, g]).trans (HM6.out.trans hm)))
      clear hs hm
      go_wp2
      go_ret
      exact ⟨rfl, HFI.out.1, HFI.out.2⟩
end

theorem wp_append_blk {P : Program} {w : World} {o : Oper} {a : Act} {K : Act → World → Prop} {Q : Exit → Act → World → Prop} (s x : Operand) (t : TypeId)
    (ho : o.op = .call { callee := .builtin .append, args := #[s, x], argTypes := #[t, t] })
    (e : TypeId) (i : TypeInfo) (z : Value) (size bytes : Nat) (ht : P.underlying t = some (.slice e)) (hi : P.info? e = some i) (hz : i.zero = some z)
    (hsize : i.size = size) (hby : i.bytes = bytes) (hzs : z.cells.size = size) (hsz : 0 < size)
    (v : Value) (n : Nat) (xs : List Value) (hs : a.eval s = v) (hown : w.ownsRow 0 e size v n xs)
    (ad : Addr) (m c : Nat) (news : List Value) (hx : a.eval x = .slice (some ad) m c) (hl : news.length = m * size) (hnews : ∀ j u, news[j]? = some u → w.cell? (ad.add j) = some u) (h1 : ∀ u ∈ news, u.oneCell' = true)
    (h63 : n + m ≤ maxLen) (hbytes : (n + m) * bytes ≤ 140737488355328)
    (h : ∀ v' w', w'.ownsRow 0 e size v' (n + m) (xs ++ news) → w.grownBy w' v.ownBlock → (∀ k ∈ blkV v', k ∈ blkV v ∨ w.heap.size ≤ k) → K (a.put o.dst v') w') : o.wp P a w K Q := by
  obtain ⟨v', w', hr, h2, h3, h4, h5⟩ := run_append_blk (P := P) w t o.type e i z size bytes ht hi hz hsize hby hzs hsz v n xs hown ad m c news hl hnews h1 h63 hbytes
  unfold Oper.wp execOp
  simp only [ho, resolve, invoke, builtin, Sem.run_bind, Sem.run_pure, Result.andThen_ok, List.map_toArray, List.map_cons, List.map_nil, hs, hx, hr]
  exact h v' w' h2 h3 h5
theorem ins_mv {s : Spc} {pl : List Nat} {M : Nat} (hd : Dst s pl M) {c : Int} (cs : List Int) (h0 : cs.getD 0 0 = c) (hcs : ∀ k, k + 1 < M → cs.getD (k + 1) 0 = (s.cel (pl.getD k 0)).ch) : ∀ k, k ≤ M → (insR s pl c k).1 = mvR s pl cs k ∧ (k < M → (insR s pl c k).2 = cs.getD k 0)
  | 0, _ => ⟨rfl, fun _ => h0.symm⟩
  | k + 1, h => by
    obtain ⟨i1, i2⟩ := ins_mv hd cs h0 hcs k (by omega)
    refine ⟨?_, fun hk => ?_⟩
    · show (insR s pl c k).1.putC (pl.getD k 0 : Nat) (insR s pl c k).2 = (mvR s pl cs k).putC (pl.getD k 0 : Nat) (cs.getD k 0)
      rw [i1, i2 (by omega)]
    · show ((insR s pl c k).1.cel (pl.getD k 0)).ch = _
      rw [i1, mvR_ch hd cs k (by omega) k (Nat.le_refl _) (by omega), hcs k hk]
theorem rest_dst {s : Spc} (h : s.OK) (n : Int) : Dst s (restL s n n) (restL s n n).length := by
  have hN := h.pos
  have e0 : (lenZ s.r s.c n n).toNat = s.L.length := by rw [lenZ_self]; have := h.len; omega
  have hlen : (restL s n n).length ≤ s.L.length := by
    unfold restL
    refine Nat.le_trans (List.Sublist.length_le (List.takeWhile_sublist _)) ?_
    rw [spN_len, e0]
    exact Nat.le_refl _
  have hget : ∀ k, k < (restL s n n).length → (restL s n n).getD k 0 = (s.wr n + k) % s.L.length := fun k hk => by
    have hk2 := hk
    unfold restL at hk2 ⊢
    rw [List.getD_eq_getElem?_getD, (ahL_get hk2).1, spN_get (by omega)]
    rfl
  refine ⟨fun k hk => ?_, fun i j h1 h2 => ?_⟩
  · have hm : (restL s n n).getD k 0 ∈ restL s n n := by rw [List.getD_eq_getElem?_getD, List.getElem?_eq_getElem hk]; exact List.getElem_mem hk
    exact restL_free h _ hm
  · rw [hget i (by omega), hget j h2]
    have hw := h.wr_lt n
    rw [modN (by omega), modN (by omega)]
    split <;> split <;> omega
theorem rest_pos {s : Spc} (h : s.OK) {n : Int} (hP : s.P (s.wr n) = false) : 0 < (restL s n n).length := by
  have e0 : (lenZ s.r s.c n n).toNat = s.L.length := by rw [lenZ_self]; have := h.len; omega
  have hN := h.pos.1
  have hw := h.wr_lt n
  obtain ⟨f, hf⟩ : ∃ f, s.L.length = f + 1 := ⟨s.L.length - 1, by omega⟩
  have hf2 : spN s.L.length (s.wr n) (f + 1) = s.wr n :: (List.range f).map (fun i => (s.wr n + (i + 1)) % s.L.length) := by
    unfold spN
    rw [List.range_succ_eq_map, List.map_cons, List.map_map, Nat.add_zero, Nat.mod_eq_of_lt hw]
    rfl
  have e1 : spN s.L.length (s.wr n) s.L.length = spN s.L.length (s.wr n) (f + 1) := by rw [← hf]
  unfold restL
  rw [e0, e1, hf2]
  unfold ahL
  rw [List.takeWhile_cons, hP]
  simp
theorem take_getD {l : List Nat} {k j : Nat} (h : j < k) : (l.take k).getD j 0 = l.getD j 0 := by
  rw [List.getD_eq_getElem?_getD, List.getElem?_take_of_lt h, ← List.getD_eq_getElem?_getD]
theorem ins_no {s : Spc} {n : Int} (h : ∀ j, j < (restL s n n).length → ¬ (s.cel ((restL s n n).getD j 0)).ch = 0) : insB s n = false := by
  have e : (restL s n n).findIdx? (nulB s) = none := List.findIdx?_eq_none_iff.2 fun x hx => by
    obtain ⟨j, hj, e⟩ := List.mem_iff_getElem.1 hx
    have q := h j hj
    rw [List.getD_eq_getElem?_getD, List.getElem?_eq_getElem hj] at q
    have e2 : (some (restL s n n)[j]).getD 0 = x := e
    rw [e2] at q
    unfold nulB
    simpa using q
  unfold insB roomL upL
  rw [e]
  simp
theorem ins_yes {s : Spc} (hok : s.OK) {n : Int} (ho : openB s n = true) (c : Int) {k : Nat} (hk : k < (restL s n n).length) (h : ∀ j, j < k → ¬ (s.cel ((restL s n n).getD j 0)).ch = 0) (hz : (s.cel ((restL s n n).getD k 0)).ch = 0) : insB s n = true ∧ insS s n c = modS (mvR s ((restL s n n).take (k + 1)) (c :: (txL s (restL s n n)).take k) (k + 1)) n := by
  have hg : ∀ j (hj : j < (restL s n n).length), (restL s n n).getD j 0 = (restL s n n)[j] := fun j hj => by rw [List.getD_eq_getElem?_getD, List.getElem?_eq_getElem hj]; rfl
  have e : (restL s n n).findIdx? (nulB s) = some k := List.findIdx?_eq_some_iff_getElem.2 ⟨hk, by
    unfold nulB
    rw [← hg k hk, hz]
    rfl, fun j hj => by
    have q := h j hj
    rw [hg j (by omega)] at q
    unfold nulB
    simpa using q⟩
  have er : roomL s n = (restL s n n).take (k + 1) := by unfold roomL upL; rw [e]
  have hl : ((restL s n n).take (k + 1)).length = k + 1 := by rw [List.length_take]; omega
  have hds := rest_dst hok n
  have hd : Dst s ((restL s n n).take (k + 1)) (k + 1) := ⟨fun j hj => by rw [take_getD hj]; exact hds.mem j (by omega), fun i j h1 h2 => by rw [take_getD (by omega), take_getD h2]; exact hds.ne i j h1 (by omega)⟩
  refine ⟨?_, ?_⟩
  · unfold insB
    rw [er, hl, ho]
    simp
  · unfold insS
    rw [er, hl]
    rw [(ins_mv hd (c := c) (c :: (txL s (restL s n n)).take k) rfl (fun j hj => by
      rw [List.getD_cons_succ, List.getD_eq_getElem?_getD, List.getElem?_take_of_lt (by omega), take_getD (by omega)]
      unfold txL
      rw [List.getElem?_map, List.getD_eq_getElem?_getD, List.getElem?_eq_getElem (by omega)]
      rfl) (k + 1) (Nat.le_refl _)).1]
section
variable {b g : Nat} {s : Spc}
set_option maxRecDepth 100000 in
set_option maxHeartbeats 8000000 in
theorem rinsert_any (n : Int) (hn : I64 n) (c : Int) (hc : U8 c) (w : World) (h : RfM w b g s) : Calls Try.prog 72 #[.pointer (some ⟨b, 0, none⟩), .int .i64 n, .int .u8 c] w (EdD b g (insB s n) (if insB s n then insS s n c else s) w) := by
  obtain ⟨i0, hi, hz0, hz1, hz2⟩ := info_parts info8
  have hok := h.ok
  have hb := h.lt.1
  have hg := h.lt.2
  have HOP := hid (fun W h => ropen_any (b := b) (g := g) (s := s) n hn W h)
  have HRS := hid (fun W h => rest_any (b := b) (g := g) (s := s) n hn true W h)
  have HMO := hid (fun W (t : Spc) (ht : RfM W b g t) => rmodify_any (b := b) (g := g) (s := t) n hn W ht)
  have HR0 := hid h
  cases ho : openB s n
  · have e1 : insB s n = false := by unfold insB; rw [ho]; rfl
    rw [e1, if_neg (by decide)]
    rw [ho] at HOP
    clear h hn hok ho hc e1
    go_enter Try.func72, Try.ntmps72
    go_wp2_with fail
    with_reducible refine (HOP.out _ HR0.out).mono ?_
    rintro e w1 ⟨rfl, hb1⟩
    have HB1 := hid hb1
    clear hb1
    go_wp2
    go_ret
    exact ⟨rfl, HR0.out.below HB1.out, Moved.below HB1.out _⟩
  · rw [rsL_round hok (open_P ho)] at HRS
    have hK := rest_pos hok (open_P ho)
    have hds := rest_dst hok n
    have hle : (restL s n n).length ≤ 4000 := by
      unfold restL
      refine Nat.le_trans (List.Sublist.length_le (List.takeWhile_sublist _)) ?_
      rw [spN_len]
      exact Nat.le_trans (lenZ_le hok.sz) (by omega)
    obtain ⟨st, hst⟩ : ∃ st, (if insB s n then insS s n c else s) = st := ⟨_, rfl⟩
    rw [hst]
    have HNO := hid (fun h => (show insB s n = false ∧ st = s from by
      have q := ins_no (s := s) (n := n) h
      rw [q] at hst
      exact ⟨q, hst.symm⟩))
    have HYES := hid (fun (k : Nat) (hk : k < (restL s n n).length) h hz => (show insB s n = true ∧ st = modS (mvR s ((restL s n n).take (k + 1)) (c :: (txL s (restL s n n)).take k) (k + 1)) n from by
      obtain ⟨q1, q2⟩ := ins_yes hok ho c (k := k) hk h hz
      rw [q1, if_pos rfl, q2] at hst
      exact ⟨q1, hst.symm⟩))
    clear hst
    generalize insB s n = ib at HNO HYES ⊢
    have HMB := fun x (hx : x ∈ restL s n n) => (restL_free hok x hx).1
    have htl : (txL s (restL s n n)).length = (restL s n n).length := by unfold txL; rw [List.length_map]
    have HTX := hid (show ∀ k, k < (restL s n n).length → (txL s (restL s n n)).getD k 0 = (s.cel ((restL s n n).getD k 0)).ch from fun k hk => by
      unfold txL
      rw [List.getD_eq_getElem?_getD, List.getElem?_map, List.getD_eq_getElem?_getD, List.getElem?_eq_getElem hk]
      rfl)
    have HUX := hid (show ∀ k, k < (restL s n n).length → U8 ((txL s (restL s n n)).getD k 0) from fun k hk => by rw [HTX.out k hk]; exact (hok.cel _).ch)
    have HCO := hid (fun v W (ho : W.ownsRow 0 3 1 v (restL s n n).length (intsV ((restL s n n).map Int.ofNat))) (hW : RfM W b g s) => rcodes_any (b := b) (g := g) (s := s) (restL s n n) v _ rfl hle HMB W ho hW)
    have HMV := hid (fun (k : Nat) (hk : k < (restL s n n).length) (y : Option Addr) (c1 ug uo ul uc : Nat) (hul : k + 1 ≤ ul) W hlc hub huc (hW : RfM W b g s) => rmove_any (b := b) (g := g) (s := s) ((restL s n n).take (k + 1)) (c :: (txL s (restL s n n)).take k) (k + 1) (by rw [List.length_take]; omega) (by omega) (fun x hx => HMB x (List.mem_of_mem_take hx)) (fun j hj => by
      cases j with
      | zero => exact hc
      | succ j =>
        rw [List.getD_cons_succ, List.getD_eq_getElem?_getD, List.getElem?_take_of_lt (by omega), ← List.getD_eq_getElem?_getD]
        exact HUX.out j (by omega)) y c1 ug uo ul uc hul W hlc hub huc hW)
    have HTV := hid (show ∀ k, k < (restL s n n).length → (txV s (restL s n n))[k]? = some (.int .u8 ((txL s (restL s n n)).getD k 0)) from fun k hk => by
      unfold txV
      rw [List.getElem?_map, List.getD_eq_getElem?_getD, List.getElem?_eq_getElem (by rw [htl]; exact hk)]
      rfl)
    have HVL := hid (show (txV s (restL s n n)).length = (restL s n n).length by unfold txV; rw [List.length_map, htl])
    rw [ho] at HOP
    generalize txL s (restL s n n) = tl at HYES HTX HMV HTV htl HUX
    generalize txV s (restL s n n) = tv at HCO HTV HVL
    generalize restL s n n = l at HRS HNO HYES HTX HCO HMV HTV HVL hK hle htl HUX
    obtain ⟨NA, hNA⟩ : ∃ NA, l.length = NA := ⟨_, rfl⟩
    have HPN := hid hNA
    rw [hNA] at HRS HNO HYES HTX HCO HMV HTV HVL hK hle htl HUX
    have HTL := hid htl
    clear h hn hok ho hc hNA hds HMB htl
    go_enter Try.func72, Try.ntmps72
    go_wp2_with fail
    with_reducible refine (HOP.out _ HR0.out).mono ?_
    rintro e w1 ⟨rfl, hb1⟩
    have HB1 := hid hb1
    have HR1 := hid (HR0.out.below hb1)
    have hq1 := hb1.size
    clear hb1
    go_wp2_with fail
    with_reducible refine (HRS.out _ HR1.out).mono ?_
    rintro e w2 ⟨v1, rfl, ho1, hk1, hb2⟩
    have HO2 := hid ho1
    have HR2 := hid (HR1.out.below hb2)
    have HB2 := hid (below_t HB1.out hb2)
    have hq2 := hb2.size
    obtain ⟨y1, c1, rfl, hlc⟩ := lst_cells ho1 HPN.out hk1
    obtain ⟨gg, rfl, hgg, -⟩ := hlc 0 hK
    have hc1 : NA ≤ c1 := by
      rcases ho1.2 with ⟨e, _⟩ | ⟨g', cap', cur', e, _, _, q, _⟩
      · cases e
      · injection e with e1 e2 e3
        omega
    have HLC := hid (show ∀ k, k < NA → w2.cell? ⟨gg, k, none⟩ = some (.int .i64 (l.getD k 0 : Nat)) from fun k hk => by
      obtain ⟨g', e, -, q⟩ := hlc k hk
      injection e with e
      injection e with e
      rw [e]
      exact q)
    have hggl : gg < w2.heap.size := World.block_lt_of_cell? w2 _ (HLC.out 0 hK)
    clear ho1 hk1 hb2 hlc
    go_wp2_with fail
    with_reducible refine (HCO.out _ _ HO2.out HR2.out).mono ?_
    rintro e w3 ⟨v3, rfl, ho3, hk3, hb3⟩
    have HR3 := hid (HR2.out.below hb3)
    have HB3 := hid (below_t HB2.out hb3)
    have HL3 := hid (show ∀ k, k < NA → w3.cell? ⟨gg, k, none⟩ = some (.int .i64 (l.getD k 0 : Nat)) from fun k hk => keepc hb3 (HLC.out k hk))
    have hq3 := hb3.size
    have hown3 := ho3
    rcases ho3.2 with ⟨_, e0⟩ | ⟨hh, cap, cur, rfl, _, hhp, hle3, hcm, hcz, hct⟩
    · omega
    have hkh := hk3 hh (by simp [blkV, Value.ownBlock])
    have hhl : hh < w3.heap.size := (Array.getElem?_eq_some_iff.1 hhp).1
    have HC3 := hid (show ∀ j, j < NA → w3.cell? ⟨hh, j, none⟩ = tv[j]? from fun j hj => hown3.cellAt j (by omega))
    clear ho3 hk3 hb3 hown3 hhp hcz hct
    go_wp2_with fail
    go_loopw [23] (fun i W => ∃ k : Nat, k ≤ NA ∧ i = .int .i64 k ∧ Hid (∀ j, j < k → ¬ (s.cel (l.getD j 0)).ch = 0) ∧ Hid (Below w3.heap.size w3 W)) (fun i _ => NA - (RowKit.intOf i).toNat)
    case atStart => exact ⟨0, by omega, rfl, fun j hj => absurd hj (Nat.not_lt_zero _), Below.refl _ _⟩
    case round =>
      obtain ⟨k, hk, rfl, HZ, HB⟩ := hrel
      by_cases hkN : k < NA
      · have hki : (k : Int) < NA := by omega
        have hu := keepc HB.out ((HC3.out k hkN).trans (HTV.out k hkN))
        have hlu := World.block_lt_of_cell? wr _ hu
        have htx := HTX.out k hkN
        obtain ⟨ch, hch⟩ : ∃ ch, tl.getD k 0 = ch := ⟨_, rfl⟩
        rw [hch] at hu htx
        have HTXK := hid htx
        clear htx hch
        by_cases hz : ch = 0
        · subst hz
          have HY := hid (HYES.out k hkN HZ.out HTXK.out.symm)
          have hk1 : IntKind.i64.wrap ((k : Int) + 1) = (k : Int) + 1 := wrapI (i64_small (by omega) (by omega))
          have hkc : (k : Int) + 1 ≤ c1 := by omega
          have hkd : (k : Int) ≤ cap := by omega
          have hk0 : (0 : Int) ≤ (k : Int) + 1 := by omega
          have hk9 : (0 : Int) ≤ (k : Int) := by omega
          have HBW := hid (show Below w3.heap.size w3 (wr.drew.alloc (.cells #[.int .u8 c] 5)) from bal HB.out.drew _)
          have HSRC := hid (show ∀ j u, (tv.take k)[j]? = some u → (wr.drew.alloc (.cells #[.int .u8 c] 5)).cell? ((⟨hh, 0, none⟩ : Addr).add j) = some u from fun j u hj => by
            have hjk : j < k := by
              rcases Nat.lt_or_ge j k with q | q
              · exact q
              · rw [List.getElem?_eq_none (by rw [List.length_take]; omega)] at hj; cases hj
            rw [List.getElem?_take_of_lt hjk] at hj
            rw [addr_addS, Nat.zero_add]
            exact keepc HBW.out ((HC3.out j (by omega)).trans hj))
          have HONE := hid (show ∀ u ∈ tv.take k, u.oneCell' = true from fun u hu => by
            obtain ⟨j, hj, e⟩ := List.mem_iff_getElem.1 (List.mem_of_mem_take hu)
            have q := HTV.out j (by rw [← HVL.out]; exact hj)
            rw [List.getElem?_eq_getElem hj, e] at q
            injection q with q
            subst q
            rfl)
          have HTK := hid (show (tv.take k).length = k * 1 by rw [List.length_take, HVL.out]; omega)
          have HOWN := hid (show (wr.drew.alloc (.cells #[.int .u8 c] 5)).ownsRow 0 5 1 (.slice (some ⟨wr.heap.size, 0, none⟩) 1 1) 1 [.int .u8 c] from sowned_newS (w := wr.drew) (Nat.zero_le _) (.int .u8 c) 5)
          go_wp2_with fail
          refine wp_region_held_drew (S := fun _ => True) (by kernel_rfl) ?_ (fun hHeld => ?_)
          · trivial
          refine takeD (i := 0) (v := ?_) 30 rfl rfl (by kernel_rfl) (by kernel_rfl) (by kernel_rfl) (fun _ _ _ h => h) (by assumption) (Or.inl ⟨by rfl, ?_⟩) ?_
          rotate_left
          · intro w hSw
            (try dsimp only at hSw)
            go_simp
            try with_reducible rfl
          simp only [List.setIfInBounds_toArray, List.set_cons_zero, List.set_cons_succ]
          refine takeD (i := 1) (v := ?_) 31 rfl rfl (by kernel_rfl) (by kernel_rfl) (by kernel_rfl) (fun _ _ _ h => h) (by assumption) (Or.inl ⟨by rfl, ?_⟩) ?_
          rotate_left
          · intro w hSw
            (try dsimp only at hSw)
            go_simp
            try with_reducible rfl
          simp only [List.setIfInBounds_toArray, List.set_cons_zero, List.set_cons_succ]
          refine takeD (i := 2) (v := ?_) 32 rfl rfl (by kernel_rfl) (by kernel_rfl) (by kernel_rfl) (fun _ _ _ h => h) (by assumption) (Or.inl ⟨by rfl, ?_⟩) ?_
          rotate_left
          · intro w hSw
            (try dsimp only at hSw)
            go_simp
            try with_reducible rfl
          simp only [List.setIfInBounds_toArray, List.set_cons_zero, List.set_cons_succ]
          refine takeD (i := 3) (v := ?_) 33 rfl rfl (by kernel_rfl) (by kernel_rfl) (by kernel_rfl) (fun _ _ _ h => h) (by assumption) (Or.inl ⟨by rfl, ?_⟩) ?_
          rotate_left
          · intro w hSw
            (try dsimp only at hSw)
            go_simp
            try with_reducible rfl
          simp only [List.setIfInBounds_toArray, List.set_cons_zero, List.set_cons_succ]
          refine takeD (i := 4) (v := ?_) 34 rfl rfl (by kernel_rfl) (by kernel_rfl) (by kernel_rfl) (fun _ _ _ h => h) (by assumption) (Or.inl ⟨by rfl, ?_⟩) ?_
          rotate_left
          · intro w hSw
            (try dsimp only at hSw)
            go_simp
            try with_reducible rfl
          simp only [List.setIfInBounds_toArray, List.set_cons_zero, List.set_cons_succ]
          refine takeD (i := 5) (v := ?_) 35 rfl rfl (by kernel_rfl) (by kernel_rfl) (by kernel_rfl) (fun _ _ _ h => h) (by assumption) (Or.inl ⟨by rfl, ?_⟩) ?_
          rotate_left
          · intro w hSw
            (try dsimp only at hSw)
            go_simp
            try with_reducible rfl
          simp only [List.setIfInBounds_toArray, List.set_cons_zero, List.set_cons_succ]
          refine takeD (i := 7) (v := ?_) 37 rfl rfl (by kernel_rfl) (by kernel_rfl) (by kernel_rfl) (fun _ _ _ h => h) (by assumption) (Or.inl ⟨by rfl, ?_⟩) ?_
          rotate_left
          · intro w hSw
            (try dsimp only at hSw)
            go_simp
            try with_reducible rfl
          simp only [List.setIfInBounds_toArray, List.set_cons_zero, List.set_cons_succ]
          refine takeD (i := 8) (v := ?_) 38 rfl rfl (by kernel_rfl) (by kernel_rfl) (by kernel_rfl) (fun _ _ _ h => h) (by assumption) (Or.inl ⟨by rfl, ?_⟩) ?_
          rotate_left
          · intro w hSw
            (try dsimp only at hSw)
            go_simp
            try with_reducible rfl
          simp only [List.setIfInBounds_toArray, List.set_cons_zero, List.set_cons_succ]
          refine takeD (i := 9) (v := ?_) 39 rfl rfl (by kernel_rfl) (by kernel_rfl) (by kernel_rfl) (fun _ _ _ h => h) (by assumption) (Or.inl ⟨by rfl, ?_⟩) ?_
          rotate_left
          · intro w hSw
            (try dsimp only at hSw)
            go_simp
            try with_reducible rfl
          simp only [List.setIfInBounds_toArray, List.set_cons_zero, List.set_cons_succ]
          refine wpAnyH_ready (rs := [6]) (by kernel_rfl) (by simp) ?_
          refine AllReadyH.cons (by simp only [List.getElem?_toArray, List.getElem?_cons_succ, List.getElem?_cons_zero]; rfl) (fun K hK => ?_) AllReadyH.nil
          go_simp
          refine hK.out _ _ ?_ (fun hHeldN => ?_)
          · trivial
          clear hK K hHeld
          have hHeld := hHeldN
          clear hHeldN
          (try simp only [Act.put, List.setIfInBounds_toArray, List.set_cons_zero, List.set_cons_succ])
          refine wpAnyH_ready (rs := [10]) (by kernel_rfl) (by simp) ?_
          refine AllReadyH.cons (by simp only [List.getElem?_toArray, List.getElem?_cons_succ, List.getElem?_cons_zero]; rfl) (fun K hK => ?_) AllReadyH.nil
          rw [if_pos (by rfl)]
          refine wp_append_blk _ _ 60 rfl 5 i0 _ 1 1 Try.underlying60 hi hz0 hz1 hz2 rfl (by decide) (.slice (some ⟨wr.heap.size, 0, none⟩) 1 1) 1 [.int .u8 c] rfl HOWN.out ⟨hh, 0, none⟩ k cap (tv.take k) rfl HTK.out HSRC.out HONE.out (by unfold maxLen; omega) (by omega) ?_
          intro v5 w5 hown5 hgrow5 hb5
          obtain ⟨ug, uc, rfl, hug, hcl5⟩ : ∃ ug uc, v5 = .slice (some ⟨ug, 0, none⟩) (1 + k) uc ∧ wr.heap.size ≤ ug ∧ ∀ j, j < 1 + k → w5.cell? ⟨ug, 0 + j, none⟩ = ([.int .u8 c] ++ tv.take k)[j]? := by
            have hc5 := hown5
            rcases hown5.2 with ⟨_, h0⟩ | ⟨g5, cap5, _, rfl, _, _, _, _, _⟩
            · omega
            · refine ⟨g5, cap5, rfl, ?_, fun j hj => by rw [Nat.zero_add]; exact hc5.cellAt j (by omega)⟩
              rcases hb5 g5 (by simp [blkV, Value.ownBlock]) with q | q
              · have : g5 = wr.heap.size := by simpa [blkV, Value.ownBlock] using q
                omega
              · exact Nat.le_trans (by simp) q
          have HB5 := hid (HBW.out.grown hgrow5 (by have := HB.out.size; simp; omega) (fun q e => by have e2 : wr.heap.size = q := by simpa [Value.ownBlock] using e
                                                                                                     have := HB.out.size; omega))
          have HUG := hid hug
          have HCL5 := hid hcl5
          clear hown5 hgrow5 hb5 hug hcl5
          refine hK.out _ _ ?_ (fun hHeldN => ?_)
          · trivial
          clear hK K hHeld
          have hHeld := hHeldN
          clear hHeldN
          (try simp only [Act.put, List.setIfInBounds_toArray, List.set_cons_zero, List.set_cons_succ])
          refine wpAnyH_ready (rs := [11]) (by kernel_rfl) (by simp) ?_
          refine AllReadyH.cons (by simp only [List.getElem?_toArray, List.getElem?_cons_succ, List.getElem?_cons_zero]; rfl) (fun K hK => ?_) AllReadyH.nil
          go_simp
          go_at_call 123;
          have hsz3 := HB.out.size
          have hug2 := HUG.out
          (with_reducible refine (HMV.out k hkN _ _ _ _ _ _ (by omega) _ (fun j hj => ⟨gg, rfl, by omega, by omega, by rw [take_getD hj]; exact keepc HB5.out (HL3.out j (by omega))⟩) (by omega) (fun j hj => by
            rw [HCL5.out j (by omega)]
            cases j with
            | zero => simp
            | succ j =>
              rw [List.singleton_append, List.getElem?_cons_succ, List.getElem?_take_of_lt (by omega), List.getD_cons_succ, List.getD_eq_getElem?_getD, List.getElem?_take_of_lt (by omega), ← List.getD_eq_getElem?_getD]
              exact HTV.out j (by omega)) (HR3.out.below HB5.out)).mono ?_)
          rintro e w6 ⟨⟨v6, rfl⟩, hs, hm⟩
          have HS6 := hid hs
          have HM6 := hid hm
          clear hs hm hsz3 hug2
          refine hK.out _ _ ?_ (fun hHeldN => ?_)
          · trivial
          clear hK K hHeld
          have hHeld := hHeldN
          clear hHeldN
          (try simp only [Act.put, List.setIfInBounds_toArray, List.set_cons_zero, List.set_cons_succ])
          refine wpAnyH_done (by kernel_rfl) ?_ _
          clear hHeld
          go_wp2_with fail
          with_reducible refine (HMO.out _ _ HS6.out).mono ?_
          rintro e w7 ⟨rfl, hs, hm⟩
          have HFI := hid (And.intro hs ((Moved.below (below_t HB3.out HB5.out) [b, g]).trans (HM6.out.trans hm)))
          clear hs hm
          go_wp2
          go_ret
          unfold EdD
          rw [HY.out.1, HY.out.2]
          exact ⟨rfl, HFI.out.1, HFI.out.2⟩
        · go_wp2_with fail
          go_roundw
          case rel => exact ⟨k + 1, by omega, by go_num, fun j hj => by
            by_cases e : j = k
            · subst e
              rw [← HTXK.out]
              exact hz
            · exact HZ.out j (by omega), HB.out⟩
          case measure => simp [RowKit.intOf]; omega
      · obtain rfl : k = NA := by omega
        have HI := hid (HNO.out HZ.out)
        go_wp2
        go_ret
        unfold EdD
        rw [HI.out.1, HI.out.2]
        exact ⟨rfl, HR3.out.below HB.out, Moved.below (below_t HB3.out HB.out) _⟩
end
end Go.Proofs.Ytpehhinpohmpiaa
