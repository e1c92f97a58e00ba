/-
  Codes: a text of signs gives its bytes back.
-/
import Derived.Test.YtadoiplfglaonaaDoorTxc
import Derived.Test.YtadoiplfglaonaaDoorPick
import Derived.Test.YtadoiplfglaonaaDoorRefc
import Derived.Lib.OthersKept
namespace Go.Proofs.YtadoiplfglaonaaDoor
open Go.RowKit Go.Lib Go.Shelf

theorem moved_iter (w : World) (k : Nat) (s : ByteArray) (p : Nat) : Moved w (w.iterAt k s p) [k] [k] :=
  ⟨rfl, rfl, rfl, by simp [World.iterAt], fun j _ hn => by simp [World.iterAt, Ne.symm (show j ≠ k from fun e => hn (List.mem_singleton.2 e))], fun _ h => .inl h⟩
theorem page_moved {w w' : World} {b : Nat} {num : Int} {S S' : List Nat} (h : Page w b num) (m : Moved w w' S S') (hb : b ∉ S) (hm : ∀ k ∈ S, ∀ es cl, w.heap[k]? ≠ some (.map es cl)) : Page w' b num := by
  have hl := h.lt
  rcases h with ⟨hn, ⟨se, P, cv, h⟩ | ⟨q, h⟩⟩
  · exact ⟨hn, .inl ⟨se, P, cv, h.of_heap (m.block b hl hb)⟩⟩
  · obtain ⟨se, hp⟩ := h.page
    obtain ⟨es, cl, hq, hrest⟩ := h.map
    exact ⟨hn, .inr ⟨q, ⟨⟨se, hp.of_heap (m.block b hl hb)⟩, ownsMap_heap h.map (m.block q h.map.lt (fun e => hm q e es cl hq)), h.lt⟩⟩⟩
theorem own_cells {w : World} {B : Nat} {t : TypeId} {sz n : Nat} {v : Value} {cs : List Value} (h : w.ownsRow B t sz v n cs) : ∀ k ∈ blkV v, ∃ c fr, w.heap[k]? = some (.cells c t fr) := fun k hk => by
  rcases h.2 with ⟨rfl, _⟩ | ⟨g, cap, cur, rfl, hg, hh, _⟩
  · cases hk
  · have : g = k := by simpa [mem_blkV, Value.ownBlock] using hk
    exact ⟨_, _, this ▸ hh⟩
theorem code_sign {num : Int} (hn : num ∈ pagesL) {c : Nat} (hc : c < 256) : codeOf num ((signsL num).getD c 0) = (c, true) := by
  have hl : (signsL num).length = 256 := signsAt_length _ _
  refine codeOf_hit num _ c hc rfl (fun i hi e => ?_)
  have hd := signs_nodup num hn
  rw [List.getD, List.getD, List.getElem?_eq_getElem (by omega), List.getElem?_eq_getElem (by omega)] at e
  exact List.pairwise_iff_getElem.1 hd i c (by omega) (by omega) hi e
theorem encT_drop (num : Int) (xs : List Int) (k : Nat) (hk : k < xs.length) : encT num xs = encT num (xs.take k) ++ (Lib.encodeRune ((signsL num).getD (xs[k]).toNat 0) ++ encT num (xs.drop (k + 1))) := by
  have e : xs = xs.take k ++ xs[k] :: xs.drop (k + 1) := by rw [List.getElem_cons_drop, List.take_append_drop]
  have e2 : encT num xs = encT num (xs.take k ++ xs[k] :: xs.drop (k + 1)) := congrArg _ e
  rw [e2]
  unfold encT
  rw [List.flatMap_append, List.flatMap_cons]
/-- Bytes that are read. -/
def CodesDone (xs : List Int) (b : Nat) (num : Int) (w : World) (e : Ending) (w' : World) : Prop :=
  ∃ v, e = .returned (.tuple #[v, .int .i64 xs.length, .int .i64 0]) ∧ OwnB w' v xs ∧ (∀ k ∈ blkV v, w.heap.size ≤ k) ∧ Page w' b num ∧ But b w w'
/-- Where the reading of a text stands. -/
structure ReadsT (w : World) (s : ByteArray) (I B pb : Nat) (num : Int) (xs : List Int) (k : Nat) (v : Value) (W : World) : Prop where
  iter : W.heap[I]? = some (.stringIter s (encT num (xs.take k)).length)
  row : W.ownsRow B 5 1 v k ((xs.take k).map (Value.int .u8))
  page : Page W pb num
  but : But pb w W
theorem ReadsT.apart {w : World} {s : ByteArray} {I B pb : Nat} {num : Int} {xs : List Int} {k : Nat} {v : Value} {W : World} (h : ReadsT w s I B pb num xs k v W) : I ∉ blkV v ∧ pb ≠ I := by
  refine ⟨fun q => ?_, fun e => ?_⟩
  · obtain ⟨c, fr, hc⟩ := own_cells h.row I q
    rw [h.iter] at hc
    cases hc
  · obtain ⟨cs, hc⟩ := h.page.cells
    rw [e, h.iter] at hc
    cases hc
set_option maxRecDepth 100000 in
set_option maxHeartbeats 1000000 in
theorem codes_any (pb : Nat) (num : Int) (xs : List Int) (w : World) (hP : Page w pb num) (hx : ∀ x ∈ xs, 0 ≤ x ∧ x < 256) (hn : xs.length ≤ 1000) :
    Calls Tryd.prog 25 #[.pointer (some ⟨pb, 0, none⟩), .string ⟨(encT num xs).toArray⟩] w (CodesDone xs pb num w) := by
  obtain ⟨i0, hi, hz0, hz1, hz2⟩ := info_parts info5
  obtain ⟨s, hs⟩ : ∃ s : ByteArray, s = ⟨(encT num xs).toArray⟩ := ⟨_, rfl⟩
  rw [← hs]
  have hsz : s.size = (encT num xs).length := by rw [hs]; rfl
  have hsl : s.size ≤ 4000 := by
    have := encT_length num xs
    omega
  have HS := hid hs
  have HSZ := hid hsz
  have HP := hid hP
  have HX := hid hx
  have hpl := hP.lt
  have hnum := hP.1
  clear hs hsz hP hx
  go_enter Tryd.func25, Tryd.ntmps25
  go_wp2_with (first
    | (at_make; refine wpList_make_own _ rfl _ _ 34 rfl w.heap.size 5 i0 (.int .u8 0) 1 Tryd.underlying34 hi hz0 hz1 .i64 .i64 _ s.size rfl rfl rfl (by rw [hz2]; omega) (by unfold maxLen; omega) (Nat.le_refl _) ?_; intro w3 hown3 hgrow3; have HO3 := hid hown3; have HG3 := hid hgrow3; clear hown3 hgrow3)
    | fail)
  have HB3 := hid (show Below w.heap.size w w3 from (Below.refl _ _).grown HG3.out (Nat.le_refl _) (fun k e => by cases e))
  have hI3 : w.heap.size ≤ w3.heap.size := HB3.out.size
  have h0 : ReadsT w s w3.heap.size w.heap.size pb num xs 0 (.slice (some ⟨w.heap.size, 0, none⟩) 0 s.size) (w3.iter s 0) :=
    ⟨World.iter_heap w3 s 0, (own_moved HO3.out (Moved.alloc w3 (.stringIter s 0) []) (fun _ _ q => by cases q)), (HP.out.below (HB3.out.alloc hI3 _)), but_low (But.refl pb w) (HB3.out.alloc hI3 _) (Nat.le_refl _)⟩
  have H0 := hid h0
  clear h0 HO3 HG3
  go_loopw [7] (fun v wr => ∃ k : Nat, k ≤ xs.length ∧ (∃ y cap, v = .slice y k cap) ∧ Hid (ReadsT w s w3.heap.size w.heap.size pb num xs k v wr)) (fun _ wr => s.size - wr.iterPos w3.heap.size)
  case atStart => exact ⟨0, Nat.zero_le _, ⟨_, _, rfl⟩, H0⟩
  case round =>
    obtain ⟨k, hk, ⟨y, cap, rfl⟩, HR⟩ := hrel
    have hmu : wr.iterPos w3.heap.size = (encT num (xs.take k)).length := by simp [World.iterPos, HR.out.iter]
    by_cases hlt : k < xs.length
    · obtain ⟨z, hz6, hze⟩ : ∃ z : Nat, z < 256 ∧ xs[k] = (z : Int) := by
        have := HX.out _ (List.getElem_mem hlt)
        exact ⟨(xs[k]).toNat, by omega, by omega⟩
      have hmem : (signsL num).getD z 0 ∈ signsL num := by
        have hl : (signsL num).length = 256 := signsAt_length _ _
        rw [List.getD, List.getElem?_eq_getElem (by omega)]
        exact List.getElem_mem _
      obtain ⟨hpl2, hne, hrr⟩ := signs_plain num hnum _ hmem
      have hcs := code_sign hnum hz6
      have hdr := encT_drop num xs k hlt
      rw [hze] at hdr
      have ht : xs.take (k + 1) = xs.take k ++ [(z : Int)] := by rw [List.take_succ_eq_append_getElem hlt, hze]
      obtain ⟨hr0, hr1⟩ := sign_bd hnum z
      change encT num xs = encT num (xs.take k) ++ (Lib.encodeRune ((signsL num).getD z 0) ++ _) at hdr
      have hes : encT num (xs.take (k + 1)) = encT num (xs.take k) ++ Lib.encodeRune ((signsL num).getD z 0) := by rw [ht, encT_snoc]; rfl
      generalize (signsL num).getD z 0 = r at hpl2 hne hrr hcs hdr hr0 hr1 hes
      have hdec : Utf8.decode s (encT num (xs.take k)).length = (r.toNat, (Lib.encodeRune r).length) := by
        rw [HS.out, hdr]
        have := dec_at hpl2 (encT num (xs.take k)) (encT num (xs.drop (k + 1)))
        rw [← hrr] at this
        exact this
      have hep := enc_pos hpl2
      rw [← hrr] at hep
      have hlen : (encT num (xs.take (k + 1))).length = (encT num (xs.take k)).length + (Lib.encodeRune r).length := by rw [hes, List.length_append]
      have hle : (encT num (xs.take k)).length + (Lib.encodeRune r).length ≤ s.size := by rw [HSZ.out, hdr, List.length_append, List.length_append]; omega
      have hps : (encT num (xs.take k)).length < s.size := by omega
      have HLEN := hid hlen
      obtain ⟨P, hPe⟩ : ∃ P, P = (encT num (xs.take k)).length := ⟨_, rfl⟩
      obtain ⟨L, hLe⟩ : ∃ L, L = (Lib.encodeRune r).length := ⟨_, rfl⟩
      have HIT : Hid (wr.heap[w3.heap.size]? = some (.stringIter s P)) := by rw [hPe]; exact HR.out.iter
      rw [← hPe, ← hLe] at hdec hlen hle
      rw [← hPe] at hps hmu
      rw [← hLe] at hep
      have hnext : ∀ ty, (Instr.next (.pointer (some ⟨w3.heap.size, 0, none⟩)) true ty).run Tryd.prog wr = .ok (.tuple #[.bool true, .int .i64 P, .int .i32 r]) (wr.iterAt w3.heap.size s (P + L)) := fun ty => by
        rw [Lib.run_next_any_at wr w3.heap.size s P ty HIT.out hps, hdec]
        rw [← hrr]
      have HW1 : Hid (ReadsT w s w3.heap.size w.heap.size pb num xs k (.slice y k cap) wr) := HR
      have hap := HR.out.apart
      have mit := moved_iter wr w3.heap.size s (P + L)
      have hk1 : (wr.iterAt w3.heap.size s (P + L)).heap[w3.heap.size]? = some (.stringIter s (encT num (xs.take (k + 1))).length) := by
        rw [hlen]
        exact Lib.iterAt_heap wr w3.heap.size s P (P + L) HIT.out
      have hrow1 := own_moved HR.out.row mit (fun q h1 h2 => hap.1 (by rw [← List.mem_singleton.1 h2]; exact h1))
      have hpg1 := page_moved HR.out.page mit (fun h => hap.2 (List.mem_singleton.1 h)) (fun q h es cl => by
        rw [List.mem_singleton.1 h, HIT.out]
        intro e
        cases e)
      have hbt1 : But pb w (wr.iterAt w3.heap.size s (P + L)) := ⟨HR.out.but.os, HR.out.but.tape, HR.out.but.output, by rw [show (wr.iterAt w3.heap.size s (P + L)).heap.size = wr.heap.size by simp [World.iterAt]]; exact HR.out.but.size, fun q h1 h2 => (Lib.iterAt_other wr w3.heap.size q s (P + L) (by omega)).trans (HR.out.but.block q h1 h2)⟩
      generalize wr.iterAt w3.heap.size s (P + L) = W1 at hnext hk1 hrow1 hpg1 hbt1
      have HK1 := hid hk1
      have HROW1 := hid hrow1
      have HPG1 := hid hpg1
      have HBT1 := hid hbt1
      have HCD := hid (code_any pb num r W1 hpg1 (by
        have := wf_rune hr0 hr1
        exact this))
      rw [hcs] at HCD
      have HHT := hid ht
      have HL1 := hid hlen
      have HNE := hid hne
      have hne2 : ¬ r = 65533 := hne
      clear hk1 hrow1 hpg1 hbt1 hdr hes hcs hdec hrr hmem hap mit hPe hLe HIT hlen ht hne
      go_wp2_with fail
      refine HCD.out.mono ?_
      rintro e w4 ⟨rfl, ⟨m, hR⟩, hb4⟩
      have hpg4 : Page w4 pb num := ⟨hnum, .inr ⟨m, hR⟩⟩
      have hIl : w3.heap.size < W1.heap.size := (Array.getElem?_eq_some_iff.1 HK1.out).1
      have hk4 : w4.heap[w3.heap.size]? = some (.stringIter s (encT num (xs.take (k + 1))).length) := (hb4.block _ hIl (by omega)).trans HK1.out
      have hmv4 : Moved W1 w4 [pb] [pb] := ⟨hb4.os, hb4.tape, hb4.output, hb4.size, fun q h1 h2 => hb4.block q h1 (fun e => h2 (List.mem_singleton.2 e)), fun _ h => .inl h⟩
      have hrow4 := own_moved HROW1.out hmv4 (fun q h1 h2 => by
        have a := (HROW1.out.lt q (mem_blkV.1 h1)).1
        rw [List.mem_singleton.1 h2] at a
        omega)
      have hbt4 : But pb w w4 := HBT1.out.trans hb4
      have hBs : w.heap.size ≤ w4.heap.size := hbt4.size
      have HROW5 := hid (own_moved hrow4 (Moved.alloc w4 (.cells #[.int .u8 z] 5) []) (fun _ _ q => by cases q))
      have HSRC := hid (one_src w4 (z : Int) w4.heap.size rfl)
      have HPG4 := hid hpg4
      have HK4 := hid hk4
      have HBT4 := hid hbt4
      have HBS := hid (show w.heap.size ≤ (w4.alloc (.cells #[.int .u8 z] 5)).heap.size by simp; omega)
      clear hpg4 hk4 hmv4 hrow4 hbt4 hR hb4 hIl
      go_wp2_with (first
        | (at_builtin; refine wpList_append_own _ rfl _ _ 34 rfl w.heap.size 5 i0 (.int .u8 0) 1 1 Tryd.underlying34 hi hz0 hz1 hz2 rfl (by decide) _ k ((xs.take k).map (Value.int .u8)) rfl HROW5.out ⟨w4.heap.size, 0, none⟩ 1 1 [.int .u8 z] rfl rfl HSRC.out (by intro u hu; rw [List.mem_singleton.1 hu]; rfl) (by unfold maxLen; omega) (by omega) HBS.out ?_; intro v6 w6 hown6 hgrow6 hnil6; have HO6 := hid hown6; have HG6 := hid hgrow6; clear hown6 hgrow6 hnil6)
        | fail)
      obtain ⟨y6, c6, rfl⟩ : ∃ y cap, v6 = .slice y (k + 1) cap := by
        rcases HO6.out.2 with ⟨_, h⟩ | ⟨g, c, cur, rfl, _⟩
        · omega
        · exact ⟨_, _, rfl⟩
      have hk5 : (w4.alloc (.cells #[.int .u8 z] 5)).heap[w3.heap.size]? = some (.stringIter s (encT num (xs.take (k + 1))).length) := (Below.heap_alloc _ _ _ (Array.getElem?_eq_some_iff.1 HK4.out).1).trans HK4.out
      have hni : w3.heap.size ∉ blkV (.slice y k cap) := fun q => by
        obtain ⟨c, fr, hc⟩ := own_cells HROW5.out _ q
        rw [hk5] at hc
        cases hc
      have hk6 : w6.heap[w3.heap.size]? = some (.stringIter s (encT num (xs.take (k + 1))).length) := (HG6.out.block _ (Array.getElem?_eq_some_iff.1 hk5).1 (fun e => hni (mem_blkV.2 e.symm))).trans hk5
      have hpg5 : Page (w4.alloc (.cells #[.int .u8 z] 5)) pb num := HPG4.out.below ((Below.refl _ _).alloc (Nat.le_refl _) _)
      have hpg6 : Page w6 pb num := page_moved hpg5 (Moved.grown HG6.out (S := blkV (.slice y k cap)) (S' := []) (fun q e => mem_blkV.2 e) (fun q h => by cases h)) (fun q => by
        have := (HROW5.out.lt pb (mem_blkV.1 q)).1
        omega) (fun q h es cl e => by
        obtain ⟨c, fr, hc⟩ := own_cells HROW5.out q h
        rw [hc] at e
        cases e)
      have hbl6 : Below w.heap.size w4 w6 := ((Below.refl _ w4).alloc hBs _).grown HG6.out HBS.out (fun q e => (HROW5.out.lt q e).1)
      have hbt6 := but_low HBT4.out hbl6 (Nat.le_refl _)
      have hr6 := HO6.out
      rw [show (xs.take k).map (Value.int .u8) ++ [Value.int .u8 (z : Int)] = (xs.take (k + 1)).map (Value.int .u8) by rw [HHT.out, List.map_append]; rfl] at hr6
      have HF := hid (show ReadsT w s w3.heap.size w.heap.size pb num xs (k + 1) (.slice y6 (k + 1) c6) w6 from ⟨hk6, hr6, hpg6, hbt6⟩)
      have hm6 : w6.iterPos w3.heap.size = P + L := by simp [World.iterPos, hk6]; exact HL1.out
      clear hk5 hni hk6 hpg5 hpg6 hbl6 hbt6 hr6
      go_roundw
      case rel => exact ⟨k + 1, by omega, ⟨_, _, rfl⟩, HF⟩
      case measure => rw [hmu, hm6]; omega
    · obtain rfl : k = xs.length := by omega
      have hnext : ∀ ty, (Instr.next (.pointer (some ⟨w3.heap.size, 0, none⟩)) true ty).run Tryd.prog wr = .ok (.tuple #[.bool false]) wr := fun ty =>
        Lib.run_next_end_at wr w3.heap.size s _ ty HR.out.iter (by rw [HSZ.out, List.take_length]; omega)
      have hrow := HR.out.row
      rw [List.take_length] at hrow
      have HOW := hid (show OwnB wr (.slice y xs.length cap) xs from ⟨HX.out, hrow.mono (Nat.zero_le _)⟩)
      have HNW := hid (show ∀ q ∈ blkV (.slice y xs.length cap), w.heap.size ≤ q from fun q h => (hrow.lt q (mem_blkV.1 h)).1)
      clear hrow
      go_wp2
      go_ret3
      exact ⟨_, rfl, HOW.out, HNW.out, HR.out.page, HR.out.but⟩
end Go.Proofs.YtadoiplfglaonaaDoor
