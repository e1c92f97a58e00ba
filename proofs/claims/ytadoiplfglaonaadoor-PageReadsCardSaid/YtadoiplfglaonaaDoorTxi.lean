/-
  Codes of any text.
-/
import Derived.Test.YtadoiplfglaonaaDoorTxh
namespace Go.Proofs.YtadoiplfglaonaaDoor
open Go.RowKit Go.Lib Go.Shelf

theorem wf_rune21 (r : Nat) (h : r ≤ 2097151) : (Lit.int .i32 (r : Int)).wf = true := by
  simp only [Lit.wf, Lit.wf, IntKind.min, IntKind.max, IntKind.signed, IntKind.bits]
  simp
  omega
/-- What Codes leaves of a text that reads so. -/
def ReadDone (R : Int × List Int) (b : Nat) (num : Int) (w : World) (e : Ending) (w' : World) : Prop :=
  ∃ v, e = .returned (.tuple #[v, .int .i64 R.2.length, .int .i64 R.1]) ∧ (R.1 = 0 → Reads w' v R.2) ∧ (R.1 ≠ 0 → v = .slice none 0 0) ∧ Page w' b num ∧ But b w w'
/-- Where the reading stands. -/
structure ReadsU (w : World) (s : ByteArray) (I B pb : Nat) (num : Int) (p : Nat) (cs : List Int) (v : Value) (W : World) : Prop where
  iter : W.heap[I]? = some (.stringIter s p)
  row : W.ownsRow B 5 1 v cs.length (cs.map (Value.int .u8))
  page : Page W pb num
  but : But pb w W
  tabs : Tabs W
  bytes : ∀ x ∈ cs, 0 ≤ x ∧ x < 256
  at' : AtT num s p cs
  few : cs.length ≤ p
  le : p ≤ s.size
theorem ReadsU.apart {w : World} {s : ByteArray} {I B pb : Nat} {num : Int} {p : Nat} {cs : List Int} {v : Value} {W : World} (h : ReadsU w s I B pb num p cs v W) : I ∉ blkV v ∧ pb ≠ I := by
  refine ⟨fun q => ?_, fun e => ?_⟩
  · obtain ⟨c, fr, hc⟩ := own_cells h.row I q
    rw [h.iter] at hc
    cases hc
  · obtain ⟨cs, hc⟩ := h.page.cells
    rw [e, h.iter] at hc
    cases hc
set_option maxRecDepth 100000 in
set_option maxHeartbeats 2000000 in
theorem codes_text (pb : Nat) (num : Int) (s : ByteArray) (w : World) (hP : Page w pb num) (hT : Tabs w) (hpt : pb ≠ 3 ∧ pb ≠ 4) (hsl : s.size ≤ 300) :
    Calls Tryd.prog 25 #[.pointer (some ⟨pb, 0, none⟩), .string s] w (ReadDone (readT num s 0) pb num w) := by
  obtain ⟨i0, hi, hz0, hz1, hz2⟩ := info_parts info5
  have HP := hid hP
  have HT := hid hT
  have hpl := hP.lt
  have hnum := hP.1
  have htl := hT.lt
  have HSL := hid (slice_rest s)
  clear hP hT
  go_enter Tryd.func25, Tryd.ntmps25
  go_wp2_with (first
    | (at_make; refine wpList_make_own _ rfl _ _ 34 rfl w.heap.size 5 i0 (.int .u8 0) 1 Tryd.underlying34 hi hz0 hz1 .i64 .i64 _ s.size rfl rfl rfl (by rw [hz2]; omega) (by unfold maxLen; omega) (Nat.le_refl _) ?_; intro w3 hown3 hgrow3; have HO3 := hid hown3; have HG3 := hid hgrow3; clear hown3 hgrow3)
    | fail)
  have HB3 := hid (show Below w.heap.size w w3 from (Below.refl _ _).grown HG3.out (Nat.le_refl _) (fun k e => by cases e))
  have hI3 : w.heap.size ≤ w3.heap.size := HB3.out.size
  have h0 : ReadsU w s w3.heap.size w.heap.size pb num 0 [] (.slice (some ⟨w.heap.size, 0, none⟩) 0 s.size) (w3.iter s 0) :=
    ⟨World.iter_heap w3 s 0, (own_moved HO3.out (Moved.alloc w3 (.stringIter s 0) []) (fun _ _ q => by cases q)), (HP.out.below (HB3.out.alloc hI3 _)), but_low (But.refl pb w) (HB3.out.alloc hI3 _) (Nat.le_refl _), HT.out.below (HB3.out.alloc hI3 _), (fun _ h => by cases h), AtT.start num s, Nat.le_refl _, Nat.zero_le _⟩
  have H0 := hid h0
  clear h0 HO3 HG3
  go_loopw [7] (fun v wr => ∃ (p k : Nat) (cs : List Int), (∃ y cap, v = .slice y k cap) ∧ Hid (cs.length = k) ∧ k ≤ p ∧ p ≤ s.size ∧ Hid (ReadsU w s w3.heap.size w.heap.size pb num p cs v wr)) (fun _ wr => s.size - wr.iterPos w3.heap.size)
  case atStart => exact ⟨0, 0, [], ⟨_, _, rfl⟩, rfl, Nat.le_refl _, Nat.zero_le _, H0⟩
  case round =>
    obtain ⟨p, k, cs, ⟨y, cap, rfl⟩, HCL, hkp, hps, HR⟩ := hrel
    have hmu : wr.iterPos w3.heap.size = p := by simp [World.iterPos, HR.out.iter]
    by_cases hlt : p < s.size
    · have HSP := hid (fun w' => slice_rest s p hps w')
      have HBR := hid (broken_rest s p hlt)
      have HBAD := hid (readT_bad (num := num) hlt)
      have HNON := hid (readT_none (num := num) hlt)
      have HNXT := hid (fun (h : AtT num s p cs) => h.next hlt)
      obtain ⟨hrb, hlb⟩ := dec_two s p
      have hl1 := dec_pos s p
      have hl2 := dec_le s p hlt
      have hnext : ∀ ty, (Instr.next (.pointer (some ⟨w3.heap.size, 0, none⟩)) true ty).run Tryd.prog wr = .ok (.tuple #[.bool true, .int .i64 p, .int .i32 ((Utf8.decode s p).1 : Nat)]) (wr.iterAt w3.heap.size s (p + (Utf8.decode s p).2)) := fun ty =>
        Lib.run_next_any_at wr w3.heap.size s p ty HR.out.iter hlt
      generalize (Utf8.decode s p).1 = r at HBR HBAD HNON HNXT hrb hnext
      generalize (Utf8.decode s p).2 = L at HBR HBAD HNON HNXT hlb hl1 hl2 hnext
      have hap := HR.out.apart
      have mit := moved_iter wr w3.heap.size s (p + L)
      have hk1 : (wr.iterAt w3.heap.size s (p + L)).heap[w3.heap.size]? = some (.stringIter s (p + L)) := Lib.iterAt_heap wr w3.heap.size s p (p + L) HR.out.iter
      have hrow1 := own_moved HR.out.row mit (fun q h1 h2 => hap.1 (by rw [← List.mem_singleton.1 h2]; exact h1))
      have hpg1 := page_moved HR.out.page mit (fun h => hap.2 (List.mem_singleton.1 h)) (fun q h es cl => by
        rw [List.mem_singleton.1 h, HR.out.iter]
        intro e
        cases e)
      have htb1 := HR.out.tabs.moved mit (fun h => by have := List.mem_singleton.1 h; omega) (fun h => by have := List.mem_singleton.1 h; omega)
      have hbt1 : But pb w (wr.iterAt w3.heap.size s (p + L)) := ⟨HR.out.but.os, HR.out.but.tape, HR.out.but.output, by rw [show (wr.iterAt w3.heap.size s (p + L)).heap.size = wr.heap.size by simp [World.iterAt]]; exact HR.out.but.size, fun q h1 h2 => (Lib.iterAt_other wr w3.heap.size q s (p + L) (by omega)).trans (HR.out.but.block q h1 h2)⟩
      generalize wr.iterAt w3.heap.size s (p + L) = W1 at hnext hk1 hrow1 hpg1 hbt1 htb1
      have HK1 := hid hk1
      have HROW1 := hid hrow1
      have HPG1 := hid hpg1
      have HBT1 := hid hbt1
      have HTB1 := hid htb1
      have hrw : (Lit.int .i32 ((r : Nat) : Int)).wf = true := by
        exact wf_rune21 r (by omega)
      have HRW := hid hrw
      clear hk1 hrow1 hpg1 hbt1 htb1 hap mit hrw
      by_cases h65 : r = 65533
      · have HBAD3 := hid (fun h : L = 1 => HBAD.out ⟨h65, h⟩)
        have HNON3 := hid (fun h : ¬ L = 1 => HNON.out (fun q => h q.2))
        have HNXT3 := hid (fun h : ¬ L = 1 => HNXT.out HR.out.at' (fun q => h q.2))
        clear HBAD HNON HNXT
        subst h65
        have hsp := HSP.out
        go_wp2_with fail
        refine (HBR.out W1 HTB1.out).mono ?_
        rintro e W2 ⟨rfl, hb2⟩
        have HK2 := hid ((hb2.block _ (Array.getElem?_eq_some_iff.1 HK1.out).1).trans HK1.out)
        have HROW2 := hid (own_moved HROW1.out (Moved.below hb2 []) (fun _ _ q => by cases q))
        have HPG2 := hid (HPG1.out.below hb2)
        have HBT2 := hid (HBT1.out.below hb2)
        have HTB2 := hid (HTB1.out.below hb2)
        clear hb2
        by_cases hL : L = 1
        · subst hL
          have HD := hid (HR.out.at'.done (HBAD3.out rfl))
          go_wp2
          go_ret3
          rw [HD.out]
          have hkk : k = cs.length := HCL.out.symm
          subst hkk
          exact ⟨_, rfl, fun h => absurd h (by simp), fun _ => rfl, HPG2.out, HBT2.out⟩
        · have HNON2 := hid (HNON3.out hL)
          have HNXT2 := hid (HNXT3.out hL)
          clear HBAD3 HNON3 HNXT3
          have HCD := hid (code_any pb num ((65533 : Nat) : Int) W2 HPG2.out HRW.out)
          have hclt := codeOf_lt num ((65533 : Nat) : Int)
          by_cases hcc : (codeOf num ((65533 : Nat) : Int)).2 = true
          · have HN3 := hid (HNXT2.out hcc)
            rw [hcc] at HCD
            generalize (codeOf num ((65533 : Nat) : Int)).1 = z at HCD HN3 hclt
            clear hcc HNON2 HNXT2 HBR
            go_wp2_with fail
            refine HCD.out.mono ?_
            rintro e w4 ⟨rfl, ⟨m, hR⟩, hb4⟩
            have hpg4 : Page w4 pb num := ⟨hnum, .inr ⟨m, hR⟩⟩
            have hIl : w3.heap.size < W2.heap.size := (Array.getElem?_eq_some_iff.1 HK2.out).1
            have hk4 : w4.heap[w3.heap.size]? = some (.stringIter s (p + L)) := (hb4.block _ hIl (by omega)).trans HK2.out
            have hmv4 : Moved W2 w4 [pb] [pb] := ⟨hb4.os, hb4.tape, hb4.output, hb4.size, fun q h1 h2 => hb4.block q h1 (fun e => h2 (List.mem_singleton.2 e)), fun _ h => .inl h⟩
            have hrow4 := own_moved HROW2.out hmv4 (fun q h1 h2 => by
              have a := (HROW2.out.lt q (mem_blkV.1 h1)).1
              rw [List.mem_singleton.1 h2] at a
              omega)
            have htb4 := HTB2.out.moved hmv4 (fun h => hpt.1 (List.mem_singleton.1 h).symm) (fun h => hpt.2 (List.mem_singleton.1 h).symm)
            have hbt4 : But pb w w4 := HBT2.out.trans hb4
            have hBs : w.heap.size ≤ w4.heap.size := hbt4.size
            rw [HCL.out] at hrow4
            have HROW5 := hid (own_moved hrow4 (Moved.alloc w4 (.cells #[.int .u8 (z : Int)] 5) []) (fun _ _ q => by cases q))
            have HSRC := hid (one_src w4 (z : Int) w4.heap.size rfl)
            have HPG4 := hid hpg4
            have HK4 := hid hk4
            have HBT4 := hid hbt4
            have HTB4 := hid htb4
            have HBS := hid (show w.heap.size ≤ (w4.alloc (.cells #[.int .u8 (z : Int)] 5)).heap.size by simp; omega)
            clear hpg4 hk4 hmv4 hrow4 hbt4 htb4 hR hb4 hIl
            go_wp2_with (first
              | (at_builtin; refine wpList_append_own _ rfl _ _ 34 rfl w.heap.size 5 i0 (.int .u8 0) 1 1 Tryd.underlying34 hi hz0 hz1 hz2 rfl (by decide) _ k (cs.map (Value.int .u8)) rfl HROW5.out ⟨w4.heap.size, 0, none⟩ 1 1 [.int .u8 (z : Int)] rfl rfl HSRC.out (by intro u hu; rw [List.mem_singleton.1 hu]; rfl) (by unfold maxLen; omega) (by omega) HBS.out ?_; intro v6 w6 hown6 hgrow6 hnil6; have HO6 := hid hown6; have HG6 := hid hgrow6; clear hown6 hgrow6 hnil6)
              | fail)
            obtain ⟨y6, c6, rfl⟩ : ∃ y cap, v6 = .slice y (k + 1) cap := by
              rcases HO6.out.2 with ⟨_, h⟩ | ⟨g, c, cur, rfl, _⟩
              · omega
              · exact ⟨_, _, rfl⟩
            have hal : Below w4.heap.size w4 (w4.alloc (.cells #[.int .u8 (z : Int)] 5)) := (Below.refl _ _).alloc (Nat.le_refl _) _
            have hk5 : (w4.alloc (.cells #[.int .u8 (z : Int)] 5)).heap[w3.heap.size]? = some (.stringIter s (p + L)) := (Below.heap_alloc _ _ _ (Array.getElem?_eq_some_iff.1 HK4.out).1).trans HK4.out
            have hni : w3.heap.size ∉ blkV (.slice y k cap) := fun q => by
              obtain ⟨c, fr, hc⟩ := own_cells HROW5.out _ q
              rw [hk5] at hc
              cases hc
            have hk6 : w6.heap[w3.heap.size]? = some (.stringIter s (p + L)) := (HG6.out.block _ (Array.getElem?_eq_some_iff.1 hk5).1 (fun e => hni (mem_blkV.2 e.symm))).trans hk5
            have hmv6 : Moved (w4.alloc (.cells #[.int .u8 (z : Int)] 5)) w6 (blkV (.slice y k cap)) [] := Moved.grown HG6.out (fun q e => mem_blkV.2 e) (fun q h => by cases h)
            have hge : ∀ q, q ∈ blkV (.slice y k cap) → w.heap.size ≤ q := fun q h => (HROW5.out.lt q (mem_blkV.1 h)).1
            have hpg6 : Page w6 pb num := page_moved (HPG4.out.below hal) hmv6 (fun q => by
              have := hge _ q
              omega) (fun q h es cl e => by
              obtain ⟨c, fr, hc⟩ := own_cells HROW5.out q h
              rw [hc] at e
              cases e)
            have htb6 : Tabs w6 := (HTB4.out.below hal).moved hmv6 (fun h => by have := hge _ h; omega) (fun h => by have := hge _ h; omega)
            have hbl6 : Below w.heap.size w4 w6 := ((Below.refl _ w4).alloc hBs _).grown HG6.out HBS.out (fun q e => (HROW5.out.lt q e).1)
            have hbt6 := but_low HBT4.out hbl6 (Nat.le_refl _)
            have hcl6 : (cs ++ [(z : Int)]).length = k + 1 := by rw [List.length_append, HCL.out]; rfl
            have hr6 : w6.ownsRow w.heap.size 5 1 (.slice y6 (k + 1) c6) (cs ++ [(z : Int)]).length ((cs ++ [(z : Int)]).map (Value.int .u8)) := by
              rw [hcl6, List.map_append]
              exact HO6.out
            have HF := hid (show ReadsU w s w3.heap.size w.heap.size pb num (p + L) (cs ++ [(z : Int)]) (.slice y6 (k + 1) c6) w6 from ⟨hk6, hr6, hpg6, hbt6, htb6, (fun x hx => by
              rcases List.mem_append.1 hx with h | h
              · exact HR.out.bytes x h
              · rw [List.mem_singleton.1 h]; omega), HN3.out, by rw [hcl6]; omega, hl2⟩)
            have HCL6 := hid hcl6
            have hm6 : w6.iterPos w3.heap.size = p + L := by simp [World.iterPos, hk6]
            clear hk5 hni hk6 hpg6 htb6 hbl6 hbt6 hr6 hcl6 hmv6 hge hal
            go_roundw
            case rel => exact ⟨p + L, k + 1, _, ⟨_, _, rfl⟩, HCL6, by omega, hl2, HF⟩
            case measure => rw [hmu, hm6]; omega
          · have hcf : (codeOf num ((65533 : Nat) : Int)).2 = false := by
              cases h : (codeOf num ((65533 : Nat) : Int)).2 with
              | true => exact absurd h hcc
              | false => rfl
            have HD := hid (HR.out.at'.done (HNON2.out hcf))
            rw [hcf] at HCD
            generalize (codeOf num ((65533 : Nat) : Int)).1 = z at HCD
            clear hcc hcf HNON2 HNXT2 HBR hclt
            go_wp2_with fail
            refine HCD.out.mono ?_
            rintro e w4 ⟨rfl, ⟨m, hR⟩, hb4⟩
            have HPG4 : Hid (Page w4 pb num) := ⟨hnum, .inr ⟨m, hR⟩⟩
            have HBT4 := hid (HBT2.out.trans hb4)
            clear hR hb4
            go_wp2
            go_ret3
            rw [HD.out]
            have hkk : k = cs.length := HCL.out.symm
            subst hkk
            exact ⟨_, rfl, fun h => absurd h (by simp), fun _ => rfl, HPG4.out, HBT4.out⟩
      · have hbad : ¬ (r = 65533 ∧ L = 1) := fun h => h65 h.1
        have HNON2 := hid (HNON.out hbad)
        have HNXT2 := hid (HNXT.out HR.out.at' hbad)
        clear HBAD HNON HNXT hbad
        have h65i : ¬ (r : Int) = 65533 := by omega
        have HCD := hid (code_any pb num ((r : Nat) : Int) W1 HPG1.out HRW.out)
        have hclt := codeOf_lt num ((r : Nat) : Int)
        by_cases hcc : (codeOf num ((r : Nat) : Int)).2 = true
        · have HN3 := hid (HNXT2.out hcc)
          rw [hcc] at HCD
          generalize (codeOf num ((r : Nat) : Int)).1 = z at HCD HN3 hclt
          clear hcc HNON2 HNXT2 HBR
          go_wp2_with fail
          refine HCD.out.mono ?_
          rintro e w4 ⟨rfl, ⟨m, hR⟩, hb4⟩
          have hpg4 : Page w4 pb num := ⟨hnum, .inr ⟨m, hR⟩⟩
          have hIl : w3.heap.size < W1.heap.size := (Array.getElem?_eq_some_iff.1 HK1.out).1
          have hk4 : w4.heap[w3.heap.size]? = some (.stringIter s (p + L)) := (hb4.block _ hIl (by omega)).trans HK1.out
          have hmv4 : Moved W1 w4 [pb] [pb] := ⟨hb4.os, hb4.tape, hb4.output, hb4.size, fun q h1 h2 => hb4.block q h1 (fun e => h2 (List.mem_singleton.2 e)), fun _ h => .inl h⟩
          have hrow4 := own_moved HROW1.out hmv4 (fun q h1 h2 => by
            have a := (HROW1.out.lt q (mem_blkV.1 h1)).1
            rw [List.mem_singleton.1 h2] at a
            omega)
          have htb4 := HTB1.out.moved hmv4 (fun h => hpt.1 (List.mem_singleton.1 h).symm) (fun h => hpt.2 (List.mem_singleton.1 h).symm)
          have hbt4 : But pb w w4 := HBT1.out.trans hb4
          have hBs : w.heap.size ≤ w4.heap.size := hbt4.size
          rw [HCL.out] at hrow4
          have HROW5 := hid (own_moved hrow4 (Moved.alloc w4 (.cells #[.int .u8 (z : Int)] 5) []) (fun _ _ q => by cases q))
          have HSRC := hid (one_src w4 (z : Int) w4.heap.size rfl)
          have HPG4 := hid hpg4
          have HK4 := hid hk4
          have HBT4 := hid hbt4
          have HTB4 := hid htb4
          have HBS := hid (show w.heap.size ≤ (w4.alloc (.cells #[.int .u8 (z : Int)] 5)).heap.size by simp; omega)
          clear hpg4 hk4 hmv4 hrow4 hbt4 htb4 hR hb4 hIl
          go_wp2_with (first
            | (at_builtin; refine wpList_append_own _ rfl _ _ 34 rfl w.heap.size 5 i0 (.int .u8 0) 1 1 Tryd.underlying34 hi hz0 hz1 hz2 rfl (by decide) _ k (cs.map (Value.int .u8)) rfl HROW5.out ⟨w4.heap.size, 0, none⟩ 1 1 [.int .u8 (z : Int)] rfl rfl HSRC.out (by intro u hu; rw [List.mem_singleton.1 hu]; rfl) (by unfold maxLen; omega) (by omega) HBS.out ?_; intro v6 w6 hown6 hgrow6 hnil6; have HO6 := hid hown6; have HG6 := hid hgrow6; clear hown6 hgrow6 hnil6)
            | fail)
          obtain ⟨y6, c6, rfl⟩ : ∃ y cap, v6 = .slice y (k + 1) cap := by
            rcases HO6.out.2 with ⟨_, h⟩ | ⟨g, c, cur, rfl, _⟩
            · omega
            · exact ⟨_, _, rfl⟩
          have hal : Below w4.heap.size w4 (w4.alloc (.cells #[.int .u8 (z : Int)] 5)) := (Below.refl _ _).alloc (Nat.le_refl _) _
          have hk5 : (w4.alloc (.cells #[.int .u8 (z : Int)] 5)).heap[w3.heap.size]? = some (.stringIter s (p + L)) := (Below.heap_alloc _ _ _ (Array.getElem?_eq_some_iff.1 HK4.out).1).trans HK4.out
          have hni : w3.heap.size ∉ blkV (.slice y k cap) := fun q => by
            obtain ⟨c, fr, hc⟩ := own_cells HROW5.out _ q
            rw [hk5] at hc
            cases hc
          have hk6 : w6.heap[w3.heap.size]? = some (.stringIter s (p + L)) := (HG6.out.block _ (Array.getElem?_eq_some_iff.1 hk5).1 (fun e => hni (mem_blkV.2 e.symm))).trans hk5
          have hmv6 : Moved (w4.alloc (.cells #[.int .u8 (z : Int)] 5)) w6 (blkV (.slice y k cap)) [] := Moved.grown HG6.out (fun q e => mem_blkV.2 e) (fun q h => by cases h)
          have hge : ∀ q, q ∈ blkV (.slice y k cap) → w.heap.size ≤ q := fun q h => (HROW5.out.lt q (mem_blkV.1 h)).1
          have hpg6 : Page w6 pb num := page_moved (HPG4.out.below hal) hmv6 (fun q => by
            have := hge _ q
            omega) (fun q h es cl e => by
            obtain ⟨c, fr, hc⟩ := own_cells HROW5.out q h
            rw [hc] at e
            cases e)
          have htb6 : Tabs w6 := (HTB4.out.below hal).moved hmv6 (fun h => by have := hge _ h; omega) (fun h => by have := hge _ h; omega)
          have hbl6 : Below w.heap.size w4 w6 := ((Below.refl _ w4).alloc hBs _).grown HG6.out HBS.out (fun q e => (HROW5.out.lt q e).1)
          have hbt6 := but_low HBT4.out hbl6 (Nat.le_refl _)
          have hcl6 : (cs ++ [(z : Int)]).length = k + 1 := by rw [List.length_append, HCL.out]; rfl
          have hr6 : w6.ownsRow w.heap.size 5 1 (.slice y6 (k + 1) c6) (cs ++ [(z : Int)]).length ((cs ++ [(z : Int)]).map (Value.int .u8)) := by
            rw [hcl6, List.map_append]
            exact HO6.out
          have HF := hid (show ReadsU w s w3.heap.size w.heap.size pb num (p + L) (cs ++ [(z : Int)]) (.slice y6 (k + 1) c6) w6 from ⟨hk6, hr6, hpg6, hbt6, htb6, (fun x hx => by
            rcases List.mem_append.1 hx with h | h
            · exact HR.out.bytes x h
            · rw [List.mem_singleton.1 h]; omega), HN3.out, by rw [hcl6]; omega, hl2⟩)
          have HCL6 := hid hcl6
          have hm6 : w6.iterPos w3.heap.size = p + L := by simp [World.iterPos, hk6]
          clear hk5 hni hk6 hpg6 htb6 hbl6 hbt6 hr6 hcl6 hmv6 hge hal
          go_roundw
          case rel => exact ⟨p + L, k + 1, _, ⟨_, _, rfl⟩, HCL6, by omega, hl2, HF⟩
          case measure => rw [hmu, hm6]; omega
        · have hcf : (codeOf num ((r : Nat) : Int)).2 = false := by
            cases h : (codeOf num ((r : Nat) : Int)).2 with
            | true => exact absurd h hcc
            | false => rfl
          have HD := hid (HR.out.at'.done (HNON2.out hcf))
          rw [hcf] at HCD
          generalize (codeOf num ((r : Nat) : Int)).1 = z at HCD
          clear hcc hcf HNON2 HNXT2 HBR hclt
          go_wp2_with fail
          refine HCD.out.mono ?_
          rintro e w4 ⟨rfl, ⟨m, hR⟩, hb4⟩
          have HPG4 : Hid (Page w4 pb num) := ⟨hnum, .inr ⟨m, hR⟩⟩
          have HBT4 := hid (HBT1.out.trans hb4)
          clear hR hb4
          go_wp2
          go_ret3
          rw [HD.out]
          have hkk : k = cs.length := HCL.out.symm
          subst hkk
          exact ⟨_, rfl, fun h => absurd h (by simp), fun _ => rfl, HPG4.out, HBT4.out⟩
    · have hpe : p = s.size := by omega
      have hnext : ∀ ty, (Instr.next (.pointer (some ⟨w3.heap.size, 0, none⟩)) true ty).run Tryd.prog wr = .ok (.tuple #[.bool false]) wr := fun ty =>
        Lib.run_next_end_at wr w3.heap.size s _ ty HR.out.iter hlt
      have HD := hid (HR.out.at'.done (readT_end hlt))
      have hrow := HR.out.row
      have HOW := hid (show OwnB wr (.slice y k cap) cs from ⟨HR.out.bytes, hrow.mono (Nat.zero_le _)⟩)
      clear hrow
      go_wp2
      go_ret3
      rw [HD.out]
      have hkk : k = cs.length := HCL.out.symm
      subst hkk
      exact ⟨_, rfl, fun _ => HOW.out.reads, fun h => absurd rfl h, HR.out.page, HR.out.but⟩
end Go.Proofs.YtadoiplfglaonaaDoor
