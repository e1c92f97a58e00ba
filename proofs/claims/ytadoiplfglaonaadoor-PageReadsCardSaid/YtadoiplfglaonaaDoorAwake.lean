/-
  The document's examples of pages hold: 'awake' answers true; and 'pick' hands out a page, one of the six.
-/
import Derived.Test.YtadoiplfglaonaaDoorNew
namespace Go.Proofs.YtadoiplfglaonaaDoor
open Go.RowKit Go.Lib Go.Shelf

theorem Page.lt {w : World} {b : Nat} {num : Int} (h : Page w b num) : b < w.heap.size := by
  rcases h with ⟨_, ⟨_, _, _, h⟩ | ⟨m, h⟩⟩
  · exact h.lt
  · obtain ⟨se, h⟩ := h.page; exact h.lt
theorem Page.cells {w : World} {b : Nat} {num : Int} (h : Page w b num) : ∃ cs, w.heap[b]? = some (.cells cs 89 (0, 0)) := by
  rcases h with ⟨_, ⟨_, _, _, h⟩ | ⟨m, h⟩⟩
  · exact ⟨_, h.block⟩
  · obtain ⟨se, h⟩ := h.page; exact ⟨_, h.block⟩
theorem ownsMap_heap {w w' : World} {P : Program} {k : TypeId} {R : Value → Option (DataW Unit × List MemPlace)} {b n : Nat} {D : DataW Unit} (h : w.ownsMap P k R b n D) (e : w'.heap[b]? = w.heap[b]?) : w'.ownsMap P k R b n D := by
  obtain ⟨es, clock, hb, F, hs, hD⟩ := h
  exact ⟨es, clock, e.trans hb, F, hs, hD⟩
theorem Page.below {w w' : World} {b : Nat} {num : Int} (h : Page w b num) (hB : Below w.heap.size w w') : Page w' b num := by
  have hl := h.lt
  rcases h with ⟨hn, ⟨se, S, cv, h⟩ | ⟨m, h⟩⟩
  · exact ⟨hn, .inl ⟨se, S, cv, h.of_heap (hB.block b hl)⟩⟩
  · obtain ⟨se, hp⟩ := h.page
    exact ⟨hn, .inr ⟨m, ⟨⟨se, hp.of_heap (hB.block b hl)⟩, ownsMap_heap h.map (hB.block m h.map.lt), h.lt⟩⟩⟩
theorem Page.but {w w' : World} {b b' : Nat} {num num' : Int} (h : Page w b num) (h' : Page w b' num') (hne : b ≠ b') (hB : But b' w w') : Page w' b num := by
  have hl := h.lt
  obtain ⟨cs, hcs⟩ := h'.cells
  rcases h with ⟨hn, ⟨se, S, cv, h⟩ | ⟨m, h⟩⟩
  · exact ⟨hn, .inl ⟨se, S, cv, h.of_heap (hB.block b hl hne)⟩⟩
  · obtain ⟨se, hp⟩ := h.page
    have hm : m ≠ b' := by
      obtain ⟨es, clock, hb, _⟩ := h.map
      intro e
      rw [e, hcs] at hb
      cases hb
    exact ⟨hn, .inr ⟨m, ⟨⟨se, hp.of_heap (hB.block b hl hne)⟩, ownsMap_heap h.map (hB.block m h.map.lt hm), h.lt⟩⟩⟩

set_option maxRecDepth 100000 in
set_option maxHeartbeats 2000000 in
theorem awake_true (w : World) (hN : Numbers w) : Calls Tryd.prog 15 #[] w fun e w' => e = .returned (.bool true) ∧ Below w.heap.size w w' := by
  have HN := hid hN
  clear hN
  go_enter Tryd.func15, Tryd.ntmps15
  go_wp2_with fail
  refine (new_page 37 (by decide) _ HN.out).mono ?_
  rintro e w1 ⟨b1, rfl, hb1, hP1, hB1⟩
  have HN1 := hid (HN.out.below HN.out.1 hB1)
  have HP1 := hid hP1
  have HB1 := hid hB1
  clear hP1 hB1
  go_wp2_with fail
  refine (new_page 273 (by decide) _ HN1.out).mono ?_
  rintro e w2 ⟨b2, rfl, hb2, hP2, hB2⟩
  have HN2 := hid (HN1.out.below HN1.out.1 hB2)
  have HP12 := hid (HP1.out.below hB2)
  have HP2 := hid hP2
  have HB2 := hid (HB1.out.trans (hB2.mono HB1.out.size))
  have hz1 := HP1.out.lt
  clear hP2 hB2 HP1 HN1
  go_wp2_with fail
  refine (new_page 1140 (by decide) _ HN2.out).mono ?_
  rintro e w3 ⟨b3, rfl, hb3, hP3, hB3⟩
  have HP13 := hid (HP12.out.below hB3)
  have HP23 := hid (HP2.out.below hB3)
  have HP3 := hid hP3
  have HB3 := hid (HB2.out.trans (hB3.mono HB2.out.size))
  have hz2 := HP2.out.lt
  clear hP3 hB3 HP12 HP2 HN2
  go_wp2_with fail
  refine (code_found b2 273 228 192 (by decide) _ HP23.out (by decide +kernel)).mono ?_
  rintro e w4 ⟨rfl, ⟨m, hR⟩, hB4⟩
  have hw4 : w.heap.size ≤ b1 := hb1
  have HB4 := hid (HB3.out.trans (hB4.to (B := w.heap.size) (by have := HB1.out.size; omega) HB3.out.size))
  have HP14 := hid (HP13.out.but HP23.out (by omega) hB4)
  have HP34 := hid (HP3.out.but HP23.out (by omega) hB4)
  clear hR hB4 HP13 HP23 HP3
  go_wp2_with fail
  refine (sign_any b1 37 193 (by decide) _ HP14.out).mono ?_
  rintro e w5 ⟨rfl, ⟨m5, hR⟩, hB5⟩
  have HB5 := hid (HB4.out.trans (hB5.to (B := w.heap.size) (by omega) HB4.out.size))
  have HP35 := hid (HP34.out.but HP14.out (by omega) hB5)
  clear hR hB5 HP34 HP14
  have e5 : (signsL 37).getD 193 0 = 65 := by decide +kernel
  go_wp2_with fail
  refine (sign_any b3 1140 159 (by decide) _ HP35.out).mono ?_
  rintro e w6 ⟨rfl, ⟨m6, hR⟩, hB6⟩
  have HB6 := hid (HB5.out.trans (hB6.to (B := w.heap.size) (by have := HB2.out.size; omega) HB5.out.size))
  clear hR hB6 HP35
  have e6 : (signsL 1140).getD 159 0 = 8364 := by decide +kernel
  go_wp2
  go_ret
  exact ⟨rfl, HB6.out⟩
end Go.Proofs.YtadoiplfglaonaaDoor
