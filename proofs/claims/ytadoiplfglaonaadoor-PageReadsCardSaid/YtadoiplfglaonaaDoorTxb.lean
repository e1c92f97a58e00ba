/-
  Text: the signs of bytes, written one behind the other.
-/
import Derived.Test.YtadoiplfglaonaaDoorTxa
import Derived.Test.YtadoiplfglaonaaDoorAwake
import Derived.Test.YtadoiplfglaonaaDoorBd
namespace Go.Proofs.YtadoiplfglaonaaDoor
open Go.RowKit Go.Lib Go.Shelf

def encT (num : Int) (xs : List Int) : List UInt8 := xs.flatMap fun x => Lib.encodeRune ((signsL num).getD x.toNat 0)
theorem encT_snoc (num : Int) (xs : List Int) (x : Int) : encT num (xs ++ [x]) = encT num xs ++ Lib.encodeRune ((signsL num).getD x.toNat 0) := by simp [encT]
theorem byteCells_append (a b : List UInt8) : byteCells (a ++ b) = byteCells a ++ byteCells b := by simp [byteCells]
theorem encT_length (num : Int) (xs : List Int) : (encT num xs).length ≤ 4 * xs.length := by
  induction xs with
  | nil => exact Nat.le_refl _
  | cons x xs ih =>
    have h := Lib.runeCells_le ((signsL num).getD x.toNat 0)
    rw [Lib.runeCells_length] at h
    have e : encT num (x :: xs) = Lib.encodeRune ((signsL num).getD x.toNat 0) ++ encT num xs := rfl
    rw [e, List.length_append, List.length_cons]
    omega
theorem sign_bd {num : Int} (h : num ∈ pagesL) (k : Nat) : 0 ≤ (signsL num).getD k 0 ∧ (signsL num).getD k 0 ≤ 65535 := by
  have q := signs_ok num h
  rw [List.all_eq_true] at q
  by_cases hk : k < (signsL num).length
  · rw [List.getD, List.getElem?_eq_getElem hk]
    have := q _ (List.getElem_mem hk)
    simpa using this
  · rw [List.getD, List.getElem?_eq_none (by omega)]
    decide
theorem isB_heap {w w' : World} {B b : Nat} {bs : List Value} (h : Lib.IsBuilderF 96 5 B b bs w) (hk : ∀ k, B ≤ k → k < w.heap.size → w'.heap[k]? = w.heap[k]?) : Lib.IsBuilderF 96 5 B b bs w' := by
  have one : ∀ p, Lib.BuilderAtF 96 5 B b p bs w → Lib.BuilderAtF 96 5 B b p bs w' := fun p ⟨h1, v, h2, h3, h4⟩ => by
    refine ⟨h1, v, (hk b h1 (Array.getElem?_eq_some_iff.1 h2).1).trans h2, ?_, h4⟩
    refine ⟨h3.1, ?_⟩
    rcases h3.2 with q | ⟨g, cap, cur, fz, e, hg, hh, rest⟩
    · exact .inl q
    · exact .inr ⟨g, cap, cur, fz, e, hg, (hk g hg (Array.getElem?_eq_some_iff.1 hh).1).trans hh, rest⟩
  exact h.imp (one _) (one _)
theorem page_kept {w w' : World} {b B : Nat} {num : Int} (h : Page w b num) {cs : Array Value} {t : TypeId} {fr : Nat × Nat} (hB : w.heap[B]? = some (.cells cs t fr)) (hne : b ≠ B) (hk : Lib.OthersKept 5 (some B) w w') : Page w' b num := by
  have hp : ∀ {d st se : Int} {S : List Int} {cv : Value}, PageIn w b num d st se S cv → PageIn w' b num d st se S cv := fun h => by
    refine h.of_heap ?_
    rw [h.block]
    exact hk b _ h.block (fun e => hne (Option.some.inj e)) (fun c fz e => by cases e)
  rcases h with ⟨hn, ⟨se, S, cv, h⟩ | ⟨m, h⟩⟩
  · exact ⟨hn, .inl ⟨se, S, cv, hp h⟩⟩
  · obtain ⟨se, hpg⟩ := h.page
    obtain ⟨es, clock, hb, hrest⟩ := h.map
    have hm : m ≠ B := by
      intro e
      rw [e, hB] at hb
      cases hb
    exact ⟨hn, .inr ⟨m, ⟨⟨se, hp hpg⟩, ownsMap_heap h.map ((hk m _ hb (fun e => hm (Option.some.inj e)) (fun c fz e => by cases e)).trans hb.symm), h.lt⟩⟩⟩
theorem but_low {b B : Nat} {w w1 w2 : World} (h : But b w w1) (k : Below B w1 w2) (hB : w.heap.size ≤ B) : But b w w2 :=
  ⟨k.os.trans h.os, k.tape.trans h.tape, k.output.trans h.output, Nat.le_trans h.size k.size, fun i hi hb => (k.block i (by omega)).trans (h.block i hi hb)⟩
theorem reads_but {w w' : World} {b : Nat} {v : Value} {xs : List Int} (h : Reads w v xs) (hB : But b w w') (hb : ∀ k ∈ blkV v, k ≠ b) : Reads w' v xs := by
  refine reads_moved (S := [b]) (S' := [b]) h ⟨hB.os, hB.tape, hB.output, hB.size, fun k hk q => hB.block k hk (fun e => q (List.mem_singleton.2 e)), fun _ q => .inl q⟩ (fun k hk q => hb k hk (List.mem_singleton.1 q))
theorem reads_elemP {w : World} {g n c : Nat} {xs : List Int} (h : Reads w (.slice (some ⟨g, 0, none⟩) n c) xs) {i : Nat} (hi : i < n) : w.cell? ⟨g, i, none⟩ = some (.int .u8 (xs.getD i 0)) := by
  obtain ⟨hn, hc⟩ := reads_src h
  have := hc i (.int .u8 (xs.getD i 0)) (by simp [List.getElem?_eq_getElem (show i < xs.length by omega)])
  rw [addr_add, Nat.zero_add] at this
  exact this
theorem isB_block {w : World} {B b : Nat} {bs : List Value} (h : Lib.IsBuilderF 96 5 B b bs w) : ∃ cs, w.heap[b]? = some (.cells cs 96 (0, 0)) := by
  rcases h with ⟨_, v, h, _⟩ | ⟨_, v, h, _⟩
  · exact ⟨_, h⟩
  · exact ⟨_, h⟩
/-- A string is there. -/
def TextDone (l : List UInt8) (b : Nat) (num : Int) (w : World) (e : Ending) (w' : World) : Prop := e = .returned (.string ⟨l.toArray⟩) ∧ Page w' b num ∧ But b w w'
set_option maxRecDepth 100000 in
set_option maxHeartbeats 1000000 in
theorem text_any (pb : Nat) (num : Int) (g n c : Nat) (xs : List Int) (w : World) (hP : Page w pb num) (hr : Reads w (.slice (some ⟨g, 0, none⟩) n c) xs) (hgp : g ≠ pb) (hn : n ≤ 100000) :
    Calls Tryd.prog 24 #[.pointer (some ⟨pb, 0, none⟩), .slice (some ⟨g, 0, none⟩) n c] w (TextDone (encT num xs) pb num w) := by
  have hpl := hP.lt
  have hnum := hP.1
  have hnx := (reads_src hr).1
  have HX := hid hr
  have HNX := hid hnx
  have hb0 : Below w.heap.size w (w.alloc (.cells #[.pointer none, .slice none 0 0] 96)) := (Below.refl _ _).alloc (Nat.le_refl _) _
  have HI0 : Hid (Lib.IsBuilderF 96 5 w.heap.size w.heap.size (byteCells (encT num (xs.take 0))) (w.alloc (.cells #[.pointer none, .slice none 0 0] 96))) := by
    exact Lib.IsBuilderF.of (Lib.fresh_isBuilder 96 5 w)
  have HP0 := hid (hP.below hb0)
  have HB0 : Hid (But pb w (w.alloc (.cells #[.pointer none, .slice none 0 0] 96))) := (But.refl _ _).alloc _
  have hblt : pb ≠ w.heap.size := by omega
  clear hP hr hb0 hnx
  go_enter Tryd.func24, Tryd.ntmps24
  go_wp2
  go_loopw [12] (fun iv wr => ∃ k : Nat, k ≤ n ∧ iv = .int .i64 k ∧ Hid (Page wr pb num) ∧ Hid (Lib.IsBuilderF 96 5 w.heap.size w.heap.size (byteCells (encT num (xs.take k))) wr) ∧ Hid (But pb w wr)) (fun iv _ => n - (RowKit.intOf iv).toNat)
  case atStart => exact ⟨0, Nat.zero_le _, rfl, HP0, HI0, HB0⟩
  case round =>
    obtain ⟨k, hk, rfl, HP, HI, HB⟩ := hrel
    have HBw := hid (show w.heap.size ≤ wr.heap.size from HB.out.size)
    by_cases hlt : k < n
    · have cc := reads_elemP (reads_but HX.out HB.out (fun q hq => by
        have : g = q := by simpa [mem_blkV, Value.ownBlock] using hq
        omega)) hlt
      obtain ⟨z, hz0, hce⟩ : ∃ z : Nat, z < 256 ∧ xs.getD k 0 = (z : Int) := by
        have := HX.out.1 (xs.getD k 0) (by rw [List.getD, List.getElem?_eq_getElem (by rw [← HNX.out]; exact hlt)]; exact List.getElem_mem _)
        exact ⟨(xs.getD k 0).toNat, by omega, by omega⟩
      rw [hce] at cc
      have hes : encT num (xs.take (k + 1)) = encT num (xs.take k) ++ Lib.encodeRune ((signsL num).getD z 0) := by
        have hkx : k < xs.length := by rw [← HNX.out]; exact hlt
        rw [List.take_succ_eq_append_getElem hkx, encT_snoc]
        have e : xs[k] = (z : Int) := by
          rw [List.getD, List.getElem?_eq_getElem hkx] at hce
          exact hce
        rw [e]
        rfl
      have HES := hid hes
      have HSG := hid (sign_any pb num z hz0 wr HP.out)
      obtain ⟨hr0, hr1⟩ := sign_bd hnum z
      have HLT := hid (show k < xs.length by rw [← HNX.out]; exact hlt)
      have hki : (k : Int) < n := by omega
      clear hes hce
      generalize (signsL num).getD z 0 = r at HES HSG hr0 hr1
      go_wp2_with fail
      refine HSG.out.mono ?_
      rintro e w1 ⟨rfl, ⟨m, hR⟩, hb1⟩
      have hP1 : Page w1 pb num := ⟨hnum, .inr ⟨m, hR⟩⟩
      have hI1 : Lib.IsBuilderF 96 5 w.heap.size w.heap.size (byteCells (encT num (xs.take k))) w1 := isB_heap HI.out (fun q h1 h2 => hb1.block q h2 (by omega))
      have hB1 : But pb w w1 := HB.out.trans hb1
      have HWR := hid (writeRune_any w.heap.size w.heap.size _ r (by omega) (by omega) w1 hI1 (by
        have a := encT_length num (xs.take k)
        rw [byteCells_length]
        rw [List.length_take] at a
        omega) (Nat.le_trans HBw.out hb1.size))
      have HP1 := hid hP1
      have HI1 := hid hI1
      have HB1 := hid hB1
      clear hP1 hI1 hB1 hR hb1 HSG
      go_wp2_with fail
      refine HWR.out.mono ?_
      rintro e w2 ⟨rfl, hat, hb2, ho2⟩
      obtain ⟨cs1, hc1⟩ := isB_block HI1.out
      have HP2 := hid (page_kept HP1.out hc1 hblt ho2)
      have HI2 : Hid (Lib.IsBuilderF 96 5 w.heap.size w.heap.size (byteCells (encT num (xs.take (k + 1)))) w2) := by
        rw [HES.out, byteCells_append, Lib.byteCells_encodeRune]
        exact .inr hat
      have HB2 := hid (but_low HB1.out hb2 (Nat.le_refl _))
      clear hat hb2 ho2 hc1 HWR
      go_wp2
      go_roundw
      case rel => exact ⟨k + 1, by omega, by go_num, HP2, HI2, HB2⟩
      case measure => simp [RowKit.intOf]; omega
    · have hI := HI.out
      rw [List.take_of_length_le (by rw [← HNX.out]; omega)] at hI
      have HST := hid (Tryd.Builder_String_any_k w.heap.size w.heap.size _ wr hI HBw.out)
      obtain ⟨cs1, hc1⟩ := isB_block hI
      have HC1 := hid hc1
      clear hI hc1
      go_wp2_with fail
      refine HST.out.mono ?_
      rintro e w2 ⟨rfl, hi2, hb2, ho2⟩
      have HP2 := hid (page_kept HP.out HC1.out hblt ho2)
      have HB2 := hid (but_low HB.out hb2 (Nat.le_refl _))
      clear hi2 hb2 ho2
      go_wp2
      go_ret
      exact ⟨rfl, HP2.out, HB2.out⟩
end Go.Proofs.YtadoiplfglaonaaDoor
