/-
  telnet: escape, and a subnegotiation's bytes.
-/
import Derived.Test.YtaanpnmgibcemaaGreatDoorTb
import Derived.Lib.SlBytesConst
import Derived.Lib.Bytealg
import Derived.Lib.Bytes
import Derived.Test.YtaanpnmgibcemaaGreatDoorTa
import Derived.Shelf.Bytes.SlIndexAt
import Derived.Shelf.Bytes.SlCountOne
import Derived.Laws.CopyOwn
import Derived.Deep.RegionHeld3
import Derived.Deep.RegionLaw
namespace Go.Proofs.YtaanpnmgibcemaaGreatDoor.Tn
/-! XGf -/
section
open Go.RowKit Go.Lib
theorem reads_lit (w : World) (fr : Nat × Nat) (ps : List Int) (n : Nat) (hn : ps.length = n) (hm : n ≤ 100) (hb : ∀ x ∈ ps, 0 ≤ x ∧ x < 256) : Reads (w.alloc (.cells (ps.map (Value.int .u8)).toArray 5 fr)) (.slice (some ⟨w.heap.size, 0, none⟩) n n) ps := by
  subst hn
  refine ⟨hb, .inr ⟨⟨w.heap.size, 0, none⟩, ps.length, rfl, Nat.le_refl _, by unfold maxLen; omega, fun i hi => ?_⟩⟩
  rw [addr_add, Nat.zero_add, cell_of_row _ w.heap.size i (ps.map (Value.int .u8)).toArray 5 fr (heap_alloc_new w _)]
  simp [List.getD, List.getElem?_eq_getElem hi]
end
/-! XKa -/
section
open Go.Lib
/-- Each 255 twice. -/
def escI : List Int → List Int
  | [] => []
  | b :: l => if b = 255 then 255 :: 255 :: escI l else b :: escI l
theorem escI_append (a b : List Int) : escI (a ++ b) = escI a ++ escI b := by
  induction a with
  | nil => rfl
  | cons x a ih => simp only [List.cons_append, escI, ih]; split <;> rfl
theorem escI_no {a : List Int} (h : (255 : Int) ∉ a) : escI a = a := by
  induction a with
  | nil => rfl
  | cons x a ih =>
    simp only [List.mem_cons, not_or] at h
    simp only [escI, if_neg (Ne.symm h.1), ih h.2]
theorem escI_length (l : List Int) : (escI l).length = l.length + l.count 255 := by
  induction l with
  | nil => rfl
  | cons x l ih =>
    simp only [escI, List.count_cons]
    split <;> rename_i h
    · simp only [h, List.length_cons, ih]; simp; omega
    · simp only [List.length_cons, ih]; simp [h]; omega
theorem escI_bytes {l : List Int} (h : ∀ x ∈ l, 0 ≤ x ∧ x < 256) : ∀ x ∈ escI l, 0 ≤ x ∧ x < 256 := by
  induction l with
  | nil => intro x hx; cases hx
  | cons y l ih =>
    have h1 := ih (fun x hx => h x (List.mem_cons_of_mem _ hx))
    have h0 := h y (List.mem_cons_self ..)
    intro x hx
    simp only [escI] at hx
    split at hx
    · simp only [List.mem_cons] at hx
      rcases hx with rfl | rfl | hx
      · omega
      · omega
      · exact h1 x hx
    · simp only [List.mem_cons] at hx
      rcases hx with rfl | hx
      · exact h0
      · exact h1 x hx
theorem first_255 {l : List Int} (h : 0 < l.count 255) : ∃ a r, l = a ++ 255 :: r ∧ (255 : Int) ∉ a := by
  induction l with
  | nil => simp at h
  | cons x l ih =>
    by_cases hx : x = 255
    · exact ⟨[], l, by rw [hx]; rfl, by simp⟩
    · rw [List.count_cons] at h
      have h' : 0 < l.count 255 := by simpa [hx] using h
      obtain ⟨a, r, h1, h2⟩ := ih h'
      exact ⟨x :: a, r, by rw [h1]; rfl, by simp only [List.mem_cons, not_or]; exact ⟨Ne.symm hx, h2⟩⟩
theorem byte_eq {x : Int} (h : 0 ≤ x ∧ x < 256) : (UInt8.ofNat x.toNat == (255 : Int).toNat.toUInt8) = decide (x = 255) := by
  obtain ⟨k, hk, rfl⟩ : ∃ k : Nat, k < 256 ∧ x = (k : Int) := ⟨x.toNat, by omega, by omega⟩
  rw [Int.toNat_natCast]
  rw [Bool.eq_iff_iff, beq_iff_eq, decide_eq_true_eq]
  constructor
  · intro e
    have e2 := congrArg UInt8.toNat e
    rw [UInt8.toNat_ofNat'] at e2
    have e3 : ((255 : Int).toNat.toUInt8).toNat = 255 := by decide
    rw [e3] at e2
    omega
  · intro e
    have : k = 255 := by omega
    subst this
    decide
theorem count_255 {l : List Int} (h : ∀ x ∈ l, 0 ≤ x ∧ x < 256) : countByte (bytesOf l) (255 : Int).toNat.toUInt8 = l.count 255 := by
  unfold countByte bytesOf
  induction l with
  | nil => rfl
  | cons x l ih =>
    rw [List.map_cons, List.count_cons, List.count_cons, ih (fun y hy => h y (List.mem_cons_of_mem _ hy)), byte_eq (h x (List.mem_cons_self ..))]
    congr 1
theorem index_255 {a r : List Int} (h : ∀ x ∈ a ++ 255 :: r, 0 ≤ x ∧ x < 256) (ha : (255 : Int) ∉ a) : indexByte (bytesOf (a ++ 255 :: r)) (255 : Int).toNat.toUInt8 = a.length := by
  unfold bytesOf
  induction a with
  | nil =>
    simp only [List.nil_append, List.map_cons, indexByte, List.length_nil]
    rw [byte_eq (h 255 (by simp))]
    simp
  | cons x a ih =>
    simp only [List.mem_cons, not_or] at ha
    have h1 := ih (fun y hy => h y (List.mem_cons_of_mem _ hy)) ha.2
    simp only [List.cons_append, List.map_cons, indexByte, List.length_cons] at h1 ⊢
    rw [byte_eq (h x (List.mem_cons_self ..)), decide_eq_false (Ne.symm ha.1)]
    simp only [Bool.false_eq_true, if_false]
    rw [h1]
    have : ((a.length : Int) == -1) = false := by simp
    rw [this]
    simp
theorem take_255 {l : List Int} {p : Nat} (hp : p ≤ l.length) {a r : List Int} (h : l.drop p = a ++ 255 :: r) : p + a.length + 1 ≤ l.length ∧ l.take (p + a.length + 1) = l.take p ++ (a ++ [255]) ∧ l.drop (p + a.length + 1) = r := by
  have hl := congrArg List.length h
  simp only [List.length_drop, List.length_append, List.length_cons] at hl
  refine ⟨by omega, ?_, ?_⟩
  · have e : l.take (p + (a.length + 1)) = l.take p ++ (l.drop p).take (a.length + 1) := by rw [List.take_add]
    rw [Nat.add_assoc, e, h]
    congr 1
    rw [List.take_append, Nat.add_sub_cancel_left, List.take_of_length_le (Nat.le_succ _)]
    rfl
  · rw [Nat.add_assoc, ← List.drop_drop, h, List.drop_append]
    simp
theorem esc_step {l : List Int} {p : Nat} (hp : p ≤ l.length) {a r : List Int} (h : l.drop p = a ++ 255 :: r) (ha : (255 : Int) ∉ a) : escI (l.take (p + a.length + 1)) = escI (l.take p) ++ a ++ [255, 255] ∧ (l.take (p + a.length + 1)).count 255 = (l.take p).count 255 + 1 := by
  obtain ⟨_, h2, _⟩ := take_255 hp h
  rw [h2]
  refine ⟨by rw [escI_append, escI_append, escI_no ha, List.append_assoc]; rfl, ?_⟩
  rw [List.count_append, List.count_append, List.count_eq_zero_of_not_mem ha]
  simp
theorem drop_none {l : List Int} {p : Nat} (h : (l.take p).count 255 = l.count 255) : escI l = escI (l.take p) ++ l.drop p := by
  have e : l.count 255 = (l.take p).count 255 + (l.drop p).count 255 := by rw [← List.count_append, List.take_append_drop]
  have h0 : (255 : Int) ∉ l.drop p := List.count_eq_zero.1 (by omega)
  conv => lhs; rw [← List.take_append_drop p l, escI_append, escI_no h0]
theorem drop_some {l : List Int} {p : Nat} (h : (l.take p).count 255 < l.count 255) : 0 < (l.drop p).count 255 := by
  have e : l.count 255 = (l.take p).count 255 + (l.drop p).count 255 := by rw [← List.count_append, List.take_append_drop]
  omega
end
/-! XKb -/
section
open Go.RowKit Go.Lib
set_option maxRecDepth 100000 in
theorem count_any (a : Addr) (n c b2 d : Nat) (xs : List Int) (w : World) (hn : xs.length = n) (hb : ∀ x ∈ xs, 0 ≤ x ∧ x < 256) (hc : ∀ i, i < n → w.cell? (a.add i) = some (.int .u8 (xs.getD i 0))) (hc2 : w.cell? ⟨b2, 0, none⟩ = some (.int .u8 255)) :
    Calls Tryz.prog 103 #[.slice (some a) n c, .slice (some ⟨b2, 0, none⟩) 1 d] w fun e w' => e = .returned (.int .i64 (xs.count 255)) ∧ w = w' := by
  have HC := hid hc
  have HB := hid hb
  have HN := hid hn
  clear hc hb hn
  go_enter Tryz.func103, Tryz.ntmps103
  go_wp2_with fail
  rw [run_callFunc_extern Tryz.func119 (by kernel_rfl) (by kernel_rfl) (by kernel_rfl) (e := Extern.BytealgCount.count) (by kernel_rfl), Lib.run_countAt w a n c xs HN.out HC.out 255, count_255 HB.out]
  simp only [Result.andThen]
  rw [Oper.upon_value]
  go_wp2
  go_ret
  exact ⟨rfl, rfl⟩
set_option maxRecDepth 100000 in
theorem indexByte_any (a : Addr) (n c : Nat) (pre r : List Int) (w : World) (hn : (pre ++ 255 :: r).length = n) (hb : ∀ x ∈ pre ++ 255 :: r, 0 ≤ x ∧ x < 256) (hp : (255 : Int) ∉ pre) (hc : ∀ i, i < n → w.cell? (a.add i) = some (.int .u8 ((pre ++ 255 :: r).getD i 0))) :
    Calls Tryz.prog 120 #[.slice (some a) n c, .int .u8 255] w fun e w' => e = .returned (.int .i64 pre.length) ∧ w = w' := by
  have HC := hid hc
  have HB := hid hb
  have HN := hid hn
  have HP := hid hp
  clear hc hb hn hp
  go_enter Tryz.func120, Tryz.ntmps120
  go_wp2_with fail
  rw [run_callFunc_extern Tryz.func138 (by kernel_rfl) (by kernel_rfl) (by kernel_rfl) (e := Extern.BytealgIndexByte.indexByte) (by kernel_rfl), Lib.run_indexByteAt w a n c _ HN.out HC.out 255, index_255 HB.out HP.out]
  simp only [Result.andThen]
  rw [Oper.upon_value]
  go_wp2
  go_ret
  exact ⟨rfl, rfl⟩
set_option maxRecDepth 100000 in
theorem index_any (a : Addr) (n c b2 d : Nat) (pre r : List Int) (w : World) (hn : (pre ++ 255 :: r).length = n) (hb : ∀ x ∈ pre ++ 255 :: r, 0 ≤ x ∧ x < 256) (hp : (255 : Int) ∉ pre) (hc : ∀ i, i < n → w.cell? (a.add i) = some (.int .u8 ((pre ++ 255 :: r).getD i 0))) (hc2 : w.cell? ⟨b2, 0, none⟩ = some (.int .u8 255)) :
    Calls Tryz.prog 104 #[.slice (some a) n c, .slice (some ⟨b2, 0, none⟩) 1 d] w fun e w' => e = .returned (.int .i64 pre.length) ∧ w = w' := by
  have HI := hid (indexByte_any a n c pre r w hn hb hp hc)
  clear hc hb hn hp
  go_enter Tryz.func104, Tryz.ntmps104
  go_wp2_with fail
  refine HI.out.mono ?_
  rintro e w' ⟨rfl, rfl⟩
  go_wp2
  go_ret
  exact ⟨rfl, rfl⟩
end
/-! XKc -/
section
open Go.RowKit Go.Lib Go.Deep Go.Shelf
/-- Bytes that are a slice's, whoever owns it. -/
def EscDone (xs : List Int) (w : World) (e : Ending) (w' : World) : Prop := ∃ v, e = .returned v ∧ OwnB w' v (escI xs) ∧ Below w.heap.size w w' ∧ ∀ b ∈ blkV v, w.heap.size ≤ b
theorem row_reads {w : World} {B : Nat} {v : Value} {xs : List Int} (h : w.ownsRow B 5 1 v xs.length (xs.map (Value.int .u8))) (hb : ∀ x ∈ xs, 0 ≤ x ∧ x < 256) : Reads w v xs :=
  OwnB.reads ⟨hb, ⟨h.1, h.2.imp id fun ⟨g, cap, cur, h1, _, h3⟩ => ⟨g, cap, cur, h1, Nat.zero_le _, h3⟩⟩⟩
theorem row_anyK {w : World} {base : Nat} {e : TypeId} {size n : Nat} {v : Value} {xs : List Value} (h : w.ownsRow base e size v n xs) : ∃ y cap, v = .slice y n cap := by
  rcases h.2 with ⟨rfl, h0⟩ | ⟨g, cap, cur, rfl, _⟩
  · exact ⟨none, 0, by rw [h0]⟩
  · exact ⟨_, cap, rfl⟩
/-- The new row begins so. -/
def Filled (w : World) (g T : Nat) (l : List Int) : Prop := ∃ zs : List Int, (l ++ zs).length = T ∧ w.heap[g]? = some (.cells ((l ++ zs).map (Value.int .u8)).toArray 5 (0, 0))
theorem splice_fill {l zs cs : List Int} : splice ((l ++ zs).map (Value.int .u8)) l.length (cs.map (Value.int .u8)) = ((l ++ cs) ++ zs.drop cs.length).map (Value.int .u8) := by
  unfold splice
  rw [← List.map_take, ← List.map_drop, ← List.map_append, ← List.map_append, List.length_map]
  congr 1
  rw [List.take_append, List.take_length, Nat.sub_self, List.take_zero, List.append_nil, List.drop_append, Nat.add_sub_cancel_left, List.drop_eq_nil_of_le (by omega : l.length ≤ l.length + cs.length), List.nil_append, List.append_assoc]
theorem filled_splice {w : World} {g T : Nat} {l zs cs : List Int} (hz : (l ++ zs).length = T) (hc : cs.length ≤ zs.length) (hw : w.heap[g]? = some (.cells (splice ((l ++ zs).map (Value.int .u8)) l.length (cs.map (Value.int .u8))).toArray 5 (0, 0))) : Filled w g T (l ++ cs) := by
  rw [splice_fill] at hw
  refine ⟨zs.drop cs.length, ?_, hw⟩
  simp only [List.length_append, List.length_drop] at hz ⊢
  omega
theorem size5 : (Tryz.prog.info? 5).map (·.size) = some 1 := by kernel_rfl
theorem ints_one (l : List Int) : ∀ v ∈ l.map (Value.int .u8), v.oneCell' = true := by
  intro v hv
  obtain ⟨x, _, rfl⟩ := List.mem_map.1 hv
  rfl
section
variable {P : Program} {ops : Array Oper} {Q : Exit → Act → World → Prop} {md : Region.Mode} {S : World → Prop}
/-- An operation is taken first: its slot is written. -/
theorem takeD {i : Nat} {oi : Oper} {v : Value} (d : Tmp) {fuel : Nat} {listed : Array Bool} {ts : Array Value} {ds : List Deferred} {w : World} (hi : ops[i]? = some oi) (hd : oi.dst = some d)
    (hs : Region.noSelect ops = true) (hf : Region.free md ops listed i = true) (hr : (Region.ready md ops listed).contains i = true)
    (hQ : ∀ c a w, Q (.panic c) (a.put oi.dst v) w → Q (.panic c) a w) (hS : S w) (hy : YieldsIf P ops S oi v ⟨ts, ds⟩)
    (h : wpAnyH P md ops Q S fuel (listed.setIfInBounds i true) ⟨ts.setIfInBounds d v, ds⟩ w) : wpAnyH P md ops Q S (fuel + 1) listed ⟨ts, ds⟩ w :=
  wpAnyH_take hi hs hf hr hQ hy hS (by rw [hd]; exact h)
end
set_option maxRecDepth 100000 in
set_option maxHeartbeats 4000000 in
theorem replace_none (a : Addr) (n c g2 g3 : Nat) (xs : List Int) (w : World) (hr : Reads w (.slice (some a) n c) xs) (hn : n ≤ 1000000) (h2 : w.cell? ⟨g2, 0, none⟩ = some (.int .u8 255)) (h0 : xs.count 255 = 0) :
    Calls Tryz.prog 88 #[.slice (some a) n c, .slice (some ⟨g2, 0, none⟩) 1 1, .slice (some ⟨g3, 0, none⟩) 2 2, .int .i64 (-1)] w (EscDone xs w) := by
  obtain ⟨i0, hi, hz0, hz1, hz2⟩ := info_parts info5
  obtain ⟨hnx, hcs⟩ := reads_src hr
  have hcell : ∀ i, i < n → w.cell? (a.add i) = some (.int .u8 (xs.getD i 0)) := fun i hi => hcs i _ (by simp [List.getD, List.getElem?_eq_getElem (show i < xs.length by omega)])
  have HCA := hid (count_any a n c g2 1 xs w hnx.symm hr.1 hcell h2)
  rw [h0] at HCA
  have HR := hid hr
  have HCS := hid hcs
  have HNX := hid hnx
  have HE := hid (escI_no (List.count_eq_zero.1 h0))
  have HB0 : Hid (w.heap.size ≤ w.heap.size) := Nat.le_refl _
  clear hr hcs hcell h0 hnx
  go_enter Tryz.func88, Tryz.ntmps88
  go_wp2_with (first
    | (go_at_call 103; refine HCA.out.mono ?_; rintro e w' ⟨rfl, rfl⟩)
    | (at_builtin; refine wpList_append_own _ rfl _ _ 22 rfl w.heap.size 5 i0 (.int .u8 0) 1 1 Tryz.underlying22 hi hz0 hz1 hz2 rfl (by decide) (.slice none 0 0) 0 [] rfl (World.ownsRow_nil _ _ _ _) a n c (xs.map (Value.int .u8)) rfl (by rw [List.length_map, HNX.out]; omega) HCS.out (ints_one xs) (by unfold maxLen; omega) (by omega) (by simp) ?_; intro v3 w3 hown3 hgrow3 hnil3; have HO3 := hid hown3; have HG3 := hid hgrow3; obtain ⟨y3, c3, rfl⟩ := row_anyK hown3; clear hown3 hgrow3 hnil3)
    | fail)
  have q := HO3.out
  rw [Nat.zero_add, List.nil_append] at q
  have HQ : Hid (OwnB w3 (.slice y3 n c3) (escI xs)) := by
    rw [HE.out]
    exact ⟨HR.out.1, (show w3.ownsRow w.heap.size 5 1 _ xs.length _ by rw [← HNX.out]; exact q).mono (Nat.zero_le _)⟩
  have HFR : Hid (∀ b ∈ blkV (.slice y3 n c3), w.heap.size ≤ b) := fun b hb => (q.lt b (mem_blkV.1 hb)).1
  clear q
  go_ret
  exact ⟨_, rfl, HQ.out, (Below.refl _ _).grown HG3.out (Nat.le_refl _) (fun k e => by cases e), HFR.out⟩
set_option maxRecDepth 100000 in
set_option maxHeartbeats 4000000 in
theorem replace_some (g0 off0 n c g2 g3 : Nat) (xs : List Int) (w : World) (hr : Reads w (.slice (some ⟨g0, off0, none⟩) n c) xs) (hn : n ≤ 1000000) (h2 : w.cell? ⟨g2, 0, none⟩ = some (.int .u8 255)) (h3 : w.cell? ⟨g3, 0, none⟩ = some (.int .u8 255)) (h4 : w.cell? ⟨g3, 1, none⟩ = some (.int .u8 255)) (m : Nat) (hm : xs.count 255 = m) (hm0 : 0 < m) :
    Calls Tryz.prog 88 #[.slice (some ⟨g0, off0, none⟩) n c, .slice (some ⟨g2, 0, none⟩) 1 1, .slice (some ⟨g3, 0, none⟩) 2 2, .int .i64 (-1)] w (EscDone xs w) := by
  obtain ⟨i0, hi, hz0, hz1, hz2⟩ := info_parts info5
  obtain ⟨hnx, hcs⟩ := reads_src hr
  have hcell : ∀ i, i < n → w.cell? ⟨g0, off0 + i, none⟩ = some (.int .u8 (xs.getD i 0)) := fun i hi => by
    have := hcs i (.int .u8 (xs.getD i 0)) (by simp [List.getD, List.getElem?_eq_getElem (show i < xs.length by omega)])
    rwa [addr_add] at this
  have hmn : m ≤ n := by rw [← hm, hnx]; exact List.count_le_length
  have hnc : n ≤ c := by
    rcases hr.2 with ⟨h, _⟩ | ⟨a, cap, h, h1, h2, _⟩
    · cases h
    · simp only [Value.slice.injEq] at h
      omega
  have HCA := hid (count_any ⟨g0, off0, none⟩ n c g2 1 xs w hnx.symm hr.1 (fun i hi => by rw [addr_add]; exact hcell i hi) h2)
  rw [hm] at HCA
  have HR := hid hr
  have HNX := hid hnx
  have HM := hid hm
  have HC := hid hcell
  have H2 := hid h2
  have H3 := hid (And.intro h3 h4)
  clear hr hcs hcell hnx hm h2 h3 h4
  have hmt : ¬ (m : Int) = 0 := by omega
  have hmf : ((m : Int) == 0) = false := by simp; omega
  go_enter Tryz.func88, Tryz.ntmps88
  go_wp2_with (first
    | (go_at_call 103; refine HCA.out.mono ?_; rintro e w' ⟨rfl, rfl⟩)
    | (at_make; refine wpList_make_full _ rfl _ _ 22 rfl w.heap.size 5 i0 (.int .u8 0) 1 Tryz.underlying22 hi hz0 hz1 .i64 .i64 _ _ (n + m) rfl rfl (by omega) (by omega) (by rw [hz2]; omega) (by unfold maxLen; omega) (by simp) ?_; intro w3 hown3 hgrow3; have HO3 := hid hown3; have HG3 := hid hgrow3; clear hown3 hgrow3)
    | fail)
  have hown := HO3.out
  have HF0 : Hid (Filled w3 w.heap.size (n + m) []) := by
    rcases hown.2 with ⟨h, _⟩ | ⟨g, cap, cur, h, _, hb, _, _, hs, ht⟩
    · cases h
    · simp only [Value.slice.injEq, Option.some.injEq, Addr.mk.injEq, and_true, true_and] at h
      obtain ⟨rfl, rfl⟩ := h
      refine ⟨List.replicate (n + m) 0, by simp, ?_⟩
      rw [hb]
      have e : cur.toList = ((([] : List Int) ++ List.replicate (n + m) 0).map (Value.int .u8)) := by
        rw [List.take_of_length_le (by rw [Array.length_toList, hs]; exact Nat.le_refl _)] at ht
        rw [ht]
        show (madeCells #[Value.int .u8 0] ((n + m) * 1)).toList = _
        rw [Nat.mul_one, toList_madeCells_one]
        simp
      rw [← e]
  have HB3 : Hid (Below w.heap.size w w3) := (Below.refl _ _).grown HG3.out (Nat.le_refl _) (fun k e => by cases e)
  clear hown HO3 HG3 HCA
  go_loopw [11, 12, 49] (fun wv sv iv wr => ∃ k p : Nat, k ≤ m ∧ p ≤ n ∧ iv = .int .i64 k ∧ sv = .int .i64 p ∧ wv = .int .i64 ((p : Int) + k) ∧ Hid ((xs.take p).count 255 = k) ∧ Hid (Filled wr w.heap.size (n + m) (escI (xs.take p))) ∧ Hid (Below w.heap.size w wr)) (fun _ _ iv _ => m - (RowKit.intOf iv).toNat)
  case atStart => exact ⟨0, 0, Nat.zero_le _, Nat.zero_le _, rfl, rfl, rfl, by simp [Hid], by simpa [escI] using HF0, HB3⟩
  case round =>
    obtain ⟨k, p, hk, hp, rfl, rfl, rfl, HK, HF, HB⟩ := hrel
    by_cases hlt : k < m
    · have hrest : 0 < (xs.drop p).count 255 := drop_some (by rw [HK.out, HM.out]; exact hlt)
      obtain ⟨a, r, har, hna⟩ := first_255 hrest
      obtain ⟨t1, t2, t3⟩ := take_255 (by rw [← HNX.out]; exact hp) har
      obtain ⟨e1, e2⟩ := esc_step (by rw [← HNX.out]; exact hp) har hna
      have hal : p + a.length + 1 ≤ n := by rw [HNX.out]; exact t1
      obtain ⟨j, hj⟩ : ∃ j, j = a.length := ⟨_, rfl⟩
      have HJ := hid hj
      rw [← hj] at hal e1 e2
      have HE1 := hid e1
      have HK2 : Hid ((xs.take (p + j + 1)).count 255 = k + 1) := by rw [Hid, e2, HK.out]
      have hle : (escI (xs.take p)).length = p + k := by rw [escI_length, HK.out, List.length_take, ← HNX.out]; omega
      obtain ⟨zs, hzl, hzc⟩ := HF.out
      have hzs : zs.length = n + m - (p + k) := by rw [List.length_append, hle] at hzl; omega
      have HZS := hid hzs
      have HZL := hid hzl
      have HZC := hid hzc
      have hB2 : w.heap.size ≤ wr.heap.size := HB.out.size
      have hpn : p < n := by omega
      have hpc : ¬ p = c := by omega
      have hpc2 : ¬ c = p := by omega
      have hcell : ∀ i, i < n - p → wr.cell? ((⟨g0, off0 + p, none⟩ : Addr).add i) = some (.int .u8 ((a ++ 255 :: r).getD i 0)) := fun i hi => by
        rw [addr_add, Nat.add_assoc, (HB.out.cell (p := ⟨g0, off0 + (p + i), none⟩) (World.block_lt_of_cell? w _ (HC.out (p + i) (by omega)))), HC.out (p + i) (by omega), ← har]
        simp [List.getD, List.getElem?_drop]
      have HIX := hid (index_any ⟨g0, off0 + p, none⟩ (n - p) (c - p) g2 1 a r wr (by rw [← har, List.length_drop, HNX.out]) (fun x hx => HR.out.1 x (List.mem_of_mem_drop (by rw [har]; exact hx))) hna hcell ((HB.out.cell (p := ⟨g2, 0, none⟩) (World.block_lt_of_cell? w _ H2.out)).trans H2.out))
      rw [← hj] at HIX
      have HCA : Hid (∀ i v, (a.map (Value.int .u8))[i]? = some v → wr.cell? ((⟨g0, off0 + p, none⟩ : Addr).add i) = some v) := fun i v hv => by
        rw [List.getElem?_map] at hv
        obtain ⟨y, hy, rfl⟩ := Option.map_eq_some_iff.1 hv
        have hi : i < a.length := (List.getElem?_eq_some_iff.1 hy).1
        rw [hcell i (by omega), List.getD, List.getElem?_append_left hi, hy]
        rfl
      have HLE := hid hle
      clear t1 t2 t3 e1 e2 hrest hj hle hzl hzc hcell har hna
      have hkt : k < n := by omega
      go_wp2_with (first
        | (go_at_call 104; refine HIX.out.mono ?_; rintro e w' ⟨rfl, rfl⟩)
        | fail)
      have hjn : a.length = j := HJ.out.symm
      have HB1 := hid HB.out.drew
      obtain ⟨q, hq⟩ : ∃ q : Nat, (p : Int) + k = q := ⟨p + k, by omega⟩
      obtain ⟨jj, hjj⟩ : ∃ jj : Nat, (p : Int) + j = jj := ⟨p + j, by omega⟩
      rw [hq, hjj]
      have HQ := hid hq
      have HJJ := hid hjj
      have hq1 : (q : Int) ≤ (n : Int) + m := by omega
      have hq2 : ¬ n + m = q := by omega
      have hj1 : (p : Int) ≤ jj := by omega
      have hj2 : (jj : Int) ≤ c := by omega
      have hj3 : (jj : Int) ≤ 1000000 := by omega
      have hqn : q = p + k := by omega
      have HQN := hid hqn
      have HJP : Hid (jj - p = j) := by show _ = _; omega
      have HMIN : Hid ((a.map (Value.int .u8)).length = Nat.min (jj - p) (n + m - q)) := by
        rw [Hid, List.length_map, hjn, show jj - p = j by omega]
        exact (Nat.min_eq_left (show j ≤ n + m - q by omega)).symm
      have HFIT : Hid (q + (a.map (Value.int .u8)).length ≤ ((escI (xs.take p) ++ zs).map (Value.int .u8)).length) := by
        rw [Hid, List.length_map, List.length_map, HZL.out, hjn]
        omega
      clear hq hjj hqn
      refine wp_region_held_drew (S := fun _ => True) (by kernel_rfl) trivial (fun hHeld => ?_)
      refine takeD (i := 0) (v := ?_) 58 rfl rfl (by kernel_rfl) (by kernel_rfl) (by kernel_rfl) (fun _ _ _ h => h) (by assumption) (Or.inl ⟨by rfl, ?_⟩) ?_
      rotate_left
      · intro w hSw
        (try dsimp only at hSw)
        go_simp
        try with_reducible rfl
      simp only [List.setIfInBounds_toArray, List.set_cons_zero, List.set_cons_succ]
      refine takeD (i := 1) (v := ?_) 59 rfl rfl (by kernel_rfl) (by kernel_rfl) (by kernel_rfl) (fun _ _ _ h => h) (by assumption) (Or.inl ⟨by rfl, ?_⟩) ?_
      rotate_left
      · intro w hSw
        (try dsimp only at hSw)
        go_simp
        try with_reducible rfl
      simp only [List.setIfInBounds_toArray, List.set_cons_zero, List.set_cons_succ]
      refine takeD (i := 2) (v := ?_) 60 rfl rfl (by kernel_rfl) (by kernel_rfl) (by kernel_rfl) (fun _ _ _ h => h) (by assumption) (Or.inl ⟨by rfl, ?_⟩) ?_
      rotate_left
      · intro w hSw
        (try dsimp only at hSw)
        go_simp
        try with_reducible rfl
      simp only [List.setIfInBounds_toArray, List.set_cons_zero, List.set_cons_succ]
      refine takeD (i := 3) (v := ?_) 61 rfl rfl (by kernel_rfl) (by kernel_rfl) (by kernel_rfl) (fun _ _ _ h => h) (by assumption) (Or.inl ⟨by rfl, ?_⟩) ?_
      rotate_left
      · intro w hSw
        (try dsimp only at hSw)
        go_simp
        try with_reducible rfl
      simp only [List.setIfInBounds_toArray, List.set_cons_zero, List.set_cons_succ]
      refine takeD (i := 4) (v := ?_) 62 rfl rfl (by kernel_rfl) (by kernel_rfl) (by kernel_rfl) (fun _ _ _ h => h) (by assumption) (Or.inl ⟨by rfl, ?_⟩) ?_
      rotate_left
      · intro w hSw
        (try dsimp only at hSw)
        go_simp
        try with_reducible rfl
      simp only [List.setIfInBounds_toArray, List.set_cons_zero, List.set_cons_succ]
      refine takeD (i := 5) (v := ?_) 63 rfl rfl (by kernel_rfl) (by kernel_rfl) (by kernel_rfl) (fun _ _ _ h => h) (by assumption) (Or.inl ⟨by rfl, ?_⟩) ?_
      rotate_left
      · intro w hSw
        (try dsimp only at hSw)
        go_simp
        try with_reducible rfl
      simp only [List.setIfInBounds_toArray, List.set_cons_zero, List.set_cons_succ]
      refine takeD (i := 6) (v := ?_) 64 rfl rfl (by kernel_rfl) (by kernel_rfl) (by kernel_rfl) (fun _ _ _ h => h) (by assumption) (Or.inl ⟨by rfl, ?_⟩) ?_
      rotate_left
      · intro w hSw
        (try dsimp only at hSw)
        go_simp
        try with_reducible rfl
      simp only [List.setIfInBounds_toArray, List.set_cons_zero, List.set_cons_succ]
      refine takeD (i := 7) (v := ?_) 65 rfl rfl (by kernel_rfl) (by kernel_rfl) (by kernel_rfl) (fun _ _ _ h => h) (by assumption) (Or.inl ⟨by rfl, ?_⟩) ?_
      rotate_left
      · intro w hSw
        (try dsimp only at hSw)
        go_simp
        try with_reducible rfl
      simp only [List.setIfInBounds_toArray, List.set_cons_zero, List.set_cons_succ]
      refine wpAnyH_ready (rs := [8]) (by kernel_rfl) (by simp) ?_
      refine AllReadyH.cons (by simp only [List.getElem?_toArray, List.getElem?_cons_succ, List.getElem?_cons_zero]; rfl) (fun K hK => ?_) AllReadyH.nil
      refine step_copy_splice (w := wr.drew) (by rfl) (.tmp 61) (.tmp 65) 22 22 (by rfl) 5 Tryz.underlying22 size5 _ _ _ _ _ _ (by rfl) (by rfl) w.heap.size q ((escI (xs.take p) ++ zs).map (Value.int .u8)) 5 HZC.out (a.map (Value.int .u8)) HMIN.out (fun _ => ⟨by simp, _, rfl, HCA.out⟩) HFIT.out (ints_one a) w.heap.size w HB1.out (Nat.le_refl _) ?_
      intro w4 hg4 hb4
      rw [show (a.map (Value.int .u8)).length = j by rw [List.length_map]; exact hjn]
      have HF4 : Hid (Filled w4 w.heap.size (n + m) (escI (xs.take p) ++ a)) := by
        refine filled_splice HZL.out (by have := HZS.out; omega) ?_
        rw [HLE.out, ← HQN.out]
        exact hg4.out
      have HB4 := hid hb4
      clear hg4 hb4
      refine hK.out _ _ trivial (fun hHeldN => ?_)
      clear hK K hHeldN
      (try simp only [Act.put, List.setIfInBounds_toArray, List.set_cons_zero, List.set_cons_succ])
      refine takeD (i := 9) (v := ?_) 67 rfl rfl (by kernel_rfl) (by kernel_rfl) (by kernel_rfl) (fun _ _ _ h => h) (by assumption) (Or.inl ⟨by rfl, ?_⟩) ?_
      rotate_left
      · intro w hSw
        (try dsimp only at hSw)
        go_simp
        try with_reducible rfl
      simp only [List.setIfInBounds_toArray, List.set_cons_zero, List.set_cons_succ]
      refine takeD (i := 10) (v := ?_) 11 rfl rfl (by kernel_rfl) (by kernel_rfl) (by kernel_rfl) (fun _ _ _ h => h) (by assumption) (Or.inl ⟨by rfl, ?_⟩) ?_
      rotate_left
      · intro w hSw
        (try dsimp only at hSw)
        go_simp
        try with_reducible rfl
      simp only [List.setIfInBounds_toArray, List.set_cons_zero, List.set_cons_succ]
      refine wpAnyH_done (by kernel_rfl) ?_ _
      obtain ⟨zs4, hzl4, hzc4⟩ := HF4.out
      have HZL4 := hid hzl4
      have HZC4 := hid hzc4
      have hzs4 : (escI (xs.take p) ++ a).length = p + k + j := by rw [List.length_append, HLE.out, hjn]
      have hz4 : zs4.length = n + m - (p + k + j) := by rw [List.length_append, hzs4] at hzl4; omega
      have HLE4 := hid hzs4
      have HZS4 := hid hz4
      obtain ⟨q1, hq1'⟩ : ∃ q1 : Nat, (q : Int) + j = q1 := ⟨q + j, by omega⟩
      rw [hq1']
      have hqq : q1 = p + k + j := by have := HQN.out; omega
      have HQ1 := hid hqq
      have hf1 : (q1 : Int) ≤ (n : Int) + m := by omega
      have hf2 : ¬ n + m = q1 := by omega
      have HMIN2 : Hid ((([255, 255] : List Int).map (Value.int .u8)).length = Nat.min 2 (n + m - q1)) := by
        show 2 = _
        exact (Nat.min_eq_left (show 2 ≤ n + m - q1 by omega)).symm
      have HFIT2 : Hid (q1 + (([255, 255] : List Int).map (Value.int .u8)).length ≤ ((escI (xs.take p) ++ a ++ zs4).map (Value.int .u8)).length) := by
        rw [Hid, List.length_map, List.length_map, HZL4.out]
        show q1 + 2 ≤ _
        omega
      have HN2 : Hid (∀ i v, ((([255, 255] : List Int).map (Value.int .u8)))[i]? = some v → w4.cell? ((⟨g3, 0, none⟩ : Addr).add i) = some v) := fun i v hv => by
        rw [addr_add, Nat.zero_add]
        have hi : i < 2 := (List.getElem?_eq_some_iff.1 hv).1
        have h01 : i = 0 ∨ i = 1 := by omega
        rcases h01 with rfl | rfl
        · cases hv; exact (HB4.out.cell (p := ⟨g3, 0, none⟩) (World.block_lt_of_cell? w _ H3.out.1)).trans H3.out.1
        · cases hv; exact (HB4.out.cell (p := ⟨g3, 1, none⟩) (World.block_lt_of_cell? w _ H3.out.2)).trans H3.out.2
      clear hzl4 hzc4 hzs4 hz4 hq1' hqq
      go_wp2_with (first
        | (with_reducible refine wpList_copy_splice rfl (.tmp 71) (.tmp 72) 22 22 rfl 5 Tryz.underlying22 size5 (some ⟨w.heap.size, q1, none⟩) (some ⟨g3, 0, none⟩) (n + m - q1) (n + m - q1) 2 2 rfl rfl w.heap.size q1 ((escI (xs.take p) ++ a ++ zs4).map (Value.int .u8)) 5 HZC4.out (([255, 255] : List Int).map (Value.int .u8)) HMIN2.out (fun _ => ⟨rfl, _, rfl, HN2.out⟩) HFIT2.out (ints_one _) w.heap.size w HB4.out (Nat.le_refl _) ?_; intro w5 hg5 hb5; have HG5 := hid hg5.out; have HB5 := hid hb5; clear hg5 hb5)
        | fail)
      have HF5 : Hid (Filled w5 w.heap.size (n + m) (escI (xs.take (p + j + 1)))) := by
        rw [HE1.out]
        refine filled_splice HZL4.out (by show 2 ≤ _; have := HZS4.out; omega) ?_
        rw [HLE4.out, ← HQ1.out]
        exact HG5.out
      go_roundw
      case rel =>
        have q1' := HJJ.out
        have q2' := HQ1.out
        refine ⟨k + 1, p + j + 1, by omega, by omega, by go_num, ?_, ?_, HK2, HF5, HB5⟩
        · congr 1; omega
        · congr 1; omega
      case measure => simp [RowKit.intOf]; omega
    · obtain rfl : k = m := by omega
      have hesc : escI xs = escI (xs.take p) ++ xs.drop p := drop_none (by rw [HK.out, HM.out])
      have HES := hid hesc
      have hle : (escI (xs.take p)).length = p + k := by rw [escI_length, HK.out, List.length_take, ← HNX.out]; omega
      obtain ⟨zs, hzl, hzc⟩ := HF.out
      have hzs : zs.length = n - p := by rw [List.length_append, hle] at hzl; omega
      have hdl : (xs.drop p).length = n - p := by rw [List.length_drop, HNX.out]
      have HDL := hid hdl
      have HZS := hid hzs
      have HZL := hid hzl
      have HZC := hid hzc
      have HLE := hid hle
      have HTL : Hid ((escI (xs.take p) ++ zs).length = n + k) := hzl
      have HB1 := hid HB.out.drew
      have HFE : Hid (∀ w5 : World, w5.heap[w.heap.size]? = some (.cells (splice ((escI (xs.take p) ++ zs).map (Value.int .u8)) (p + k) ((xs.drop p).map (Value.int .u8))).toArray 5 (0, 0)) → OwnB w5 (.slice (some ⟨w.heap.size, 0, none⟩) (n + k) (n + k)) (escI xs)) := fun w5 h5 => by
        have hf : Filled w5 w.heap.size (n + k) (escI (xs.take p) ++ xs.drop p) := filled_splice HZL.out (by rw [HDL.out, HZS.out]; exact Nat.le_refl _) (by rw [HLE.out]; exact h5)
        rw [← HES.out] at hf
        have hlen : (escI xs).length = n + k := by rw [escI_length, HM.out, HNX.out]
        obtain ⟨z5, hz5, hc5⟩ := hf
        have hz0' : z5 = [] := List.eq_nil_of_length_eq_zero (by rw [List.length_append, hlen] at hz5; omega)
        subst hz0'
        rw [List.append_nil] at hc5
        refine ⟨escI_bytes HR.out.1, by simp, .inr ⟨w.heap.size, n + k, _, by rw [hlen], Nat.zero_le _, hc5, by omega, by unfold maxLen; omega, by simp [hlen], by simp [hlen]; exact List.take_of_length_le (by simp [hlen])⟩⟩
      clear hesc hle hzl hzc hzs hdl HES HF HM HK HZL HZS HLE
      have hB2 : w.heap.size ≤ wr.heap.size := HB.out.size
      by_cases hpn : p < n
      · have HCA : Hid (∀ i v, ((xs.drop p).map (Value.int .u8))[i]? = some v → wr.cell? ((⟨g0, off0 + p, none⟩ : Addr).add i) = some v) := fun i v hv => by
          rw [List.getElem?_map] at hv
          obtain ⟨y, hy, rfl⟩ := Option.map_eq_some_iff.1 hv
          have hi : i < (xs.drop p).length := (List.getElem?_eq_some_iff.1 hy).1
          have hi2 : p + i < n := by rw [HDL.out] at hi; omega
          rw [addr_add, Nat.add_assoc, (HB.out.cell (p := ⟨g0, off0 + (p + i), none⟩) (World.block_lt_of_cell? w _ (HC.out (p + i) hi2))), HC.out (p + i) hi2]
          rw [List.getElem?_drop] at hy
          simp [List.getD, hy]
        obtain ⟨q, hq⟩ : ∃ q : Nat, (p : Int) + k = q := ⟨p + k, by omega⟩
        rw [hq]
        have hqn : q = p + k := by omega
        have HQN := hid hqn
        have hq1 : (q : Int) ≤ (n : Int) + k := by omega
        have hq2 : ¬ n + k = q := by omega
        have hpc2 : ¬ c = p := by omega
        have hpi : (p : Int) ≤ n := by omega
        have HMIN : Hid (((xs.drop p).map (Value.int .u8)).length = Nat.min (n - p) (n + k - q)) := by
          rw [Hid, List.length_map, HDL.out]
          exact (Nat.min_eq_left (show n - p ≤ n + k - q by omega)).symm
        have HFIT : Hid (q + ((xs.drop p).map (Value.int .u8)).length ≤ ((escI (xs.take p) ++ zs).map (Value.int .u8)).length) := by
          rw [Hid, List.length_map, List.length_map, HDL.out, HTL.out]
          omega
        have hend : (q : Int) + ((n - p : Nat) : Int) = (n : Int) + k := by omega
        have HEND := hid hend
        clear hq hqn hend
        go_wp2_with fail
        refine wp_region_held_drew (S := fun _ => True) (by kernel_rfl) trivial (fun hHeld => ?_)
        refine takeD (i := 0) (v := ?_) 120 rfl rfl (by kernel_rfl) (by kernel_rfl) (by kernel_rfl) (fun _ _ _ h => h) (by assumption) (Or.inl ⟨by rfl, ?_⟩) ?_
        rotate_left
        · intro w hSw
          (try dsimp only at hSw)
          go_simp
          try with_reducible rfl
        simp only [List.setIfInBounds_toArray, List.set_cons_zero, List.set_cons_succ]
        refine takeD (i := 1) (v := ?_) 121 rfl rfl (by kernel_rfl) (by kernel_rfl) (by kernel_rfl) (fun _ _ _ h => h) (by assumption) (Or.inl ⟨by rfl, ?_⟩) ?_
        rotate_left
        · intro w hSw
          (try dsimp only at hSw)
          go_simp
          try with_reducible rfl
        simp only [List.setIfInBounds_toArray, List.set_cons_zero, List.set_cons_succ]
        refine takeD (i := 2) (v := ?_) 122 rfl rfl (by kernel_rfl) (by kernel_rfl) (by kernel_rfl) (fun _ _ _ h => h) (by assumption) (Or.inl ⟨by rfl, ?_⟩) ?_
        rotate_left
        · intro w hSw
          (try dsimp only at hSw)
          go_simp
          try with_reducible rfl
        simp only [List.setIfInBounds_toArray, List.set_cons_zero, List.set_cons_succ]
        refine takeD (i := 3) (v := ?_) 123 rfl rfl (by kernel_rfl) (by kernel_rfl) (by kernel_rfl) (fun _ _ _ h => h) (by assumption) (Or.inl ⟨by rfl, ?_⟩) ?_
        rotate_left
        · intro w hSw
          (try dsimp only at hSw)
          go_simp
          try with_reducible rfl
        simp only [List.setIfInBounds_toArray, List.set_cons_zero, List.set_cons_succ]
        refine takeD (i := 4) (v := ?_) 124 rfl rfl (by kernel_rfl) (by kernel_rfl) (by kernel_rfl) (fun _ _ _ h => h) (by assumption) (Or.inl ⟨by rfl, ?_⟩) ?_
        rotate_left
        · intro w hSw
          (try dsimp only at hSw)
          go_simp
          try with_reducible rfl
        simp only [List.setIfInBounds_toArray, List.set_cons_zero, List.set_cons_succ]
        refine takeD (i := 5) (v := ?_) 125 rfl rfl (by kernel_rfl) (by kernel_rfl) (by kernel_rfl) (fun _ _ _ h => h) (by assumption) (Or.inl ⟨by rfl, ?_⟩) ?_
        rotate_left
        · intro w hSw
          (try dsimp only at hSw)
          go_simp
          try with_reducible rfl
        simp only [List.setIfInBounds_toArray, List.set_cons_zero, List.set_cons_succ]
        refine takeD (i := 6) (v := ?_) 126 rfl rfl (by kernel_rfl) (by kernel_rfl) (by kernel_rfl) (fun _ _ _ h => h) (by assumption) (Or.inl ⟨by rfl, ?_⟩) ?_
        rotate_left
        · intro w hSw
          (try dsimp only at hSw)
          go_simp
          try with_reducible rfl
        simp only [List.setIfInBounds_toArray, List.set_cons_zero, List.set_cons_succ]
        refine wpAnyH_ready (rs := [7]) (by kernel_rfl) (by simp) ?_
        refine AllReadyH.cons (by simp only [List.getElem?_toArray, List.getElem?_cons_succ, List.getElem?_cons_zero]; rfl) (fun K hK => ?_) AllReadyH.nil
        refine step_copy_splice (w := wr.drew) (by rfl) (.tmp 123) (.tmp 126) 22 22 (by rfl) 5 Tryz.underlying22 size5 _ _ _ _ _ _ (by rfl) (by rfl) w.heap.size q ((escI (xs.take p) ++ zs).map (Value.int .u8)) 5 HZC.out ((xs.drop p).map (Value.int .u8)) HMIN.out (fun _ => ⟨by rfl, _, rfl, HCA.out⟩) HFIT.out (ints_one _) w.heap.size w HB1.out (Nat.le_refl _) ?_
        intro w5 hg5 hb5
        rw [show ((xs.drop p).map (Value.int .u8)).length = n - p by rw [List.length_map]; exact HDL.out]
        have HRD := hid (HFE.out w5 (by rw [← HQN.out]; exact hg5.out))
        have HB5 := hid hb5
        clear hg5 hb5
        refine hK.out _ _ trivial (fun hHeldN => ?_)
        clear hK K hHeldN
        (try simp only [Act.put, List.setIfInBounds_toArray, List.set_cons_zero, List.set_cons_succ])
        refine takeD (i := 8) (v := ?_) 128 rfl rfl (by kernel_rfl) (by kernel_rfl) (by kernel_rfl) (fun _ _ _ h => h) (by assumption) (Or.inl ⟨by rfl, ?_⟩) ?_
        rotate_left
        · intro w hSw
          (try dsimp only at hSw)
          go_simp
          try with_reducible rfl
        simp only [List.setIfInBounds_toArray, List.set_cons_zero, List.set_cons_succ]
        refine takeD (i := 9) (v := ?_) 11 rfl rfl (by kernel_rfl) (by kernel_rfl) (by kernel_rfl) (fun _ _ _ h => h) (by assumption) (Or.inl ⟨by rfl, ?_⟩) ?_
        rotate_left
        · intro w hSw
          (try dsimp only at hSw)
          go_simp
          try with_reducible rfl
        simp only [List.setIfInBounds_toArray, List.set_cons_zero, List.set_cons_succ]
        refine wpAnyH_done (by kernel_rfl) ?_ _
        rw [HEND.out]
        go_wp2
        go_ret
        exact ⟨_, rfl, by simpa using HRD.out, HB5.out, fun b hb => by simp [mem_blkV, Value.ownBlock] at hb; omega⟩
      · obtain rfl : n = p := by omega
        have HDN : Hid (xs.drop n = []) := List.eq_nil_of_length_eq_zero (by rw [HDL.out]; omega)
        have hT : ((n : Int) + k).toNat = n + k := by omega
        have hT0 : (0 : Int) ≤ (n : Int) + k := by omega
        have HFIT : Hid ((n + k) + (([] : List Int).map (Value.int .u8)).length ≤ ((escI (xs.take n) ++ zs).map (Value.int .u8)).length) := by
          rw [Hid, List.length_map, List.length_map, HTL.out]
          exact Nat.le_refl _
        clear hpn
        by_cases hcn : c = n
        · obtain rfl : n = c := hcn.symm
          clear hcn
          go_wp2_with fail
          refine wp_region_held_drew (S := fun _ => True) (by kernel_rfl) trivial (fun hHeld => ?_)
          refine takeD (i := 0) (v := ?_) 120 rfl rfl (by kernel_rfl) (by kernel_rfl) (by kernel_rfl) (fun _ _ _ h => h) (by assumption) (Or.inl ⟨by rfl, ?_⟩) ?_
          rotate_left
          · intro w hSw
            (try dsimp only at hSw)
            go_simp
            try with_reducible rfl
          simp only [List.setIfInBounds_toArray, List.set_cons_zero, List.set_cons_succ]
          refine takeD (i := 1) (v := ?_) 121 rfl rfl (by kernel_rfl) (by kernel_rfl) (by kernel_rfl) (fun _ _ _ h => h) (by assumption) (Or.inl ⟨by rfl, ?_⟩) ?_
          rotate_left
          · intro w hSw
            (try dsimp only at hSw)
            go_simp
            try with_reducible rfl
          simp only [List.setIfInBounds_toArray, List.set_cons_zero, List.set_cons_succ]
          refine takeD (i := 2) (v := ?_) 122 rfl rfl (by kernel_rfl) (by kernel_rfl) (by kernel_rfl) (fun _ _ _ h => h) (by assumption) (Or.inl ⟨by rfl, ?_⟩) ?_
          rotate_left
          · intro w hSw
            (try dsimp only at hSw)
            go_simp
            try with_reducible rfl
          simp only [List.setIfInBounds_toArray, List.set_cons_zero, List.set_cons_succ]
          refine takeD (i := 3) (v := ?_) 123 rfl rfl (by kernel_rfl) (by kernel_rfl) (by kernel_rfl) (fun _ _ _ h => h) (by assumption) (Or.inl ⟨by rfl, ?_⟩) ?_
          rotate_left
          · intro w hSw
            (try dsimp only at hSw)
            go_simp
            try with_reducible rfl
          simp only [List.setIfInBounds_toArray, List.set_cons_zero, List.set_cons_succ]
          refine takeD (i := 4) (v := ?_) 124 rfl rfl (by kernel_rfl) (by kernel_rfl) (by kernel_rfl) (fun _ _ _ h => h) (by assumption) (Or.inl ⟨by rfl, ?_⟩) ?_
          rotate_left
          · intro w hSw
            (try dsimp only at hSw)
            go_simp
            try with_reducible rfl
          simp only [List.setIfInBounds_toArray, List.set_cons_zero, List.set_cons_succ]
          refine takeD (i := 5) (v := ?_) 125 rfl rfl (by kernel_rfl) (by kernel_rfl) (by kernel_rfl) (fun _ _ _ h => h) (by assumption) (Or.inl ⟨by rfl, ?_⟩) ?_
          rotate_left
          · intro w hSw
            (try dsimp only at hSw)
            go_simp
            try with_reducible rfl
          simp only [List.setIfInBounds_toArray, List.set_cons_zero, List.set_cons_succ]
          refine takeD (i := 6) (v := ?_) 126 rfl rfl (by kernel_rfl) (by kernel_rfl) (by kernel_rfl) (fun _ _ _ h => h) (by assumption) (Or.inl ⟨by rfl, ?_⟩) ?_
          rotate_left
          · intro w hSw
            (try dsimp only at hSw)
            go_simp
            try with_reducible rfl
          simp only [List.setIfInBounds_toArray, List.set_cons_zero, List.set_cons_succ]
          refine wpAnyH_ready (rs := [7]) (by kernel_rfl) (by simp) ?_
          refine AllReadyH.cons (by simp only [List.getElem?_toArray, List.getElem?_cons_succ, List.getElem?_cons_zero]; rfl) (fun K hK => ?_) AllReadyH.nil
          refine step_copy_splice (w := wr.drew) (by rfl) (.tmp 123) (.tmp 126) 22 22 (by rfl) 5 Tryz.underlying22 size5 _ _ _ _ _ _ (by rfl) (by rfl) w.heap.size (n + k) ((escI (xs.take n) ++ zs).map (Value.int .u8)) 5 HZC.out (([] : List Int).map (Value.int .u8)) (by simp) (fun h => absurd h (by simp)) HFIT.out (ints_one _) w.heap.size w HB1.out (Nat.le_refl _) ?_
          intro w5 hg5 hb5
          rw [show (([] : List Int).map (Value.int .u8)).length = 0 from rfl]
          have HRD := hid (HFE.out w5 (by rw [HDN.out]; exact hg5.out))
          have HB5 := hid hb5
          clear hg5 hb5
          refine hK.out _ _ trivial (fun hHeldN => ?_)
          clear hK K hHeldN
          (try simp only [Act.put, List.setIfInBounds_toArray, List.set_cons_zero, List.set_cons_succ])
          refine takeD (i := 8) (v := ?_) 128 rfl rfl (by kernel_rfl) (by kernel_rfl) (by kernel_rfl) (fun _ _ _ h => h) (by assumption) (Or.inl ⟨by rfl, ?_⟩) ?_
          rotate_left
          · intro w hSw
            (try dsimp only at hSw)
            go_simp
            try with_reducible rfl
          simp only [List.setIfInBounds_toArray, List.set_cons_zero, List.set_cons_succ]
          refine takeD (i := 9) (v := ?_) 11 rfl rfl (by kernel_rfl) (by kernel_rfl) (by kernel_rfl) (fun _ _ _ h => h) (by assumption) (Or.inl ⟨by rfl, ?_⟩) ?_
          rotate_left
          · intro w hSw
            (try dsimp only at hSw)
            go_simp
            try with_reducible rfl
          simp only [List.setIfInBounds_toArray, List.set_cons_zero, List.set_cons_succ]
          refine wpAnyH_done (by kernel_rfl) ?_ _
          go_wp2
          go_ret
          exact ⟨_, rfl, by simpa using HRD.out, HB5.out, fun b hb => by simp [mem_blkV, Value.ownBlock] at hb; omega⟩
        · go_wp2_with fail
          refine wp_region_held_drew (S := fun _ => True) (by kernel_rfl) trivial (fun hHeld => ?_)
          refine takeD (i := 0) (v := ?_) 120 rfl rfl (by kernel_rfl) (by kernel_rfl) (by kernel_rfl) (fun _ _ _ h => h) (by assumption) (Or.inl ⟨by rfl, ?_⟩) ?_
          rotate_left
          · intro w hSw
            (try dsimp only at hSw)
            go_simp
            try with_reducible rfl
          simp only [List.setIfInBounds_toArray, List.set_cons_zero, List.set_cons_succ]
          refine takeD (i := 1) (v := ?_) 121 rfl rfl (by kernel_rfl) (by kernel_rfl) (by kernel_rfl) (fun _ _ _ h => h) (by assumption) (Or.inl ⟨by rfl, ?_⟩) ?_
          rotate_left
          · intro w hSw
            (try dsimp only at hSw)
            go_simp
            try with_reducible rfl
          simp only [List.setIfInBounds_toArray, List.set_cons_zero, List.set_cons_succ]
          refine takeD (i := 2) (v := ?_) 122 rfl rfl (by kernel_rfl) (by kernel_rfl) (by kernel_rfl) (fun _ _ _ h => h) (by assumption) (Or.inl ⟨by rfl, ?_⟩) ?_
          rotate_left
          · intro w hSw
            (try dsimp only at hSw)
            go_simp
            try with_reducible rfl
          simp only [List.setIfInBounds_toArray, List.set_cons_zero, List.set_cons_succ]
          refine takeD (i := 3) (v := ?_) 123 rfl rfl (by kernel_rfl) (by kernel_rfl) (by kernel_rfl) (fun _ _ _ h => h) (by assumption) (Or.inl ⟨by rfl, ?_⟩) ?_
          rotate_left
          · intro w hSw
            (try dsimp only at hSw)
            go_simp
            try with_reducible rfl
          simp only [List.setIfInBounds_toArray, List.set_cons_zero, List.set_cons_succ]
          refine takeD (i := 4) (v := ?_) 124 rfl rfl (by kernel_rfl) (by kernel_rfl) (by kernel_rfl) (fun _ _ _ h => h) (by assumption) (Or.inl ⟨by rfl, ?_⟩) ?_
          rotate_left
          · intro w hSw
            (try dsimp only at hSw)
            go_simp
            try with_reducible rfl
          simp only [List.setIfInBounds_toArray, List.set_cons_zero, List.set_cons_succ]
          refine takeD (i := 5) (v := ?_) 125 rfl rfl (by kernel_rfl) (by kernel_rfl) (by kernel_rfl) (fun _ _ _ h => h) (by assumption) (Or.inl ⟨by rfl, ?_⟩) ?_
          rotate_left
          · intro w hSw
            (try dsimp only at hSw)
            go_simp
            try with_reducible rfl
          simp only [List.setIfInBounds_toArray, List.set_cons_zero, List.set_cons_succ]
          refine takeD (i := 6) (v := ?_) 126 rfl rfl (by kernel_rfl) (by kernel_rfl) (by kernel_rfl) (fun _ _ _ h => h) (by assumption) (Or.inl ⟨by rfl, ?_⟩) ?_
          rotate_left
          · intro w hSw
            (try dsimp only at hSw)
            go_simp
            try with_reducible rfl
          simp only [List.setIfInBounds_toArray, List.set_cons_zero, List.set_cons_succ]
          refine wpAnyH_ready (rs := [7]) (by kernel_rfl) (by simp) ?_
          refine AllReadyH.cons (by simp only [List.getElem?_toArray, List.getElem?_cons_succ, List.getElem?_cons_zero]; rfl) (fun K hK => ?_) AllReadyH.nil
          refine step_copy_splice (w := wr.drew) (by rfl) (.tmp 123) (.tmp 126) 22 22 (by rfl) 5 Tryz.underlying22 size5 _ _ _ _ _ _ (by rfl) (by rfl) w.heap.size (n + k) ((escI (xs.take n) ++ zs).map (Value.int .u8)) 5 HZC.out (([] : List Int).map (Value.int .u8)) (by simp) (fun h => absurd h (by simp)) HFIT.out (ints_one _) w.heap.size w HB1.out (Nat.le_refl _) ?_
          intro w5 hg5 hb5
          rw [show (([] : List Int).map (Value.int .u8)).length = 0 from rfl]
          have HRD := hid (HFE.out w5 (by rw [HDN.out]; exact hg5.out))
          have HB5 := hid hb5
          clear hg5 hb5
          refine hK.out _ _ trivial (fun hHeldN => ?_)
          clear hK K hHeldN
          (try simp only [Act.put, List.setIfInBounds_toArray, List.set_cons_zero, List.set_cons_succ])
          refine takeD (i := 8) (v := ?_) 128 rfl rfl (by kernel_rfl) (by kernel_rfl) (by kernel_rfl) (fun _ _ _ h => h) (by assumption) (Or.inl ⟨by rfl, ?_⟩) ?_
          rotate_left
          · intro w hSw
            (try dsimp only at hSw)
            go_simp
            try with_reducible rfl
          simp only [List.setIfInBounds_toArray, List.set_cons_zero, List.set_cons_succ]
          refine takeD (i := 9) (v := ?_) 11 rfl rfl (by kernel_rfl) (by kernel_rfl) (by kernel_rfl) (fun _ _ _ h => h) (by assumption) (Or.inl ⟨by rfl, ?_⟩) ?_
          rotate_left
          · intro w hSw
            (try dsimp only at hSw)
            go_simp
            try with_reducible rfl
          simp only [List.setIfInBounds_toArray, List.set_cons_zero, List.set_cons_succ]
          refine wpAnyH_done (by kernel_rfl) ?_ _
          go_wp2
          go_ret
          exact ⟨_, rfl, by simpa using HRD.out, HB5.out, fun b hb => by simp [mem_blkV, Value.ownBlock] at hb; omega⟩
end
/-! XKd -/
section
open Go.RowKit Go.Lib Go.Deep Go.Shelf
theorem reads_elem {w : World} {a : Addr} {n c : Nat} {xs : List Int} (h : Reads w (.slice (some a) n c) xs) {i : Nat} (hi : i < n) : w.cell? (a.add i) = some (.int .u8 (xs.getD i 0)) := by
  obtain ⟨hn, hc⟩ := reads_src h
  exact hc i _ (by simp [List.getElem?_eq_getElem (show i < xs.length by omega)])
set_option maxRecDepth 100000 in
/-- Each 255 is said twice. -/
theorem escape_any (a : Addr) (n c : Nat) (xs : List Int) (w : World) (hr : Reads w (.slice (some a) n c) xs) (hn : n ≤ 1000000) : Calls Tryz.prog 50 #[.slice (some a) n c] w (EscDone xs w) := by
  have hb : Below w.heap.size w ((w.alloc (.cells #[.int .u8 255] 5)).alloc (.cells #[.int .u8 255, .int .u8 255] 5)) := ((Below.refl _ w).alloc (Nat.le_refl _) _).alloc (by simp) _
  have hr2 := reads_below hr hb
  have c2 : ((w.alloc (.cells #[.int .u8 255] 5)).alloc (.cells #[.int .u8 255, .int .u8 255] 5)).cell? ⟨w.heap.size, 0, none⟩ = some (.int .u8 255) := by simp [go_sem]
  have c3 : ((w.alloc (.cells #[.int .u8 255] 5)).alloc (.cells #[.int .u8 255, .int .u8 255] 5)).cell? ⟨w.heap.size + 1, 0, none⟩ = some (.int .u8 255) := by simp [go_sem]
  have c4 : ((w.alloc (.cells #[.int .u8 255] 5)).alloc (.cells #[.int .u8 255, .int .u8 255] 5)).cell? ⟨w.heap.size + 1, 1, none⟩ = some (.int .u8 255) := by simp [go_sem]
  have HRP : Hid (Calls Tryz.prog 88 #[.slice (some a) n c, .slice (some ⟨w.heap.size, 0, none⟩) 1 1, .slice (some ⟨w.heap.size + 1, 0, none⟩) 2 2, .int .i64 (-1)] ((w.alloc (.cells #[.int .u8 255] 5)).alloc (.cells #[.int .u8 255, .int .u8 255] 5)) (EscDone xs ((w.alloc (.cells #[.int .u8 255] 5)).alloc (.cells #[.int .u8 255, .int .u8 255] 5)))) := by
    by_cases h0 : xs.count 255 = 0
    · exact replace_none a n c _ _ xs _ hr2 hn c2 h0
    · have hnn : 0 < n := by
        have h1 := (reads_src hr).1
        have h2 : xs.count 255 ≤ xs.length := List.count_le_length
        omega
      have cz := reads_elem hr hnn
      obtain ⟨g0, off0, spot⟩ := a
      obtain rfl : spot = none := by simpa [Addr.add] using World.cell?_spot cz
      exact replace_some g0 off0 n c _ _ xs _ hr2 hn c2 c3 c4 _ rfl (by omega)
  have HB := hid hb
  clear hr hr2 c2 c3 c4 hb
  go_enter Tryz.func50, Tryz.ntmps50
  go_wp2_with (first
    | (go_at_call 71; go_in)
    | (go_at_call 88; refine HRP.out.mono ?_; rintro e w3 ⟨v, rfl, hv, hb3, hk3⟩; have HV := hid hv; have HK3 := hid hk3; have HB3 := hid (HB.out.trans (hb3.mono HB.out.size)); obtain ⟨x3, n3, c3, rfl⟩ := own_slice hv; clear hv hb3 hk3)
    | fail)
  go_ret
  exact ⟨_, rfl, HV.out, HB3.out, fun b q => Nat.le_trans HB.out.size (HK3.out b q)⟩
end
/-! XKe -/
section
open Go.RowKit Go.Lib Go.Deep Go.Shelf
theorem own_below {w w' : World} {B B' : Nat} {e : TypeId} {size n : Nat} {v : Value} {xs : List Value} (h : w.ownsRow B e size v n xs) (hb : Below w.heap.size w w') (hB : B' ≤ B) : w'.ownsRow B' e size v n xs := by
  have q := own_moved h (Moved.below hb []) (fun _ _ h => by cases h)
  exact ⟨q.1, q.2.imp id fun ⟨g, cap, cur, h1, h2, h3⟩ => ⟨g, cap, cur, h1, Nat.le_trans hB h2, h3⟩⟩
theorem own_belowB {w w' : World} {B A : Nat} {e : TypeId} {size n : Nat} {v : Value} {xs : List Value} (h : w.ownsRow B e size v n xs) (hb : Below A w w') (hA : w.heap.size ≤ A) : w'.ownsRow B e size v n xs :=
  own_moved h (Moved.below (hb.mono hA) []) (fun _ _ h => by cases h)
theorem run_append_none (w : World) {B n : Nat} {v : Value} {xs : List Value} (h : w.ownsRow B 5 1 v n xs) (ty : TypeId) : (Builtin.append_ #[22, 22] ty #[v, .slice none 0 0]).run Tryz.prog w = .ok v w := by
  obtain ⟨i0, hi, hz0, hz1, hz2⟩ := info_parts info5
  rcases h.2 with ⟨rfl, _⟩ | ⟨g, cap, cur, rfl, _, _, hnc, _⟩
  · simp [Builtin.append_, run_underlying Tryz.underlying22, sizeOf, typeInfo, hi, Builtin.lenOf, Builtin.firstCells]
  · simp [Builtin.append_, run_underlying Tryz.underlying22, sizeOf, typeInfo, hi, Builtin.lenOf, Builtin.firstCells, hnc, storeCells]
theorem wpList_append_val {P : Program} {w w' : World} {ops : Array Oper} {rest : List Oper} {o : Oper} {a : Act} {Q : Exit → Act → World → Prop} (hgd : o.guard = none) (s x : Operand) (t : TypeId)
    (ho : o.op = .call { callee := .builtin .append, args := #[s, x], argTypes := #[t, t] }) (vs vx v' : Value) (hs : a.eval s = vs) (hx : a.eval x = vx) (hr : (Builtin.append_ #[t, t] o.type #[vs, vx]).run P w = .ok v' w')
    (h : wpList P ops Q rest (a.put o.dst v') w') : wpList P ops Q (o :: rest) a w :=
  wpList_plain hgd fun _ hK => by
    unfold Oper.wp execOp
    simp only [ho, resolve, invoke, builtin, Sem.run_bind, Sem.run_pure, Result.andThen_ok, List.map_toArray, List.map_cons, List.map_nil, hs, hx, hr]
    exact hK _ _ h
/-- An append of bytes onto a row of one's own, whatever the bytes are: one law for nil and the rest. -/
theorem append_bytes {w : World} {B n : Nat} {v u : Value} {ys xs : List Int} (h : w.ownsRow B 5 1 v n (ys.map (Value.int .u8))) (hu : Reads w u xs) (hn : n + xs.length ≤ 10000000) (hB : B ≤ w.heap.size) (ty : TypeId) :
    ∃ v' w', (Builtin.append_ #[22, 22] ty #[v, u]).run Tryz.prog w = .ok v' w' ∧ w'.ownsRow B 5 1 v' (n + xs.length) ((ys ++ xs).map (Value.int .u8)) ∧ w.grownBy w' v.ownBlock := by
  rcases hu.2 with ⟨rfl, rfl⟩ | ⟨a, cap, rfl, _, _, _⟩
  · exact ⟨v, w, run_append_none w h ty, by simpa using h, ⟨rfl, rfl, rfl, Nat.le_refl _, fun _ _ _ => rfl⟩⟩
  · obtain ⟨i0, hi, hz0, hz1, hz2⟩ := info_parts info5
    have hsrc := (reads_src hu).2
    obtain ⟨v', w', h1, h2, h3, _⟩ := run_append_own (P := Tryz.prog) w B 22 ty 5 i0 (.int .u8 0) 1 1 Tryz.underlying22 hi hz0 hz1 hz2 rfl (by decide) v n _ h a xs.length cap (xs.map (Value.int .u8)) (by simp) hsrc (ints_one xs) (by unfold maxLen; omega) (by omega) hB
    exact ⟨v', w', h1, by rw [List.map_append]; exact h2, h3⟩
theorem wpList_append_bytes {w : World} {ops : Array Oper} {rest : List Oper} {o : Oper} {a : Act} {Q : Exit → Act → World → Prop} (hgd : o.guard = none) (s x : Operand)
    (ho : o.op = .call { callee := .builtin .append, args := #[s, x], argTypes := #[22, 22] }) (B n : Nat) (v u : Value) (ys xs : List Int) (hs : a.eval s = v) (hx : a.eval x = u) (h : w.ownsRow B 5 1 v n (ys.map (Value.int .u8))) (hu : Reads w u xs) (hn : n + xs.length ≤ 10000000) (hB : B ≤ w.heap.size) (N : Nat) (hN : n + xs.length = N) (zs : List Int) (hz : ys ++ xs = zs)
    (hk : ∀ y cap w', w'.ownsRow B 5 1 (.slice y N cap) N (zs.map (Value.int .u8)) → w.grownBy w' v.ownBlock → wpList Tryz.prog ops Q rest (a.put o.dst (.slice y N cap)) w') : wpList Tryz.prog ops Q (o :: rest) a w := by
  subst hN hz
  obtain ⟨v', w', h1, h2, h3⟩ := append_bytes h hu hn hB o.type
  obtain ⟨y, cap, rfl⟩ := row_anyK h2
  exact wpList_append_val hgd s x 22 ho v u _ hs hx h1 (hk y cap w' h2 h3)
theorem row_done2 {w w' : World} {B N : Nat} {v : Value} {zs : List Int} (h : w.ownsRow B 5 1 v N (zs.map (Value.int .u8))) (hb : ∀ x ∈ zs, 0 ≤ x ∧ x < 256) (hB : Below w.heap.size w w') : Reads w' v zs := by
  have hN : N = zs.length := by have := h.1; rw [List.length_map, Nat.mul_one] at this; exact this.symm
  subst hN
  exact reads_below (row_reads h hb) hB
def subL (o : Int) (xs : List Int) : List Int := [255, 250, o] ++ escI xs ++ [255, 240]
theorem subL_length (o : Int) (xs : List Int) : (subL o xs).length = xs.length + xs.count 255 + 5 := by
  unfold subL
  rw [List.length_append, List.length_append, escI_length]
  show 3 + _ + 2 = _
  omega
theorem subL_bytes {o : Int} {xs : List Int} (ho : 0 ≤ o ∧ o < 256) (h : ∀ x ∈ xs, 0 ≤ x ∧ x < 256) : ∀ x ∈ subL o xs, 0 ≤ x ∧ x < 256 := by
  intro x hx
  simp only [subL, List.mem_append, List.mem_cons, List.not_mem_nil, or_false] at hx
  rcases hx with ((rfl | rfl | rfl) | hx) | (rfl | rfl)
  · omega
  · omega
  · exact ho
  · exact escI_bytes h x hx
  · omega
  · omega
/-- What is said. -/
def SaidB (zs : List Int) (w : World) (e : Ending) (w' : World) : Prop := ∃ v, e = .returned v ∧ Reads w' v zs ∧ Below w.heap.size w w'
set_option maxRecDepth 100000 in
set_option maxHeartbeats 2000000 in
theorem subBytes_any (o : Int) (ho : 0 ≤ o ∧ o < 256) (a : Addr) (n c : Nat) (xs : List Int) (w : World) (hr : Reads w (.slice (some a) n c) xs) (hn : n ≤ 1000000) : Calls Tryz.prog 101 #[.int .u8 o, .slice (some a) n c] w (SaidB (subL o xs) w) := by
  have hb : Below w.heap.size w (w.alloc (.cells #[.int .u8 255, .int .u8 250, .int .u8 o] 5)) := (Below.refl _ w).alloc (Nat.le_refl _) _
  have hes := escape_any a n c xs _ (reads_below hr hb) hn
  have hnx := (reads_src hr).1
  have hle : (escI xs).length ≤ 2000000 := by
    rw [escI_length]
    have : xs.count 255 ≤ xs.length := List.count_le_length
    omega
  have hrow : (w.alloc (.cells #[.int .u8 255, .int .u8 250, .int .u8 o] 5)).ownsRow w.heap.size 5 1 (.slice (some ⟨w.heap.size, 0, none⟩) 3 3) 3 (([255, 250, o] : List Int).map (Value.int .u8)) := World.ownsRow_lit w #[.int .u8 255, .int .u8 250, .int .u8 o] 3 (Nat.le_refl _) (by decide) rfl
  have HES := hid hes
  have HROW := hid hrow
  have HB := hid hb
  have HXB := hid hr.1
  have HLE := hid hle
  clear hes hrow hb hnx hr hle
  go_enter Tryz.func101, Tryz.ntmps101
  go_wp2_with fail
  refine HES.out.mono ?_
  rintro e w2 ⟨v2, rfl, hv2, hb2, _⟩
  have HV2 := hid hv2.reads
  have HO2 := hid (own_below HROW.out hb2 (Nat.le_refl _))
  have HB2 := hid (HB.out.trans (hb2.mono HB.out.size))
  obtain ⟨x2, n2, c2, rfl⟩ := own_slice hv2
  clear hv2 hb2
  go_wp2_with (first
    | (at_builtin; refine wpList_append_bytes rfl (.tmp 7) (.tmp 9) rfl w.heap.size 3 _ _ [255, 250, o] (escI xs) rfl rfl HO2.out HV2.out (by have := HLE.out; omega) HB2.out.size _ rfl _ rfl ?_; intro y3 c3 w3 h3 g3; have HO3 := hid h3; have HB3 := hid (HB2.out.grown g3 HB2.out.size (fun k e => (HO2.out.lt k e).1)); clear h3 g3)
    | (at_builtin; refine wpList_append_bytes rfl (.tmp 11) (.tmp 12) rfl w.heap.size _ _ _ _ [255, 240] rfl rfl (own_below HO3.out ((Below.refl _ _).alloc (Nat.le_refl _) _) (Nat.le_refl _)) (reads_lit w3 (0, 0) [255, 240] 2 rfl (by decide) (by decide)) (by have := HLE.out; show _ ≤ 10000000; simp; omega) (by have := HB3.out.size; simp; omega) _ rfl _ rfl ?_; intro y5 c5 w5 h5 g5; have HO5 := hid h5; have HB5 := hid ((HB3.out.alloc HB3.out.size (.cells #[.int .u8 255, .int .u8 240] 5)).grown g5 (by have := HB3.out.size; simp; omega) (fun k e => (HO3.out.lt k e).1)); clear h5 g5)
    | fail)
  go_ret
  exact ⟨_, rfl, row_done2 HO5.out (subL_bytes ho HXB.out) (Below.refl _ _), HB5.out⟩
end
end Go.Proofs.YtaanpnmgibcemaaGreatDoor.Tn
