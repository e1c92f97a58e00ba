/-
  Entry: what a report is, read of bytes, told as bytes, and read again (pure).
-/
import Derived.Test.YtlhaefgchmakfaaOe
namespace Go.Proofs.Ytlhaefgchmakfaa
open Go.RowKit Go.Lib

/-- The six-bit codes. -/
def sixL : List UInt8 := [64, 193, 194, 195, 196, 197, 198, 199, 200, 201, 74, 75, 76, 77, 78, 79, 80, 209, 210, 211, 212, 213, 214, 215, 216, 217, 90, 91, 92, 93, 94, 95, 96, 97, 226, 227, 228, 229, 230, 231, 232, 233, 106, 107, 108, 109, 110, 111, 240, 241, 242, 243, 244, 245, 246, 247, 248, 249, 122, 123, 124, 125, 126, 127]
def sixZ (k : Nat) : Int := ((sixL.getD k 0).toNat : Int)
theorem sixZ_bd : ∀ k, k < 64 → 0 ≤ sixZ k ∧ sixZ k ≤ 255 := by decide +kernel
theorem sixZ_mod : ∀ k, k < 64 → sixZ k % 64 = k := by decide +kernel
theorem sixZ_top : ∀ k, k < 64 → 64 ≤ sixZ k ∧ (sixZ k < 128 ∨ 192 ≤ sixZ k) := by decide +kernel
/-- An address of 12 bits. -/
def encZ (n : Int) : List Int := [sixZ (n / 64 % 64).toNat, sixZ (n % 64).toNat]
def okA (n : Int) : Bool := decide (0 ≤ n) && decide (n ≤ 4095)
theorem okA_iff {n : Int} : okA n = true ↔ 0 ≤ n ∧ n ≤ 4095 := by simp [okA]
theorem decZ_encZ {n : Int} (h : okA n = true) (r : List Int) : decZ 12 (encZ n ++ r) = (n, 0) := by
  obtain ⟨h0, h1⟩ := okA_iff.1 h
  show decZ 12 (sixZ (n / 64 % 64).toNat :: sixZ (n % 64).toNat :: r) = _
  have a := sixZ_top (n / 64 % 64).toNat (by omega)
  have b := sixZ_mod (n / 64 % 64).toNat (by omega)
  have c := sixZ_mod (n % 64).toNat (by omega)
  rw [decZ_six (.inl rfl) a.1 a.2, b, c]
  congr 1
  omega
theorem encZ_u8 (n : Int) : ∀ x ∈ encZ n, 0 ≤ x ∧ x < 256 := by
  intro x hx
  have a := sixZ_bd (n / 64 % 64).toNat (by omega)
  have b := sixZ_bd (n % 64).toNat (by omega)
  simp only [encZ, List.mem_cons, List.not_mem_nil, or_false] at hx
  rcases hx with rfl | rfl <;> omega

/-- An entry. -/
structure EnD where
  addr : Int
  text : List Int
/-- A report. -/
structure RepD where
  aid : Int
  short : Bool
  cur : Int
  ens : List EnD
def repZ : RepD := ⟨0, false, 0, []⟩
/-- Characters behind the last entry. -/
def extE : List EnD → List Int → List EnD
  | [], cs => [⟨0, cs⟩]
  | [x], cs => [⟨x.addr, x.text ++ cs⟩]
  | x :: y :: r, cs => x :: extE (y :: r) cs
theorem extE_snoc (es : List EnD) (x : EnD) (cs : List Int) : extE (es ++ [x]) cs = es ++ [⟨x.addr, x.text ++ cs⟩] := by
  induction es with
  | nil => rfl
  | cons y r ih =>
    match r, ih with
    | [], _ => rfl
    | z :: r, ih => exact congrArg (y :: ·) ih
def addE (es : List EnD) (o : OpD) : List EnD := if o.kind = 17 then es ++ [⟨o.addr, []⟩] else if o.kind = 0 then extE es o.text else if o.kind = 8 then extE es [o.code] else es
def entE (os : List OpD) : List EnD := os.foldl addE []
/-- Cursor and orders, of these kinds: the error, the cursor, the orders. -/
def inbF (ks : List Int) (xs : List Int) : Int × Int × List OpD :=
  if xs.length < 3 then (2, 0, []) else
  if (decZ 12 (xs.drop 1)).2 ≠ 0 then ((decZ 12 (xs.drop 1)).2, 0, []) else
  if (allF (xs.drop 3).length (xs.drop 3)).2.2 ≠ 0 then ((allF (xs.drop 3).length (xs.drop 3)).2.2, 0, []) else
  if (allF (xs.drop 3).length (xs.drop 3)).1.all (fun o => ks.contains o.kind) then (0, (decZ 12 (xs.drop 1)).1, (allF (xs.drop 3).length (xs.drop 3)).1) else (4, 0, [])
def kindsP : List Int := [17, 0, 8, 40]
/-- A report read. -/
def parE (xs : List Int) : Int × RepD :=
  if xs.length = 1 then (0, ⟨xs.getD 0 0, true, 0, []⟩) else
  if (inbF kindsP xs).1 = 0 then (0, ⟨xs.getD 0 0, false, (inbF kindsP xs).2.1, entE (inbF kindsP xs).2.2⟩) else ((inbF kindsP xs).1, repZ)
def opA (n : Int) : OpD := { opZ with kind := 17, addr := n }
/-- Does a single entry at 0 go without its address? -/
def bareE : List EnD → Bool
  | [x] => x.addr == 0 && decide (0 < x.text.length)
  | _ => false
def ordE (b : Bool) (es : List EnD) : List OpD := es.flatMap fun x => (if b then [] else [opA x.addr]) ++ (if 0 < x.text.length then [opT x.text] else [])
/-- An order's bytes, of those that are told here. -/
def opB (o : OpD) : Int × List Int :=
  if o.kind = 0 then (if o.text = [] ∨ o.text.any isO then (10, []) else (0, o.text)) else
  if o.kind = 17 then (if okA o.addr then (0, 17 :: encZ o.addr) else (9, [])) else
  if o.kind = 19 then (0, [19]) else (1, [])
def opsB : List OpD → Int × List Int
  | [] => (0, [])
  | o :: r => if (opB o).1 ≠ 0 then ((opB o).1, []) else if (opsB r).1 ≠ 0 then ((opsB r).1, []) else (0, (opB o).2 ++ (opsB r).2)
/-- A report told. -/
def bytE (r : RepD) : Int × List Int :=
  if r.short then (0, [r.aid]) else if okA r.cur then (if (opsB (ordE (bareE r.ens) r.ens)).1 = 0 then (0, r.aid :: encZ r.cur ++ (opsB (ordE (bareE r.ens) r.ens)).2) else ((opsB (ordE (bareE r.ens) r.ens)).1, [])) else (9, [])

/-- Orders that are told one behind the other, and of which no two texts follow one another. -/
def Plain : List OpD → Prop
  | [] => True
  | o :: r => ((∃ n, o = opA n) ∨ (∃ t, o = opT t) ∧ (r = [] ∨ ∃ n r', r = opA n :: r')) ∧ Plain r
theorem ordE_cons (x : EnD) (es : List EnD) : ordE false (x :: es) = opA x.addr :: ((if 0 < x.text.length then [opT x.text] else []) ++ ordE false es) := rfl
theorem plain_false (es : List EnD) : Plain (ordE false es) ∧ (ordE false es = [] ∨ ∃ n r', ordE false es = opA n :: r') := by
  induction es with
  | nil => exact ⟨trivial, .inl rfl⟩
  | cons x es ih =>
    rw [ordE_cons]
    refine ⟨⟨.inl ⟨_, rfl⟩, ?_⟩, .inr ⟨_, _, rfl⟩⟩
    split
    · exact ⟨.inr ⟨⟨_, rfl⟩, ih.2⟩, ih.1⟩
    · exact ih.1
theorem plain_ordE (es : List EnD) : Plain (ordE (bareE es) es) := by
  cases h : bareE es
  · exact (plain_false es).1
  · match es, h with
    | [x], h =>
      simp only [bareE, Bool.and_eq_true, decide_eq_true_eq] at h
      show Plain (([] ++ (if 0 < x.text.length then [opT x.text] else [])) ++ [])
      rw [if_pos h.2]
      exact ⟨.inr ⟨⟨_, rfl⟩, .inl rfl⟩, trivial⟩
theorem tkO_stop {t r : List Int} (ht : t.any isO = false) (hr : r = [] ∨ ∃ b r', r = b :: r' ∧ isO b = true) : tkO (t ++ r) = t := by
  unfold tkO
  induction t with
  | nil =>
    rcases hr with rfl | ⟨b, r', rfl, h⟩
    · rfl
    · simp [h]
  | cons b t ih =>
    simp only [List.any_cons, Bool.or_eq_false_iff] at ht
    have := ih ht.2
    simp [ht.1, this]
theorem isO_17 : isO 17 = true := by decide
theorem firF_A {n : Int} (h : okA n = true) (r : List Int) : firF (17 :: (encZ n ++ r)) = (0, opA n, 3) := by
  have e : behF 17 (encZ n ++ r) = ((decZ 12 (encZ n ++ r)).2, { opZ with kind := 17, addr := (decZ 12 (encZ n ++ r)).1 }, 2) := rfl
  have e2 : firF (17 :: (encZ n ++ r)) = if isO 17 = true then (if (behF 17 (encZ n ++ r)).1 = 0 then (0, (behF 17 (encZ n ++ r)).2.1, 1 + (behF 17 (encZ n ++ r)).2.2) else ((behF 17 (encZ n ++ r)).1, opZ, 0)) else (0, opT (tkO (17 :: (encZ n ++ r))), (tkO (17 :: (encZ n ++ r))).length) := rfl
  rw [e2, if_pos isO_17, e, decZ_encZ h, if_pos rfl]
  rfl
theorem firF_T {t r : List Int} (h0 : t ≠ []) (ht : t.any isO = false) (hr : r = [] ∨ ∃ b r', r = b :: r' ∧ isO b = true) : firF (t ++ r) = (0, opT t, t.length) := by
  match t, h0, ht with
  | b :: t, _, ht =>
    have hb : isO b = false := by simp only [List.any_cons, Bool.or_eq_false_iff] at ht; exact ht.1
    show (if isO b = true then _ else (0, opT (tkO ((b :: t) ++ r)), (tkO ((b :: t) ++ r)).length)) = _
    rw [hb, tkO_stop ht hr]
    rfl
theorem opB_A {n : Int} (h : okA n = true) : opB (opA n) = (0, 17 :: encZ n) := by
  show (if (17 : Int) = 0 then _ else if (17 : Int) = 17 then (if okA n then (0, 17 :: encZ n) else _) else _) = _
  rw [if_neg (by decide), if_pos rfl, if_pos h]
theorem opB_An {n : Int} (h : okA n = false) : opB (opA n) = (9, []) := by
  show (if (17 : Int) = 0 then _ else if (17 : Int) = 17 then (if okA n then (0, 17 :: encZ n) else _) else _) = _
  rw [if_neg (by decide), if_pos rfl, if_neg (by rw [h]; decide)]
theorem opB_T {t : List Int} (h0 : t ≠ []) (ht : t.any isO = false) : opB (opT t) = (0, t) := by
  show (if (0 : Int) = 0 then (if t = [] ∨ t.any isO = true then _ else (0, t)) else _) = _
  rw [if_pos rfl, if_neg (by rw [ht]; simpa using h0)]
theorem opB_Tn {t : List Int} (ht : t = [] ∨ t.any isO = true) : opB (opT t) = (10, []) := by
  show (if (0 : Int) = 0 then (if t = [] ∨ t.any isO = true then _ else (0, t)) else _) = _
  rw [if_pos rfl, if_pos ht]
theorem opsB_one {o : OpD} {r : List OpD} (h : (opsB (o :: r)).1 = 0) : (opB o).1 = 0 ∧ (opsB r).1 = 0 ∧ (opsB (o :: r)).2 = (opB o).2 ++ (opsB r).2 := by
  by_cases h1 : (opB o).1 = 0
  · by_cases h2 : (opsB r).1 = 0
    · refine ⟨h1, h2, ?_⟩
      show (if _ then _ else if _ then _ else _ : Int × List Int).2 = _
      rw [if_neg (by simpa using h1), if_neg (by simpa using h2)]
    · have e : opsB (o :: r) = ((opsB r).1, []) := by
        show (if _ then _ else if _ then _ else _ : Int × List Int) = _
        rw [if_neg (by simpa using h1), if_pos h2]
      rw [e] at h
      exact absurd h h2
  · have e : opsB (o :: r) = ((opB o).1, []) := by
      show (if _ then _ else if _ then _ else _ : Int × List Int) = _
      rw [if_pos h1]
    rw [e] at h
    exact absurd h h1
/-- What is told is read again. -/
theorem allF_told : ∀ (os : List OpD), Plain os → (opsB os).1 = 0 → ∀ f, (opsB os).2.length ≤ f → allF f (opsB os).2 = (os, (opsB os).2.length, 0) := by
  intro os
  induction os with
  | nil => intro _ _ f _; exact allF_nil f
  | cons o r ih =>
    intro hp h f hf
    obtain ⟨h1, h2, h3⟩ := opsB_one h
    have ihr := ih hp.2 h2
    rw [h3] at hf ⊢
    generalize hrest : (opsB r).2 = rest at hf ihr ⊢
    rcases hp.1 with ⟨n, rfl⟩ | ⟨⟨t, rfl⟩, hr⟩
    · have hn : okA n = true := by
        cases q : okA n
        · rw [opB_An q] at h1; exact absurd h1 (by decide)
        · rfl
      rw [opB_A hn] at hf ⊢
      have hf' : rest.length + 3 ≤ f := by simp [encZ] at hf; omega
      match f, hf' with
      | f + 1, hf' =>
        have e := firF_A hn rest
        have hx : (17 :: encZ n) ++ rest ≠ [] := by simp
        have hx2 : (17 :: encZ n) ++ rest = 17 :: (encZ n ++ rest) := rfl
        rw [allF_one f _ hx (by rw [hx2, e]), hx2, e]
        show (opA n :: (allF f rest).1, 3 + (allF f rest).2.1, (allF f rest).2.2) = _
        rw [ihr f (by omega)]
        simp [encZ]
        omega
    · have ht : t ≠ [] ∧ t.any isO = false := by
        by_cases q : t = [] ∨ t.any isO = true
        · rw [opB_Tn q] at h1; exact absurd h1 (by decide)
        · refine ⟨fun e => q (.inl e), ?_⟩
          cases q2 : t.any isO
          · rfl
          · exact absurd (.inr q2) q
      have hhd : rest = [] ∨ ∃ b r', rest = b :: r' ∧ isO b = true := by
        rcases hr with rfl | ⟨n, r', rfl⟩
        · left; rw [← hrest]; rfl
        · right
          obtain ⟨k1, k2, k3⟩ := opsB_one h2
          have hn : okA n = true := by
            cases q : okA n
            · rw [opB_An q] at k1; exact absurd k1 (by decide)
            · rfl
          rw [opB_A hn] at k3
          exact ⟨17, _, by rw [← hrest, k3]; rfl, isO_17⟩
      rw [opB_T ht.1 ht.2] at hf ⊢
      have hl : 0 < t.length := List.length_pos_iff.2 ht.1
      have hf' : t.length + rest.length ≤ f := by simp at hf; omega
      match f, hf' with
      | 0, hf' => omega
      | f + 1, hf' =>
        have e := firF_T ht.1 ht.2 hhd
        have hx : t ++ rest ≠ [] := fun q => ht.1 (List.append_eq_nil_iff.1 q).1
        show allF (f + 1) (t ++ rest) = _
        rw [allF_one f _ hx (by rw [e]), e]
        show (opT t :: (allF f ((t ++ rest).drop t.length)).1, t.length + (allF f ((t ++ rest).drop t.length)).2.1, (allF f ((t ++ rest).drop t.length)).2.2) = _
        rw [List.drop_left, ihr f (by omega)]
        simp
theorem ext_nil (es : List EnD) (h : es ≠ []) : extE es [] = es := by
  match es with
  | [] => exact absurd rfl h
  | [x] => cases x; simp [extE]
  | x :: y :: r => exact congrArg (x :: ·) (ext_nil (y :: r) (by simp))
theorem fold_told (es : List EnD) : ∀ acc, (ordE false es).foldl addE acc = acc ++ es := by
  induction es with
  | nil => intro acc; simp [ordE]
  | cons x es ih =>
    intro acc
    rw [ordE_cons, List.foldl_cons, List.foldl_append, ih]
    have e1 : addE acc (opA x.addr) = acc ++ [⟨x.addr, []⟩] := rfl
    rw [e1]
    by_cases h : 0 < x.text.length
    · rw [if_pos h]
      show extE (acc ++ [⟨x.addr, []⟩]) x.text ++ es = _
      rw [extE_snoc]
      simp
    · rw [if_neg h]
      have h0 : x.text = [] := List.length_eq_zero_iff.1 (by omega)
      obtain ⟨xa, xt⟩ := x
      subst h0
      simp
theorem entE_told (es : List EnD) : entE (ordE (bareE es) es) = es := by
  cases h : bareE es
  · exact fold_told es []
  · match es, h with
    | [x], h =>
      simp only [bareE, Bool.and_eq_true, decide_eq_true_eq, beq_iff_eq] at h
      show ([] ++ (if 0 < x.text.length then [opT x.text] else []) ++ []).foldl addE [] = _
      rw [if_pos h.2]
      obtain ⟨xa, xt⟩ := x
      obtain ⟨rfl, -⟩ := h
      rfl
theorem kinds_told (b : Bool) (es : List EnD) : (ordE b es).all (fun o => kindsP.contains o.kind) = true := by
  rw [List.all_eq_true]
  intro o ho
  obtain ⟨x, -, hx⟩ := List.mem_flatMap.1 ho
  rcases List.mem_append.1 hx with hx | hx
  · cases b
    · rw [if_neg (by decide)] at hx; rw [List.mem_singleton.1 hx]; rfl
    · rw [if_pos rfl] at hx; cases hx
  · by_cases h : 0 < x.text.length
    · rw [if_pos h] at hx; rw [List.mem_singleton.1 hx]; rfl
    · rw [if_neg h] at hx; cases hx
/-- What is told of a report is the report. -/
theorem parE_told (r : RepD) (h : (bytE r).1 = 0) : parE (bytE r).2 = (0, if r.short then ⟨r.aid, true, 0, []⟩ else r) := by
  obtain ⟨ai, sh, cu, es⟩ := r
  cases sh
  · unfold bytE at h ⊢
    dsimp only at h ⊢
    rw [if_neg (by decide)] at h ⊢
    by_cases h1 : okA cu = true
    · rw [if_pos h1] at h ⊢
      by_cases h2 : (opsB (ordE (bareE es) es)).1 = 0
      · rw [if_pos h2] at h ⊢
        have ha := allF_told _ (plain_ordE es) h2 _ (Nat.le_refl _)
        have e1 : (ai :: encZ cu ++ (opsB (ordE (bareE es) es)).2).drop 1 = encZ cu ++ (opsB (ordE (bareE es) es)).2 := rfl
        have e3 : (ai :: encZ cu ++ (opsB (ordE (bareE es) es)).2).drop 3 = (opsB (ordE (bareE es) es)).2 := rfl
        have hi : inbF kindsP (ai :: encZ cu ++ (opsB (ordE (bareE es) es)).2) = (0, cu, ordE (bareE es) es) := by
          unfold inbF
          rw [if_neg (by simp [encZ]), e1, decZ_encZ h1, if_neg (fun q => q rfl), e3, ha, if_neg (fun q => q rfl)]
          rw [if_pos (kinds_told _ _)]
        unfold parE
        rw [if_neg (by simp [encZ]), hi, if_pos rfl, entE_told]
        simp
      · rw [if_neg h2] at h
        exact absurd h h2
    · rw [if_neg h1] at h
      exact absurd h (by decide)
  · rfl
/-- No text of it holds the byte of an order. -/
def NoO (es : List EnD) : Prop := ∀ x ∈ es, x.text.any isO = false
theorem noO_ext {es : List EnD} (h : NoO es) {cs : List Int} (hc : cs.any isO = false) : NoO (extE es cs) := by
  rcases List.eq_nil_or_concat es with rfl | ⟨r, x, rfl⟩
  · intro y hy
    rw [List.mem_singleton.1 hy]
    exact hc
  · rw [List.concat_eq_append] at h ⊢
    rw [extE_snoc]
    intro y hy
    rcases List.mem_append.1 hy with hy | hy
    · exact h y (List.mem_append_left _ hy)
    · rw [List.mem_singleton.1 hy]
      have := h x (List.mem_append_right _ (List.mem_singleton_self x))
      simp only [List.any_append, this, hc, Bool.or_false]
/-- An order whose characters are none that begin orders. -/
def CharO (o : OpD) : Prop := (o.kind = 0 → o.text.any isO = false) ∧ (o.kind = 8 → isO o.code = false)
theorem noO_add {es : List EnD} (h : NoO es) {o : OpD} (ho : CharO o) : NoO (addE es o) := by
  unfold addE
  split
  · intro y hy
    rcases List.mem_append.1 hy with hy | hy
    · exact h y hy
    · rw [List.mem_singleton.1 hy]; rfl
  · split
    · rename_i q
      exact noO_ext h (ho.1 q)
    · split
      · rename_i q
        exact noO_ext h (by simp [ho.2 q])
      · exact h
theorem noO_fold : ∀ (os : List OpD) (es : List EnD), NoO es → (∀ o ∈ os, CharO o) → NoO (os.foldl addE es) := by
  intro os
  induction os with
  | nil => intro es h _; exact h
  | cons o r ih => intro es h ho; exact ih _ (noO_add h (ho o (by simp))) (fun x hx => ho x (List.mem_cons_of_mem _ hx))
theorem tkO_any (xs : List Int) : (tkO xs).any isO = false := by
  induction xs with
  | nil => rfl
  | cons b r ih =>
    cases h : isO b
    · rw [tkO_cons h, List.any_cons, h, ih]; rfl
    · have : tkO (b :: r) = [] := by simp [tkO, h]
      rw [this]; rfl
theorem isO_ne {k : Int} (hk : isO k = true) : k ≠ 0 := fun e => by rw [e] at hk; exact absurd hk (by decide)
theorem codF_no {xs : List Int} (h : (codF xs).1 = 0) : isO (codF xs).2 = false := by
  match xs, h with
  | [], h => exact absurd h (by decide)
  | b :: r, h =>
    cases q : isO b
    · show isO (if isO b then ((10, 0) : Int × Int) else (0, b)).2 = false
      rw [q]; exact q
    · have : (codF (b :: r)).1 = 10 := by show (if isO b then ((10, 0) : Int × Int) else (0, b)).1 = 10; rw [q]; rfl
      rw [this] at h
      exact absurd h (by decide)
theorem behF_kind (k : Int) (xs : List Int) (h : (behF k xs).1 = 0) : (behF k xs).2.1.kind = k := by
  unfold behF at h ⊢
  by_cases h1 : k = 17 ∨ k = 18
  · rw [if_pos h1]
  rw [if_neg h1] at h ⊢
  by_cases h2 : k = 60
  · rw [if_pos h2] at h ⊢
    subst h2
    unfold repF at h ⊢
    split
    · rename_i q
      rw [if_pos q] at h
      exact absurd h q
    · split <;> rfl
  rw [if_neg h2]
  repeat (first | rfl | split)
theorem behF_code (xs : List Int) (h : (behF 8 xs).1 = 0) : isO (behF 8 xs).2.1.code = false := by
  have e : behF 8 xs = ((codF xs).1, { opZ with kind := 8, code := (codF xs).2 }, 1) := rfl
  rw [e] at h ⊢
  exact codF_no h
theorem firF_char (xs : List Int) (h : (firF xs).1 = 0) : CharO (firF xs).2.1 := by
  match xs, h with
  | [], _ => exact ⟨fun _ => rfl, fun q => absurd q (by decide)⟩
  | b :: r, h =>
    cases hb : isO b
    · have e1 : firF (b :: r) = (0, opT (tkO (b :: r)), (tkO (b :: r)).length) := by show (if isO b = true then _ else _) = _; rw [hb]; rfl
      rw [e1]
      exact ⟨fun _ => tkO_any _, fun q => absurd (show (0 : Int) = 8 from q) (by decide)⟩
    · have e1 : firF (b :: r) = if (behF b r).1 = 0 then (0, (behF b r).2.1, 1 + (behF b r).2.2) else ((behF b r).1, opZ, 0) := by show (if isO b = true then _ else _) = _; rw [hb]; rfl
      rw [e1] at h ⊢
      by_cases h0 : (behF b r).1 = 0
      · rw [if_pos h0]
        have hk := behF_kind b r h0
        refine ⟨fun q => absurd (hk.symm.trans q) (isO_ne hb), fun q => ?_⟩
        obtain rfl : b = 8 := hk.symm.trans q
        exact behF_code r h0
      · rw [if_neg h0] at h
        exact absurd h h0
theorem allF_char : ∀ (f : Nat) (xs : List Int), ∀ o ∈ (allF f xs).1, CharO o := by
  intro f
  induction f with
  | zero => intro xs o h; cases h
  | succ f ih =>
    intro xs o h
    by_cases hx : xs = []
    · rw [hx, allF_nil] at h; cases h
    · by_cases h0 : (firF xs).1 = 0
      · rw [allF_one f _ hx h0] at h
        rcases List.mem_cons.1 h with rfl | h
        · exact firF_char xs h0
        · exact ih _ o h
      · rw [allF_bad f _ hx h0] at h; cases h
theorem parE_noO (xs : List Int) : NoO (parE xs).2.ens := by
  unfold parE
  split
  · intro x hx; cases hx
  · split
    · rename_i h
      refine noO_fold _ _ (fun x hx => by cases hx) ?_
      unfold inbF at h ⊢
      split
      · intro o ho; cases ho
      · split
        · intro o ho; cases ho
        · split
          · intro o ho; cases ho
          · split
            · exact allF_char _ _
            · intro o ho; cases ho
    · intro x hx; cases hx
theorem opsB_err : ∀ (os : List OpD), (∀ o ∈ os, (opB o).1 = 0 ∨ (opB o).1 = 9) → (opsB os).1 = 0 ∨ (opsB os).1 = 9 := by
  intro os
  induction os with
  | nil => intro _; exact .inl rfl
  | cons o r ih =>
    intro h
    have h1 := h o (by simp)
    have h2 := ih (fun x hx => h x (List.mem_cons_of_mem _ hx))
    show (if (opB o).1 ≠ 0 then ((opB o).1, []) else if (opsB r).1 ≠ 0 then ((opsB r).1, []) else (0, (opB o).2 ++ (opsB r).2) : Int × List Int).1 = 0 ∨ (if (opB o).1 ≠ 0 then ((opB o).1, []) else if (opsB r).1 ≠ 0 then ((opsB r).1, []) else (0, (opB o).2 ++ (opsB r).2) : Int × List Int).1 = 9
    by_cases q1 : (opB o).1 = 0
    · rw [if_neg (by simpa using q1)]
      by_cases q2 : (opsB r).1 = 0
      · rw [if_neg (by simpa using q2)]; exact .inl rfl
      · rw [if_pos q2]; exact h2
    · rw [if_pos q1]; exact h1
/-- What was read and can't be told again has an address that is too great. -/
theorem bytE_read (xs : List Int) : (bytE (parE xs).2).1 = 0 ∨ (bytE (parE xs).2).1 = 9 := by
  have hn := parE_noO xs
  generalize (parE xs).2 = r at hn ⊢
  have ho := opsB_err (ordE (bareE r.ens) r.ens) (fun o ho => by
    obtain ⟨x, hx, hx2⟩ := List.mem_flatMap.1 ho
    rcases List.mem_append.1 hx2 with hx2 | hx2
    · cases hb : bareE r.ens
      · rw [hb, if_neg (by decide)] at hx2
        rw [List.mem_singleton.1 hx2]
        cases q : okA x.addr
        · rw [opB_An q]; exact .inr rfl
        · rw [opB_A q]; exact .inl rfl
      · rw [hb, if_pos rfl] at hx2; cases hx2
    · by_cases h : 0 < x.text.length
      · rw [if_pos h] at hx2
        rw [List.mem_singleton.1 hx2, opB_T (fun e => by rw [e] at h; exact absurd h (by decide)) (hn x hx)]
        exact .inl rfl
      · rw [if_neg h] at hx2; cases hx2)
  unfold bytE
  split
  · exact .inl rfl
  · split
    · split
      · exact .inl rfl
      · exact ho
    · exact .inr rfl
end Go.Proofs.Ytlhaefgchmakfaa
