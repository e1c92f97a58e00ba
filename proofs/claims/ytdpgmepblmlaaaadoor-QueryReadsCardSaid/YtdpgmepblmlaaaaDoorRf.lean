/-
  What a field asks for (pure).
-/
import Derived.Test.YtdpgmepblmlaaaaDoorRe
namespace Go.Proofs.YtdpgmepblmlaaaaDoor
open Go.RowKit Go.Lib

/-- What one asks for. -/
structure AcD where
  kind : Int
  cmd : Int
  mode : Int
  alt : Bool
  req : Int
  codes : List Int
  rcd : List Int
def acZ : AcD := ⟨0, 0, 0, false, 0, [], []⟩
def acK (k : Int) : AcD := ⟨k, 0, 0, false, 0, [], []⟩
def listM : List Int → AcD × Bool
  | [] => (acZ, false)
  | q :: r => if q = 0 ∨ q = 64 ∨ q = 128 then (⟨2, 0, 0, false, q, r, []⟩, true) else (acZ, false)
def cmdOK (b : Int) : Bool := (cmdF b).2 && (decide (5 ≤ (cmdF b).1) && decide ((cmdF b).1 ≤ 7))
def outOK (b : Int) : Bool := (cmdF b).2 && decide ((cmdF b).1 ≤ 4)
def readM : List Int → AcD × Bool
  | [] => (acZ, false)
  | b :: r => if b = 2 then (acK 1, r.isEmpty) else if b = 3 then listM r else (⟨3, (cmdF b).1, 0, false, 0, [], []⟩, cmdOK b && r.isEmpty)
def modeM : List Int → AcD × Bool
  | [] => (acZ, false)
  | m :: r => if 2 < m ∨ m < 2 ∧ r ≠ [] then (acZ, false) else (⟨5, 0, m, false, 0, [], []⟩, true)
def createM (_ : List Int) : AcD × Bool := (acK 6, true)
def destroyM (r : List Int) : AcD × Bool := (acK 7, r.isEmpty)
def activateM (r : List Int) : AcD × Bool := (acK 8, r.isEmpty)
def outM : List Int → AcD × Bool
  | [] => (acZ, false)
  | b :: r => (⟨9, 0, 0, false, 0, [], b :: r⟩, outOK b)
/-- Of an erase: the error, the act. -/
def eraseM (d : List Int) : Int × AcD := if d = [0] then (0, acK 4) else if d = [128] then (0, ⟨4, 0, 0, true, 0, [], []⟩) else (4, acZ)
def partA (a : AcD) : Int := if a.kind = 1 ∨ a.kind = 2 then 255 else 0
/-- What the data behind the partition mean, and which it must be. -/
def inP (m : List Int → AcD × Bool) : List Int → Int × AcD
  | [] => (4, acZ)
  | b :: r => if (m r).2 = true then (if b = partA (m r).1 then (0, (m r).1) else (1, acZ)) else (4, acZ)
/-- What a field asks for: the error, the act. -/
def actF (d : SfD) : Int × AcD :=
  if d.id = 1 then inP readM d.data
  else if d.id = 3 then eraseM d.data
  else if d.id = 9 then inP modeM d.data
  else if d.id = 12 then inP createM d.data
  else if d.id = 13 then inP destroyM d.data
  else if d.id = 14 then inP activateM d.data
  else if d.id = 64 then inP outM d.data
  else (10, acZ)
theorem listM_cons (q : Int) (r : List Int) : listM (q :: r) = if q = 0 ∨ q = 64 ∨ q = 128 then (⟨2, 0, 0, false, q, r, []⟩, true) else (acZ, false) := rfl
theorem readM_cons (b : Int) (r : List Int) : readM (b :: r) = if b = 2 then (acK 1, r.isEmpty) else if b = 3 then listM r else (⟨3, (cmdF b).1, 0, false, 0, [], []⟩, cmdOK b && r.isEmpty) := rfl
theorem modeM_cons (m : Int) (r : List Int) : modeM (m :: r) = if 2 < m ∨ m < 2 ∧ r ≠ [] then (acZ, false) else (⟨5, 0, m, false, 0, [], []⟩, true) := rfl
theorem inP_cons (m : List Int → AcD × Bool) (b : Int) (r : List Int) : inP m (b :: r) = if (m r).2 = true then (if b = partA (m r).1 then (0, (m r).1) else (1, acZ)) else (4, acZ) := rfl
/-- Of bytes no more than these. -/
structure AcOK (a : AcD) (n : Nat) : Prop where
  codes : a.codes.length ≤ n
  rcd : a.rcd.length ≤ n
theorem acK_ok (k : Int) (n : Nat) : AcOK (acK k) n := ⟨Nat.zero_le _, Nat.zero_le _⟩
theorem acZ_ok (n : Nat) : AcOK acZ n := ⟨Nat.zero_le _, Nat.zero_le _⟩
theorem AcOK.mono {a : AcD} {n m : Nat} (h : AcOK a n) (hm : n ≤ m) : AcOK a m := ⟨Nat.le_trans h.1 hm, Nat.le_trans h.2 hm⟩
theorem listM_ok (r : List Int) : AcOK (listM r).1 r.length := by
  match r with
  | [] => exact acZ_ok _
  | q :: r =>
    rw [listM_cons]
    split
    · exact ⟨Nat.le_succ _, Nat.zero_le _⟩
    · exact acZ_ok _
theorem readM_ok (r : List Int) : AcOK (readM r).1 r.length := by
  match r with
  | [] => exact acZ_ok _
  | q :: r =>
    rw [readM_cons]
    split
    · exact acK_ok _ _
    · split
      · exact (listM_ok r).mono (Nat.le_succ _)
      · exact ⟨Nat.zero_le _, Nat.zero_le _⟩
theorem modeM_ok (r : List Int) : AcOK (modeM r).1 r.length := by
  match r with
  | [] => exact acZ_ok _
  | q :: r =>
    rw [modeM_cons]
    split
    · exact acZ_ok _
    · exact ⟨Nat.zero_le _, Nat.zero_le _⟩
theorem outM_ok (r : List Int) : AcOK (outM r).1 r.length := by
  match r with
  | [] => exact acZ_ok _
  | q :: r => exact ⟨Nat.zero_le _, Nat.le_refl _⟩
theorem inP_ok {m : List Int → AcD × Bool} (hm : ∀ r, AcOK (m r).1 r.length) (d : List Int) : AcOK (inP m d).2 d.length := by
  match d with
  | [] => exact acZ_ok _
  | b :: r =>
    rw [inP_cons]
    split
    · split
      · exact (hm r).mono (Nat.le_succ _)
      · exact acZ_ok _
    · exact acZ_ok _
theorem actF_ok (d : SfD) : AcOK (actF d).2 d.data.length := by
  unfold actF
  repeat' split
  · exact inP_ok readM_ok _
  · unfold eraseM
    repeat' split
    · exact acK_ok _ _
    · exact ⟨Nat.zero_le _, Nat.zero_le _⟩
    · exact acZ_ok _
  · exact inP_ok modeM_ok _
  · exact inP_ok (fun r => acK_ok _ _) _
  · exact inP_ok (fun r => acK_ok _ _) _
  · exact inP_ok (fun r => acK_ok _ _) _
  · exact inP_ok outM_ok _
  · exact acZ_ok _
/-- What all ask for, up to the first error, and that. -/
def actL : List SfD → List AcD × Int
  | [] => ([], 0)
  | d :: r => if (actF d).1 = 0 then ((actF d).2 :: (actL r).1, (actL r).2) else ([], (actF d).1)
def actsF (p : List Int) : List AcD × Int := ((actL (sfA p).1).1, if (actL (sfA p).1).2 = 0 then (sfA p).2 else (actL (sfA p).1).2)
theorem actF_er (d : SfD) : (actF d).1 = 0 ∨ (actF d).2 = acZ := by
  have hin : ∀ m : List Int → AcD × Bool, ∀ x, (inP m x).1 = 0 ∨ (inP m x).2 = acZ := fun m x => by
    match x with
    | [] => exact .inr rfl
    | b :: r =>
      rw [inP_cons]
      split
      · split
        · exact .inl rfl
        · exact .inr rfl
      · exact .inr rfl
  unfold actF
  repeat' split
  · exact hin _ _
  · unfold eraseM
    repeat' split
    · exact .inl rfl
    · exact .inl rfl
    · exact .inr rfl
  · exact hin _ _
  · exact hin _ _
  · exact hin _ _
  · exact hin _ _
  · exact hin _ _
  · exact .inr rfl
end Go.Proofs.YtdpgmepblmlaaaaDoor
