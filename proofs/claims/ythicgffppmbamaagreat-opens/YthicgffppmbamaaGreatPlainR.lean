/- The document's scan (colscanref) as a plain machine. -/
import Derived.Test.YthicgffppmbamaaGreatPlainM
namespace Go.Proofs.YthicgffppmbamaaGreat.Pl

/-- a page of a piece: of which group, which of the wanted columns -/
structure RPart where
  group : Nat
  want : Nat
  page : FPage
  deriving Inhabited
structure RPiece where
  kind : Nat
  place : Nat
  length : Nat
  got : List UInt8 := []
  failed : Nat := 0
  id : Nat := 0
  due : Nat := 0
  turn : Nat := 0
  parts : List RPart := []
  deriving Inhabited
structure RSc where
  size : Nat := 0
  want : List (List UInt8) := []
  win : Nat := 0
  tries : Nat := 0
  nrows : Nat := 0
  gap : Nat := 0
  state : Nat := 0
  pieces : List RPiece := []
  made : Nat := 0
  now : Nat := 0
  fails : Nat := 0
  rows : List Nat := []
  there : List (List (List Int)) := []
  next : Nat := 0

def rMake1 (r : RSc) (i : Nat) : RSc := { r with made := r.made + 1, pieces := r.pieces.modify i fun p => { p with id := r.made + 1, due := 0 } }
/-- fuel, which piece, how many of the window are taken -/
def rAskF : Nat → Nat → Nat → RSc → RSc
  | 0, _, _, r => r
  | f + 1, i, n, r =>
    if i < r.pieces.length ∧ n < r.win ∧ r.state = 0 then
      if (r.pieces.getD i default).got.length = (r.pieces.getD i default).length then rAskF f (i + 1) n r
      else if (r.pieces.getD i default).id = 0 ∧ (r.pieces.getD i default).due = 0 then rAskF f (i + 1) (n + 1) (rMake1 r i)
      else rAskF f (i + 1) (n + 1) r
    else r
def rAsk (r : RSc) : RSc := rAskF r.pieces.length 0 0 r
theorem rMake1_len (r : RSc) (i : Nat) : (rMake1 r i).pieces.length = r.pieces.length := by simp [rMake1]

/-- the requests with this id among some pieces -/
def askedAt (id : Nat) (l : List RPiece) : List (Nat × Nat × Nat) := l.filterMap fun p => if p.id = id then some (id, p.place + p.got.length, p.length - p.got.length) else none
def askedTo (l : List RPiece) : Nat → List (Nat × Nat × Nat)
  | 0 => []
  | k + 1 => askedTo l k ++ askedAt (k + 1) l
def rAsked (r : RSc) : List (Nat × Nat × Nat) := if r.state = 0 then askedTo r.pieces r.made else []
def rOpen (size : Nat) (want : List (List UInt8)) (w t n g : Nat) : RSc :=
  if size < 10 then { size := size, want := want, win := w, tries := t, nrows := n, gap := g, state := 2 }
  else rAsk { size := size, want := want, win := w, tries := t, nrows := n, gap := g, pieces := [{ kind := 0, place := size - 6, length := 6 }] }

theorem askedAt_snoc (id : Nat) (l : List RPiece) (p : RPiece) : askedAt id (l ++ [p]) = askedAt id l ++ (if p.id = id then [(id, p.place + p.got.length, p.length - p.got.length)] else []) := by
  unfold askedAt
  rw [List.filterMap_append]
  congr 1
  simp only [List.filterMap_cons, List.filterMap_nil]
  split <;> rename_i h <;> split at h <;> simp_all
theorem askedAt_len (id : Nat) (l : List RPiece) : (askedAt id l).length = l.countP fun p => decide (p.id = id) := by
  induction l with
  | nil => rfl
  | cons p r ih =>
    unfold askedAt at *
    by_cases h : p.id = id
    · rw [List.filterMap_cons_some (by rw [if_pos h]), List.countP_cons_of_pos (by simpa using h), List.length_cons, ih]
    · rw [List.filterMap_cons_none (by rw [if_neg h]), List.countP_cons_of_neg (by simpa using h), ih]
theorem askedTo_len (l : List RPiece) : ∀ k, (askedTo l k).length = l.countP fun p => decide (1 ≤ p.id ∧ p.id ≤ k)
  | 0 => by
    symm
    simp only [askedTo, List.length_nil, List.countP_eq_zero]
    intro p _
    simp
    omega
  | k + 1 => by
    simp only [askedTo, List.length_append, askedTo_len l k, askedAt_len]
    induction l with
    | nil => rfl
    | cons p r ih =>
      simp only [List.countP_cons]
      have : (if decide (1 ≤ p.id ∧ p.id ≤ k) = true then 1 else 0) + (if decide (p.id = k + 1) = true then 1 else 0) = (if decide (1 ≤ p.id ∧ p.id ≤ k + 1) = true then 1 else 0) := by
        simp only [decide_eq_true_eq]
        repeat' split
        all_goals omega
      omega
theorem askedTo_le (l : List RPiece) (k : Nat) : (askedTo l k).length ≤ l.length := by rw [askedTo_len]; exact List.countP_le_length
theorem askedMid_le (l : List RPiece) (k i : Nat) : (askedTo l k ++ askedAt (k + 1) (l.take i)).length ≤ l.length := by
  have h1 := askedTo_le l (k + 1)
  have h2 : (askedAt (k + 1) (l.take i)).length ≤ (askedAt (k + 1) l).length := by
    rw [askedAt_len, askedAt_len]
    exact (List.take_sublist i l).countP_le
  simp only [askedTo, List.length_append] at *
  omega

end Go.Proofs.YthicgffppmbamaaGreat.Pl
