/- The scan as a plain machine: what is read, what is asked for, what is handed on. Nothing of the program. -/
import Derived.Test.YthicgffppmbamaaGreatPlainB
namespace Go.Proofs.YthicgffppmbamaaGreat.Pl

/-- k steps, the last one outside -/
def iter {α : Type} (f : α → α) : Nat → α → α
  | 0, a => a
  | k + 1, a => f (iter f k a)

/-- a reader: what is left; is something wrong? -/
abbrev Rdr := List UInt8 × Bool
def rByte (r : Rdr) : Nat × Rdr := match r.1 with
  | [] => (0, ([], true))
  | b :: t => (b.toNat, (t, r.2))
/-- a varint: fuel, which byte, so far -/
def rVarF : Nat → Nat → Nat → Rdr → Nat × Bool × Rdr
  | 0, _, _, r => (0, false, r)
  | f + 1, i, n, r =>
    if (rByte r).1 < 128 then (n + (rByte r).1 % 128 * 128 ^ i, decide (0 < (rByte r).1 ∨ i = 0), (rByte r).2)
    else rVarF f (i + 1) (n + (rByte r).1 % 128 * 128 ^ i) (rByte r).2
def rVar (r : Rdr) : Nat × Bool × Rdr := rVarF 9 0 0 r
def rNum (least most : Nat) (r : Rdr) : Nat × Rdr :=
  if (rVar r).2.1 = false ∨ (rVar r).1 < least ∨ most < (rVar r).1 then (least, ((rVar r).2.2.1, true)) else ((rVar r).1, (rVar r).2.2)
def rText (n : Nat) (r : Rdr) : List UInt8 × Rdr := if r.1.length < n then ([], (r.1, true)) else (r.1.take n, (r.1.drop n, r.2))
def rSumS (s : Nat × Rdr) : Nat × Rdr := (s.1 * 256 % 4294967296 + (rByte s.2).1, (rByte s.2).2)
def rSum (r : Rdr) : Nat × Rdr := iter rSumS 4 (0, r)
def rRight (r : Rdr) : Bool := !r.2 && decide (r.1.length = 0)

/-- where a page is, by the footer -/
structure FPage where
  place : Nat
  length : Nat
  sum : Nat
  deriving DecidableEq, Inhabited
structure FGroup where
  rows : Nat
  pages : List FPage
  deriving DecidableEq, Inhabited
structure Foot where
  names : List (List UInt8)
  groups : List FGroup

def nameS (s : List (List UInt8) × Rdr) : List (List UInt8) × Rdr :=
  let k := rNum 1 8 s.2
  let t := rText k.1 k.2
  (s.1 ++ [t.1], t.2)
def fpageS (foot : Nat) (s : List FPage × Rdr) : List FPage × Rdr :=
  let p := rNum 4 (foot - 1) s.2
  let l := rNum 1 (foot - p.1) p.2
  let u := rSum l.2
  (s.1 ++ [⟨p.1, l.1, u.1⟩], u.2)
def fgroup (columns foot : Nat) (r : Rdr) : FGroup × Rdr :=
  let n := rNum 1 20 r
  let ps := iter (fpageS foot) columns ([], n.2)
  (⟨n.1, ps.1⟩, ps.2)
def fgroupS (columns foot : Nat) (s : List FGroup × Rdr) : List FGroup × Rdr :=
  let g := fgroup columns foot s.2
  (s.1 ++ [g.1], g.2)
def footNames (data : List UInt8) : List (List UInt8) × Rdr :=
  let c := rNum 1 4 (data, false)
  iter nameS c.1 ([], c.2)
def footGroups (data : List UInt8) (foot : Nat) : List FGroup × Rdr :=
  let n := footNames data
  let g := rNum 0 6 n.2
  iter (fgroupS n.1.length foot) g.1 ([], g.2)
def readFooter (data : List UInt8) (foot : Nat) : Option Foot :=
  if rRight (footGroups data foot).2 = true ∧ okNames (footNames data).1 = true then some ⟨(footNames data).1, (footGroups data foot).1⟩ else none

/-- the footer's length -/
def readTail (tail : List UInt8) (size : Nat) : Option Nat :=
  if tail.length = 6 ∧ tail.drop 2 = mark ∧ 1 ≤ (tail.getD 0 0).toNat * 256 + (tail.getD 1 0).toNat ∧ (tail.getD 0 0).toNat * 256 + (tail.getD 1 0).toNat + 10 ≤ size
  then some ((tail.getD 0 0).toNat * 256 + (tail.getD 1 0).toNat) else none

/-- the values of a page behind its kind -/
def plainS (s : List Int × Rdr) : List Int × Rdr := (s.1 ++ [((rNum 0 1099511627775 s.2).1 : Int)], (rNum 0 1099511627775 s.2).2)
def risingS (s : List Int × Nat × Rdr) : List Int × Nat × Rdr :=
  let n := rNum 0 (1099511627775 - s.2.1) s.2.2
  (s.1 ++ [((s.2.1 + n.1 : Nat) : Int)], s.2.1 + n.1, n.2)
/-- fuel, how many are still to come -/
def runsR : Nat → Nat → List Int × Rdr → List Int × Rdr
  | 0, _, s => s
  | f + 1, left, s =>
    if left = 0 then s else
      let k := rNum 1 left s.2
      let n := rNum 0 1099511627775 k.2
      runsR f (left - k.1) (s.1 ++ List.replicate k.1 (n.1 : Int), n.2)
def readPage (data : List UInt8) (rows : Nat) : Option (List Int) :=
  let k := rByte (data, false)
  if 3 ≤ k.1 then none
  else
    let s : List Int × Rdr :=
      if k.1 = 0 then iter plainS rows ([], k.2)
      else if k.1 = 1 then runsR rows rows ([], k.2)
      else ((iter risingS rows ([], 0, k.2)).1, (iter risingS rows ([], 0, k.2)).2.2)
    if rRight s.2 = true then some s.1 else none

/-- which columns are wanted -/
def indexOf (names : List (List UInt8)) (n : List UInt8) : Option Nat := names.findIdx? (fun x => decide (x = n))
def columnsF (names : List (List UInt8)) : List (List UInt8) → List Nat → Option (List Nat)
  | [], acc => if 0 < acc.length then some acc else none
  | n :: r, acc => match indexOf names n with
    | none => none
    | some i => if i ∈ acc then none else columnsF names r (acc ++ [i])
def columns (names want : List (List UInt8)) : Option (List Nat) := columnsF names want []

/-- a wanted page -/
structure WPage where
  page : FPage
  group : Nat
  column : Nat
  rows : Nat
  deriving DecidableEq, Inhabited
structure Piece where
  place : Nat
  length : Nat
  pages : List WPage
  deriving DecidableEq, Inhabited

/-- a page goes in from the end, ahead of those with a greater place -/
def insW (l : List WPage) (x : WPage) : List WPage := (l.reverse.dropWhile (fun y => decide (x.page.place < y.page.place))).reverse ++ [x] ++ (l.reverse.takeWhile (fun y => decide (x.page.place < y.page.place))).reverse
def sortW (l : List WPage) : List WPage := l.foldl insW []
def wantedRaw (g : Nat) (gr : FGroup) (cols : List Nat) : List WPage := (List.range cols.length).map fun i => ⟨gr.pages.getD (cols.getD i 0) default, g, i, gr.rows⟩
def lengthWith (p : Piece) (x : WPage) : Nat := max p.length (x.page.place + x.page.length - p.place)
def joins (gap : Nat) (p : Piece) (x : WPage) : Bool := decide (x.page.place ≤ p.place + p.length + gap) && decide (lengthWith p x ≤ 64)
def joinS (gap : Nat) (l : List Piece) (x : WPage) : List Piece :=
  match l.getLast? with
  | none => [⟨x.page.place, x.page.length, [x]⟩]
  | some p => if joins gap p x = true then l.dropLast ++ [⟨p.place, lengthWith p x, p.pages ++ [x]⟩] else l ++ [⟨x.page.place, x.page.length, [x]⟩]
def joinW (gap : Nat) (l : List WPage) : List Piece := l.foldl (joinS gap) []
def piecesG (gap : Nat) (cols : List Nat) (g : Nat) (gr : FGroup) : List Piece := joinW gap (sortW (wantedRaw g gr cols))
def piecesTo (gap : Nat) (cols : List Nat) (gs : List FGroup) : Nat → List Piece
  | 0 => []
  | k + 1 => piecesTo gap cols gs k ++ piecesG gap cols k (gs.getD k default)
def piecesOf (gap : Nat) (cols : List Nat) (gs : List FGroup) : List Piece := piecesTo gap cols gs gs.length

/-- rows that have come -/
structure RGroup where
  rows : Nat
  lists : List (List Int)
  missing : Nat
  deriving Inhabited
structure Rw where
  columns : Nat := 0
  groups : List RGroup := []
  gone : Nat := 0
  row : Nat := 0
  left : Nat := 0
  deriving Inhabited
def rwNew (columns : Nat) (lengths : List Nat) : Rw := { columns := columns, groups := lengths.map fun n => ⟨n, List.replicate columns [], columns⟩, left := lengths.sum }
def rwPut (r : Rw) (g c : Nat) (l : List Int) : Rw := { r with groups := r.groups.modify (g - r.gone) fun x => { x with lists := x.lists.set c l, missing := x.missing - 1 } }
def readyF : List RGroup → Nat
  | [] => 0
  | g :: r => if 0 < g.missing then 0 else g.rows + readyF r
def rwReady (r : Rw) : Nat := readyF r.groups - r.row
def rwTake (r : Rw) : List Int × Rw :=
  let f := r.groups.getD 0 default
  (f.lists.map fun l => l.getD r.row 0,
    if r.row + 1 = f.rows then { r with groups := r.groups.drop 1, gone := r.gone + 1, row := 0, left := r.left - 1 } else { r with row := r.row + 1, left := r.left - 1 })
def rwTakeS (s : List (List Int) × Rw) : List (List Int) × Rw := (s.1 ++ [(rwTake s.2).1], (rwTake s.2).2)
def rwCount (r : Rw) (most : Nat) : Nat := min most r.left
/-- the rows that are handed on, or none -/
def rwNext (r : Rw) (most : Nat) : Option (List (List Int)) × Rw :=
  if rwCount r most = 0 ∨ rwReady r < rwCount r most then (none, r)
  else
    let s := iter rwTakeS (rwCount r most) ([], r)
    (some ((List.range r.columns).map fun i => s.1.map fun row => row.getD i 0), s.2)

/-- what a part of the file is for -/
inductive Aim
  | tail
  | footer
  | piece (p : Piece)
structure Part where
  place : Nat
  length : Nat
  data : List UInt8
  failures : Nat
  aim : Aim
structure Sc where
  state : Nat := 0
  size : Nat := 0
  want : List (List UInt8) := []
  win : Nat := 0
  tries : Nat := 0
  nrows : Nat := 0
  gap : Nat := 0
  lastId : Nat := 0
  asked : List (Nat × Part) := []
  waiting : List (Nat × Part) := []
  ahead : List Piece := []
  opened : Nat := 0
  rows : Rw := {}

def ended (why : Nat) : Sc := { state := why }
def ask (m : Sc) (p : Part) : Sc := { m with lastId := m.lastId + 1, asked := m.asked ++ [(m.lastId + 1, p)] }
def fetch (m : Sc) (place length : Nat) (aim : Aim) : Sc := ask m ⟨place, length, [], 0, aim⟩
/-- as long as the window has room -/
def askAheadF : Nat → Sc → Sc
  | 0, m => m
  | f + 1, m => match m.ahead with
    | [] => m
    | p :: r => if m.opened < m.win then askAheadF f (fetch { m with ahead := r, opened := m.opened + 1 } p.place p.length (.piece p)) else m
def askAhead (m : Sc) : Sc := askAheadF m.ahead.length m
def tailCame (m : Sc) (data : List UInt8) : Sc := match readTail data m.size with
  | none => ended 2
  | some n => fetch m (m.size - 6 - n) n .footer
def footerCame (m : Sc) (data : List UInt8) : Sc := match readFooter data (m.size - 6 - data.length) with
  | none => ended 2
  | some f => match columns f.names m.want with
    | none => ended 3
    | some cols => if f.groups.length = 0 then ended 1 else
      askAhead { m with rows := rwNew cols.length (f.groups.map (·.rows)), ahead := piecesOf m.gap cols f.groups }
def pageOf (p : Piece) (x : WPage) (data : List UInt8) : List UInt8 := (data.drop (x.page.place - p.place)).take x.page.length
def readW (p : Piece) (x : WPage) (data : List UInt8) : Option (List Int) := if sumOf (pageOf p x data) = x.page.sum then readPage (pageOf p x data) x.rows else none
/-- the pages of a piece, one behind the other -/
def putsF (p : Piece) (data : List UInt8) : List WPage → Rw → Option Rw
  | [], r => some r
  | x :: t, r => match readW p x data with
    | none => none
    | some l => putsF p data t (rwPut r x.group x.column l)
def pieceCame (m : Sc) (p : Piece) (data : List UInt8) : Sc := match putsF p data p.pages m.rows with
  | none => ended 2
  | some r => askAhead { m with rows := r, opened := m.opened - 1 }
def wholeCame (m : Sc) (aim : Aim) (data : List UInt8) : Sc := match aim with
  | .tail => tailCame m data
  | .footer => footerCame m data
  | .piece p => pieceCame m p data
def partCame (m : Sc) (p : Part) (data : List UInt8) : Sc :=
  if p.data.length + data.length < p.length then ask m { p with data := p.data ++ data } else wholeCame m p.aim (p.data ++ data)
def partFailed (m : Sc) (p : Part) : Sc :=
  if p.failures + 1 = m.tries then ended 4 else { m with waiting := m.waiting ++ [(2 ^ p.failures, { p with failures := p.failures + 1 })] }
def findId (l : List (Nat × Part)) (id : Int) : Option Nat := l.findIdx? fun q => decide ((q.1 : Int) = id)
def takeAt (m : Sc) (i : Nat) : Sc := { m with asked := m.asked.eraseIdx i }
def partAt (m : Sc) (i : Nat) : Part := (m.asked.getD i (0, ⟨0, 0, [], 0, .tail⟩)).2
def fail (m : Sc) (id : Int) : Sc × Int := match findId m.asked id with
  | none => (m, 3)
  | some i => (partFailed (takeAt m i) (partAt m i), 0)
def answer (m : Sc) (id : Int) (data : List UInt8) : Sc × Int := match findId m.asked id with
  | none => (m, 3)
  | some i =>
    if (partAt m i).length - (partAt m i).data.length < data.length then (m, 4)
    else if data.length = 0 then fail m id
    else (partCame (takeAt m i) (partAt m i) data, 0)
def tickS (s : Sc × List (Nat × Part)) (q : Nat × Part) : Sc × List (Nat × Part) := if 1 < q.1 then (s.1, s.2 ++ [(q.1 - 1, q.2)]) else (ask s.1 q.2, s.2)
def tick (m : Sc) : Sc := let s := m.waiting.foldl tickS (m, []); { s.1 with waiting := s.2 }
def next (m : Sc) : Sc × Option (List (List Int)) :=
  let r := rwNext m.rows m.nrows
  match r.1 with
  | none => (m, none)
  | some l => if r.2.left = 0 then (ended 1, some l) else ({ m with rows := r.2 }, some l)
def cancel (m : Sc) : Sc := if m.state = 0 then ended 5 else m
def reqOf (q : Nat × Part) : Nat × Nat × Nat := (q.1, q.2.place + q.2.data.length, q.2.length - q.2.data.length)
def keepNames (want : List (List UInt8)) : List (List UInt8) := if okNames want = true then want else []
def okS (w t r g : Int) : Bool := decide (1 ≤ w) && decide (w ≤ 4) && decide (1 ≤ t) && decide (t ≤ 4) && decide (1 ≤ r) && decide (r ≤ 20) && decide (0 ≤ g) && decide (g ≤ 32)
theorem okS_iff (w t r g : Int) : okS w t r g = true ↔ (1 ≤ w ∧ w ≤ 4) ∧ (1 ≤ t ∧ t ≤ 4) ∧ (1 ≤ r ∧ r ≤ 20) ∧ 0 ≤ g ∧ g ≤ 32 := by
  unfold okS
  simp only [Bool.and_eq_true, decide_eq_true_eq]
  omega
def okSet (size w t r g : Int) : Bool := decide (0 ≤ size) && decide (size ≤ 4000) && okS w t r g
def openSc (size : Nat) (want : List (List UInt8)) (w t r g : Nat) : Sc :=
  if size < 10 then ended 2 else fetch { size := size, want := keepNames want, win := w, tries := t, nrows := r, gap := g } (size - 6) 6 .tail

end Go.Proofs.YthicgffppmbamaaGreat.Pl
