/- Rep, KsMem, Wire, Page, PageWrite, File, AddGroup, AddNames, Finish, Ask. -/
import Derived.BigQuiet
import Derived.Deep.DeepMust
import Derived.Laws.EntriesVeiled
import Derived.Deep.RegionWith
import Derived.Deep.DeepCutAuto
import Derived.Deep.RegionLaw
import Derived.Test.YthicgffppmbamaaGreatPart1
namespace Go.Proofs.YthicgffppmbamaaGreat
open Go.RowKit

/-- what a block is for; out: it is not the scan's -/
inductive Col where
  | out | box | scan | asked | wait | part | data (p : Nat) | groups | lists (g : Nat) | ro
  deriving DecidableEq
abbrev Colr := Nat → Col
abbrev Mine (col : Colr) : Nat → Prop := fun k => col k ≠ .out
def paint (col : Colr) (n n' : Nat) (c : Col) : Colr := fun k => if n ≤ k ∧ k < n' then c else col k
theorem paint_lt (col : Colr) (n n' : Nat) (c : Col) (k : Nat) (h : k < n) : paint col n n' c k = col k := by unfold paint; rw [if_neg (by omega)]
theorem paint_ge (col : Colr) (n n' : Nat) (c : Col) (k : Nat) (h : n' ≤ k) : paint col n n' c k = col k := by unfold paint; rw [if_neg (by omega)]
theorem paint_in (col : Colr) (n n' : Nat) (c : Col) (k : Nat) (h : n ≤ k) (h' : k < n') : paint col n n' c k = c := by unfold paint; rw [if_pos ⟨h, h'⟩]

/-- a row of n elements of 'size' cells each that is read; fr: it may be written, too -/
def RowAt (C : Nat → Prop) (fr : Bool) (w : World) (size : Nat) (v : Value) (n : Nat) (cs : List Value) : Prop :=
  cs.length = n * size ∧ ∃ ao cap, v = .slice ao n cap ∧ n ≤ cap ∧ (0 < n → ∃ b off, ao = some ⟨b, off, none⟩ ∧ C b ∧ b < w.heap.size ∧ (∀ j, j < n * size → w.cell? ⟨b, off + j, none⟩ = cs[j]?) ∧ (fr = true → ∀ j, j < n * size → w.frozen? ⟨b, off + j, none⟩ = false))
theorem RowAt.go {C C' : Nat → Prop} {fr : Bool} {S : Nat → Prop} {w w' : World} {size n : Nat} {v : Value} {cs : List Value} (h : RowAt C fr w size v n cs) (k : Kp S w w') (hS : ∀ i, C i → ¬ S i) (hC : ∀ i, i < w.heap.size → C i → C' i) : RowAt C' fr w' size v n cs := by
  obtain ⟨hl, ao, cap, rfl, h1, h3⟩ := h
  refine ⟨hl, ao, cap, rfl, h1, fun hp => ?_⟩
  obtain ⟨b, off, rfl, hb, hlt, hc, hf⟩ := h3 hp
  have e := k.block b hlt (hS b hb)
  refine ⟨b, off, rfl, hC b hlt hb, Nat.lt_of_lt_of_le hlt k.size, fun j hj => ?_, fun ht j hj => ?_⟩
  · rw [World.cell?_of_block (w := w) (a := ⟨b, off + j, none⟩) e]; exact hc j hj
  · rw [World.frozen?_of_block (w := w) (a := ⟨b, off + j, none⟩) e]; exact hf ht j hj
theorem RowAt.nil (C : Nat → Prop) (fr : Bool) (w : World) (size : Nat) : RowAt C fr w size (.slice none 0 0) 0 [] := ⟨by simp, none, 0, rfl, Nat.le_refl _, fun h => absurd h (by omega)⟩
theorem Own.rowAt {w : World} {size n : Nat} {v : Value} {cs : List Value} (h : Own w size v n cs) (C : Nat → Prop) (hC : ∀ g, v.ownBlock = some g → C g) : RowAt C true w size v n cs := by
  refine ⟨h.1, ?_⟩
  rcases h.2 with ⟨rfl, rfl⟩ | ⟨g, cap, rfl, h1, h2, h3, h4, h5⟩
  · exact ⟨none, 0, rfl, Nat.le_refl _, fun h => absurd h (by omega)⟩
  · refine ⟨_, cap, rfl, h1, fun _ => ⟨g, 0, rfl, hC g rfl, h3, fun j hj => by rw [Nat.zero_add]; exact h4 j hj, fun _ j hj => ?_⟩⟩
    rw [Nat.zero_add]
    exact (h5 j (Nat.lt_of_lt_of_le hj (Nat.mul_le_mul_right _ h1))).2
theorem Own.go {w w' : World} {S : Nat → Prop} {size n : Nat} {v : Value} {cs : List Value} (h : Own w size v n cs) (k : Kp S w w') (hn : ∀ g, v.ownBlock = some g → ¬ S g) : Own w' size v n cs := h.kept k hn

abbrev PtrTo (b o : Nat) : Value := .pointer (some ⟨b, o, none⟩)
/-- a method of something, bound -/
abbrev Bound (f : Nat) (r : Value) : Value := .func (.func f) #[r] #[]
abbrev giveUpV (P : Nat) : Value := Bound 81 (PtrTo P 0)

/-- the cells of a wanted page -/
def wpCells (x : Pl.WPage) : List Value := [I x.page.place, I x.page.length, .int .u32 x.page.sum, I x.group, I x.column, I x.rows]
def PagesAt (col : Colr) (w : World) (v : Value) (l : List Pl.WPage) : Prop := RowAt (fun b => col b = .ro) false w 6 v l.length (l.flatMap wpCells)
theorem PagesAt.go {col col' : Colr} {S : Nat → Prop} {w w' : World} {v : Value} {l : List Pl.WPage} (h : PagesAt col w v l) (k : Kp S w w') (hS : ∀ i, S i → col i ≠ .ro) (hc : ∀ i, i < w.heap.size → col' i = col i) : PagesAt col' w' v l :=
  RowAt.go h k (fun i hi hs => hS i hs hi) (fun i hlt hi => by rw [hc i hlt]; exact hi)
theorem PagesAt.nil (col : Colr) (w : World) : PagesAt col w (.slice none 0 0) [] := RowAt.nil _ _ _ _

def AimAt (col : Colr) (w : World) (P : Nat) (v : Value) : Pl.Aim → Prop
  | .tail => v = Bound 84 (PtrTo P 0)
  | .footer => v = Bound 104 (PtrTo P 0)
  | .piece p => ∃ pv, v = Bound 149 (.agg #[PtrTo P 0, I p.place, I p.length, pv]) ∧ PagesAt col w pv p.pages
theorem AimAt.go {col col' : Colr} {S : Nat → Prop} {w w' : World} {P : Nat} {v : Value} {a : Pl.Aim} (h : AimAt col w P v a) (k : Kp S w w') (hS : ∀ i, S i → col i ≠ .ro) (hc : ∀ i, i < w.heap.size → col' i = col i) : AimAt col' w' P v a := by
  cases a with
  | tail => exact h
  | footer => exact h
  | piece p =>
    obtain ⟨pv, e, hp⟩ := h
    exact ⟨pv, e, hp.go k hS hc⟩

/-- a part of the file, at block p -/
def partCells (P : Nat) (x : Pl.Part) (dv av : Value) : List Value := [PtrTo P 7, I x.place, I x.length, dv, I x.failures, av]
structure PartAt (col : Colr) (w : World) (P p : Nat) (x : Pl.Part) (dv av : Value) : Prop where
  blk : Blk w p (partCells P x dv av) 164
  data : OwnB w dv x.data
  dcol : ∀ g, dv.ownBlock = some g → col g = .data p
  aim : AimAt col w P av x.aim
  pcol : col p = .part
theorem PartAt.go {col col' : Colr} {S : Nat → Prop} {w w' : World} {P p : Nat} {x : Pl.Part} {dv av : Value} (h : PartAt col w P p x dv av) (k : Kp S w w') (hp : ¬ S p) (hd : ∀ i, S i → col i ≠ .data p) (hS : ∀ i, S i → col i ≠ .ro) (hc : ∀ i, i < w.heap.size → col' i = col i) : PartAt col' w' P p x dv av :=
  ⟨h.blk.kept k hp, h.data.kept k (fun g hg hs => hd g hs (h.dcol g hg)), fun g hg => by rw [hc g (h.data.lt hg)]; exact h.dcol g hg, h.aim.go k hS hc, by rw [hc p h.blk.lt]; exact h.pcol⟩

/-- the parts of a list of requests, or of those that wait -/
def PartsAt (col : Colr) (w : World) (P : Nat) (ps : List Nat) (l : List (Nat × Pl.Part)) : Prop :=
  ps.length = l.length ∧ ∀ (i : Nat) (p : Nat) (q : Nat × Pl.Part), ps[i]? = some p → l[i]? = some q → ∃ dv av, PartAt col w P p q.2 dv av
theorem PartsAt.go {col col' : Colr} {S : Nat → Prop} {w w' : World} {P : Nat} {ps : List Nat} {l : List (Nat × Pl.Part)} (h : PartsAt col w P ps l) (k : Kp S w w') (hp : ∀ p ∈ ps, ¬ S p) (hd : ∀ p ∈ ps, ∀ i, S i → col i ≠ .data p) (hS : ∀ i, S i → col i ≠ .ro) (hc : ∀ i, i < w.heap.size → col' i = col i) : PartsAt col' w' P ps l :=
  ⟨h.1, fun i p q a b => let ⟨dv, av, e⟩ := h.2 i p q a b; ⟨dv, av, e.go k (hp p (List.mem_of_getElem? a)) (hd p (List.mem_of_getElem? a)) hS hc⟩⟩
theorem PartsAt.lt {col : Colr} {w : World} {P : Nat} {ps : List Nat} {l : List (Nat × Pl.Part)} (h : PartsAt col w P ps l) {p : Nat} (hp : p ∈ ps) : p < w.heap.size ∧ col p = .part := by
  obtain ⟨i, hi⟩ := List.getElem?_of_mem hp
  have hil := (List.getElem?_eq_some_iff.1 hi).1
  obtain ⟨_, _, e⟩ := h.2 i p _ hi (List.getElem?_eq_getElem (by rw [← h.1]; exact hil))
  exact ⟨e.blk.lt, e.pcol⟩

def reqCells (p : Nat) (q : Nat × Pl.Part) : List Value := [I q.1, I (q.2.place + q.2.data.length : Nat), I (q.2.length - q.2.data.length : Nat), Bound 118 (PtrTo p 0), Bound 119 (PtrTo p 0)]
def waitCells (p : Nat) (q : Nat × Pl.Part) : List Value := [I q.1, Bound 102 (PtrTo p 0)]
def reqRow (ps : List Nat) (l : List (Nat × Pl.Part)) : List Value := (List.zipWith reqCells ps l).flatten
def waitRow (ps : List Nat) (l : List (Nat × Pl.Part)) : List Value := (List.zipWith waitCells ps l).flatten

def pieceRow (pvs : List Value) (l : List Pl.Piece) : List Value := (List.zipWith (fun pv (p : Pl.Piece) => [I p.place, I p.length, pv]) pvs l).flatten
def AheadAt (col : Colr) (w : World) (v : Value) (l : List Pl.Piece) : Prop :=
  ∃ pvs : List Value, pvs.length = l.length ∧ RowAt (fun b => col b = .ro) false w 3 v l.length (pieceRow pvs l) ∧ ∀ (i : Nat) (pv : Value) (p : Pl.Piece), pvs[i]? = some pv → l[i]? = some p → PagesAt col w pv p.pages
theorem AheadAt.go {col col' : Colr} {S : Nat → Prop} {w w' : World} {v : Value} {l : List Pl.Piece} (h : AheadAt col w v l) (k : Kp S w w') (hS : ∀ i, S i → col i ≠ .ro) (hc : ∀ i, i < w.heap.size → col' i = col i) : AheadAt col' w' v l := by
  obtain ⟨pvs, h1, h2, h3⟩ := h
  exact ⟨pvs, h1, h2.go k (fun i hi hs => hS i hs hi) (fun i hlt hi => by rw [hc i hlt]; exact hi), fun i pv p a b => (h3 i pv p a b).go k hS hc⟩
theorem AheadAt.nil (col : Colr) (w : World) : AheadAt col w (.slice none 0 0) [] := ⟨[], rfl, RowAt.nil _ _ _ _, fun i _ _ a => by simp at a⟩

/-- rows that have come -/
def ListsAt (col : Colr) (w : World) (g : Nat) (v : Value) (ls : List (List Int)) : Prop :=
  ∃ vs : List Value, vs.length = ls.length ∧ RowAt (fun b => col b = .lists g) true w 1 v ls.length vs ∧ ∀ (i : Nat) (u : Value) (l : List Int), vs[i]? = some u → ls[i]? = some l → RowAt (fun b => col b = .ro) false w 1 u l.length (l.map I)
theorem ListsAt.go {col col' : Colr} {S : Nat → Prop} {w w' : World} {g : Nat} {v : Value} {ls : List (List Int)} (h : ListsAt col w g v ls) (k : Kp S w w') (hg : ∀ i, S i → col i ≠ .lists g) (hS : ∀ i, S i → col i ≠ .ro) (hc : ∀ i, i < w.heap.size → col' i = col i) : ListsAt col' w' g v ls := by
  obtain ⟨vs, h1, h2, h3⟩ := h
  exact ⟨vs, h1, h2.go k (fun i hi hs => hg i hs hi) (fun i hlt hi => by rw [hc i hlt]; exact hi), fun i u l a b => (h3 i u l a b).go k (fun i hi hs => hS i hs hi) (fun i hlt hi => by rw [hc i hlt]; exact hi)⟩
def groupRow (lvs : List Value) (l : List Pl.RGroup) : List Value := (List.zipWith (fun lv (g : Pl.RGroup) => [I g.rows, lv, I g.missing]) lvs l).flatten
def GroupsAt (col : Colr) (w : World) (gone : Nat) (v : Value) (l : List Pl.RGroup) : Prop :=
  ∃ lvs : List Value, lvs.length = l.length ∧ RowAt (fun b => col b = .groups) true w 3 v l.length (groupRow lvs l) ∧ ∀ (i : Nat) (lv : Value) (g : Pl.RGroup), lvs[i]? = some lv → l[i]? = some g → ListsAt col w (gone + i) lv g.lists
theorem GroupsAt.go {col col' : Colr} {S : Nat → Prop} {w w' : World} {gone : Nat} {v : Value} {l : List Pl.RGroup} (h : GroupsAt col w gone v l) (k : Kp S w w') (hg : ∀ i, S i → col i ≠ .groups) (hl : ∀ g i, S i → col i ≠ .lists g) (hS : ∀ i, S i → col i ≠ .ro) (hc : ∀ i, i < w.heap.size → col' i = col i) : GroupsAt col' w' gone v l := by
  obtain ⟨pvs, h1, h2, h3⟩ := h
  exact ⟨pvs, h1, h2.go k (fun i hi hs => hg i hs hi) (fun i hlt hi => by rw [hc i hlt]; exact hi), fun i pv p a b => (h3 i pv p a b).go k (hl _) hS hc⟩
theorem GroupsAt.nil (col : Colr) (w : World) (gone : Nat) : GroupsAt col w gone (.slice none 0 0) [] := ⟨[], rfl, RowAt.nil _ _ _ _, fun i _ _ a => by simp at a⟩

def giveV (P : Nat) (m : Pl.Sc) : Value := if m.state = 0 then giveUpV P else .nilFunc
def scCells (P : Nat) (m : Pl.Sc) (nv av wv hv gv : Value) : List Value :=
  [I m.state, I m.size, nv, I m.win, I m.tries, I m.nrows, I m.gap, I m.tries, giveV P m, I m.lastId, av, wv, hv, I m.opened, I m.rows.columns, gv, I m.rows.gone, I m.rows.row, I m.rows.left]
abbrev tx (l : List UInt8) : Value := .string ⟨l.toArray⟩

/-- what the scan at block P holds, its own block left out -/
structure Inner (col : Colr) (w : World) (P : Nat) (m : Pl.Sc) (ps qs : List Nat) (nv av wv hv gv : Value) : Prop where
  pcol : col P = .scan
  top : ∀ k, w.heap.size ≤ k → col k = .out
  names : RowAt (fun b => col b = .ro) false w 1 nv m.want.length (m.want.map tx)
  asked : Own w 5 av m.asked.length (reqRow ps m.asked)
  acol : ∀ g, av.ownBlock = some g → col g = .asked
  aparts : PartsAt col w P ps m.asked
  waiting : Own w 2 wv m.waiting.length (waitRow qs m.waiting)
  wcol : ∀ g, wv.ownBlock = some g → col g = .wait
  wparts : PartsAt col w P qs m.waiting
  nodup : (ps ++ qs).Nodup
  ahead : AheadAt col w hv m.ahead
  groups : GroupsAt col w m.rows.gone gv m.rows.groups
/-- the scan at block P is m -/
structure Rep (col : Colr) (w : World) (P : Nat) (m : Pl.Sc) (ps qs : List Nat) (nv av wv hv gv : Value) : Prop where
  blk : Blk w P (scCells P m nv av wv hv gv) 142
  inn : Inner col w P m ps qs nv av wv hv gv

/-- what is inside goes on where only blocks of no colour, or of the scan itself, are touched; new blocks may be coloured -/
theorem Inner.go {col col' : Colr} {S : Nat → Prop} {w w' : World} {P : Nat} {m : Pl.Sc} {ps qs : List Nat} {nv av wv hv gv : Value} (h : Inner col w P m ps qs nv av wv hv gv) (k : Kp S w w') (hP : P < w.heap.size) (hS : ∀ i, S i → col i = .out ∨ col i = .scan) (hc : ∀ i, i < w.heap.size → col' i = col i) (ht : ∀ i, w'.heap.size ≤ i → col' i = .out) : Inner col' w' P m ps qs nv av wv hv gv := by
  have hno : ∀ (c : Col), c ≠ .out → c ≠ .scan → ∀ i, S i → col i ≠ c := fun c hc hc' i hi e => by
    rcases hS i hi with e' | e'
    · exact hc (by rw [← e, e'])
    · exact hc' (by rw [← e, e'])
  have ha : ∀ p ∈ ps, ¬ S p := fun p hp hs => hno .part (by simp) (by simp) p hs (h.aparts.lt hp).2
  have hw : ∀ p ∈ qs, ¬ S p := fun p hp hs => hno .part (by simp) (by simp) p hs (h.wparts.lt hp).2
  refine ⟨by rw [hc P hP]; exact h.pcol, ht, ?_, ?_, fun g hg => by rw [hc g (h.asked.lt hg)]; exact h.acol g hg, ?_, ?_, fun g hg => by rw [hc g (h.waiting.lt hg)]; exact h.wcol g hg, ?_, h.nodup, ?_, ?_⟩
  · exact h.names.go k (fun i hi hs => hno .ro (by simp) (by simp) i hs hi) (fun i hlt e => by rw [hc i hlt]; exact e)
  · exact h.asked.kept k (fun g hg hs => hno .asked (by simp) (by simp) g hs (h.acol g hg))
  · exact h.aparts.go k ha (fun p _ => hno _ (by simp) (by simp)) (hno _ (by simp) (by simp)) hc
  · exact h.waiting.kept k (fun g hg hs => hno .wait (by simp) (by simp) g hs (h.wcol g hg))
  · exact h.wparts.go k hw (fun p _ => hno _ (by simp) (by simp)) (hno _ (by simp) (by simp)) hc
  · exact h.ahead.go k (hno _ (by simp) (by simp)) hc
  · exact h.groups.go k (hno _ (by simp) (by simp)) (fun g => hno _ (by simp) (by simp)) (hno _ (by simp) (by simp)) hc
theorem Inner.put {col : Colr} {w w' : World} {P : Nat} {m : Pl.Sc} {ps qs : List Nat} {nv av wv hv gv : Value} (h : Inner col w P m ps qs nv av wv hv gv) (k : Kp (fun k => k = P) w w') (hP : P < w.heap.size) : Inner col w' P m ps qs nv av wv hv gv :=
  h.go k hP (fun i hi => .inr (by rw [hi]; exact h.pcol)) (fun _ _ => rfl) (fun i hi => h.top i (Nat.le_trans k.size hi))
/-- the scan goes on as it is where nothing of it is touched -/
theorem Rep.kept {col : Colr} {S : Nat → Prop} {w w' : World} {P : Nat} {m : Pl.Sc} {ps qs : List Nat} {nv av wv hv gv : Value} (h : Rep col w P m ps qs nv av wv hv gv) (k : Kp S w w') (hS : ∀ i, S i → col i = .out) : Rep col w' P m ps qs nv av wv hv gv :=
  ⟨h.blk.kept k (fun hs => by have := hS P hs; rw [h.inn.pcol] at this; simp at this), h.inn.go k h.blk.lt (fun i hi => .inl (hS i hi)) (fun _ _ => rfl) (fun i hi => h.inn.top i (Nat.le_trans k.size hi))⟩
theorem Rep.ext {col : Colr} {w w' : World} {P : Nat} {m : Pl.Sc} {ps qs : List Nat} {nv av wv hv gv : Value} (h : Rep col w P m ps qs nv av wv hv gv) (k : Ext w w') : Rep col w' P m ps qs nv av wv hv gv := h.kept k (fun _ f => f.elim)
/-- new blocks may be coloured -/
theorem Rep.recol {col col' : Colr} {w : World} {P : Nat} {m : Pl.Sc} {ps qs : List Nat} {nv av wv hv gv : Value} (h : Rep col w P m ps qs nv av wv hv gv) (hc : ∀ i, i < w.heap.size → col' i = col i) (ht : ∀ i, w.heap.size ≤ i → col' i = .out) : Rep col' w P m ps qs nv av wv hv gv :=
  ⟨h.blk, h.inn.go (S := fun _ => False) (Kp.refl _ _) h.blk.lt (fun _ f => f.elim) hc ht⟩
/-- one cell of the scan's own block is another one -/
theorem Rep.cellP {col : Colr} {w : World} {P : Nat} {m m' : Pl.Sc} {ps qs : List Nat} {nv av wv hv gv nv' av' wv' hv' gv' : Value} (h : Rep col w P m ps qs nv av wv hv gv) (j : Nat) (v : Value) (e : (scCells P m nv av wv hv gv).set j v = scCells P m' nv' av' wv' hv' gv') (hi : Inner col w P m' ps qs nv' av' wv' hv' gv') :
    Rep col (w.setCell ⟨P, j, none⟩ v) P m' ps qs nv' av' wv' hv' gv' :=
  ⟨by have := h.blk.set j v; rw [e] at this; exact this, hi.put (kp_set' w P j v) h.blk.lt⟩
/-- the scan, whatever lies where -/
def IsSc (col : Colr) (w : World) (P : Nat) (m : Pl.Sc) : Prop := ∃ ps qs nv av wv hv gv, Rep col w P m ps qs nv av wv hv gv
theorem Rep.is {col : Colr} {w : World} {P : Nat} {m : Pl.Sc} {ps qs : List Nat} {nv av wv hv gv : Value} (h : Rep col w P m ps qs nv av wv hv gv) : IsSc col w P m := ⟨_, _, _, _, _, _, _, h⟩
theorem IsSc.kept {col : Colr} {S : Nat → Prop} {w w' : World} {P : Nat} {m : Pl.Sc} (h : IsSc col w P m) (k : Kp S w w') (hS : ∀ i, S i → col i = .out) : IsSc col w' P m := by
  obtain ⟨ps, qs, nv, av, wv, hv, gv, r⟩ := h
  exact ⟨ps, qs, nv, av, wv, hv, gv, r.kept k hS⟩
/-- what is right behind a call on the scan -/
structure Went (col : Colr) (w w' : World) (col' : Colr) : Prop where
  kept : Kp (Mine col) w w'
  same : ∀ k, k < w.heap.size → col' k = col k
theorem Went.refl (col : Colr) (w : World) : Went col w w col := ⟨Kp.refl _ _, fun _ _ => rfl⟩
theorem Went.trans {a b c : Colr} {w w1 w2 : World} (h : Went a w w1 b) (k : Went b w1 w2 c) : Went a w w2 c :=
  ⟨h.kept.then k.kept (fun i hi e => by have := h.same i hi; unfold Mine at *; rw [← this]; exact e), fun i hi => by rw [k.same i (Nat.lt_of_lt_of_le hi h.kept.size), h.same i hi]⟩
theorem Went.ext {col : Colr} {w w' : World} (k : Ext w w') : Went col w w' col := ⟨Kp.of_ext k, fun _ _ => rfl⟩

/-- blocks that hold none of the things that are only read, of the parts, or of the rows -/
structure Calm (col : Colr) (S : Nat → Prop) : Prop where
  ro : ∀ i, S i → col i ≠ .ro
  part : ∀ i, S i → col i ≠ .part
  data : ∀ p i, S i → col i ≠ .data p
  groups : ∀ i, S i → col i ≠ .groups
  lists : ∀ g i, S i → col i ≠ .lists g
theorem Calm.one {col : Colr} {S : Nat → Prop} (c : Col) (h : ∀ i, S i → col i = c) (h1 : c ≠ .ro) (h2 : c ≠ .part) (h3 : ∀ p, c ≠ .data p) (h4 : c ≠ .groups) (h5 : ∀ g, c ≠ .lists g) : Calm col S :=
  ⟨fun i hi e => h1 (by rw [← h i hi, e]), fun i hi e => h2 (by rw [← h i hi, e]), fun p i hi e => h3 p (by rw [← h i hi, e]), fun i hi e => h4 (by rw [← h i hi, e]), fun g i hi e => h5 g (by rw [← h i hi, e])⟩
structure Rest (col : Colr) (w : World) (P : Nat) (m : Pl.Sc) (ps qs : List Nat) (nv hv gv : Value) : Prop where
  names : RowAt (fun b => col b = .ro) false w 1 nv m.want.length (m.want.map tx)
  aparts : PartsAt col w P ps m.asked
  wparts : PartsAt col w P qs m.waiting
  ahead : AheadAt col w hv m.ahead
  groups : GroupsAt col w m.rows.gone gv m.rows.groups
theorem Inner.rest {col col' : Colr} {S : Nat → Prop} {w w' : World} {P : Nat} {m : Pl.Sc} {ps qs : List Nat} {nv av wv hv gv : Value} (h : Inner col w P m ps qs nv av wv hv gv) (k : Kp S w w') (hS : Calm col S) (hc : ∀ i, i < w.heap.size → col' i = col i) : Rest col' w' P m ps qs nv hv gv :=
  ⟨h.names.go k (fun i hi hs => hS.ro i hs hi) (fun i hlt e => by rw [hc i hlt]; exact e),
   h.aparts.go k (fun p hp hs => hS.part p hs (h.aparts.lt hp).2) (fun p _ => hS.data p) hS.ro hc,
   h.wparts.go k (fun p hp hs => hS.part p hs (h.wparts.lt hp).2) (fun p _ => hS.data p) hS.ro hc,
   h.ahead.go k hS.ro hc, h.groups.go k hS.groups hS.lists hS.ro hc⟩
theorem PartsAt.snoc {col : Colr} {w : World} {P : Nat} {ps : List Nat} {l : List (Nat × Pl.Part)} (h : PartsAt col w P ps l) {p : Nat} {q : Nat × Pl.Part} {dv av : Value} (hp : PartAt col w P p q.2 dv av) : PartsAt col w P (ps ++ [p]) (l ++ [q]) := by
  refine ⟨by simp [h.1], fun i p' q' a b => ?_⟩
  by_cases hi : i < ps.length
  · rw [List.getElem?_append_left hi] at a
    rw [List.getElem?_append_left (by rw [← h.1]; exact hi)] at b
    exact h.2 i p' q' a b
  · rw [List.getElem?_append_right (by omega)] at a
    rw [List.getElem?_append_right (by rw [← h.1]; omega)] at b
    rw [List.getElem?_singleton] at a b
    split at a
    · rw [if_pos (by rw [← h.1]; assumption)] at b
      cases a
      cases b
      exact ⟨_, _, hp⟩
    · cases a
theorem reqRow_snoc (ps : List Nat) (l : List (Nat × Pl.Part)) (p : Nat) (q : Nat × Pl.Part) (h : ps.length = l.length) : reqRow (ps ++ [p]) (l ++ [q]) = reqRow ps l ++ reqCells p q := by
  unfold reqRow
  rw [List.zipWith_append h]
  simp
theorem waitRow_snoc (ps : List Nat) (l : List (Nat × Pl.Part)) (p : Nat) (q : Nat × Pl.Part) (h : ps.length = l.length) : waitRow (ps ++ [p]) (l ++ [q]) = waitRow ps l ++ waitCells p q := by
  unfold waitRow
  rw [List.zipWith_append h]
  simp

/-- one request more: the row of requests has grown -/
theorem Rep.askMore {col : Colr} {w u w1 : World} {P p : Nat} {m : Pl.Sc} {x : Pl.Part} {ps qs : List Nat} {nv av wv hv gv dv xv av' : Value} (h : Rep col w P m ps qs nv av wv hv gv) (hp : PartAt col w P p x dv xv) (hn : p ∉ ps ++ qs) (hu : Ext w u) (k : Kp (Of av) u w1) (s : Sep u av av') (o : Own w1 5 av' (m.asked.length + 1) (reqRow ps m.asked ++ reqCells p (m.lastId, x))) :
    Rep (paint col w.heap.size w1.heap.size .asked) (w1.setCell ⟨P, 10, none⟩ av') P { m with asked := m.asked ++ [(m.lastId, x)] } (ps ++ [p]) qs nv av' wv hv gv ∧ Went col w (w1.setCell ⟨P, 10, none⟩ av') (paint col w.heap.size w1.heap.size .asked) := by
  have kw : Kp (Of av) w w1 := (Kp.of_ext hu).trans k
  have hc : ∀ i, i < w.heap.size → paint col w.heap.size w1.heap.size .asked i = col i := fun i hi => paint_lt _ _ _ _ _ hi
  have hav : ∀ i, Of av i → col i = .asked := fun i hi => h.inn.acol i hi
  have hcalm : Calm col (Of av) := Calm.one .asked hav (by simp) (by simp) (by simp) (by simp) (by simp)
  have r := h.inn.rest kw hcalm hc
  have hp1 := hp.go kw (fun e => hcalm.part p e hp.pcol) (hcalm.data p) hcalm.ro hc
  have hPlt := h.blk.lt
  have hPn : ¬ Of av P := fun e => by have := hav P e; rw [h.inn.pcol] at this; simp at this
  have hb1 := h.blk.kept kw hPn
  have hin : Inner (paint col w.heap.size w1.heap.size .asked) w1 P { m with asked := m.asked ++ [(m.lastId, x)] } (ps ++ [p]) qs nv av' wv hv gv := by
    refine ⟨by rw [hc P hPlt]; exact h.inn.pcol, fun i hi => by rw [paint_ge _ _ _ _ _ hi]; exact h.inn.top i (Nat.le_trans kw.size hi), r.names, ?_, fun g hg => ?_, r.aparts.snoc (q := (m.lastId, x)) hp1, ?_, fun g hg => by rw [hc g (h.inn.waiting.lt hg)]; exact h.inn.wcol g hg, r.wparts, ?_, r.ahead, r.groups⟩
    · rw [reqRow_snoc _ _ _ _ h.inn.aparts.1]
      simpa using o
    · rcases s with e | ⟨g', e1, e2⟩
      · rw [e] at hg
        rw [hc g (h.inn.asked.lt hg)]
        exact h.inn.acol g hg
      · rw [e1] at hg
        simp only [Option.some.injEq] at hg
        subst hg
        exact paint_in _ _ _ _ _ (by have := hu.size; omega) (o.lt e1)
    · exact h.inn.waiting.kept kw (fun g hg hs => by have := hav g hs; rw [h.inn.wcol g hg] at this; simp at this)
    · have := h.inn.nodup
      rw [List.append_assoc]
      refine (List.nodup_append.2 ⟨(List.nodup_append.1 this).1, ?_, ?_⟩)
      · simp only [List.singleton_append, List.nodup_cons]
        exact ⟨fun hq => hn (List.mem_append.2 (.inr hq)), (List.nodup_append.1 this).2.1⟩
      · intro a ha b hb
        simp only [List.singleton_append, List.mem_cons] at hb
        rcases hb with rfl | hb
        · exact fun e => hn (List.mem_append.2 (.inl (e ▸ ha)))
        · exact (List.nodup_append.1 this).2.2 a ha b hb
  refine ⟨⟨?_, hin.put (kp_set' w1 P 10 av') hb1.lt⟩, ⟨?_, hc⟩⟩
  · have := hb1.set 10 av'
    simpa [scCells, giveV] using this
  · refine (kw.mono (fun i _ hi => ?_)).setCell (p := ⟨P, 10, none⟩) (.inl ?_) av'
    · show col i ≠ .out
      rw [hav i hi]; simp
    · show col P ≠ .out
      rw [h.inn.pcol]; simp

end Go.Proofs.YthicgffppmbamaaGreat

namespace Go.Proofs.YthicgffppmbamaaGreat
open Go.RowKit

set_option maxRecDepth 20000 in
set_option maxHeartbeats 400000 in
theorem kpick_any (u : World) (c : Int) (n : Nat) (h0 : -9223372036854775808 ≤ c) (h1 : c ≤ 9223372036854775807) (hn : 1 ≤ n) (hn2 : n ≤ 9000000000000000000) :
    Calls Tryz.prog 21 #[.int .i64 c, .int .i64 (n : Int)] u fun e u' => e = .returned (.int .i64 (pickP c n : Nat)) ∧ u' = u := by
  have hne : ¬ (n : Int) = 0 := by omega
  go_enter Tryz.func21, Tryz.ntmps21
  by_cases hc : c < 0
  · have e1 : Hid (-((c + 1).tmod (n : Int)) = (pickP c n : Nat)) := by
      show _ = _
      rw [← Int.neg_tmod]
      unfold pickP
      rw [if_pos hc, Int.tmod_eq_emod_of_nonneg (by omega)]
      have := Int.emod_nonneg (-(c + 1)) hne
      omega
    go_wp2
    go_ret
    exact ⟨by rw [← e1.out]; rfl, rfl⟩
  · have e1 : Hid (c % (n : Int) = (pickP c n : Nat)) := by
      show _ = _
      unfold pickP
      rw [if_neg hc]
      have := Int.emod_nonneg c hne
      omega
    go_wp2
    go_ret
    exact ⟨by rw [← e1.out]; rfl, rfl⟩

/-- the source at block Sb: its list of numbers lies below B, i of them are used up -/
structure SrcAt (w : World) (Sb B : Nat) (lv : Value) (l : List Int) (i : Nat) : Prop where
  blk : Blk w Sb [lv, I i] 103
  rd : RdI B w lv l
  below : B ≤ Sb
  len : l.length ≤ 17592186043904
  rng : ∀ x ∈ l, -9223372036854775808 ≤ x ∧ x ≤ 9223372036854775807
  le : i ≤ l.length
theorem SrcAt.kept {S : Nat → Prop} {w w' : World} {Sb B : Nat} {lv : Value} {l : List Int} {i : Nat} (h : SrcAt w Sb B lv l i) (k : Kp S w w') (hS : ∀ i, S i → B ≤ i ∧ i ≠ Sb) : SrcAt w' Sb B lv l i :=
  ⟨h.blk.kept k (fun e => (hS Sb e).2 rfl), h.rd.kept k (fun i hi => (hS i hi).1), h.below, h.len, h.rng, h.le⟩
theorem SrcAt.ext {w w' : World} {Sb B : Nat} {lv : Value} {l : List Int} {i : Nat} (h : SrcAt w Sb B lv l i) (k : Ext w w') : SrcAt w' Sb B lv l i := h.kept k (fun _ f => f.elim)

set_option maxRecDepth 20000 in
set_option maxHeartbeats 1000000 in
theorem snext_any (w : World) (Sb B : Nat) (lv : Value) (l : List Int) (i n : Nat) (h : SrcAt w Sb B lv l i) (hn : 1 ≤ n) (hn2 : n ≤ 1099511627776) :
    Calls Tryz.prog 75 #[PtrTo Sb 0, .int .i64 (n : Int)] w fun e w' => e = .returned (.int .i64 ((sNext l i n).1 : Nat)) ∧ SrcAt w' Sb B lv l (sNext l i n).2 ∧ Kp (fun k => k = Sb) w w' := by
  have h' := h
  obtain ⟨ao, cap, rfl, h1, h2, h3⟩ := RdI.open h.rd
  have c0 := h.blk.cell 0
  have c1 := h.blk.cell 1
  have f1 := h.blk.free 1
  simp only [List.getElem?_cons_zero, List.getElem?_cons_succ, I] at c0 c1
  have hlen := h.len
  have hle := h.le
  by_cases hi : l.length ≤ i
  · have HE : Hid (sNext l i n = (0, i)) := by show _ = _; unfold sNext; rw [if_pos hi]
    clear h
    go_enter Tryz.func75, Tryz.ntmps75
    go_wp2_with fail
    go_quiet (fail)
    go_wp2_with fail
    go_ret
    rw [HE.out]
    have hx : Ext w (w.drewN nq) := (Kp.refl _ _).drewN _
    exact ⟨rfl, h'.ext hx, Kp.of_ext hx⟩
  · obtain ⟨b, off, rfl, hb, hc⟩ := h3 (by omega)
    have hci := hc i (by omega)
    have hbn : ¬ b = Sb := by have := h.below; omega
    have hr := h.rng (l.getD i 0) (by rw [List.getD_eq_getElem?_getD, List.getElem?_eq_getElem (by omega)]; exact List.getElem_mem _)
    have HE : Hid (sNext l i n = (pickP (l.getD i 0) n, i + 1)) := by show _ = _; unfold sNext; rw [if_neg hi]
    have HP := hide (fun u => kpick_any u (l.getD i 0) n hr.1 hr.2 hn (by omega))
    have hii : ¬ (l.length : Int) ≤ i := by omega
    clear h hc h3
    generalize l.getD i 0 = c at *
    go_enter Tryz.func75, Tryz.ntmps75
    go_wp2_with fail
    go_quiet (fail)
    go_wp2_with fail
    have hb1 : Blk ((w.drewN nq).setCell ⟨Sb, 1, none⟩ (.int .i64 ((i : Int) + 1))) Sb [.slice (some ⟨b, off, none⟩) l.length cap, I ((i : Int) + 1)] 103 := (h'.blk.kept (S := fun _ => False) ((Kp.refl _ _).drewN nq) id).set 1 _
    have kw : Kp (fun k => k = Sb) w ((w.drewN nq).setCell ⟨Sb, 1, none⟩ (.int .i64 ((i : Int) + 1))) := Kp.setCell (S := fun k => k = Sb) (p := ⟨Sb, 1, none⟩) ((Kp.refl _ _).drewN nq) (.inl rfl) _
    have hci1 := kw.cell hci hbn
    clear c0 c1 f1 hci
    generalize (w.drewN nq).setCell ⟨Sb, 1, none⟩ (.int .i64 ((i : Int) + 1)) = W1 at *
    have c0 := hb1.cell 0
    have c1 := hb1.cell 1
    simp only [List.getElem?_cons_zero, List.getElem?_cons_succ, I] at c0 c1
    have ei : (i : Int) + 1 - 1 = i := by omega
    have i0 : (0 : Int) ≤ i := by omega
    have HB := hide hb1
    clear hb1
    go_quiet ((go_at_call 21; exact Calls.quiet_of_same ((unhide HP) _)))
    go_wp2_with fail
    go_ret
    rw [HE.out]
    have hx : Ext W1 (W1.drewN nq) := (Kp.refl _ _).drewN _
    refine ⟨rfl, ⟨?_, ?_, h'.below, h'.len, h'.rng, by show i + 1 ≤ _; omega⟩, kw.trans (Kp.of_ext hx)⟩
    · have := HB.out.kept hx id
      exact this
    · exact h'.rd.kept (kw.trans (Kp.of_ext hx)) (fun k hk => by have := h'.below; have : k = Sb := hk; omega)

set_option maxRecDepth 20000 in
set_option maxHeartbeats 1000000 in
theorem kvalue_any (w : World) (Sb B : Nat) (lv : Value) (l : List Int) (i last : Nat) (h : SrcAt w Sb B lv l i) (hl : last ≤ 1099511627775) :
    Calls Tryz.prog 76 #[PtrTo Sb 0, .int .i64 (last : Int)] w fun e w' => e = .returned (.int .i64 ((sValue l i last).1 : Nat)) ∧ SrcAt w' Sb B lv l (sValue l i last).2 ∧ Kp (fun k => k = Sb) w w' := by
  have HN := hide (snext_any w Sb B lv l i 6 h (by omega) (by omega))
  have hlt := sNext_lt l i 6 (by omega)
  obtain ⟨k, i1, e1⟩ : ∃ k i1, sNext l i 6 = (k, i1) := ⟨_, _, rfl⟩
  rw [e1] at HN hlt
  have HV : Hid (sValue l i last = if k = 0 ∨ k = 1 then (last, i1) else if k = 2 ∨ k = 3 then (min (last + (sNext l i1 300).1) 1099511627775, (sNext l i1 300).2) else if k = 4 then sNext l i1 1099511627776 else sNext l i1 20) := by
    show _ = _
    unfold sValue
    rw [e1]
  clear h e1
  have hlt : k < 6 := hlt
  go_enter Tryz.func76, Tryz.ntmps76
  go_wp2_with fail
  refine (unhide HN).mono ?_
  rintro e w1 ⟨rfl, h1, k1⟩
  clear HN
  have H300 := hide (snext_any w1 Sb B lv l i1 300 h1 (by omega) (by omega))
  have Hbig := hide (snext_any w1 Sb B lv l i1 1099511627776 h1 (by omega) (by omega))
  have H20 := hide (snext_any w1 Sb B lv l i1 20 h1 (by omega) (by omega))
  have l300 := sNext_lt l i1 300 (by omega)
  have hk : k = 0 ∨ k = 1 ∨ k = 2 ∨ k = 3 ∨ k = 4 ∨ k = 5 := by omega
  rcases hk with rfl | rfl | rfl | rfl | rfl | rfl
  · go_wp2_with fail
    go_ret
    rw [HV.out]
    exact ⟨rfl, h1, k1⟩
  · go_wp2_with fail
    go_ret
    rw [HV.out]
    exact ⟨rfl, h1, k1⟩
  · go_wp2_with fail
    refine (unhide H300).mono ?_
    rintro e w2 ⟨rfl, h2, k2⟩
    generalize sNext l i1 300 = y at *
    by_cases hm : last + y.1 ≤ 1099511627775
    · have e2 : min (last + y.1) 1099511627775 = last + y.1 := by omega
      have HW : Hid (sValue l i last = (last + y.1, y.2)) := by show _ = _; rw [HV.out, if_neg (by decide), if_pos (by decide), e2]
      have hm2 : (last : Int) + (y.1 : Int) ≤ 1099511627775 := by omega
      go_wp2_with fail
      go_ret
      rw [HW.out]
      exact ⟨by rw [Int.natCast_add]; rfl, h2, k1.trans k2⟩
    · have e2 : min (last + y.1) 1099511627775 = 1099511627775 := by omega
      have HW : Hid (sValue l i last = (1099511627775, y.2)) := by show _ = _; rw [HV.out, if_neg (by decide), if_pos (by decide), e2]
      have hm2 : ¬ (last : Int) + (y.1 : Int) ≤ 1099511627775 := by omega
      go_wp2_with fail
      go_ret
      rw [HW.out]
      exact ⟨rfl, h2, k1.trans k2⟩
  · go_wp2_with fail
    refine (unhide H300).mono ?_
    rintro e w2 ⟨rfl, h2, k2⟩
    generalize sNext l i1 300 = y at *
    by_cases hm : last + y.1 ≤ 1099511627775
    · have e2 : min (last + y.1) 1099511627775 = last + y.1 := by omega
      have HW : Hid (sValue l i last = (last + y.1, y.2)) := by show _ = _; rw [HV.out, if_neg (by decide), if_pos (by decide), e2]
      have hm2 : (last : Int) + (y.1 : Int) ≤ 1099511627775 := by omega
      go_wp2_with fail
      go_ret
      rw [HW.out]
      exact ⟨by rw [Int.natCast_add]; rfl, h2, k1.trans k2⟩
    · have e2 : min (last + y.1) 1099511627775 = 1099511627775 := by omega
      have HW : Hid (sValue l i last = (1099511627775, y.2)) := by show _ = _; rw [HV.out, if_neg (by decide), if_pos (by decide), e2]
      have hm2 : ¬ (last : Int) + (y.1 : Int) ≤ 1099511627775 := by omega
      go_wp2_with fail
      go_ret
      rw [HW.out]
      exact ⟨rfl, h2, k1.trans k2⟩
  · go_wp2_with fail
    refine (unhide Hbig).mono ?_
    rintro e w2 ⟨rfl, h2, k2⟩
    go_wp2_with fail
    go_ret
    rw [HV.out]
    exact ⟨rfl, h2, k1.trans k2⟩
  · go_wp2_with fail
    refine (unhide H20).mono ?_
    rintro e w2 ⟨rfl, h2, k2⟩
    go_wp2_with fail
    go_ret
    rw [HV.out]
    exact ⟨rfl, h2, k1.trans k2⟩
end Go.Proofs.YthicgffppmbamaaGreat

namespace Go.Proofs.YthicgffppmbamaaGreat
open Go.RowKit

theorem src_built (w : World) (cur : List UInt8) : Src Tryz.prog 1 76 (.slice (some ⟨w.heap.size, 0, none⟩) cur.length cur.length) cur.length (cur.map B) (w.alloc (.cells (cur.map B).toArray 5)) :=
  Src.ofSlice (P := Tryz.prog) _ (e' := 5) Tryz.underlying76 _ _ _ _ (by simp) (fun j u hu => by
    rw [Addr.add_lit, Nat.zero_add, World.cell?_alloc_new, List.getElem?_toArray]; exact hu) (B_one _)

theorem byte_eq {x : Int} (n : Nat) (h : x = n) (hn : n < 256) : Value.int .u8 x = B (UInt8.ofNat n) := by
  subst h
  unfold B
  rw [UInt8.toNat_ofNat', Nat.mod_eq_of_lt (by simpa using hn)]

/-- one byte, laid in a new block -/
theorem src_one (w : World) (x : Int) (b : UInt8) (h : Value.int .u8 x = B b) : Src Tryz.prog 1 76 (.slice (some ⟨w.heap.size, 0, none⟩) 1 1) 1 ([b].map B) (w.alloc (.cells #[.int .u8 x] 5)) := by
  rw [h]
  exact src_built w [b]

/-- some bytes, laid in a new block -/
theorem src_arr (w : World) (arr : Array Value) (k : Nat) (cur : List UInt8) (hk : k = cur.length) (h : arr = (cur.map B).toArray) : Src Tryz.prog 1 76 (.slice (some ⟨w.heap.size, 0, none⟩) k k) k (cur.map B) (w.alloc (.cells arr 5)) := by
  subst hk
  subst h
  exact src_built w cur

theorem pair_bytes (n : Nat) (h : n < 65536) : #[Value.int .u8 ((n : Int) / 256), Value.int .u8 ((n : Int) % 256)] = ([UInt8.ofNat (n / 256), UInt8.ofNat (n % 256)].map B).toArray := by
  rw [byte_eq (x := (n : Int) / 256) (n / 256) (by omega) (by omega), byte_eq (x := (n : Int) % 256) (n % 256) (by omega) (by omega)]
  rfl
theorem sum_bytes (ds : List UInt8) : #[Value.int .u8 ((Pl.sumOf ds : Int) / 16777216 % 256), Value.int .u8 ((Pl.sumOf ds : Int) / 65536 % 256), Value.int .u8 ((Pl.sumOf ds : Int) / 256 % 256), Value.int .u8 ((Pl.sumOf ds : Int) % 256)] = ((Pl.sum4 ds).map B).toArray := by
  have h := Pl.sumOf_lt ds
  unfold Pl.sum4 Pl.bytes4
  generalize Pl.sumOf ds = n at *
  rw [byte_eq (x := (n : Int) / 16777216 % 256) (n / 16777216) (by omega) (by omega), byte_eq (x := (n : Int) / 65536 % 256) (n / 65536 % 256) (by omega) (by omega), byte_eq (x := (n : Int) / 256 % 256) (n / 256 % 256) (by omega) (by omega), byte_eq (x := (n : Int) % 256) (n % 256) (by omega) (by omega)]
  rfl

theorem own_alloc {w : World} {v : Value} {bs : List UInt8} (h : OwnB w v bs) (o : Obj) : OwnB (w.alloc o) v bs := h.ext (Kp.alloc (Kp.refl _ _) _)
/-- behind a new block and an append -/
theorem kp_alloc_then {w wr w1 : World} {v t : Value} {o : Obj} (h : Kp (Of v) w wr) (hs : Sep w v t) (k : Kp (Of t) (wr.alloc o) w1) : Kp (Of v) w w1 :=
  (h.alloc o).then k (fun i hi e => by
    rcases hs with hs | ⟨g, h1, h2⟩
    · show v.ownBlock = some i
      rw [← hs]; exact e
    · have e' : t.ownBlock = some i := e
      rw [h1] at e'
      simp at e'
      omega)
theorem sep_alloc_then {w wr : World} {v t u : Value} {o : Obj} (h : Kp (Of v) w wr) (hs : Sep w v t) (k : Sep (wr.alloc o) t u) : Sep w v u :=
  hs.trans (h.alloc o).size k

set_option maxRecDepth 20000 in
set_option maxHeartbeats 400000 in
theorem appendVarint_any (w : World) (v : Value) (bs : List UInt8) (n : Int) (hown : OwnB w v bs) (h0 : 0 ≤ n) (h1 : n ≤ 1099511627775) (hb : bs.length ≤ 10000) :
    Calls Tryz.prog 97 #[v, .int .i64 n] w fun e w' => ∃ v', e = .returned v' ∧ OwnB w' v' (bs ++ Pl.vint n.toNat) ∧ Kp (Of v) w w' ∧ Sep w v v' := by
  go_enter Tryz.func97, Tryz.ntmps97
  go_wp2
  go_loopw [0, 1] (fun t i wr => ∃ (m : Nat) (done : List UInt8), i = .int .i64 m ∧ m ≤ 1099511627775 ∧ done ++ Pl.vint m = Pl.vint n.toNat ∧ OwnB wr t (bs ++ done) ∧ Kp (Of v) w wr ∧ Sep w v t) (fun _ i _ => (intOf i).toNat)
  case atStart => exact ⟨n.toNat, [], by rw [Int.toNat_of_nonneg h0], by omega, rfl, by simpa using hown, Kp.refl _ _, Sep.refl _ _⟩
  case round =>
    obtain ⟨m, done, rfl, hm, hdone, hown', hk, hs⟩ := hrel
    have hlen := Pl.vint_len 5 n.toNat (by simp; omega)
    have hlen2 : done.length + (Pl.vint m).length ≤ 6 := by rw [← hdone] at hlen; simpa using hlen
    have HD : Hid (done ++ Pl.vint m = Pl.vint n.toNat) := hdone
    clear hdone hlen
    by_cases h128 : 128 ≤ m
    · go_wp2_with (at_builtin; go_must (refine wpList_append_b _ rfl _ _ 76 rfl _ _ rfl (own_alloc hown' _) _ rfl 1 [UInt8.ofNat (m % 128 + 128)] (src_one _ _ _ (byte_eq _ (by omega) (by omega))) (by simp; omega) ?_); intro v1 w1 o1 k1 s1)
      go_roundw
      case rel => exact ⟨m / 128, done ++ [UInt8.ofNat (m % 128 + 128)], by go_num, by omega, by rw [← HD.out, Pl.vint_ge m h128]; simp, by simpa using o1, kp_alloc_then hk hs k1, sep_alloc_then hk hs s1⟩
      case measure => simp [intOf]; omega
    · go_wp2_with (at_builtin; go_must (refine wpList_append_b _ rfl _ _ 76 rfl _ _ rfl (own_alloc hown' _) _ rfl 1 [UInt8.ofNat m] (src_one _ _ _ (byte_eq _ (by omega) (by omega))) (by simp; omega) ?_); intro v1 w1 o1 k1 s1)
      go_ret
      exact ⟨_, rfl, by rw [← HD.out, Pl.vint_lt m (by omega)]; simpa using o1, kp_alloc_then hk hs k1, sep_alloc_then hk hs s1⟩

theorem OwnB.atBlock {w : World} {v : Value} {bs : List UInt8} (h : OwnB w v bs) (hne : 0 < bs.length) : ∃ g cap, v = .slice (some ⟨g, 0, none⟩) bs.length cap ∧ bs.length ≤ cap ∧ cap ≤ maxLen ∧ g < w.heap.size ∧
    (∀ j, j < bs.length → w.cell? ⟨g, j, none⟩ = some (.int .u8 ((bs.getD j 0).toNat))) := by
  rcases h with ⟨rfl, rfl⟩ | ⟨g, cap, rfl, h1, h2, h3, h4, _⟩
  · simp at hne
  · refine ⟨g, cap, rfl, h1, h2, h3, fun j hj => ?_⟩
    rw [h4 j hj]
    simp [B, List.getElem?_eq_getElem hj]

theorem xor_u32 (a b : Nat) (ha : a < 4294967296) (hb : b < 4294967296) : bits .xor .u32 (a : Int) (b : Int) = ((a ^^^ b : Nat) : Int) := by
  have hx : a ^^^ b < 2 ^ 32 := Nat.xor_lt_two_pow (by omega) (by omega)
  have h1 : (BitVec.ofInt 32 (a : Int)).toNat = a := by
    rw [BitVec.ofInt_natCast, BitVec.toNat_ofNat]; exact Nat.mod_eq_of_lt (by omega)
  have h2 : (BitVec.ofInt 32 (b : Int)).toNat = b := by
    rw [BitVec.ofInt_natCast, BitVec.toNat_ofNat]; exact Nat.mod_eq_of_lt (by omega)
  show IntKind.u32.wrap ((BitVec.ofInt 32 (a : Int) ^^^ BitVec.ofInt 32 (b : Int)).toNat : Int) = _
  rw [BitVec.toNat_xor, h1, h2]
  simp only [IntKind.wrap, IntKind.bits, IntKind.signed]
  simp
  omega

theorem sum_step (h : Nat) (b : UInt8) (hh : h < 4294967296) : bits .xor .u32 (h : Int) ((b.toNat : Int) % 4294967296) * 16777619 % 4294967296 = (Pl.sumStep h b : Nat) := by
  have hb := b.toNat_lt
  rw [show ((b.toNat : Int) % 4294967296) = ((b.toNat : Nat) : Int) by omega, xor_u32 _ _ hh (by omega)]
  unfold Pl.sumStep
  omega

theorem sum_take (bs : List UInt8) (k : Nat) (hk : k < bs.length) : Pl.sumOf (bs.take (k + 1)) = Pl.sumStep (Pl.sumOf (bs.take k)) bs[k] := by
  unfold Pl.sumOf
  rw [List.take_succ_eq_append_getElem hk, Pl.sumFrom_snoc]

set_option maxRecDepth 20000 in
set_option maxHeartbeats 400000 in
theorem sumOf_any (w : World) (v : Value) (bs : List UInt8) (hown : OwnB w v bs) (hne : 0 < bs.length) (hb : bs.length ≤ 10000) :
    Calls Tryz.prog 153 #[v] w fun e w' => e = .returned (.int .u32 (Pl.sumOf bs)) ∧ w' = w := by
  obtain ⟨g, cap, rfl, h1, h2, h3, hc⟩ := hown.atBlock hne
  clear hown
  go_enter Tryz.func153, Tryz.ntmps153
  go_wp2
  go_loop [3, 8] (fun t i => ∃ k : Nat, k ≤ bs.length ∧ i = .int .i64 k ∧ t = .int .u32 (Pl.sumOf (bs.take k))) (fun _ i => bs.length - (intOf i).toNat)
  case atStart => exact ⟨0, Nat.zero_le _, rfl, rfl⟩
  case round =>
    obtain ⟨k, hk, rfl, rfl⟩ := hrel
    have hlt := Pl.sumOf_lt (bs.take k)
    by_cases hkl : k < bs.length
    · have hck := hc k hkl
      go_wp2_with fail
      go_round
      case rel =>
        refine ⟨k + 1, by omega, by go_num, ?_⟩
        rw [sum_take bs k hkl, ← sum_step _ _ hlt]
      case measure => simp [intOf]; omega
    · go_wp2_with fail
      go_ret
      rw [List.take_of_length_le (by omega)]
      exact ⟨rfl, rfl⟩

set_option maxRecDepth 20000 in
set_option maxHeartbeats 400000 in
theorem appendPair_any (w : World) (v : Value) (bs : List UInt8) (n : Nat) (hown : OwnB w v bs) (h1 : n < 65536) (hb : bs.length ≤ 10000) :
    Calls Tryz.prog 115 #[v, .int .i64 n] w fun e w' => ∃ v', e = .returned v' ∧ OwnB w' v' (bs ++ [UInt8.ofNat (n / 256), UInt8.ofNat (n % 256)]) ∧ Kp (Of v) w w' ∧ Sep w v v' := by
  go_enter Tryz.func115, Tryz.ntmps115
  go_wp2_with (at_builtin; go_must (refine wpList_append_b _ rfl _ _ 76 rfl _ _ rfl (own_alloc hown _) _ rfl 2 [UInt8.ofNat (n / 256), UInt8.ofNat (n % 256)] (src_arr _ _ _ _ rfl (pair_bytes n h1)) (by omega) ?_); intro v1 w1 o1 k1 s1)
  go_ret
  exact ⟨_, rfl, o1, kp_alloc_then (Kp.refl _ _) (Sep.refl _ _) k1, sep_alloc_then (v := v) (Kp.refl _ _) (Sep.refl _ _) s1⟩

set_option maxRecDepth 20000 in
set_option maxHeartbeats 400000 in
theorem appendSum_any (w : World) (v d : Value) (bs ds : List UInt8) (hown : OwnB w v bs) (hd : OwnB w d ds) (hne : 0 < ds.length) (hb : bs.length ≤ 10000) (hb2 : ds.length ≤ 10000) :
    Calls Tryz.prog 138 #[v, d] w fun e w' => ∃ v', e = .returned v' ∧ OwnB w' v' (bs ++ Pl.sum4 ds) ∧ Kp (Of v) w w' ∧ Sep w v v' := by
  go_enter Tryz.func138, Tryz.ntmps138
  go_wp2_with (first | (go_at_call 153; refine (sumOf_any _ _ _ hd hne hb2).mono ?_; rintro e w' ⟨rfl, rfl⟩) | (at_builtin; go_must (refine wpList_append_b _ rfl _ _ 76 rfl _ _ rfl (own_alloc hown _) _ rfl 4 (Pl.sum4 ds) (src_arr _ _ _ _ rfl (sum_bytes ds)) (by omega) ?_); intro v1 w1 o1 k1 s1))
  go_ret
  exact ⟨_, rfl, o1, kp_alloc_then (Kp.refl _ _) (Sep.refl _ _) k1, sep_alloc_then (v := v) (Kp.refl _ _) (Sep.refl _ _) s1⟩
end Go.Proofs.YthicgffppmbamaaGreat

namespace Go.Proofs.YthicgffppmbamaaGreat
open Go.RowKit

theorem kp_then {w wr w1 : World} {v t : Value} (h : Kp (Of v) w wr) (hs : Sep w v t) (k : Kp (Of t) wr w1) : Kp (Of v) w w1 :=
  h.then k (fun i hi e => by
    rcases hs with hs | ⟨g, h1, h2⟩
    · show v.ownBlock = some i
      rw [← hs]; exact e
    · have e' : t.ownBlock = some i := e
      rw [h1] at e'
      simp at e'
      omega)
theorem Pl_plain_take (xs : List Int) (k : Nat) (h : k < xs.length) : Pl.plain (xs.take (k + 1)) = Pl.plain (xs.take k) ++ Pl.vint xs[k].toNat := by
  rw [List.take_succ_eq_append_getElem h, Pl.plain_snoc]
theorem plain_len (xs : List Int) (h : ∀ x ∈ xs, 0 ≤ x ∧ x ≤ 1099511627775) : (Pl.plain xs).length ≤ 6 * xs.length := by
  induction xs with
  | nil => simp [Pl.plain]
  | cons x r ih =>
    have h1 := Pl.vint_len 5 x.toNat (by have := h x (by simp); simp; omega)
    have h2 := ih (fun y hy => h y (by simp [hy]))
    simp only [Pl.plain, List.flatMap_cons, List.length_append, List.length_cons] at *
    omega

set_option maxRecDepth 20000 in
set_option maxHeartbeats 400000 in
theorem writePlain_any (B0 : Nat) (w : World) (v pg : Value) (xs : List Int) (bs : List UInt8) (hr : RdI B0 w v xs) (hown : OwnB w pg bs) (hpg : ∀ g, pg.ownBlock = some g → B0 ≤ g) (hx : ∀ x ∈ xs, 0 ≤ x ∧ x ≤ 1099511627775) (hl : xs.length ≤ 20) (hb : bs.length ≤ 100) :
    Calls Tryz.prog 154 #[v, pg] w fun e w' => ∃ v', e = .returned (.tuple #[v', .bool true]) ∧ OwnB w' v' (bs ++ Pl.plain xs) ∧ Kp (Of pg) w w' ∧ Sep w pg v' := by
  have hr0 := hr
  obtain ⟨ao, cap, rfl, h1, h2, h3⟩ := RdI.open hr
  clear h3 hr
  go_enter Tryz.func154, Tryz.ntmps154
  go_wp2
  go_loopw [1, 10] (fun t i wr => ∃ k : Nat, k ≤ xs.length ∧ i = .int .i64 k ∧ OwnB wr t (bs ++ Pl.plain (xs.take k)) ∧ Kp (Of pg) w wr ∧ Sep w pg t) (fun _ i _ => xs.length - (intOf i).toNat)
  case atStart => exact ⟨0, Nat.zero_le _, rfl, by simpa [Pl.plain] using hown, Kp.refl _ _, Sep.refl _ _⟩
  case round =>
    obtain ⟨k, hk, rfl, hown', hkp, hs⟩ := hrel
    have hpl := plain_len (xs.take k) (fun x hx' => hx x (List.mem_of_mem_take hx'))
    by_cases hkl : k < xs.length
    · obtain ⟨ao', cap', he, _, _, h3⟩ := RdI.open (hr0.kept hkp (fun i e => hpg i e))
      cases he
      obtain ⟨b, off, rfl, hb0, hc⟩ := h3 (by omega)
      have hck := hc k hkl
      have hxk := hx xs[k] (List.getElem_mem hkl)
      clear hc h3 hr0 hx
      simp only [List.length_take] at hpl
      go_wp2_with (go_at_call 97; go_must (refine (appendVarint_any _ _ _ _ hown' (by omega) (by omega) (by simp; omega)).mono ?_); rintro e w1 ⟨v1, rfl, o1, k1, s1⟩)
      go_roundw
      case rel => exact ⟨k + 1, by omega, by go_num, by rw [Pl_plain_take xs k hkl, ← List.append_assoc]; exact o1, kp_then hkp hs k1, hs.trans hkp.size s1⟩
      case measure => simp [intOf]; omega
    · go_wp2_with fail
      go_ret2
      exact ⟨_, rfl, by rw [List.take_of_length_le (by omega)] at hown'; exact hown', hkp, hs⟩

theorem runLen_is (x : Int) : ∀ (xs : List Int) (k : Nat), (∀ j, j < k → xs.getD j 0 = x) → k ≤ xs.length → (∀ _ : k < xs.length, xs.getD k 0 ≠ x) → Pl.runLen x xs = k := by
  intro xs
  induction xs with
  | nil => intro k _ h2 _; simp at h2; simp [Pl.runLen, h2]
  | cons y r ih =>
    intro k h1 h2 h3
    cases k with
    | zero => have := h3 (by simp); simp at this; simp [Pl.runLen, this]
    | succ k =>
      have h0 := h1 0 (by omega)
      simp at h0
      simp only [Pl.runLen, h0, if_true]
      rw [ih k (fun j hj => by have := h1 (j + 1) (by omega); simpa using this) (by simp at h2; omega) (fun hk => by have := h3 (by simp; omega); simpa using this)]

set_option maxRecDepth 20000 in
set_option maxHeartbeats 400000 in
theorem firstRun_any (B0 : Nat) (w : World) (v : Value) (xs : List Int) (hr : RdI B0 w v xs) (_hl : xs.length ≤ 20) (hp : 0 < xs.length) :
    Calls Tryz.prog 171 #[v] w fun e w' => e = .returned (.int .i64 (Pl.runLen (xs.getD 0 0) xs)) ∧ w' = w := by
  obtain ⟨ao, cap, rfl, h1, h2, h3⟩ := RdI.open hr
  obtain ⟨b, off, rfl, hb, hc⟩ := h3 hp
  clear h3 hr
  have hc0 := hc 0 hp
  simp only [Nat.add_zero] at hc0
  generalize hx : xs.getD 0 0 = x at *
  have HX := hide hx
  clear hx
  go_enter Tryz.func171, Tryz.ntmps171
  go_wp2
  go_loop [7] (fun i => ∃ k : Nat, k ≤ xs.length ∧ i = .int .i64 k ∧ Hid (∀ j, j < k → xs.getD j 0 = x)) (fun i => xs.length - (intOf i).toNat)
  case atStart => exact ⟨0, Nat.zero_le _, rfl, fun j hj => absurd hj (by omega)⟩
  case round =>
    obtain ⟨k, hk, rfl, hall⟩ := hrel
    by_cases hkl : k < xs.length
    · have hck := hc k hkl
      generalize hy : xs.getD k 0 = y at *
      have HY := hide hy
      clear hy hc
      by_cases hxy : y = x
      · have hn : (y != x) = false := by simp [hxy]
        have HXY := hide hxy
        clear hxy
        go_wp2_with fail
        go_round
        case rel => exact ⟨k + 1, by omega, by go_num, fun j hj => by
          by_cases e : j = k
          · subst e; rw [unhide HY, unhide HXY]
          · exact hall.out j (by omega)⟩
        case measure => simp [intOf]; omega
      · have hn : (y != x) = true := by simp [hxy]
        have HXY := hide hxy
        clear hxy
        go_wp2_with fail
        go_ret
        refine ⟨?_, rfl⟩
        rw [runLen_is x xs k hall.out (by omega) (fun _ => by rw [unhide HY]; exact unhide HXY)]
        rfl
    · go_wp2_with fail
      go_ret
      refine ⟨?_, rfl⟩
      rw [runLen_is x xs xs.length (fun j hj => hall.out j (by omega)) (by omega) (fun h => absurd h (by omega))]
      rfl

set_option maxRecDepth 20000 in
set_option maxHeartbeats 400000 in
theorem writeRuns_any (B0 : Nat) (w : World) (v pg : Value) (xs : List Int) (bs : List UInt8) (hr : RdI B0 w v xs) (hown : OwnB w pg bs) (hpg : ∀ g, pg.ownBlock = some g → B0 ≤ g) (hx : ∀ x ∈ xs, 0 ≤ x ∧ x ≤ 1099511627775) (hl : xs.length ≤ 20) (hb : bs.length ≤ 100) :
    Calls Tryz.prog 156 #[v, pg] w fun e w' => ∃ v', e = .returned (.tuple #[v', .bool true]) ∧ OwnB w' v' (bs ++ Pl.runs xs) ∧ Kp (Of pg) w w' ∧ Sep w pg v' := by
  go_enter Tryz.func156, Tryz.ntmps156
  go_wp2
  go_loopw [0, 1] (fun a t wr => ∃ (ys : List Int) (done : List UInt8), RdI B0 w a ys ∧ (∀ x ∈ ys, 0 ≤ x ∧ x ≤ 1099511627775) ∧ ys.length ≤ 20 ∧ done.length + 8 * ys.length ≤ 1000 ∧ Hid (done ++ Pl.runs ys = bs ++ Pl.runs xs) ∧ OwnB wr t done ∧ Kp (Of pg) w wr ∧ Sep w pg t) (fun a _ _ => (match a with | .slice _ n _ => n | _ => 0))
  case atStart => exact ⟨xs, bs, hr, hx, hl, by omega, rfl, hown, Kp.refl _ _, Sep.refl _ _⟩
  case round =>
    obtain ⟨ys, done, hry, hy, hyl, hdl, HD, hown', hkp, hs⟩ := hrel
    obtain ⟨ao, cap, rfl, h1, h2, h3⟩ := RdI.open hry
    by_cases hkl : 0 < ys.length
    · obtain ⟨b, off, rfl, hb0, hc⟩ := h3 hkl
      have hrw := hry.kept hkp (fun i e => hpg i e)
      obtain ⟨x0, r, rfl⟩ : ∃ x0 r, ys = x0 :: r := by cases ys with
        | nil => simp at hkl
        | cons x0 r => exact ⟨x0, r, rfl⟩
      have hx0 := hy x0 (by simp)
      have hc0 := hc 0 hkl
      simp only [Nat.add_zero, List.getD_cons_zero] at hc0
      have hq1 : 1 ≤ Pl.runLen x0 (x0 :: r) := by simp [Pl.runLen]
      have hq2 := Pl.runLen_le x0 (x0 :: r)
      have hq3 : Pl.runLen x0 (x0 :: r) = Pl.runLen x0 r + 1 := by simp [Pl.runLen]
      generalize hL : (x0 :: r).length = L at *
      generalize hq : Pl.runLen x0 (x0 :: r) = q at *
      have HL := hide hL
      have HQ := hide hq3
      have HQ0 := hide hq
      clear hL hq hq3 hc h3
      have hlq := Pl.vint_len 0 q (by omega)
      have hlx := Pl.vint_len 5 x0.toNat (by simp; omega)
      go_wp2_with fail
      have hfr := firstRun_any B0 wr _ _ hrw (by rw [HL.out]; exact hyl) (by rw [HL.out]; exact hkl)
      rw [show Pl.runLen ((x0 :: r).getD 0 0) (x0 :: r) = q from HQ0.out] at hfr
      refine hfr.mono ?_
      clear hfr
      rintro e w1 ⟨rfl, rfl⟩
      go_wp2_with fail
      refine (appendVarint_any _ _ _ (q : Int) hown' (by omega) (by omega) (by omega)).mono ?_
      rintro e w2 ⟨v2, rfl, o2, k2, s2⟩
      have hkp2 := kp_then hkp hs k2
      have hs2 := hs.trans hkp.size s2
      have hc2 := hkp2.cell hc0 (fun e => by have := hpg _ e; simp at this; omega)
      go_wp2_with fail
      refine (appendVarint_any _ _ _ x0 o2 (by omega) (by omega) (by simp; omega)).mono ?_
      rintro e w3 ⟨v3, rfl, o3, k3, s3⟩
      have hkp3 := kp_then hkp2 hs2 k3
      have hs3 := hs2.trans hkp2.size s3
      go_wp2_with fail
      have hdrop : RdI B0 w (Value.slice (if cap = q then some { block := b, off := off } else some { block := b, off := off + q }) (L - q) (cap - q)) ((x0 :: r).drop q) := by
        have := Rd.drop hry (q := q) (by rw [List.length_map, HL.out]) (by omega)
        rw [← List.map_drop] at this
        exact this
      have hLq : ((x0 :: r).drop q).length = L - q := by rw [List.length_drop, HL.out]
      refine ⟨⟨(x0 :: r).drop q, done ++ Pl.vint q ++ Pl.vint x0.toNat, hdrop, fun x hx => hy x (List.mem_of_mem_drop hx), by omega, ?_, ?_, ?_, hkp3, hs3⟩, ?_⟩
      · simp only [List.length_append]; omega
      · have := HD.out
        rw [Pl.runs_cons, ← HQ.out] at this
        show done ++ Pl.vint q ++ Pl.vint x0.toNat ++ Pl.runs ((x0 :: r).drop q) = bs ++ Pl.runs xs
        rw [← this, show (x0 :: r).drop q = r.drop (Pl.runLen x0 r) by rw [HQ.out]; rfl]
        simp
      · simpa using o3
      · simp; omega
    · go_wp2_with fail
      go_ret2
      obtain rfl : ys = [] := List.eq_nil_of_length_eq_zero (by omega)
      exact ⟨_, rfl, by rw [← HD.out, Pl.runs_nil, List.append_nil]; exact hown', hkp, hs⟩

set_option maxRecDepth 20000 in
set_option maxHeartbeats 400000 in
theorem writeRising_any (B0 : Nat) (w : World) (v pg : Value) (xs : List Int) (bs : List UInt8) (hr : RdI B0 w v xs) (hown : OwnB w pg bs) (hpg : ∀ g, pg.ownBlock = some g → B0 ≤ g) (hx : ∀ x ∈ xs, 0 ≤ x ∧ x ≤ 1099511627775) (hl : xs.length ≤ 20) (hb : bs.length ≤ 100) :
    Calls Tryz.prog 158 #[v, pg] w fun e w' => ∃ v', e = .returned (.tuple #[v', .bool (Pl.rises 0 xs)]) ∧ (Pl.rises 0 xs = true → OwnB w' v' (bs ++ Pl.rising 0 xs) ∧ Sep w pg v') ∧ (Pl.rises 0 xs = false → v' = .slice none 0 0) ∧ Kp (Of pg) w w' := by
  have hr0 := hr
  obtain ⟨ao, cap, rfl, h1, h2, h3⟩ := RdI.open hr
  clear h3 hr
  go_enter Tryz.func158, Tryz.ntmps158
  go_wp2
  go_loopw [1, 6, 11] (fun t p i wr => ∃ (k : Nat) (a : Int) (done : List UInt8), k ≤ xs.length ∧ i = .int .i64 k ∧ p = .int .i64 a ∧ 0 ≤ a ∧ a ≤ 1099511627775 ∧ done.length ≤ 100 + 6 * k ∧ Hid (Pl.rises 0 xs = Pl.rises a (xs.drop k)) ∧ Hid (done ++ Pl.rising a (xs.drop k) = bs ++ Pl.rising 0 xs) ∧ OwnB wr t done ∧ Kp (Of pg) w wr ∧ Sep w pg t) (fun _ _ i _ => xs.length - (intOf i).toNat)
  case atStart => exact ⟨0, 0, bs, Nat.zero_le _, rfl, rfl, by omega, by omega, by omega, rfl, rfl, hown, Kp.refl _ _, Sep.refl _ _⟩
  case round =>
    obtain ⟨k, a, done, hk, rfl, rfl, ha0, ha1, hdl, HR, HD, hown', hkp, hs⟩ := hrel
    by_cases hkl : k < xs.length
    · obtain ⟨ao', cap', he, _, _, h3⟩ := RdI.open (hr0.kept hkp (fun i e => hpg i e))
      cases he
      obtain ⟨b, off, rfl, hb0, hc⟩ := h3 (by omega)
      have hck := hc k hkl
      rw [show xs.getD k 0 = xs[k] by simp [hkl]] at hck
      have hxk := hx xs[k] (List.getElem_mem hkl)
      have hdr : xs.drop k = xs[k] :: xs.drop (k + 1) := List.drop_eq_getElem_cons hkl
      rw [hdr] at HR HD
      clear hdr
      generalize xs[k] = x at *
      clear hc h3 hr0 hx
      by_cases hlt : x < a
      · go_wp2_with fail
        go_ret2
        have e : Pl.rises 0 xs = false := by rw [HR.out]; simp [Pl.rises]; omega
        rw [e]
        exact ⟨_, rfl, (fun h => by cases h), fun _ => rfl, hkp⟩
      · have hlv := Pl.vint_len 5 (x - a).toNat (by simp; omega)
        go_wp2_with (go_at_call 97; go_must (refine (appendVarint_any _ _ _ _ hown' (by omega) (by omega) (by omega)).mono ?_); rintro e w1 ⟨v1, rfl, o1, k1, s1⟩)
        go_roundw
        case rel => exact ⟨k + 1, x, done ++ Pl.vint (x - a).toNat, by omega, by go_num, rfl, by omega, by omega, by simp only [List.length_append]; omega, by
            show _ = _
            rw [HR.out]; simp only [Pl.rises]; rw [decide_eq_true (by omega : a ≤ x)]; rfl, by
            show _ = _
            rw [← HD.out]; simp [Pl.rising], o1, kp_then hkp hs k1, hs.trans hkp.size s1⟩
        case measure => simp [intOf]; omega
    · go_wp2_with fail
      go_ret2
      have hdr : xs.drop k = [] := List.drop_eq_nil_of_le (by omega)
      rw [hdr] at HR HD
      have e : Pl.rises 0 xs = true := HR.out
      rw [e]
      exact ⟨_, rfl, fun _ => ⟨by rw [← HD.out]; simpa [Pl.rising] using hown', hs⟩, (fun h => by cases h), hkp⟩
end Go.Proofs.YthicgffppmbamaaGreat

namespace Go.Proofs.YthicgffppmbamaaGreat
open Go.RowKit

abbrev F (n : Nat) : Value := .func (.func n) #[] #[]
abbrev waysV : Value := .agg #[F 154, F 155, F 156, F 157, F 158, F 159]
set_option maxRecDepth 20000 in
set_option maxHeartbeats 400000 in
theorem ways_any (w : World) : Calls Tryz.prog 139 #[] w fun e w' => e = .returned waysV ∧ Ext w w' := by
  go_enter Tryz.func139, Tryz.ntmps139
  go_wp2
  refine bodyPost_ret (v := waysV) (by simp [results, Tryz.results139, go_sem]) rfl ⟨rfl, ?_⟩
  exact Kp.alloc (Kp.refl _ _) _

/-- bytes laid in a new block are a row of one's own -/
theorem own_built (w : World) (arr : Array Value) (n : Nat) (cur : List UInt8) (hn : n = cur.length) (h : arr = (cur.map B).toArray) (hm : n ≤ 1000000) : OwnB (w.alloc (.cells arr 5)) (.slice (some ⟨w.heap.size, 0, none⟩) n n) cur := by
  subst hn
  subst h
  refine .inr ⟨w.heap.size, cur.length, rfl, Nat.le_refl _, by unfold maxLen; omega, by simp, fun j hj => ?_, fun j hj => ⟨?_, ?_⟩⟩
  · rw [World.cell?_alloc_new, List.getElem?_toArray]
  · rw [World.cell?_alloc_new, List.getElem?_toArray, List.getElem?_eq_getElem (by simpa using hj)]; rfl
  · exact World.frozen?_alloc_new w _ _ j

/-- the best of the first k kinds -/
def bestOf (xs : List Int) : Nat → List UInt8
  | 0 => []
  | 1 => (0 : UInt8) :: Pl.plain xs
  | 2 => if ((1 : UInt8) :: Pl.runs xs).length < ((0 : UInt8) :: Pl.plain xs).length then (1 : UInt8) :: Pl.runs xs else (0 : UInt8) :: Pl.plain xs
  | _ => Pl.page xs

theorem runs_len (f : Nat) : ∀ (l : List Int), l.length ≤ f → l.length ≤ 20 → (∀ x ∈ l, 0 ≤ x ∧ x ≤ 1099511627775) → (Pl.runs l).length ≤ 7 * l.length := by
  induction f with
  | zero => intro l h _ _; rw [List.eq_nil_of_length_eq_zero (by omega : l.length = 0), Pl.runs_nil]; simp
  | succ f ih =>
    intro l h h20 hx
    cases l with
    | nil => rw [Pl.runs_nil]; simp
    | cons x r =>
      rw [Pl.runs_cons]
      have h1 := Pl.runLen_le x r
      have h2 := Pl.vint_len 0 (Pl.runLen x r + 1) (by simp at h20 ⊢; omega)
      have h3 := Pl.vint_len 5 x.toNat (by have := hx x (by simp); simp; omega)
      have h4 := ih (r.drop (Pl.runLen x r)) (by simp at *; omega) (by simp at *; omega) (fun y hy => hx y (by simp [List.mem_of_mem_drop hy]))
      simp only [List.length_append, List.length_drop, List.length_cons] at *
      omega
theorem rising_len (l : List Int) : ∀ a, 0 ≤ a → (∀ x ∈ l, 0 ≤ x ∧ x ≤ 1099511627775) → (Pl.rising a l).length ≤ 6 * l.length := by
  induction l with
  | nil => intro a _ _; simp [Pl.rising]
  | cons x r ih =>
    intro a ha hx
    have hx0 := hx x (by simp)
    have h1 := Pl.vint_len 5 (x - a).toNat (by simp; omega)
    have h2 := ih x hx0.1 (fun y hy => hx y (by simp [hy]))
    simp only [Pl.rising, List.length_append, List.length_cons]
    omega
theorem page_len (xs : List Int) (hl : xs.length ≤ 20) (hx : ∀ x ∈ xs, 0 ≤ x ∧ x ≤ 1099511627775) : (Pl.page xs).length ≤ 141 ∧ 1 ≤ (Pl.page xs).length := by
  have h0 := plain_len xs hx
  have h1 := runs_len _ xs (Nat.le_refl _) hl hx
  have h2 := rising_len xs 0 (by omega) hx
  unfold Pl.page
  simp only
  repeat' split
  all_goals simp only [List.length_cons]
  all_goals omega
theorem bestOf_len (xs : List Int) (k : Nat) (hk : 1 ≤ k) (hl : xs.length ≤ 20) (hx : ∀ x ∈ xs, 0 ≤ x ∧ x ≤ 1099511627775) : (bestOf xs k).length ≤ 141 ∧ 1 ≤ (bestOf xs k).length := by
  have h0 := plain_len xs hx
  have h1 := runs_len _ xs (Nat.le_refl _) hl hx
  match k, hk with
  | 1, _ => simp only [bestOf, List.length_cons]; omega
  | 2, _ => simp only [bestOf]; split <;> simp only [List.length_cons] <;> omega
  | k + 3, _ => exact page_len xs hl hx

theorem OwnB.block {w : World} {v : Value} {b : UInt8} {bs : List UInt8} (h : OwnB w v ([b] ++ bs)) : ∃ g, v.ownBlock = some g := by
  obtain ⟨g, cap, rfl, -⟩ := h.atBlock (by simp)
  exact ⟨g, rfl⟩
theorem after_kind {w wr w1 : World} {v1 : Value} {o : Obj} (hext : Ext w wr) (k1 : Kp (Of (.slice (some ⟨wr.heap.size, 0, none⟩) 1 1)) (wr.alloc o) w1) (s1 : Sep (wr.alloc o) (.slice (some ⟨wr.heap.size, 0, none⟩) 1 1) v1) (_hg : ∃ g, v1.ownBlock = some g) :
    Ext w w1 ∧ ∃ g, v1.ownBlock = some g ∧ w.heap.size ≤ g := by
  have hz := hext.size
  refine ⟨(hext.alloc o).then k1 (fun i hi e => ?_), ?_⟩
  · have e' : some wr.heap.size = some i := e
    simp at e'
    omega
  · rcases s1 with s | ⟨g, h1, h2⟩
    · exact ⟨wr.heap.size, s, hz⟩
    · exact ⟨g, h1, by simp at h2; omega⟩

theorem eql_nil (t e : TypeId) (h : Tryz.prog.underlying t = some (.slice e)) (u : World) : (binOp .eql t (.slice none 0 0) (.slice none 0 0)).run Tryz.prog u = .ok (.bool true) u := by
  have h1 : ∀ d, (Op.equalIn (d + 1) t (.slice none 0 0) (.slice none 0 0)).run Tryz.prog u = .ok true u := fun d => by simp [Op.equalIn, run_underlying h]
  simp only [binOp]
  simp [Op.equal, Op.maxDepth, h1 9999]
theorem eql_some (t e : TypeId) (h : Tryz.prog.underlying t = some (.slice e)) (u : World) (a : Addr) (l c : Nat) : (binOp .eql t (.slice (some a) l c) (.slice none 0 0)).run Tryz.prog u = .ok (.bool false) u := by
  have h1 : ∀ d, (Op.equalIn (d + 1) t (.slice (some a) l c) (.slice none 0 0)).run Tryz.prog u = .ok false u := fun d => by simp [Op.equalIn, run_underlying h]
  simp only [binOp]
  simp [Op.equal, Op.maxDepth, h1 9999]

theorem index_kind (u : World) (k : Nat) (f g : Value) (hk : k < 3) (hf : #[F 154, F 156, F 158][k]? = some f) (hg : #[F 155, F 157, F 159][k]? = some g) :
    (Instr.index 220 waysV (.int .i64 k)).run Tryz.prog u = .ok (.agg #[f, g]) u := by
  have h3 : k = 0 ∨ k = 1 ∨ k = 2 := by omega
  rcases h3 with rfl | rfl | rfl
  all_goals
    simp at hf hg
    subst hf
    subst hg
    simp [Instr.index, run_underlying Tryz.underlying220, go_sem]

set_option maxRecDepth 20000 in
set_option maxHeartbeats 1000000 in
theorem pageWrite_any (B0 : Nat) (w : World) (v : Value) (xs : List Int) (hr : RdI B0 w v xs) (hB : B0 ≤ w.heap.size) (hx : ∀ x ∈ xs, 0 ≤ x ∧ x ≤ 1099511627775) (hl : xs.length ≤ 20) :
    Calls Tryz.prog 114 #[v] w fun e w' => ∃ v', e = .returned v' ∧ OwnB w' v' (Pl.page xs) ∧ (∃ g, v'.ownBlock = some g ∧ w.heap.size ≤ g) ∧ Ext w w' := by
  go_enter Tryz.func114, Tryz.ntmps114
  go_wp2_with (go_at_call 139; refine (ways_any _).mono ?_; rintro e w0 ⟨rfl, x0⟩)
  go_loopw [3, 9] (fun t i wr => ∃ k : Nat, k ≤ 3 ∧ i = .int .i64 k ∧ Ext w wr ∧ ((k = 0 ∧ t = .slice none 0 0) ∨ (1 ≤ k ∧ OwnB wr t (bestOf xs k) ∧ ∃ g, t.ownBlock = some g ∧ w.heap.size ≤ g))) (fun _ i _ => 3 - (intOf i).toNat)
  case atStart => exact ⟨0, by omega, rfl, x0, .inl ⟨rfl, rfl⟩⟩
  case round =>
    obtain ⟨k, hk, rfl, hext, hb⟩ := hrel
    have hk4 : k = 0 ∨ k = 1 ∨ k = 2 ∨ k = 3 := by omega
    rcases hk4 with rfl | rfl | rfl | rfl
    · obtain ⟨_, rfl⟩ : (0 : Nat) = 0 ∧ _ := hb.resolve_right (by omega)
      have hi := fun u => index_kind u 0 _ _ (by omega) rfl rfl
      simp only [Int.natCast_zero] at hi
      go_wp2_with fail
      have hxw : Ext wr (wr.alloc (.cells #[F 154, F 155] 219)) := (Kp.refl _ _).alloc _
      have hz0 : (wr.alloc (.cells #[F 154, F 155] 219)).heap.size = wr.heap.size + 1 := by simp
      generalize wr.alloc (.cells #[F 154, F 155] 219) = W0 at *
      rw [← hz0]
      have hzw := hz0
      clear hz0
      replace hext := hext.trans hxw
      refine (writePlain_any B0 _ _ _ xs [0] (hr.kept (hext.alloc _) (fun _ f => f.elim)) (own_built W0 _ 1 [0] rfl rfl (by omega)) (fun g hg => by have := hext.size; simp [Value.ownBlock] at hg; omega) hx hl (by simp)).mono ?_
      rintro e w1 ⟨v1, rfl, o1, k1, s1⟩
      obtain ⟨x1, g1, e1, f1⟩ := after_kind hext k1 s1 o1.block
      obtain ⟨g, cap, rfl, -⟩ := o1.atBlock (by simp)
      have hnn := eql_nil 76 _ Tryz.underlying76
      have hl0 : 0 < ([(0 : UInt8)] ++ Pl.plain xs).length := by simp
      generalize hL : ([(0 : UInt8)] ++ Pl.plain xs).length = L at *
      have HL := hide hL
      clear hL
      go_wp2_with fail
      go_roundw
      case rel => exact ⟨1, by omega, by go_num, x1, .inr ⟨by omega, o1, g1, e1, f1⟩⟩
      case measure => simp [intOf]
    · obtain ⟨_, hob, gb, eb, fb⟩ := hb.resolve_left (by omega)
      have hblen := bestOf_len xs 1 (by omega) hl hx
      obtain ⟨gb', cb, rfl, -⟩ := hob.atBlock (by omega)
      generalize hLb : (bestOf xs 1).length = Lb at *
      have HLb := hide hLb
      clear hLb
      have hi := fun u => index_kind u 1 _ _ (by omega) rfl rfl
      simp only [Int.natCast_one] at hi
      go_wp2_with fail
      have hxw : Ext wr (wr.alloc (.cells #[F 156, F 157] 219)) := (Kp.refl _ _).alloc _
      have hz0 : (wr.alloc (.cells #[F 156, F 157] 219)).heap.size = wr.heap.size + 1 := by simp
      generalize wr.alloc (.cells #[F 156, F 157] 219) = W0 at *
      rw [← hz0]
      have hzw := hz0
      clear hz0
      replace hext := hext.trans hxw
      replace hob := hob.ext hxw
      refine (writeRuns_any B0 _ _ _ xs [1] (hr.kept (hext.alloc _) (fun _ f => f.elim)) (own_built W0 _ 1 [1] rfl rfl (by omega)) (fun g hg => by have := hext.size; simp [Value.ownBlock] at hg; omega) hx hl (by simp)).mono ?_
      rintro e w1 ⟨v1, rfl, o1, k1, s1⟩
      obtain ⟨x1, g1, e1, f1⟩ := after_kind hext k1 s1 o1.block
      obtain ⟨g, cap, rfl, -⟩ := o1.atBlock (by simp)
      have hnn := eql_some 76 _ Tryz.underlying76
      have hob1 := hob.kept (S := fun k => k = W0.heap.size) (w' := w1) ((Kp.alloc (Kp.refl _ _) _).then k1 (fun i hi e => by have e' : some W0.heap.size = some i := e; simp at e'; omega)) (fun g hg e => by have := hob.lt hg; omega)
      have hl0 : 0 < ([(1 : UInt8)] ++ Pl.runs xs).length := by simp
      generalize hL : ([(1 : UInt8)] ++ Pl.runs xs).length = L at *
      have HL := hide hL
      clear hL
      by_cases hlt : L < Lb
      · go_wp2_with fail
        go_roundw
        case rel => exact ⟨2, by omega, by go_num, x1, .inr ⟨by omega, by
          have : bestOf xs 2 = [1] ++ Pl.runs xs := by simp only [bestOf]; rw [if_pos (by have h1 := HL.out; have h2 := HLb.out; simp only [bestOf] at h2; simp at h1 h2 ⊢; omega)]; rfl
          rw [this]; exact o1, g1, e1, f1⟩⟩
        case measure => simp [intOf]
      · go_wp2_with fail
        go_roundw
        case rel => exact ⟨2, by omega, by go_num, x1, .inr ⟨by omega, by
          have : bestOf xs 2 = bestOf xs 1 := by simp only [bestOf]; rw [if_neg (by have h1 := HL.out; have h2 := HLb.out; simp only [bestOf] at h2; simp at h1 h2 ⊢; omega)]
          rw [this]; exact hob1, gb, eb, fb⟩⟩
        case measure => simp [intOf]
    · obtain ⟨_, hob, gb, eb, fb⟩ := hb.resolve_left (by omega)
      have hblen := bestOf_len xs 2 (by omega) hl hx
      obtain ⟨gb', cb, rfl, -⟩ := hob.atBlock (by omega)
      generalize hLb : (bestOf xs 2).length = Lb at *
      have HLb := hide hLb
      clear hLb
      have hi : ∀ u, (Instr.index 220 waysV (.int .i64 2)).run Tryz.prog u = .ok (.agg #[F 158, F 159]) u := fun u => index_kind u 2 _ _ (by omega) rfl rfl
      skip
      go_wp2_with fail
      have hxw : Ext wr (wr.alloc (.cells #[F 158, F 159] 219)) := (Kp.refl _ _).alloc _
      have hz0 : (wr.alloc (.cells #[F 158, F 159] 219)).heap.size = wr.heap.size + 1 := by simp
      generalize wr.alloc (.cells #[F 158, F 159] 219) = W0 at *
      rw [← hz0]
      have hzw := hz0
      clear hz0
      replace hext := hext.trans hxw
      replace hob := hob.ext hxw
      refine (writeRising_any B0 _ _ _ xs [2] (hr.kept (hext.alloc _) (fun _ f => f.elim)) (own_built W0 _ 1 [2] rfl rfl (by omega)) (fun g hg => by have := hext.size; simp [Value.ownBlock] at hg; omega) hx hl (by simp)).mono ?_
      have hpg : Pl.page xs = if Pl.rises 0 xs = true ∧ ([(2 : UInt8)] ++ Pl.rising 0 xs).length < (bestOf xs 2).length then [2] ++ Pl.rising 0 xs else bestOf xs 2 := rfl
      rintro e w1 ⟨v1, rfl, o1, n1, k1⟩
      have hob1 := hob.kept (S := fun k => k = W0.heap.size) (w' := w1) ((Kp.alloc (Kp.refl _ _) _).then k1 (fun i hi e => by have e' : some W0.heap.size = some i := e; simp at e'; omega)) (fun g hg e => by have := hob.lt hg; omega)
      have x1 : Ext w w1 := (hext.alloc _).then k1 (fun i hi e => by have := hext.size; have e' : some W0.heap.size = some i := e; simp at e'; omega)
      have hnn := eql_some 76 _ Tryz.underlying76
      cases hri : Pl.rises 0 xs with
      | false =>
        obtain rfl := n1 hri
        have HP : Hid (Pl.page xs = bestOf xs 2) := by show _ = _; rw [hpg, hri, if_neg (by simp)]
        clear hpg hri n1 o1
        go_wp2_with fail
        go_roundw
        case rel => exact ⟨3, by omega, by go_num, x1, .inr ⟨by omega, by
          show OwnB _ _ (Pl.page xs)
          rw [HP.out]; exact hob1, gb, eb, fb⟩⟩
        case measure => simp [intOf]
      | true =>
        obtain ⟨o1, s1⟩ := o1 hri
        obtain ⟨_, g1, e1, f1⟩ := after_kind hext k1 s1 o1.block
        obtain ⟨g, cap, rfl, -⟩ := o1.atBlock (by simp)
        have hl0 : 0 < ([(2 : UInt8)] ++ Pl.rising 0 xs).length := by simp
        rw [hri] at hpg
        generalize hL : ([(2 : UInt8)] ++ Pl.rising 0 xs).length = L at *
        rw [HLb.out] at hpg
        have HP := hide hpg
        clear hL hpg hri n1
        by_cases hlt : L < Lb
        · go_wp2_with fail
          go_roundw
          case rel => exact ⟨3, by omega, by go_num, x1, .inr ⟨by omega, by
            show OwnB _ _ (Pl.page xs)
            rw [HP.out, if_pos ⟨trivial, hlt⟩]; exact o1, g1, e1, f1⟩⟩
          case measure => simp [intOf]
        · go_wp2_with fail
          go_roundw
          case rel => exact ⟨3, by omega, by go_num, x1, .inr ⟨by omega, by
            show OwnB _ _ (Pl.page xs)
            rw [HP.out, if_neg (fun h => hlt h.2)]; exact hob1, gb, eb, fb⟩⟩
          case measure => simp [intOf]
    · obtain ⟨_, hob, gb, eb, fb⟩ := hb.resolve_left (by omega)
      go_wp2_with fail
      go_ret
      exact ⟨_, rfl, hob, ⟨gb, eb, fb⟩, hext⟩
end Go.Proofs.YthicgffppmbamaaGreat

namespace Go.Proofs.YthicgffppmbamaaGreat
open Go.RowKit

/-- A writer at block p: its two rows, of its own, from B on. -/
structure Wr (B p : Nat) (w : World) (pv fv : Value) (ps fs : List UInt8) : Prop where
  hB : B ≤ p
  blk : w.heap[p]? = some (.cells #[pv, fv] 156 (0, 0))
  op : OwnB w pv ps
  of : OwnB w fv fs
  bp : ∀ g, pv.ownBlock = some g → B ≤ g ∧ g ≠ p
  bf : ∀ g, fv.ownBlock = some g → B ≤ g ∧ g ≠ p
  ne : ∀ g, pv.ownBlock = some g → fv.ownBlock ≠ some g

theorem Wr.cell0 {B p : Nat} {w : World} {pv fv : Value} {ps fs : List UInt8} (h : Wr B p w pv fv ps fs) : w.cell? ⟨p, 0, none⟩ = some pv := by simp [World.cell?, h.blk]
theorem Wr.cell1 {B p : Nat} {w : World} {pv fv : Value} {ps fs : List UInt8} (h : Wr B p w pv fv ps fs) : w.cell? ⟨p, 1, none⟩ = some fv := by simp [World.cell?, h.blk]
theorem Wr.free {B p : Nat} {w : World} {pv fv : Value} {ps fs : List UInt8} (h : Wr B p w pv fv ps fs) (j : Nat) : w.frozen? ⟨p, j, none⟩ = false := by simp [World.frozen?, h.blk]

theorem Wr.lt {B p : Nat} {w : World} {pv fv : Value} {ps fs : List UInt8} (h : Wr B p w pv fv ps fs) : p < w.heap.size := lt_of_block h.blk
theorem Wr.kept {S : Nat → Prop} {B p : Nat} {w w' : World} {pv fv : Value} {ps fs : List UInt8} (h : Wr B p w pv fv ps fs) (k : Kp S w w') (hp : ¬ S p) (h1 : ∀ g, pv.ownBlock = some g → ¬ S g) (h2 : ∀ g, fv.ownBlock = some g → ¬ S g) : Wr B p w' pv fv ps fs :=
  ⟨h.hB, by rw [k.block p h.lt hp]; exact h.blk, h.op.kept k h1, h.of.kept k h2, h.bp, h.bf, h.ne⟩
theorem Wr.ext {B p : Nat} {w w' : World} {pv fv : Value} {ps fs : List UInt8} (h : Wr B p w pv fv ps fs) (k : Ext w w') : Wr B p w' pv fv ps fs := h.kept k id (fun _ _ => id) (fun _ _ => id)
theorem ext_drew (w : World) : Ext w w.drew := (Kp.refl _ _).drew
theorem Wr.drew {B p : Nat} {w : World} {pv fv : Value} {ps fs : List UInt8} (h : Wr B p w pv fv ps fs) : Wr B p w.drew pv fv ps fs := h.ext (ext_drew w)
theorem heap_set1 {w : World} {p : Nat} {a b v : Value} {t : TypeId} (h : w.heap[p]? = some (.cells #[a, b] t (0, 0))) : (w.setCell ⟨p, 1, none⟩ v).heap[p]? = some (.cells #[a, v] t (0, 0)) := by
  simp only [World.setCell, Array.getElem?_modify, h]
  simp
theorem heap_set0 {w : World} {p : Nat} {a b v : Value} {t : TypeId} (h : w.heap[p]? = some (.cells #[a, b] t (0, 0))) : (w.setCell ⟨p, 0, none⟩ v).heap[p]? = some (.cells #[v, b] t (0, 0)) := by
  simp only [World.setCell, Array.getElem?_modify, h]
  simp
theorem sep_new {w : World} {v v1 : Value} (s : Sep w v v1) {g : Nat} (hg : v1.ownBlock = some g) : v.ownBlock = some g ∨ w.heap.size ≤ g := by
  rcases s with s | ⟨g', h1, h2⟩
  · exact .inl (s ▸ hg)
  · rw [h1] at hg; simp at hg; exact .inr (by omega)
theorem kp_set (w : World) (p j : Nat) (v : Value) : Kp (fun k => k = p) w (w.setCell ⟨p, j, none⟩ v) := Kp.setCell (S := fun k => k = p) (p := ⟨p, j, none⟩) (Kp.refl _ _) (.inl rfl) v

/-- the footer has grown -/
theorem Wr.growF {B p : Nat} {w w1 : World} {pv fv v1 : Value} {ps fs fs' : List UInt8} (h : Wr B p w pv fv ps fs) (k1 : Kp (Of fv) w w1) (s1 : Sep w fv v1) (o1 : OwnB w1 v1 fs') :
    Wr B p (w1.setCell ⟨p, 1, none⟩ v1) pv v1 ps fs' ∧ Kp (From B) w (w1.setCell ⟨p, 1, none⟩ v1) := by
  have hlt := h.lt
  have hb1 : w1.heap[p]? = some (.cells #[pv, fv] 156 (0, 0)) := by rw [k1.block p hlt (fun e => (h.bf p e).2 rfl)]; exact h.blk
  have nb : ∀ g, v1.ownBlock = some g → B ≤ g ∧ g ≠ p ∧ pv.ownBlock ≠ some g := fun g hg => by
    rcases sep_new s1 hg with e | e
    · exact ⟨(h.bf g e).1, (h.bf g e).2, fun e' => h.ne g e' e⟩
    · exact ⟨by have := h.hB; omega, by omega, fun e' => by have := h.op.lt e'; omega⟩
  refine ⟨⟨h.hB, heap_set1 hb1, ?_, ?_, h.bp, fun g hg => ⟨(nb g hg).1, (nb g hg).2.1⟩, fun g hg e => (nb g e).2.2 hg⟩, ?_⟩
  · exact (h.op.kept k1 (fun g hg e => h.ne g hg e)).kept (kp_set _ _ _ _) (fun g hg => (h.bp g hg).2)
  · exact o1.kept (kp_set _ _ _ _) (fun g hg => (nb g hg).2.1)
  · exact (k1.mono (fun k _ e => (h.bf k e).1)).setCell (.inl h.hB) v1
theorem Wr.growP {B p : Nat} {w w1 : World} {pv fv v1 : Value} {ps fs ps' : List UInt8} (h : Wr B p w pv fv ps fs) (k1 : Kp (Of pv) w w1) (s1 : Sep w pv v1) (o1 : OwnB w1 v1 ps') :
    Wr B p (w1.setCell ⟨p, 0, none⟩ v1) v1 fv ps' fs ∧ Kp (From B) w (w1.setCell ⟨p, 0, none⟩ v1) := by
  have hlt := h.lt
  have hb1 : w1.heap[p]? = some (.cells #[pv, fv] 156 (0, 0)) := by rw [k1.block p hlt (fun e => (h.bp p e).2 rfl)]; exact h.blk
  have nb : ∀ g, v1.ownBlock = some g → B ≤ g ∧ g ≠ p ∧ fv.ownBlock ≠ some g := fun g hg => by
    rcases sep_new s1 hg with e | e
    · exact ⟨(h.bp g e).1, (h.bp g e).2, h.ne g e⟩
    · exact ⟨by have := h.hB; omega, by omega, fun e' => by have := h.of.lt e'; omega⟩
  refine ⟨⟨h.hB, heap_set0 hb1, ?_, ?_, fun g hg => ⟨(nb g hg).1, (nb g hg).2.1⟩, h.bf, fun g hg => (nb g hg).2.2⟩, ?_⟩
  · exact o1.kept (kp_set _ _ _ _) (fun g hg => (nb g hg).2.1)
  · exact (h.of.kept k1 (fun g hg e => h.ne g e hg)).kept (kp_set _ _ _ _) (fun g hg => (h.bf g hg).2)
  · exact (k1.mono (fun k _ e => (h.bp k e).1)).setCell (.inl h.hB) v1
/-- what the walk asks of the world behind an append onto the footer -/
theorem Wr.midF {B p : Nat} {w w1 : World} {pv fv : Value} {ps fs : List UInt8} (h : Wr B p w pv fv ps fs) (k1 : Kp (Of fv) w w1) : w1.cell? ⟨p, 0, none⟩ = some pv ∧ w1.cell? ⟨p, 1, none⟩ = some fv ∧ w1.frozen? ⟨p, 0, none⟩ = false ∧ w1.frozen? ⟨p, 1, none⟩ = false := by
  have hb1 : w1.heap[p]? = some (.cells #[pv, fv] 156 (0, 0)) := by rw [k1.block p h.lt (fun e => (h.bf p e).2 rfl)]; exact h.blk
  simp [World.cell?, World.frozen?, hb1]
theorem Wr.midP {B p : Nat} {w w1 : World} {pv fv : Value} {ps fs : List UInt8} (h : Wr B p w pv fv ps fs) (k1 : Kp (Of pv) w w1) : w1.cell? ⟨p, 0, none⟩ = some pv ∧ w1.cell? ⟨p, 1, none⟩ = some fv ∧ w1.frozen? ⟨p, 0, none⟩ = false ∧ w1.frozen? ⟨p, 1, none⟩ = false := by
  have hb1 : w1.heap[p]? = some (.cells #[pv, fv] 156 (0, 0)) := by rw [k1.block p h.lt (fun e => (h.bp p e).2 rfl)]; exact h.blk
  simp [World.cell?, World.frozen?, hb1]

theorem src_own {w : World} {d : Value} {ds : List UInt8} (h : OwnB w d ds) : Src Tryz.prog 1 76 d ds.length (ds.map B) w := by
  rcases h with ⟨rfl, rfl⟩ | ⟨g, cap, rfl, _, _, _, h4, _⟩
  · exact Src.ofNil (P := Tryz.prog) w (e' := 5) Tryz.underlying76 0
  · exact Src.ofSlice (P := Tryz.prog) w (e' := 5) Tryz.underlying76 _ _ _ _ (by simp) (fun j u hu => by
      have hj := (List.getElem?_eq_some_iff.1 hu).1
      simp at hj
      rw [Addr.add_lit, Nat.zero_add, h4 j hj]; exact hu) (B_one _)

set_option maxRecDepth 20000 in
set_option maxHeartbeats 2000000 in
theorem addPage_any (B0 p : Nat) (w : World) (pv fv d : Value) (ps fs ds : List UInt8) (h : Wr B0 p w pv fv ps fs) (hd : OwnB w d ds) (hne : 0 < ds.length) (hdb : ∀ g, d.ownBlock = some g → g ≠ p ∧ pv.ownBlock ≠ some g ∧ fv.ownBlock ≠ some g) (hps : ps.length ≤ 5000) (hfs : fs.length ≤ 5000) (hds : ds.length ≤ 200) :
    Calls Tryz.prog 113 #[.pointer (some ⟨p, 0, none⟩), d] w fun e w' => e = .returned (.tuple #[]) ∧ ∃ pv' fv', Wr B0 p w' pv' fv' (ps ++ ds) (fs ++ Pl.vint ps.length ++ Pl.vint ds.length ++ Pl.sum4 ds) ∧ Kp (From B0) w w' := by
  have c0 := h.cell0
  have c1 := h.cell1
  have f0 := h.free 0
  have f1 := h.free 1
  obtain ⟨pa, pc, rfl⟩ := h.op.shape
  obtain ⟨fa, fc, rfl⟩ := h.of.shape
  obtain ⟨da, dc, rfl⟩ := hd.shape
  go_enter Tryz.func113, Tryz.ntmps113
  go_wp2_with fail
  go_region_with (go_at_call 97; go_must (refine (appendVarint_any _ _ _ _ h.drew.of (by omega) (by omega) (by omega)).mono ?_); rintro e w1 ⟨v1, rfl, o1, k1, s1⟩; obtain ⟨c10, c11, f10, f11⟩ := h.drew.midF k1; obtain ⟨a1, n1, cc1, rfl, hn1⟩ := o1.shape')
  all_goals
    obtain ⟨h1, kk1⟩ := h.drew.growF k1 s1 o1
    have hd1 := (hd.ext (ext_drew w)).kept k1 (fun g hg e => (hdb g hg).2.2 e) |>.kept (kp_set _ p 1 (.slice a1 n1 cc1)) (fun g hg => (hdb g hg).1)
    clear c10 c11 f10 f11 c0 c1 f0 f1
    generalize w1.setCell _ _ = W1 at *
    have c0 := h1.cell0
    have c1 := h1.cell1
    have hl1 := Pl.vint_len 2 ps.length (by simp; omega)
    have hl2 := Pl.vint_len 2 ds.length (by simp; omega)
    have hl3 := Pl.sum4_len ds
    simp only [Int.toNat_natCast] at h1 o1 hn1
    go_wp2_with fail
    refine (appendVarint_any _ _ _ _ h1.of (by omega) (by omega) (by simp; omega)).mono ?_
    rintro e w2 ⟨v2, rfl, o2, k2, s2⟩
    obtain ⟨m0, m1, m2, m3⟩ := h1.midF k2
    obtain ⟨a2, n2, cc2, rfl, hn2⟩ := o2.shape'
    obtain ⟨h2, kk2⟩ := h1.growF k2 s2 o2
    have db1 : ∀ g, (Value.slice da ds.length dc).ownBlock = some g → (Value.slice a1 n1 cc1).ownBlock ≠ some g := fun g hg e => by
      rcases sep_new s1 e with e' | e'
      · exact (hdb g hg).2.2 e'
      · have := hd.lt hg; have : w.drew.heap.size = w.heap.size := rfl; omega
    have hd2 := hd1.kept k2 (fun g hg e => db1 g hg e) |>.kept (kp_set _ p 1 (.slice a2 n2 cc2)) (fun g hg => (hdb g hg).1)
    go_wp2_with fail
    clear m0 m1 m2 m3 c0 c1
    generalize w2.setCell _ _ = W2 at *
    refine (appendSum_any _ _ _ _ ds h2.of hd2 hne (by simp; omega) (by omega)).mono ?_
    simp only [Int.toNat_natCast] at *
    rintro e w3 ⟨v3, rfl, o3, k3, s3⟩
    obtain ⟨m0, m1, m2, m3⟩ := h2.midF k3
    obtain ⟨a3, n3, cc3, rfl, hn3⟩ := o3.shape'
    obtain ⟨h3, kk3⟩ := h2.growF k3 s3 o3
    have db2 : ∀ g, (Value.slice da ds.length dc).ownBlock = some g → (Value.slice a2 n2 cc2).ownBlock ≠ some g := fun g hg e => by
      rcases sep_new s2 e with e' | e'
      · exact db1 g hg e'
      · have := hd1.lt hg; omega
    have hd3 := hd2.kept k3 (fun g hg e => db2 g hg e) |>.kept (kp_set _ p 1 (.slice a3 n3 cc3)) (fun g hg => (hdb g hg).1)
    go_wp2_with (at_builtin; go_must (refine wpList_append_b _ rfl _ _ 76 rfl _ _ rfl h3.op _ rfl _ ds (src_own hd3) (by omega) ?_); intro v4 w4 o4 k4 s4; obtain ⟨q0, q1, q2, q3⟩ := h3.midP k4; obtain ⟨a4, n4, cc4, rfl, hn4⟩ := o4.shape')
    go_end0
    obtain ⟨h4, kk4⟩ := h3.growP k4 s4 o4
    exact ⟨rfl, _, _, h4, (Kp.of_ext (ext_drew w)).trans ((kk1.trans kk2).trans (kk3.trans kk4))⟩
end Go.Proofs.YthicgffppmbamaaGreat

namespace Go.Proofs.YthicgffppmbamaaGreat
open Go.RowKit

theorem addPs_len (l : List (List Int)) : ∀ st : List UInt8 × List UInt8, st.1.length + 141 * l.length ≤ 5000 → (∀ x ∈ l, x.length ≤ 20 ∧ ∀ y ∈ x, 0 ≤ y ∧ y ≤ 1099511627775) → (Pl.addPs st l).1.length ≤ st.1.length + 141 * l.length ∧ (Pl.addPs st l).2.length ≤ st.2.length + 10 * l.length := by
  induction l with
  | nil => intro st _ _; exact ⟨Nat.le_refl _, Nat.le_refl _⟩
  | cons x r ih =>
    intro st h hx
    have h0 := page_len x (hx x (by simp)).1 (hx x (by simp)).2
    have e1 : (Pl.addP st x).1.length = st.1.length + (Pl.page x).length := by simp [Pl.addP]
    have v1 := Pl.vint_len 2 st.1.length (by simp at h ⊢; omega)
    have v2 := Pl.vint_len 2 (Pl.page x).length (by simp; omega)
    have e2 : (Pl.addP st x).2.length = st.2.length + (Pl.vint st.1.length).length + (Pl.vint (Pl.page x).length).length + 4 := by simp only [Pl.addP, List.length_append, Pl.sum4_len]
    have := ih (Pl.addP st x) (by simp only [List.length_cons] at h; omega) (fun y hy => hx y (by simp [hy]))
    show (Pl.addPs (Pl.addP st x) r).1.length ≤ _ ∧ (Pl.addPs (Pl.addP st x) r).2.length ≤ _
    simp only [List.length_cons] at *
    omega

set_option maxRecDepth 20000 in
set_option maxHeartbeats 2000000 in
theorem addGroup_any (B0 p : Nat) (w : World) (pv fv gv : Value) (ps fs : List UInt8) (g : List (List Int)) (h : Wr B0 p w pv fv ps fs) (hg : RdII B0 w gv g) (hne : 0 < g.length) (hps : ps.length + 141 * g.length ≤ 5000) (hfs : fs.length + 10 * g.length ≤ 4000) (hgl : g.length ≤ 4) (hx : ∀ x ∈ g, x.length ≤ 20 ∧ ∀ y ∈ x, 0 ≤ y ∧ y ≤ 1099511627775) :
    Calls Tryz.prog 98 #[.pointer (some ⟨p, 0, none⟩), gv] w fun e w' => e = .returned (.tuple #[]) ∧ ∃ pv' fv', Wr B0 p w' pv' fv' (Pl.addG (ps, fs) g).1 (Pl.addG (ps, fs) g).2 ∧ Kp (From B0) w w' := by
  have c0 := h.cell0
  have c1 := h.cell1
  have f0 := h.free 0
  have f1 := h.free 1
  obtain ⟨pa, pc, rfl⟩ := h.op.shape
  obtain ⟨fa, fc, rfl⟩ := h.of.shape
  have hg0 := hg
  obtain ⟨ga, gc, rfl, hgc, hgm, hgo⟩ := hg.open
  obtain ⟨b, off, rfl, hb, hgo⟩ := hgo hne
  obtain ⟨ai, ci, hc, hri⟩ := hgo 0 hne
  have hx0 := (hx (g.getD 0 []) (by rw [List.getD_eq_getElem?_getD, List.getElem?_eq_getElem hne]; exact List.getElem_mem hne)).1
  have HG0 : Hid (Pl.addG (ps, fs) g = Pl.addPs (ps, fs ++ Pl.vint (g.getD 0 []).length) g) := rfl
  generalize (g.getD 0 []).length = rows at *
  simp only [Nat.add_zero] at hc
  clear hgo
  have hlr := Pl.vint_len 0 rows (by simp; omega)
  go_enter Tryz.func98, Tryz.ntmps98
  go_wp2_with fail
  go_region_with (go_at_call 97; go_must (refine (appendVarint_any _ _ _ _ h.drew.of (by omega) (by omega) (by omega)).mono ?_); rintro e w1 ⟨v1, rfl, o1, k1, s1⟩; obtain ⟨c10, c11, f10, f11⟩ := h.drew.midF k1; obtain ⟨a1, n1, cc1, rfl, hn1⟩ := o1.shape')
  all_goals
    obtain ⟨h1, kk1⟩ := h.drew.growF k1 s1 o1
    simp only [Int.toNat_natCast] at h1 o1
    clear c10 c11 f10 f11 c0 c1 f0 f1 hc hri
    generalize w1.setCell _ _ = W1 at *
    have kw : Kp (From B0) w W1 := (Kp.of_ext (ext_drew w)).trans kk1
    clear kk1 k1 s1 o1
    generalize hst : ((ps, fs ++ Pl.vint rows) : List UInt8 × List UInt8) = st at *
    have e1 : ps = st.1 := by rw [← hst]
    have e2 : fs ++ Pl.vint rows = st.2 := by rw [← hst]
    have l2 : st.2.length ≤ fs.length + 1 := by rw [← e2]; simp; omega
    rw [e1, e2] at h1
    have E1 := hide e1
    clear e1 e2 hst
    go_wp2_with fail
    go_loopw [20] (fun i wr => ∃ (k : Nat) (pv' fv' : Value), k ≤ g.length ∧ i = .int .i64 k ∧ Wr B0 p wr pv' fv' (Pl.addPs st (g.take k)).1 (Pl.addPs st (g.take k)).2 ∧ Kp (From B0) w wr) (fun i _ => g.length - (intOf i).toNat)
    case atStart => exact ⟨0, _, _, Nat.zero_le _, rfl, h1, kw⟩
    case round =>
      obtain ⟨k, pv', fv', hk, rfl, hW, hkw⟩ := hrel
      by_cases hkl : k < g.length
      · obtain ⟨ga', gc', he, _, _, hgo⟩ := (hg0.kept hkw (fun i e => e)).open
        cases he
        obtain ⟨b', off', he, _, hgo⟩ := hgo hne
        cases he
        obtain ⟨ai', ci', hc, hri⟩ := hgo k hkl
        clear hgo
        have hgk : g.getD k [] = g[k] := by rw [List.getD_eq_getElem?_getD, List.getElem?_eq_getElem hkl]; rfl
        rw [hgk] at hc hri
        have hxk := hx g[k] (List.getElem_mem hkl)
        have hpl := page_len g[k] hxk.1 hxk.2
        have hal := addPs_len (g.take k) st (by rw [← E1.out]; simp; omega) (fun x hx' => hx x (List.mem_of_mem_take hx'))
        rw [← E1.out, List.length_take, Nat.min_eq_left (by omega)] at hal
        have HT : Hid (Pl.addPs st (g.take (k + 1)) = Pl.addP (Pl.addPs st (g.take k)) g[k]) := by
          show _ = _
          rw [List.take_succ_eq_append_getElem hkl, Pl.addPs_snoc]
        clear hgk
        generalize g[k] = xs at *
        generalize Pl.addPs st (g.take k) = sk at *
        go_wp2_with fail
        refine (pageWrite_any B0 _ _ xs hri (by have := hW.hB; have := hW.lt; omega) hxk.2 hxk.1).mono ?_
        rintro e w2 ⟨d, rfl, od, ⟨gd, ed, fd⟩, x2⟩
        have hW2 := hW.ext x2
        go_wp2_with fail
        refine (addPage_any B0 p _ _ _ d _ _ _ hW2 od (by omega) (fun g' hg' => by
          rw [ed] at hg'
          simp at hg'
          subst hg'
          exact ⟨by have := hW.lt; omega, fun e => by have := hW.op.lt e; omega, fun e => by have := hW.of.lt e; omega⟩) (by omega) (by omega) (by omega)).mono ?_
        rintro e w3 ⟨rfl, pv3, fv3, h3, k3⟩
        go_wp2_with fail
        go_roundw
        case rel => exact ⟨k + 1, pv3, fv3, by omega, by go_num, by rw [HT.out]; exact h3, (hkw.trans (Kp.of_ext x2)).trans k3⟩
        case measure => simp [intOf]; omega
      · go_wp2_with fail
        go_end0
        obtain rfl : k = g.length := by omega
        rw [List.take_length] at hW
        refine ⟨rfl, pv', fv', ?_, hkw⟩
        rw [HG0.out]; exact hW
end Go.Proofs.YthicgffppmbamaaGreat

namespace Go.Proofs.YthicgffppmbamaaGreat
open Go.RowKit

theorem src_string (w : World) (s : ByteArray) : Src Tryz.prog 1 9 (.string s) s.size ((bytesOf s).map B) w := Src.ofString (P := Tryz.prog) w Tryz.underlying9 s

theorem nameBytes_len (l : List (List UInt8)) (h : ∀ s ∈ l, s.length ≤ 8) : (Pl.nameBytes l).length ≤ 9 * l.length := by
  induction l with
  | nil => simp [Pl.nameBytes]
  | cons s r ih =>
    have h1 := h s (by simp)
    have h2 := Pl.vint_len 0 s.length (by simp; omega)
    have h3 := ih (fun x hx => h x (by simp [hx]))
    simp only [Pl.nameBytes, List.flatMap_cons, List.length_append, List.length_cons] at *
    omega

set_option maxRecDepth 20000 in
set_option maxHeartbeats 2000000 in
theorem addNames_any (B0 p : Nat) (w : World) (pv fv nv : Value) (ps fs : List UInt8) (ss : List ByteArray) (h : Wr B0 p w pv fv ps fs) (hr : RdS B0 w nv ss) (hfs : fs.length ≤ 100) (hl : ss.length ≤ 4) (hx : ∀ s ∈ ss, s.size ≤ 8) :
    Calls Tryz.prog 96 #[.pointer (some ⟨p, 0, none⟩), nv] w fun e w' => e = .returned (.tuple #[]) ∧ ∃ pv' fv', Wr B0 p w' pv' fv' ps (fs ++ Pl.vint ss.length ++ Pl.nameBytes (ss.map bytesOf)) ∧ Kp (From B0) w w' := by
  have c0 := h.cell0
  have c1 := h.cell1
  have f0 := h.free 0
  have f1 := h.free 1
  obtain ⟨pa, np, pc, rfl, hnp⟩ := h.op.shape'
  obtain ⟨fa, nf, fc, rfl, hnf⟩ := h.of.shape'
  have hr0 := hr
  obtain ⟨na, nc, rfl, hnc, hnm, -⟩ := RdS.open hr
  have hl1 := Pl.vint_len 0 ss.length (by simp; omega)
  go_enter Tryz.func96, Tryz.ntmps96
  go_wp2_with fail
  refine (appendVarint_any _ _ _ _ h.of (by omega) (by omega) (by omega)).mono ?_
  rintro e w1 ⟨v1, rfl, o1, k1, s1⟩
  simp only [Int.toNat_natCast] at o1
  obtain ⟨m0, m1, m2, m3⟩ := h.midF k1
  obtain ⟨a1, n1, cc1, rfl, hn1⟩ := o1.shape'
  obtain ⟨h1, kk1⟩ := h.growF k1 s1 o1
  go_wp2_with fail
  clear m0 m1 m2 m3 c0 c1 f0 f1
  generalize w1.setCell _ _ = W1 at *
  clear k1 s1 o1
  generalize hF : fs ++ Pl.vint ss.length = F1 at *
  have lF : F1.length ≤ 101 := by rw [← hF]; simp; omega
  have HF := hide hF
  clear hF
  go_loopw [18] (fun i wr => ∃ (k : Nat) (fv' : Value), k ≤ ss.length ∧ i = .int .i64 k ∧ Wr B0 p wr (.slice pa np pc) fv' ps (F1 ++ Pl.nameBytes ((ss.take k).map bytesOf)) ∧ Kp (From B0) w wr) (fun i _ => ss.length - (intOf i).toNat)
  case atStart => exact ⟨0, _, Nat.zero_le _, rfl, by simpa [Pl.nameBytes] using h1, kk1⟩
  case round =>
    obtain ⟨k, fv', hk, rfl, hW, hkw⟩ := hrel
    by_cases hkl : k < ss.length
    · obtain ⟨na', nc', he, _, _, hgo⟩ := RdS.open (hr0.kept hkw (fun i e => e))
      cases he
      obtain ⟨b, off, rfl, hb, hgo⟩ := hgo (by omega)
      have hc := hgo k hkl
      clear hgo
      rw [show ss.getD k ByteArray.empty = ss[k] by rw [List.getD_eq_getElem?_getD, List.getElem?_eq_getElem hkl]; rfl] at hc
      have hxk := hx ss[k] (List.getElem_mem hkl)
      have hnl := nameBytes_len ((ss.take k).map bytesOf) (fun s hs => by
        obtain ⟨y, hy, rfl⟩ := List.mem_map.1 hs
        rw [bytesOf_len]; exact hx y (List.mem_of_mem_take hy))
      simp only [List.length_map, List.length_take] at hnl
      have HT : Hid (Pl.nameBytes ((ss.take (k + 1)).map bytesOf) = Pl.nameBytes ((ss.take k).map bytesOf) ++ (Pl.vint (bytesOf ss[k]).length ++ bytesOf ss[k])) := by
        show _ = _
        rw [List.take_succ_eq_append_getElem hkl, List.map_append, List.map_singleton, Pl.nameBytes_snoc]
      rw [bytesOf_len] at HT
      generalize ss[k] = s at *
      generalize Pl.nameBytes ((ss.take k).map bytesOf) = nb at *
      have hl2 := Pl.vint_len 0 s.size (by simp; omega)
      have hl3 := bytesOf_len s
      have HL3 := hide hl3
      clear hl3
      have c0 := hW.cell0
      have c1 := hW.cell1
      have f1 := hW.free 1
      obtain ⟨fa', nf', fc', rfl, hnf'⟩ := hW.of.shape'
      go_wp2_with fail
      refine (appendVarint_any _ _ _ _ hW.of (by omega) (by omega) (by simp; omega)).mono ?_
      rintro e w2 ⟨v2, rfl, o2, k2, s2⟩
      simp only [Int.toNat_natCast] at o2
      obtain ⟨m0, m1, m2, m3⟩ := hW.midF k2
      obtain ⟨a2, n2, cc2, rfl, hn2⟩ := o2.shape'
      obtain ⟨h2, kk2⟩ := hW.growF k2 s2 o2
      clear c0 c1 f1
      go_wp2_with (at_builtin; go_must (refine wpList_append_b _ rfl _ _ 9 rfl _ _ rfl h2.of _ rfl _ (bytesOf s) (src_string _ s) (by simp; omega) ?_); intro v4 w4 o4 k4 s4; obtain ⟨q0, q1, q2, q3⟩ := h2.midF k4; obtain ⟨a4, n4, cc4, rfl, hn4⟩ := o4.shape')
      obtain ⟨h4, kk4⟩ := h2.growF k4 s4 o4
      go_roundw
      case rel => exact ⟨k + 1, _, by omega, by go_num, by rw [HT.out]; simpa using h4, (hkw.trans kk2).trans kk4⟩
      case measure => simp [intOf]; omega
    · go_wp2_with fail
      go_end0
      obtain rfl : k = ss.length := by omega
      rw [List.take_length] at hW
      exact ⟨rfl, _, fv', by rw [HF.out]; exact hW, hkw⟩
end Go.Proofs.YthicgffppmbamaaGreat

namespace Go.Proofs.YthicgffppmbamaaGreat
open Go.RowKit

theorem step_append_b {ops : Array Oper} {o : Oper} {a : Act} {w : World} {K : Act → World → Prop} {Q : Exit → Act → World → Prop} {E : Prop}
    (hg : o.guard = none) (s x : Operand) (tx : TypeId) (ho : o.op = .call { callee := .builtin .append, args := #[s, x], argTypes := #[76, tx] })
    (v : Value) (bs : List UInt8) (hv : a.eval s = v) (hown : OwnB w v bs) (xv : Value) (hx : a.eval x = xv) (n : Nat) (news : List UInt8) (hs : Src Tryz.prog 1 tx xv n (news.map B) w) (hb : bs.length + n ≤ 1000000)
    (hK : ∀ v' w', OwnB w' v' (bs ++ news) → Kp (Of v) w w' → Sep w v v' → K (a.put o.dst v') w') :
    if Region.wanted o (yielded ops a.tmps) = true then Oper.wp Tryz.prog o a w K Q else E := by
  have hw : Region.wanted o (yielded ops a.tmps) = true := by simp [Region.wanted, hg]
  rw [if_pos hw]
  obtain ⟨v', w', hrun, r1, r2, r3⟩ := run_append_b w v bs hown tx o.type xv n news hs hb
  unfold Oper.wp
  simp [execOp, ho, resolve, invoke, builtin, hv, hx, hrun, Result.andThen]
  exact hK v' w' r1 r2 r3

theorem fold_push (ns : List UInt8) : ∀ s : ByteArray, List.foldl (fun (r : ByteArray) (n : Int) => r.push (UInt8.ofNat n.toNat)) s (ns.map fun b => (b.toNat : Int)) = ⟨s.data ++ ns.toArray⟩ := by
  induction ns with
  | nil => intro s; simp
  | cons b r ih =>
    intro s
    simp only [List.map_cons, List.foldl_cons]
    rw [ih]
    simp [ByteArray.push]

/-- string(b), b a row of one's own -/
theorem run_string_b (w : World) (v : Value) (bs : List UInt8) (h : OwnB w v bs) (hne : 0 < bs.length) : (convert 76 9 v).run Tryz.prog w = .ok (.string ⟨bs.toArray⟩) w := by
  rcases h with ⟨rfl, rfl⟩ | ⟨g, cap, rfl, h1, h2, h3, h4, h5⟩
  · simp at hne
  · rw [run_convert_bytes_string w _ _ 5 _ _ _ Tryz.underlying76 Tryz.underlying5 Tryz.underlying9]
    have hl : (loadCells ⟨g, 0, none⟩ bs.length).run Tryz.prog w = .ok ((bs.map fun b => (b.toNat : Int)).map (Value.int .u8)).toArray w := by
      have := run_firstCells_some (P := Tryz.prog) w 1 bs.length ⟨g, 0, none⟩ bs.length cap (bs.map B) (by simp) (fun j u hu => by
        have hj := (List.getElem?_eq_some_iff.1 hu).1
        simp at hj
        rw [Addr.add_lit, Nat.zero_add, h4 j hj]; exact hu)
      simp only [Builtin.firstCells, Nat.mul_one] at this
      rw [this]
      simp [B, Function.comp_def]
    rw [run_bytesToString w _ _ _ _ hl, fold_push]
    simp

set_option maxRecDepth 20000 in
set_option maxHeartbeats 2000000 in
theorem finish_any (B0 p : Nat) (w : World) (pv fv : Value) (ps fs : List UInt8) (h : Wr B0 p w pv fv ps fs) (hps : ps.length ≤ 5000) (hfs : fs.length ≤ 4000) :
    Calls Tryz.prog 99 #[.pointer (some ⟨p, 0, none⟩)] w fun e w' => e = .returned (.tuple #[.string ⟨(Pl.sealed (ps, fs)).1.toArray⟩, .int .i64 (Pl.sealed (ps, fs)).2]) ∧ Kp (From B0) w w' := by
  have c0 := h.cell0
  have c1 := h.cell1
  obtain ⟨pa, np, pc, rfl, hnp⟩ := h.op.shape'
  obtain ⟨fa, nf, fc, rfl, hnf⟩ := h.of.shape'
  go_enter Tryz.func99, Tryz.ntmps99
  go_wp2_with fail
  go_region_law (refine step_append_b rfl _ _ 76 rfl _ _ rfl h.drew.op _ rfl _ fs (src_own h.drew.of) (by omega) ?_; intro v1 w1 o1 k1 s1)
  all_goals
    obtain ⟨q0, q1, q2, q3⟩ := h.drew.midP k1
    have kw1 : Kp (From B0) w w1 := (Kp.of_ext (ext_drew w)).trans (k1.mono (fun k _ e => (h.bp k e).1))
    have nb1 : ∀ g, v1.ownBlock = some g → B0 ≤ g := fun g hg => by
      rcases sep_new s1 hg with e | e
      · exact (h.bp g e).1
      · have := h.hB; have := h.lt; have : w.drew.heap.size = w.heap.size := rfl; omega
    have hnf2 : nf < 65536 := by rw [hnf.out]; omega
    obtain ⟨a1, n1, cc1, rfl, hn1⟩ := o1.shape'
    go_wp2_with fail
    refine (appendPair_any _ _ _ nf o1 hnf2 (by simp; omega)).mono ?_
    rintro e w2 ⟨v2, rfl, o2, k2, s2⟩
    have kw2 : Kp (From B0) w w2 := kw1.trans (k2.mono (fun k _ e => nb1 k e))
    have nb2 : ∀ g, v2.ownBlock = some g → B0 ≤ g := fun g hg => by
      rcases sep_new s2 hg with e | e
      · exact nb1 g e
      · have := kw1.size; have := h.hB; have := h.lt; omega
    go_wp2_with (at_builtin; go_must (refine wpList_append_b _ rfl _ _ 9 rfl _ _ rfl o2 _ rfl _ Pl.mark (src_string _ _) (by simp [ByteArray.size]; omega) ?_); intro v3 w3 o3 k3 s3; obtain ⟨a3, n3, cc3, rfl, hn3⟩ := o3.shape'; have hconv := run_string_b _ _ _ o3 (by simp; omega))
    all_goals
      have kw3 : Kp (From B0) w w3 := kw2.trans (k3.mono (fun k _ e => nb2 k e))
      have hwh : ps ++ fs ++ [UInt8.ofNat (nf / 256), UInt8.ofNat (nf % 256)] ++ Pl.mark = Pl.whole (ps, fs) := by rw [hnf.out]; rfl
      have hn := hn3.out
      rw [hwh] at hn
    · rw [Pl.sealed_gt _ (by omega)]
      go_ret2
      exact ⟨rfl, kw3⟩
    · rw [Pl.sealed_le _ (by omega), ← hwh]
      go_ret2
      exact ⟨by simp, kw3⟩
end Go.Proofs.YthicgffppmbamaaGreat

namespace Go.Proofs.YthicgffppmbamaaGreat
open Go.RowKit

theorem step_append_g {P : Program} {ops : Array Oper} {o : Oper} {a : Act} {w : World} {K : Act → World → Prop} {Q : Exit → Act → World → Prop} {E : Prop}
    (hg : o.guard = none) (s x : Operand) (t tx : TypeId) (ho : o.op = .call { callee := .builtin .append, args := #[s, x], argTypes := #[t, tx] }) (e : TypeId) (z : Value) (size bytes : Nat) (ht : P.underlying t = some (.slice e)) (hinfo : (P.info? e).map (fun i => (i.zero, i.size, i.bytes)) = some (some z, size, bytes)) (hzc : z.cells.size = size)
    (v : Value) (n : Nat) (cs : List Value) (hv : a.eval s = v) (hown : Own w size v n cs) (xv : Value) (hx : a.eval x = xv) (m : Nat) (news : List Value) (hs : Src P size tx xv m news w) (hb : (n + m) * bytes ≤ 140737488355328) (hm : n + m ≤ 1000000000000000)
    (hK : ∀ v' w', Own w' size v' (n + m) (cs ++ news) → Kp (Of v) w w' → Sep w v v' → K (a.put o.dst v') w') :
    if Region.wanted o (yielded ops a.tmps) = true then Oper.wp P o a w K Q else E := by
  have hw : Region.wanted o (yielded ops a.tmps) = true := by simp [Region.wanted, hg]
  rw [if_pos hw]
  obtain ⟨v', w', hrun, r1, r2, r3⟩ := run_append_g P w t e tx o.type z size bytes ht hinfo hzc v n cs hown xv m news hs hb hm
  unfold Oper.wp
  simp [execOp, ho, resolve, invoke, builtin, hv, hx, hrun, Result.andThen]
  exact hK v' w' r1 r2 r3

/-- one element of some cells, in a new block -/
theorem src_elem {P : Program} (w : World) (t e : TypeId) (ht : P.underlying t = some (.slice e)) (cs : List Value) (h1 : ∀ u ∈ cs, u.oneCell' = true) : Src P cs.length t (.slice (some ⟨w.heap.size, 0, none⟩) 1 1) 1 cs (w.alloc (.cells cs.toArray e)) :=
  Src.ofSlice (P := P) _ (e' := e) ht _ _ _ _ (by simp) (fun j u hu => by
    rw [Addr.add_lit, Nat.zero_add, World.cell?_alloc_new]
    simpa using hu) h1

theorem src_elemA {P : Program} (w : World) (t e : TypeId) (ht : P.underlying t = some (.slice e)) (arr : Array Value) (cs : List Value) (ha : arr = cs.toArray) (h1 : ∀ u ∈ cs, u.oneCell' = true) : Src P cs.length t (.slice (some ⟨w.heap.size, 0, none⟩) 1 1) 1 cs (w.alloc (.cells arr e)) := by
  subst ha
  exact src_elem w t e ht cs h1

/-- the same behind a draw -/
theorem src_elemD {P : Program} (w : World) (t e : TypeId) (ht : P.underlying t = some (.slice e)) (arr : Array Value) (cs : List Value) (ha : arr = cs.toArray) (h1 : ∀ u ∈ cs, u.oneCell' = true) : Src P cs.length t (.slice (some ⟨w.heap.size, 0, none⟩) 1 1) 1 cs (w.alloc (.cells arr e)).drew := by
  subst ha
  exact Src.ofSlice (P := P) _ (e' := e) ht _ _ _ _ (by simp) (fun j u hu => by
    rw [Addr.add_lit, Nat.zero_add]
    show (w.alloc (.cells cs.toArray e)).cell? _ = _
    rw [World.cell?_alloc_new]
    simpa using hu) h1

def zReq : Value := .agg #[.int .i64 0, .int .i64 0, .int .i64 0, .nilFunc, .nilFunc]
theorem infoReq : (Tryz.prog.info? 169).map (fun i => (i.zero, i.size, i.bytes)) = some (some zReq, 5, 40) := by kernel_rfl

set_option maxRecDepth 20000 in
set_option maxHeartbeats 2000000 in
theorem ask_any (col : Colr) (w : World) (P p : Nat) (m : Pl.Sc) (x : Pl.Part) (ps qs : List Nat) (nv av wv hv gv dv xv : Value) (h : Rep col w P m ps qs nv av wv hv gv) (hp : PartAt col w P p x dv xv) (hn : p ∉ ps ++ qs) (hid : m.lastId ≤ 1000000000000) (hal : m.asked.length ≤ 1000) (hpl : x.place + x.length ≤ 1000000) (hdl : x.data.length ≤ x.length) :
    Calls Tryz.prog 102 #[PtrTo p 0] w fun e w' => e = .returned (.tuple #[]) ∧ ∃ col' av', Rep col' w' P (Pl.ask m x) (ps ++ [p]) qs nv av' wv hv gv ∧ Went col w w' col' := by
  have c0 := hp.blk.cell 0
  have c1 := hp.blk.cell 1
  have c2 := hp.blk.cell 2
  have c3 := hp.blk.cell 3
  have s9 := h.blk.cell 9
  have s10 := h.blk.cell 10
  have f9 := h.blk.free 9
  have f10 := h.blk.free 10
  simp only [partCells, scCells, I, List.getElem?_cons_zero, List.getElem?_cons_succ] at c0 c1 c2 c3 s9 s10
  obtain ⟨da, dc, rfl⟩ := hp.data.shape
  obtain ⟨aa, ac, rfl, _⟩ := h.inn.asked.shape
  have hm1 : Inner col w P { m with lastId := m.lastId + 1 } ps qs nv (.slice aa m.asked.length ac) wv hv gv := ⟨h.inn.pcol, h.inn.top, h.inn.names, h.inn.asked, h.inn.acol, h.inn.aparts, h.inn.waiting, h.inn.wcol, h.inn.wparts, h.inn.nodup, h.inn.ahead, h.inn.groups⟩
  have h1 := h.cellP 9 (.int .i64 ((m.lastId : Int) + 1)) (by simp [scCells, I, giveV]) hm1
  have k1 := kp_set' w P 9 (.int .i64 ((m.lastId : Int) + 1))
  have hpP : p ≠ P := fun e => by have := hp.pcol; rw [e, h.inn.pcol] at this; simp at this
  have hp1 := hp.go (col' := col) k1 (fun e => hpP e) (fun i hi => by subst hi; rw [h.inn.pcol]; simp) (fun i hi => by subst hi; rw [h.inn.pcol]; simp) (fun _ _ => rfl)
  have hreq : #[Value.int .i64 ((m.lastId : Int) + 1), Value.int .i64 ((x.place : Int) + (x.data.length : Int)), Value.int .i64 ((x.length : Int) - (x.data.length : Int)), Bound 118 (PtrTo p 0), Bound 119 (PtrTo p 0)] = (reqCells p (m.lastId + 1, x)).toArray := by
    simp [reqCells, I]
    omega
  have hone : ∀ u ∈ reqCells p (m.lastId + 1, x), u.oneCell' = true := by
    intro u hu
    simp [reqCells] at hu
    rcases hu with rfl | rfl | rfl | rfl | rfl <;> rfl
  go_enter Tryz.func102, Tryz.ntmps102
  go_wp2_with fail
  clear c0 c1 c2 c3 s9 s10 f9 f10 hm1
  generalize w.setCell _ _ = W1 at *
  have hA : ∀ u, Ext W1 u → Own u 5 (.slice aa m.asked.length ac) m.asked.length (reqRow ps m.asked) := fun u hu => h1.inn.asked.ext hu
  have c0 := hp1.blk.cell 0
  have c1 := hp1.blk.cell 1
  have c2 := hp1.blk.cell 2
  have c3 := hp1.blk.cell 3
  have s9 := h1.blk.cell 9
  have s10 := h1.blk.cell 10
  have f10 := h1.blk.free 10
  simp only [partCells, scCells, I, List.getElem?_cons_zero, List.getElem?_cons_succ, Int.natCast_add, Int.natCast_one] at c0 c1 c2 c3 s9 s10
  have HA := hide hA
  clear hA
  have hav : ∀ k, (Value.slice aa m.asked.length ac).ownBlock = some k → k ≠ p ∧ k ≠ P := fun k hk => by
    have e := h1.inn.acol k hk
    exact ⟨fun e' => by rw [e', hp1.pcol] at e; simp at e, fun e' => by rw [e', h1.inn.pcol] at e; simp at e⟩
  have hS : ∀ u, Kp (fun k => k ≠ p ∧ k ≠ P) W1 u → u.cell? ⟨p, 0, none⟩ = some (PtrTo P 7) ∧ u.cell? ⟨p, 1, none⟩ = some (.int .i64 (x.place : Int)) ∧ u.cell? ⟨p, 2, none⟩ = some (.int .i64 (x.length : Int)) ∧ u.cell? ⟨p, 3, none⟩ = some (.slice da x.data.length dc) ∧ u.cell? ⟨P, 9, none⟩ = some (.int .i64 ((m.lastId : Int) + 1)) ∧ u.cell? ⟨P, 10, none⟩ = some (.slice aa m.asked.length ac) := fun u hu =>
    ⟨hu.cell c0 (by simp), hu.cell c1 (by simp), hu.cell c2 (by simp), hu.cell c3 (by simp), hu.cell s9 (by simp), hu.cell s10 (by simp)⟩
  have HS := hide hS
  have HV := hide hav
  have HR := hide hreq
  have HO := hide hone
  clear hS hav hreq hone
  have e1 : IntKind.i64.wrap ((x.place : Int) + (x.data.length : Int)) = (x.place : Int) + (x.data.length : Int) := by simp [IntKind.wrap, IntKind.bits, IntKind.signed]; omega
  have e2 : IntKind.i64.wrap ((x.length : Int) - (x.data.length : Int)) = (x.length : Int) - (x.data.length : Int) := by simp [IntKind.wrap, IntKind.bits, IntKind.signed]; omega
  have hK1 : Kp (fun k => k ≠ p ∧ k ≠ P) W1 W1.drew := (Kp.refl _ _).drew
  refine wp_region_late (n := 48) (Kp (fun k => k ≠ p ∧ k ≠ P) W1) (by kernel_rfl) ?_
  refine Late.take (i := 0) (oi := ⟨some 12, .move (.tmp 0), 162, "part.go:17", #[], none⟩) (v := ?_) [48] rfl (by kernel_rfl) (by kernel_rfl) (by decide) (by decide) (by kernel_rfl) (by kernel_rfl) (by kernel_rfl) (fun _ _ _ h => h) rfl ?_ hK1 ?_
  rotate_left
  · (intro u hu; obtain ⟨u0, u1, u2, u3, u4, u5⟩ := (unhide HS) u hu; go_simp; first | done | with_reducible rfl)
  try simp only [Act.put, List.setIfInBounds_toArray, List.set_cons_zero, List.set_cons_succ]
  refine Late.take (i := 1) (oi := ⟨some 13, .nilCheck (.tmp 12), 0, "part.go:17", #[⟨0, .data⟩], none⟩) (v := ?_) [48] rfl (by kernel_rfl) (by kernel_rfl) (by decide) (by decide) (by kernel_rfl) (by kernel_rfl) (by kernel_rfl) (fun _ _ _ h => h) rfl ?_ hK1 ?_
  rotate_left
  · (intro u hu; obtain ⟨u0, u1, u2, u3, u4, u5⟩ := (unhide HS) u hu; go_simp; first | done | with_reducible rfl)
  try simp only [Act.put, List.setIfInBounds_toArray, List.set_cons_zero, List.set_cons_succ]
  refine Late.take (i := 2) (oi := ⟨some 14, .fieldAddr 164 (.tmp 13) 0, 0, "part.go:17", #[⟨1, .data⟩], none⟩) (v := ?_) [48] rfl (by kernel_rfl) (by kernel_rfl) (by decide) (by decide) (by kernel_rfl) (by kernel_rfl) (by kernel_rfl) (fun _ _ _ h => h) rfl ?_ hK1 ?_
  rotate_left
  · (intro u hu; obtain ⟨u0, u1, u2, u3, u4, u5⟩ := (unhide HS) u hu; go_simp; first | done | with_reducible rfl)
  try simp only [Act.put, List.setIfInBounds_toArray, List.set_cons_zero, List.set_cons_succ]
  refine Late.take (i := 3) (oi := ⟨some 15, .load 161 (.tmp 14), 161, "part.go:17", #[⟨2, .data⟩], none⟩) (v := ?_) [48] rfl (by kernel_rfl) (by kernel_rfl) (by decide) (by decide) (by kernel_rfl) (by kernel_rfl) (by kernel_rfl) (fun _ _ _ h => h) rfl ?_ hK1 ?_
  rotate_left
  · (intro u hu; obtain ⟨u0, u1, u2, u3, u4, u5⟩ := (unhide HS) u hu; go_simp; first | done | with_reducible rfl)
  try simp only [Act.put, List.setIfInBounds_toArray, List.set_cons_zero, List.set_cons_succ]
  refine Late.take (i := 4) (oi := ⟨some 16, .move (.tmp 0), 162, "part.go:17", #[], none⟩) (v := ?_) [48] rfl (by kernel_rfl) (by kernel_rfl) (by decide) (by decide) (by kernel_rfl) (by kernel_rfl) (by kernel_rfl) (fun _ _ _ h => h) rfl ?_ hK1 ?_
  rotate_left
  · (intro u hu; obtain ⟨u0, u1, u2, u3, u4, u5⟩ := (unhide HS) u hu; go_simp; first | done | with_reducible rfl)
  try simp only [Act.put, List.setIfInBounds_toArray, List.set_cons_zero, List.set_cons_succ]
  refine Late.take (i := 5) (oi := ⟨some 17, .nilCheck (.tmp 16), 0, "part.go:17", #[⟨4, .data⟩], none⟩) (v := ?_) [48] rfl (by kernel_rfl) (by kernel_rfl) (by decide) (by decide) (by kernel_rfl) (by kernel_rfl) (by kernel_rfl) (fun _ _ _ h => h) rfl ?_ hK1 ?_
  rotate_left
  · (intro u hu; obtain ⟨u0, u1, u2, u3, u4, u5⟩ := (unhide HS) u hu; go_simp; first | done | with_reducible rfl)
  try simp only [Act.put, List.setIfInBounds_toArray, List.set_cons_zero, List.set_cons_succ]
  refine Late.take (i := 6) (oi := ⟨some 18, .fieldAddr 164 (.tmp 17) 0, 0, "part.go:17", #[⟨5, .data⟩], none⟩) (v := ?_) [48] rfl (by kernel_rfl) (by kernel_rfl) (by decide) (by decide) (by kernel_rfl) (by kernel_rfl) (by kernel_rfl) (fun _ _ _ h => h) rfl ?_ hK1 ?_
  rotate_left
  · (intro u hu; obtain ⟨u0, u1, u2, u3, u4, u5⟩ := (unhide HS) u hu; go_simp; first | done | with_reducible rfl)
  try simp only [Act.put, List.setIfInBounds_toArray, List.set_cons_zero, List.set_cons_succ]
  refine Late.take (i := 7) (oi := ⟨some 19, .load 161 (.tmp 18), 161, "part.go:17", #[⟨6, .data⟩], none⟩) (v := ?_) [48] rfl (by kernel_rfl) (by kernel_rfl) (by decide) (by decide) (by kernel_rfl) (by kernel_rfl) (by kernel_rfl) (fun _ _ _ h => h) rfl ?_ hK1 ?_
  rotate_left
  · (intro u hu; obtain ⟨u0, u1, u2, u3, u4, u5⟩ := (unhide HS) u hu; go_simp; first | done | with_reducible rfl)
  try simp only [Act.put, List.setIfInBounds_toArray, List.set_cons_zero, List.set_cons_succ]
  refine Late.take (i := 8) (oi := ⟨some 20, .nilCheck (.tmp 19), 0, "part.go:17", #[⟨7, .data⟩], none⟩) (v := ?_) [48] rfl (by kernel_rfl) (by kernel_rfl) (by decide) (by decide) (by kernel_rfl) (by kernel_rfl) (by kernel_rfl) (fun _ _ _ h => h) rfl ?_ hK1 ?_
  rotate_left
  · (intro u hu; obtain ⟨u0, u1, u2, u3, u4, u5⟩ := (unhide HS) u hu; go_simp; first | done | with_reducible rfl)
  try simp only [Act.put, List.setIfInBounds_toArray, List.set_cons_zero, List.set_cons_succ]
  refine Late.take (i := 9) (oi := ⟨some 21, .fieldAddr 136 (.tmp 20) 3, 0, "part.go:17", #[⟨8, .data⟩], none⟩) (v := ?_) [48] rfl (by kernel_rfl) (by kernel_rfl) (by decide) (by decide) (by kernel_rfl) (by kernel_rfl) (by kernel_rfl) (fun _ _ _ h => h) rfl ?_ hK1 ?_
  rotate_left
  · (intro u hu; obtain ⟨u0, u1, u2, u3, u4, u5⟩ := (unhide HS) u hu; go_simp; first | done | with_reducible rfl)
  try simp only [Act.put, List.setIfInBounds_toArray, List.set_cons_zero, List.set_cons_succ]
  refine Late.take (i := 10) (oi := ⟨some 22, .load 133 (.tmp 21), 133, "part.go:17", #[⟨9, .data⟩], none⟩) (v := ?_) [48] rfl (by kernel_rfl) (by kernel_rfl) (by decide) (by decide) (by kernel_rfl) (by kernel_rfl) (by kernel_rfl) (fun _ _ _ h => h) rfl ?_ hK1 ?_
  rotate_left
  · (intro u hu; obtain ⟨u0, u1, u2, u3, u4, u5⟩ := (unhide HS) u hu; go_simp; first | done | with_reducible rfl)
  try simp only [Act.put, List.setIfInBounds_toArray, List.set_cons_zero, List.set_cons_succ]
  refine Late.take (i := 11) (oi := ⟨some 23, .move (.tmp 0), 162, "part.go:17", #[], none⟩) (v := ?_) [48] rfl (by kernel_rfl) (by kernel_rfl) (by decide) (by decide) (by kernel_rfl) (by kernel_rfl) (by kernel_rfl) (fun _ _ _ h => h) rfl ?_ hK1 ?_
  rotate_left
  · (intro u hu; obtain ⟨u0, u1, u2, u3, u4, u5⟩ := (unhide HS) u hu; go_simp; first | done | with_reducible rfl)
  try simp only [Act.put, List.setIfInBounds_toArray, List.set_cons_zero, List.set_cons_succ]
  refine Late.take (i := 12) (oi := ⟨some 24, .nilCheck (.tmp 23), 0, "part.go:17", #[⟨11, .data⟩], none⟩) (v := ?_) [48] rfl (by kernel_rfl) (by kernel_rfl) (by decide) (by decide) (by kernel_rfl) (by kernel_rfl) (by kernel_rfl) (fun _ _ _ h => h) rfl ?_ hK1 ?_
  rotate_left
  · (intro u hu; obtain ⟨u0, u1, u2, u3, u4, u5⟩ := (unhide HS) u hu; go_simp; first | done | with_reducible rfl)
  try simp only [Act.put, List.setIfInBounds_toArray, List.set_cons_zero, List.set_cons_succ]
  refine Late.take (i := 13) (oi := ⟨some 25, .fieldAddr 164 (.tmp 24) 0, 0, "part.go:17", #[⟨12, .data⟩], none⟩) (v := ?_) [48] rfl (by kernel_rfl) (by kernel_rfl) (by decide) (by decide) (by kernel_rfl) (by kernel_rfl) (by kernel_rfl) (fun _ _ _ h => h) rfl ?_ hK1 ?_
  rotate_left
  · (intro u hu; obtain ⟨u0, u1, u2, u3, u4, u5⟩ := (unhide HS) u hu; go_simp; first | done | with_reducible rfl)
  try simp only [Act.put, List.setIfInBounds_toArray, List.set_cons_zero, List.set_cons_succ]
  refine Late.take (i := 14) (oi := ⟨some 26, .load 161 (.tmp 25), 161, "part.go:17", #[⟨13, .data⟩], none⟩) (v := ?_) [48] rfl (by kernel_rfl) (by kernel_rfl) (by decide) (by decide) (by kernel_rfl) (by kernel_rfl) (by kernel_rfl) (fun _ _ _ h => h) rfl ?_ hK1 ?_
  rotate_left
  · (intro u hu; obtain ⟨u0, u1, u2, u3, u4, u5⟩ := (unhide HS) u hu; go_simp; first | done | with_reducible rfl)
  try simp only [Act.put, List.setIfInBounds_toArray, List.set_cons_zero, List.set_cons_succ]
  refine Late.take (i := 15) (oi := ⟨some 27, .nilCheck (.tmp 26), 0, "part.go:17", #[⟨14, .data⟩], none⟩) (v := ?_) [48] rfl (by kernel_rfl) (by kernel_rfl) (by decide) (by decide) (by kernel_rfl) (by kernel_rfl) (by kernel_rfl) (fun _ _ _ h => h) rfl ?_ hK1 ?_
  rotate_left
  · (intro u hu; obtain ⟨u0, u1, u2, u3, u4, u5⟩ := (unhide HS) u hu; go_simp; first | done | with_reducible rfl)
  try simp only [Act.put, List.setIfInBounds_toArray, List.set_cons_zero, List.set_cons_succ]
  refine Late.take (i := 16) (oi := ⟨some 28, .fieldAddr 136 (.tmp 27) 2, 0, "part.go:17", #[⟨15, .data⟩], none⟩) (v := ?_) [48] rfl (by kernel_rfl) (by kernel_rfl) (by decide) (by decide) (by kernel_rfl) (by kernel_rfl) (by kernel_rfl) (fun _ _ _ h => h) rfl ?_ hK1 ?_
  rotate_left
  · (intro u hu; obtain ⟨u0, u1, u2, u3, u4, u5⟩ := (unhide HS) u hu; go_simp; first | done | with_reducible rfl)
  try simp only [Act.put, List.setIfInBounds_toArray, List.set_cons_zero, List.set_cons_succ]
  refine Late.take (i := 17) (oi := ⟨some 29, .load 3 (.tmp 28), 3, "part.go:17", #[⟨16, .data⟩], none⟩) (v := ?_) [48] rfl (by kernel_rfl) (by kernel_rfl) (by decide) (by decide) (by kernel_rfl) (by kernel_rfl) (by kernel_rfl) (fun _ _ _ h => h) rfl ?_ hK1 ?_
  rotate_left
  · (intro u hu; obtain ⟨u0, u1, u2, u3, u4, u5⟩ := (unhide HS) u hu; go_simp; first | done | with_reducible rfl)
  try simp only [Act.put, List.setIfInBounds_toArray, List.set_cons_zero, List.set_cons_succ]
  refine Late.take (i := 18) (oi := ⟨some 30, .move (.tmp 0), 162, "part.go:17", #[], none⟩) (v := ?_) [48] rfl (by kernel_rfl) (by kernel_rfl) (by decide) (by decide) (by kernel_rfl) (by kernel_rfl) (by kernel_rfl) (fun _ _ _ h => h) rfl ?_ hK1 ?_
  rotate_left
  · (intro u hu; obtain ⟨u0, u1, u2, u3, u4, u5⟩ := (unhide HS) u hu; go_simp; first | done | with_reducible rfl)
  try simp only [Act.put, List.setIfInBounds_toArray, List.set_cons_zero, List.set_cons_succ]
  refine Late.take (i := 19) (oi := ⟨some 31, .nilCheck (.tmp 30), 0, "part.go:17", #[⟨18, .data⟩], none⟩) (v := ?_) [48] rfl (by kernel_rfl) (by kernel_rfl) (by decide) (by decide) (by kernel_rfl) (by kernel_rfl) (by kernel_rfl) (fun _ _ _ h => h) rfl ?_ hK1 ?_
  rotate_left
  · (intro u hu; obtain ⟨u0, u1, u2, u3, u4, u5⟩ := (unhide HS) u hu; go_simp; first | done | with_reducible rfl)
  try simp only [Act.put, List.setIfInBounds_toArray, List.set_cons_zero, List.set_cons_succ]
  refine Late.take (i := 20) (oi := ⟨some 32, .fieldAddr 164 (.tmp 31) 1, 0, "part.go:17", #[⟨19, .data⟩], none⟩) (v := ?_) [48] rfl (by kernel_rfl) (by kernel_rfl) (by decide) (by decide) (by kernel_rfl) (by kernel_rfl) (by kernel_rfl) (fun _ _ _ h => h) rfl ?_ hK1 ?_
  rotate_left
  · (intro u hu; obtain ⟨u0, u1, u2, u3, u4, u5⟩ := (unhide HS) u hu; go_simp; first | done | with_reducible rfl)
  try simp only [Act.put, List.setIfInBounds_toArray, List.set_cons_zero, List.set_cons_succ]
  refine Late.take (i := 21) (oi := ⟨some 33, .load 3 (.tmp 32), 3, "part.go:17", #[⟨20, .data⟩], none⟩) (v := ?_) [48] rfl (by kernel_rfl) (by kernel_rfl) (by decide) (by decide) (by kernel_rfl) (by kernel_rfl) (by kernel_rfl) (fun _ _ _ h => h) rfl ?_ hK1 ?_
  rotate_left
  · (intro u hu; obtain ⟨u0, u1, u2, u3, u4, u5⟩ := (unhide HS) u hu; go_simp; first | done | with_reducible rfl)
  try simp only [Act.put, List.setIfInBounds_toArray, List.set_cons_zero, List.set_cons_succ]
  refine Late.take (i := 22) (oi := ⟨some 34, .move (.tmp 0), 162, "part.go:17", #[], none⟩) (v := ?_) [48] rfl (by kernel_rfl) (by kernel_rfl) (by decide) (by decide) (by kernel_rfl) (by kernel_rfl) (by kernel_rfl) (fun _ _ _ h => h) rfl ?_ hK1 ?_
  rotate_left
  · (intro u hu; obtain ⟨u0, u1, u2, u3, u4, u5⟩ := (unhide HS) u hu; go_simp; first | done | with_reducible rfl)
  try simp only [Act.put, List.setIfInBounds_toArray, List.set_cons_zero, List.set_cons_succ]
  refine Late.take (i := 23) (oi := ⟨some 35, .nilCheck (.tmp 34), 0, "part.go:17", #[⟨22, .data⟩], none⟩) (v := ?_) [48] rfl (by kernel_rfl) (by kernel_rfl) (by decide) (by decide) (by kernel_rfl) (by kernel_rfl) (by kernel_rfl) (fun _ _ _ h => h) rfl ?_ hK1 ?_
  rotate_left
  · (intro u hu; obtain ⟨u0, u1, u2, u3, u4, u5⟩ := (unhide HS) u hu; go_simp; first | done | with_reducible rfl)
  try simp only [Act.put, List.setIfInBounds_toArray, List.set_cons_zero, List.set_cons_succ]
  refine Late.take (i := 24) (oi := ⟨some 36, .fieldAddr 164 (.tmp 35) 3, 0, "part.go:17", #[⟨23, .data⟩], none⟩) (v := ?_) [48] rfl (by kernel_rfl) (by kernel_rfl) (by decide) (by decide) (by kernel_rfl) (by kernel_rfl) (by kernel_rfl) (fun _ _ _ h => h) rfl ?_ hK1 ?_
  rotate_left
  · (intro u hu; obtain ⟨u0, u1, u2, u3, u4, u5⟩ := (unhide HS) u hu; go_simp; first | done | with_reducible rfl)
  try simp only [Act.put, List.setIfInBounds_toArray, List.set_cons_zero, List.set_cons_succ]
  refine Late.take (i := 25) (oi := ⟨some 37, .load 76 (.tmp 36), 76, "part.go:17", #[⟨24, .data⟩], none⟩) (v := ?_) [48] rfl (by kernel_rfl) (by kernel_rfl) (by decide) (by decide) (by kernel_rfl) (by kernel_rfl) (by kernel_rfl) (fun _ _ _ h => h) rfl ?_ hK1 ?_
  rotate_left
  · (intro u hu; obtain ⟨u0, u1, u2, u3, u4, u5⟩ := (unhide HS) u hu; go_simp; first | done | with_reducible rfl)
  try simp only [Act.put, List.setIfInBounds_toArray, List.set_cons_zero, List.set_cons_succ]
  refine Late.take (i := 26) (oi := ⟨some 38, .call { callee := .builtin .len, args := #[.tmp 37], argTypes := #[76] }, 3, "part.go:17", #[⟨25, .data⟩], none⟩) (v := ?_) [48] rfl (by kernel_rfl) (by kernel_rfl) (by decide) (by decide) (by kernel_rfl) (by kernel_rfl) (by kernel_rfl) (fun _ _ _ h => h) rfl ?_ hK1 ?_
  rotate_left
  · (intro u hu; obtain ⟨u0, u1, u2, u3, u4, u5⟩ := (unhide HS) u hu; go_simp; first | done | with_reducible rfl)
  try simp only [Act.put, List.setIfInBounds_toArray, List.set_cons_zero, List.set_cons_succ]
  refine Late.take (i := 27) (oi := ⟨some 39, .binOp .add 3 (.tmp 33) (.tmp 38) 3, 3, "part.go:17", #[⟨21, .data⟩, ⟨26, .data⟩], none⟩) (v := ?_) [48] rfl (by kernel_rfl) (by kernel_rfl) (by decide) (by decide) (by kernel_rfl) (by kernel_rfl) (by kernel_rfl) (fun _ _ _ h => h) rfl ?_ hK1 ?_
  rotate_left
  · (intro u hu; obtain ⟨u0, u1, u2, u3, u4, u5⟩ := (unhide HS) u hu; go_simp; first | done | with_reducible rfl)
  try simp only [Act.put, List.setIfInBounds_toArray, List.set_cons_zero, List.set_cons_succ]
  refine Late.take (i := 28) (oi := ⟨some 40, .move (.tmp 0), 162, "part.go:17", #[], none⟩) (v := ?_) [48] rfl (by kernel_rfl) (by kernel_rfl) (by decide) (by decide) (by kernel_rfl) (by kernel_rfl) (by kernel_rfl) (fun _ _ _ h => h) rfl ?_ hK1 ?_
  rotate_left
  · (intro u hu; obtain ⟨u0, u1, u2, u3, u4, u5⟩ := (unhide HS) u hu; go_simp; first | done | with_reducible rfl)
  try simp only [Act.put, List.setIfInBounds_toArray, List.set_cons_zero, List.set_cons_succ]
  refine Late.take (i := 29) (oi := ⟨some 41, .nilCheck (.tmp 40), 0, "part.go:17", #[⟨28, .data⟩], none⟩) (v := ?_) [48] rfl (by kernel_rfl) (by kernel_rfl) (by decide) (by decide) (by kernel_rfl) (by kernel_rfl) (by kernel_rfl) (fun _ _ _ h => h) rfl ?_ hK1 ?_
  rotate_left
  · (intro u hu; obtain ⟨u0, u1, u2, u3, u4, u5⟩ := (unhide HS) u hu; go_simp; first | done | with_reducible rfl)
  try simp only [Act.put, List.setIfInBounds_toArray, List.set_cons_zero, List.set_cons_succ]
  refine Late.take (i := 30) (oi := ⟨some 42, .fieldAddr 164 (.tmp 41) 2, 0, "part.go:17", #[⟨29, .data⟩], none⟩) (v := ?_) [48] rfl (by kernel_rfl) (by kernel_rfl) (by decide) (by decide) (by kernel_rfl) (by kernel_rfl) (by kernel_rfl) (fun _ _ _ h => h) rfl ?_ hK1 ?_
  rotate_left
  · (intro u hu; obtain ⟨u0, u1, u2, u3, u4, u5⟩ := (unhide HS) u hu; go_simp; first | done | with_reducible rfl)
  try simp only [Act.put, List.setIfInBounds_toArray, List.set_cons_zero, List.set_cons_succ]
  refine Late.take (i := 31) (oi := ⟨some 43, .load 3 (.tmp 42), 3, "part.go:17", #[⟨30, .data⟩], none⟩) (v := ?_) [48] rfl (by kernel_rfl) (by kernel_rfl) (by decide) (by decide) (by kernel_rfl) (by kernel_rfl) (by kernel_rfl) (fun _ _ _ h => h) rfl ?_ hK1 ?_
  rotate_left
  · (intro u hu; obtain ⟨u0, u1, u2, u3, u4, u5⟩ := (unhide HS) u hu; go_simp; first | done | with_reducible rfl)
  try simp only [Act.put, List.setIfInBounds_toArray, List.set_cons_zero, List.set_cons_succ]
  refine Late.take (i := 32) (oi := ⟨some 44, .move (.tmp 0), 162, "part.go:17", #[], none⟩) (v := ?_) [48] rfl (by kernel_rfl) (by kernel_rfl) (by decide) (by decide) (by kernel_rfl) (by kernel_rfl) (by kernel_rfl) (fun _ _ _ h => h) rfl ?_ hK1 ?_
  rotate_left
  · (intro u hu; obtain ⟨u0, u1, u2, u3, u4, u5⟩ := (unhide HS) u hu; go_simp; first | done | with_reducible rfl)
  try simp only [Act.put, List.setIfInBounds_toArray, List.set_cons_zero, List.set_cons_succ]
  refine Late.take (i := 33) (oi := ⟨some 45, .nilCheck (.tmp 44), 0, "part.go:17", #[⟨32, .data⟩], none⟩) (v := ?_) [48] rfl (by kernel_rfl) (by kernel_rfl) (by decide) (by decide) (by kernel_rfl) (by kernel_rfl) (by kernel_rfl) (fun _ _ _ h => h) rfl ?_ hK1 ?_
  rotate_left
  · (intro u hu; obtain ⟨u0, u1, u2, u3, u4, u5⟩ := (unhide HS) u hu; go_simp; first | done | with_reducible rfl)
  try simp only [Act.put, List.setIfInBounds_toArray, List.set_cons_zero, List.set_cons_succ]
  refine Late.take (i := 34) (oi := ⟨some 46, .fieldAddr 164 (.tmp 45) 3, 0, "part.go:17", #[⟨33, .data⟩], none⟩) (v := ?_) [48] rfl (by kernel_rfl) (by kernel_rfl) (by decide) (by decide) (by kernel_rfl) (by kernel_rfl) (by kernel_rfl) (fun _ _ _ h => h) rfl ?_ hK1 ?_
  rotate_left
  · (intro u hu; obtain ⟨u0, u1, u2, u3, u4, u5⟩ := (unhide HS) u hu; go_simp; first | done | with_reducible rfl)
  try simp only [Act.put, List.setIfInBounds_toArray, List.set_cons_zero, List.set_cons_succ]
  refine Late.take (i := 35) (oi := ⟨some 47, .load 76 (.tmp 46), 76, "part.go:17", #[⟨34, .data⟩], none⟩) (v := ?_) [48] rfl (by kernel_rfl) (by kernel_rfl) (by decide) (by decide) (by kernel_rfl) (by kernel_rfl) (by kernel_rfl) (fun _ _ _ h => h) rfl ?_ hK1 ?_
  rotate_left
  · (intro u hu; obtain ⟨u0, u1, u2, u3, u4, u5⟩ := (unhide HS) u hu; go_simp; first | done | with_reducible rfl)
  try simp only [Act.put, List.setIfInBounds_toArray, List.set_cons_zero, List.set_cons_succ]
  refine Late.take (i := 36) (oi := ⟨some 48, .call { callee := .builtin .len, args := #[.tmp 47], argTypes := #[76] }, 3, "part.go:17", #[⟨35, .data⟩], none⟩) (v := ?_) [48] rfl (by kernel_rfl) (by kernel_rfl) (by decide) (by decide) (by kernel_rfl) (by kernel_rfl) (by kernel_rfl) (fun _ _ _ h => h) rfl ?_ hK1 ?_
  rotate_left
  · (intro u hu; obtain ⟨u0, u1, u2, u3, u4, u5⟩ := (unhide HS) u hu; go_simp; first | done | with_reducible rfl)
  try simp only [Act.put, List.setIfInBounds_toArray, List.set_cons_zero, List.set_cons_succ]
  refine Late.take (i := 37) (oi := ⟨some 49, .binOp .sub 3 (.tmp 43) (.tmp 48) 3, 3, "part.go:17", #[⟨31, .data⟩, ⟨36, .data⟩], none⟩) (v := ?_) [48] rfl (by kernel_rfl) (by kernel_rfl) (by decide) (by decide) (by kernel_rfl) (by kernel_rfl) (by kernel_rfl) (fun _ _ _ h => h) rfl ?_ hK1 ?_
  rotate_left
  · (intro u hu; obtain ⟨u0, u1, u2, u3, u4, u5⟩ := (unhide HS) u hu; go_simp; first | done | with_reducible rfl)
  try simp only [Act.put, List.setIfInBounds_toArray, List.set_cons_zero, List.set_cons_succ]
  refine Late.take (i := 38) (oi := ⟨some 50, .build 72 #[(0, .tmp 29), (1, .tmp 39), (2, .tmp 49)], 72, "part.go:17", #[⟨17, .data⟩, ⟨27, .data⟩, ⟨37, .data⟩], none⟩) (v := ?_) [48] rfl (by kernel_rfl) (by kernel_rfl) (by decide) (by decide) (by kernel_rfl) (by kernel_rfl) (by kernel_rfl) (fun _ _ _ h => h) rfl ?_ hK1 ?_
  rotate_left
  · (intro u hu; obtain ⟨u0, u1, u2, u3, u4, u5⟩ := (unhide HS) u hu; go_simp; first | done | with_reducible rfl)
  try simp only [Act.put, List.setIfInBounds_toArray, List.set_cons_zero, List.set_cons_succ]
  refine Late.take (i := 39) (oi := ⟨some 51, .move (.tmp 0), 162, "part.go:17", #[], none⟩) (v := ?_) [48] rfl (by kernel_rfl) (by kernel_rfl) (by decide) (by decide) (by kernel_rfl) (by kernel_rfl) (by kernel_rfl) (fun _ _ _ h => h) rfl ?_ hK1 ?_
  rotate_left
  · (intro u hu; obtain ⟨u0, u1, u2, u3, u4, u5⟩ := (unhide HS) u hu; go_simp; first | done | with_reducible rfl)
  try simp only [Act.put, List.setIfInBounds_toArray, List.set_cons_zero, List.set_cons_succ]
  refine Late.take (i := 40) (oi := ⟨some 52, .makeFunc (Go.Fn.func 118) #[.tmp 51] #[], 167, "part.go:17", #[⟨39, .data⟩], none⟩) (v := ?_) [48] rfl (by kernel_rfl) (by kernel_rfl) (by decide) (by decide) (by kernel_rfl) (by kernel_rfl) (by kernel_rfl) (fun _ _ _ h => h) rfl ?_ hK1 ?_
  rotate_left
  · (intro u hu; obtain ⟨u0, u1, u2, u3, u4, u5⟩ := (unhide HS) u hu; go_simp; first | done | with_reducible rfl)
  try simp only [Act.put, List.setIfInBounds_toArray, List.set_cons_zero, List.set_cons_succ]
  refine Late.take (i := 41) (oi := ⟨some 53, .move (.tmp 0), 162, "part.go:17", #[], none⟩) (v := ?_) [48] rfl (by kernel_rfl) (by kernel_rfl) (by decide) (by decide) (by kernel_rfl) (by kernel_rfl) (by kernel_rfl) (fun _ _ _ h => h) rfl ?_ hK1 ?_
  rotate_left
  · (intro u hu; obtain ⟨u0, u1, u2, u3, u4, u5⟩ := (unhide HS) u hu; go_simp; first | done | with_reducible rfl)
  try simp only [Act.put, List.setIfInBounds_toArray, List.set_cons_zero, List.set_cons_succ]
  refine Late.take (i := 42) (oi := ⟨some 54, .makeFunc (Go.Fn.func 119) #[.tmp 53] #[], 1, "part.go:17", #[⟨41, .data⟩], none⟩) (v := ?_) [48] rfl (by kernel_rfl) (by kernel_rfl) (by decide) (by decide) (by kernel_rfl) (by kernel_rfl) (by kernel_rfl) (fun _ _ _ h => h) rfl ?_ hK1 ?_
  rotate_left
  · (intro u hu; obtain ⟨u0, u1, u2, u3, u4, u5⟩ := (unhide HS) u hu; go_simp; first | done | with_reducible rfl)
  try simp only [Act.put, List.setIfInBounds_toArray, List.set_cons_zero, List.set_cons_succ]
  refine Late.take (i := 43) (oi := ⟨some 55, .build 169 #[(0, .tmp 50), (1, .tmp 52), (2, .tmp 54)], 169, "part.go:17", #[⟨38, .data⟩, ⟨40, .data⟩, ⟨42, .data⟩], none⟩) (v := ?_) [48] rfl (by kernel_rfl) (by kernel_rfl) (by decide) (by decide) (by kernel_rfl) (by kernel_rfl) (by kernel_rfl) (fun _ _ _ h => h) rfl ?_ hK1 ?_
  rotate_left
  · (intro u hu; obtain ⟨u0, u1, u2, u3, u4, u5⟩ := (unhide HS) u hu; go_simp; first | done | with_reducible rfl)
  try simp only [Act.put, List.setIfInBounds_toArray, List.set_cons_zero, List.set_cons_succ]
  refine Late.one (i := 44) (o := ⟨some 56, .buildSlice 133 1 #[(0, .tmp 55)], 133, "part.go:17", #[⟨43, .data⟩], none⟩) (by kernel_rfl) rfl (fun K hK => ?_)
  go_simp
  refine hK _ _ (fun _ => ((Kp.refl _ _).alloc _).drew) ?_
  clear hK K
  try simp only [Act.put, List.setIfInBounds_toArray, List.set_cons_zero, List.set_cons_succ]
  refine Late.one (i := 45) (o := ⟨some 57, .call { callee := .builtin .append, args := #[.tmp 22, .tmp 56], argTypes := #[133, 133] }, 133, "part.go:17", #[⟨10, .data⟩, ⟨44, .data⟩], none⟩) (by kernel_rfl) rfl (fun K hK => ?_)
  refine step_append_g rfl _ _ 133 133 rfl 169 zReq 5 40 Tryz.underlying133 infoReq rfl _ _ _ (by rfl) ((unhide HA) _ ((Kp.refl _ _).alloc _).drew) _ (by rfl) 1 _ (src_elemD _ _ _ Tryz.underlying133 _ _ (unhide HR) (unhide HO)) (by omega) (by omega) ?_
  intro v' w1 o2 k2 s2
  have k12 : Kp (fun k => k ≠ p ∧ k ≠ P) W1 w1 := ((Kp.refl _ _).alloc _).drew.trans (k2.mono (fun k _ e => (unhide HV) k e))
  refine hK _ _ (fun _ => k12) ?_
  clear hK K
  obtain ⟨a', c', rfl, hc'⟩ := o2.shape
  try simp only [Act.put, List.setIfInBounds_toArray, List.set_cons_zero, List.set_cons_succ]
  have s10' : w1.cell? ⟨P, 10, none⟩ = some (.slice aa m.asked.length ac) := k12.cell s10 (by simp)
  have f10' : w1.frozen? ⟨P, 10, none⟩ = false := by rw [World.frozen?_of_block (w := W1) (a := ⟨P, 10, none⟩) (k12.block P h1.blk.lt (by simp))]; exact f10
  refine Late.one (i := 46) (o := ⟨some 58, .nilCheck (.tmp 15), 0, "part.go:17", #[⟨3, .data⟩, ⟨0, .phase⟩, ⟨1, .phase⟩, ⟨2, .phase⟩, ⟨3, .phase⟩, ⟨4, .phase⟩, ⟨5, .phase⟩, ⟨6, .phase⟩, ⟨7, .phase⟩, ⟨8, .phase⟩, ⟨9, .phase⟩, ⟨10, .phase⟩, ⟨11, .phase⟩, ⟨12, .phase⟩, ⟨13, .phase⟩, ⟨14, .phase⟩, ⟨15, .phase⟩, ⟨16, .phase⟩, ⟨17, .phase⟩, ⟨18, .phase⟩, ⟨19, .phase⟩, ⟨20, .phase⟩, ⟨21, .phase⟩, ⟨22, .phase⟩, ⟨23, .phase⟩, ⟨24, .phase⟩, ⟨25, .phase⟩, ⟨26, .phase⟩, ⟨27, .phase⟩, ⟨28, .phase⟩, ⟨29, .phase⟩, ⟨30, .phase⟩, ⟨31, .phase⟩, ⟨32, .phase⟩, ⟨33, .phase⟩, ⟨34, .phase⟩, ⟨35, .phase⟩, ⟨36, .phase⟩, ⟨37, .phase⟩, ⟨38, .phase⟩, ⟨39, .phase⟩, ⟨40, .phase⟩, ⟨41, .phase⟩, ⟨42, .phase⟩, ⟨43, .phase⟩, ⟨44, .phase⟩, ⟨45, .phase⟩], none⟩) (by kernel_rfl) rfl (fun K hK => ?_)
  go_simp
  refine hK _ _ (fun _ => k12) ?_
  clear hK K
  try simp only [Act.put, List.setIfInBounds_toArray, List.set_cons_zero, List.set_cons_succ]
  refine Late.one (i := 47) (o := ⟨some 59, .fieldAddr 136 (.tmp 58) 3, 0, "part.go:17", #[⟨46, .data⟩, ⟨0, .phase⟩, ⟨1, .phase⟩, ⟨2, .phase⟩, ⟨3, .phase⟩, ⟨4, .phase⟩, ⟨5, .phase⟩, ⟨6, .phase⟩, ⟨7, .phase⟩, ⟨8, .phase⟩, ⟨9, .phase⟩, ⟨10, .phase⟩, ⟨11, .phase⟩, ⟨12, .phase⟩, ⟨13, .phase⟩, ⟨14, .phase⟩, ⟨15, .phase⟩, ⟨16, .phase⟩, ⟨17, .phase⟩, ⟨18, .phase⟩, ⟨19, .phase⟩, ⟨20, .phase⟩, ⟨21, .phase⟩, ⟨22, .phase⟩, ⟨23, .phase⟩, ⟨24, .phase⟩, ⟨25, .phase⟩, ⟨26, .phase⟩, ⟨27, .phase⟩, ⟨28, .phase⟩, ⟨29, .phase⟩, ⟨30, .phase⟩, ⟨31, .phase⟩, ⟨32, .phase⟩, ⟨33, .phase⟩, ⟨34, .phase⟩, ⟨35, .phase⟩, ⟨36, .phase⟩, ⟨37, .phase⟩, ⟨38, .phase⟩, ⟨39, .phase⟩, ⟨40, .phase⟩, ⟨41, .phase⟩, ⟨42, .phase⟩, ⟨43, .phase⟩, ⟨44, .phase⟩, ⟨45, .phase⟩], none⟩) (by kernel_rfl) rfl (fun K hK => ?_)
  go_simp
  refine hK _ _ (fun _ => k12) ?_
  clear hK K
  try simp only [Act.put, List.setIfInBounds_toArray, List.set_cons_zero, List.set_cons_succ]
  refine Late.one (i := 48) (o := ⟨none, .store 133 (.tmp 59) (.tmp 57), 0, "part.go:17", #[⟨47, .data⟩, ⟨45, .data⟩, ⟨45, .chain⟩, ⟨0, .phase⟩, ⟨1, .phase⟩, ⟨2, .phase⟩, ⟨3, .phase⟩, ⟨4, .phase⟩, ⟨5, .phase⟩, ⟨6, .phase⟩, ⟨7, .phase⟩, ⟨8, .phase⟩, ⟨9, .phase⟩, ⟨10, .phase⟩, ⟨11, .phase⟩, ⟨12, .phase⟩, ⟨13, .phase⟩, ⟨14, .phase⟩, ⟨15, .phase⟩, ⟨16, .phase⟩, ⟨17, .phase⟩, ⟨18, .phase⟩, ⟨19, .phase⟩, ⟨20, .phase⟩, ⟨21, .phase⟩, ⟨22, .phase⟩, ⟨23, .phase⟩, ⟨24, .phase⟩, ⟨25, .phase⟩, ⟨26, .phase⟩, ⟨27, .phase⟩, ⟨28, .phase⟩, ⟨29, .phase⟩, ⟨30, .phase⟩, ⟨31, .phase⟩, ⟨32, .phase⟩, ⟨33, .phase⟩, ⟨34, .phase⟩, ⟨35, .phase⟩, ⟨36, .phase⟩, ⟨37, .phase⟩, ⟨38, .phase⟩, ⟨39, .phase⟩, ⟨40, .phase⟩, ⟨41, .phase⟩, ⟨42, .phase⟩, ⟨43, .phase⟩, ⟨44, .phase⟩, ⟨45, .phase⟩], none⟩) (by kernel_rfl) rfl (fun K hK => ?_)
  go_simp
  refine hK _ _ (fun h => absurd rfl h) ?_
  clear hK K
  try simp only [Act.put, List.setIfInBounds_toArray, List.set_cons_zero, List.set_cons_succ]
  refine Late.done (by kernel_rfl) ?_ _
  go_end0
  have hw1 : Went col w W1 col := ⟨(k1.mono (fun i _ hi => by show col i ≠ .out; rw [hi, h.inn.pcol]; simp)), fun _ _ => rfl⟩
  obtain ⟨r1, r2⟩ := h1.askMore hp1 hn (((Kp.refl _ _).alloc _).drew) k2 s2 o2
  exact ⟨rfl, _, _, r1, hw1.trans r2⟩
end Go.Proofs.YthicgffppmbamaaGreat
