/- The program's scan in memory: what belongs to it (by colours of blocks), and what it holds. -/
import Derived.Test.YthicgffppmbamaaGreatOwnG
import Derived.Test.YthicgffppmbamaaGreatReadP
import Derived.Test.YthicgffppmbamaaGreatLent0
import Derived.Test.YthicgffppmbamaaGreatPlainM
namespace Go.Proofs.YthicgffppmbamaaGreat
open Go.RowKit

/-- what a block is for; out: it is not the scan's -/
inductive Col where
  | out | box | scan | asked | wait | part | data (p : Nat) | groups | lists (g : Nat) | ro
  deriving DecidableEq
abbrev Colr := Nat → Col
abbrev Mine (col : Colr) : Nat → Prop := fun k => col k ≠ .out
def paint (col : Colr) (n n' : Nat) (c : Col) : Colr := fun k => if n ≤ k ∧ k < n' then c else col k
theorem paint_lt (col : Colr) (n n' : Nat) (c : Col) (k : Nat) (h : k < n) : paint col n n' c k = col k := by unfold paint; rw [if_neg (by omega)]
theorem paint_ge (col : Colr) (n n' : Nat) (c : Col) (k : Nat) (h : n' ≤ k) : paint col n n' c k = col k := by unfold paint; rw [if_neg (by omega)]
theorem paint_in (col : Colr) (n n' : Nat) (c : Col) (k : Nat) (h : n ≤ k) (h' : k < n') : paint col n n' c k = c := by unfold paint; rw [if_pos ⟨h, h'⟩]

/-- a row of n elements of 'size' cells each that is read; fr: it may be written, too -/
def RowAt (C : Nat → Prop) (fr : Bool) (w : World) (size : Nat) (v : Value) (n : Nat) (cs : List Value) : Prop :=
  cs.length = n * size ∧ ∃ ao cap, v = .slice ao n cap ∧ n ≤ cap ∧ (0 < n → ∃ b off, ao = some ⟨b, off, none⟩ ∧ C b ∧ b < w.heap.size ∧ (∀ j, j < n * size → w.cell? ⟨b, off + j, none⟩ = cs[j]?) ∧ (fr = true → ∀ j, j < n * size → w.frozen? ⟨b, off + j, none⟩ = false))
theorem RowAt.go {C C' : Nat → Prop} {fr : Bool} {S : Nat → Prop} {w w' : World} {size n : Nat} {v : Value} {cs : List Value} (h : RowAt C fr w size v n cs) (k : Kp S w w') (hS : ∀ i, C i → ¬ S i) (hC : ∀ i, i < w.heap.size → C i → C' i) : RowAt C' fr w' size v n cs := by
  obtain ⟨hl, ao, cap, rfl, h1, h3⟩ := h
  refine ⟨hl, ao, cap, rfl, h1, fun hp => ?_⟩
  obtain ⟨b, off, rfl, hb, hlt, hc, hf⟩ := h3 hp
  have e := k.block b hlt (hS b hb)
  refine ⟨b, off, rfl, hC b hlt hb, Nat.lt_of_lt_of_le hlt k.size, fun j hj => ?_, fun ht j hj => ?_⟩
  · rw [World.cell?_of_block (w := w) (a := ⟨b, off + j, none⟩) e]; exact hc j hj
  · rw [World.frozen?_of_block (w := w) (a := ⟨b, off + j, none⟩) e]; exact hf ht j hj
theorem RowAt.nil (C : Nat → Prop) (fr : Bool) (w : World) (size : Nat) : RowAt C fr w size (.slice none 0 0) 0 [] := ⟨by simp, none, 0, rfl, Nat.le_refl _, fun h => absurd h (by omega)⟩
theorem Own.rowAt {w : World} {size n : Nat} {v : Value} {cs : List Value} (h : Own w size v n cs) (C : Nat → Prop) (hC : ∀ g, v.ownBlock = some g → C g) : RowAt C true w size v n cs := by
  refine ⟨h.1, ?_⟩
  rcases h.2 with ⟨rfl, rfl⟩ | ⟨g, cap, rfl, h1, h2, h3, h4, h5⟩
  · exact ⟨none, 0, rfl, Nat.le_refl _, fun h => absurd h (by omega)⟩
  · refine ⟨_, cap, rfl, h1, fun _ => ⟨g, 0, rfl, hC g rfl, h3, fun j hj => by rw [Nat.zero_add]; exact h4 j hj, fun _ j hj => ?_⟩⟩
    rw [Nat.zero_add]
    exact (h5 j (Nat.lt_of_lt_of_le hj (Nat.mul_le_mul_right _ h1))).2
theorem Own.go {w w' : World} {S : Nat → Prop} {size n : Nat} {v : Value} {cs : List Value} (h : Own w size v n cs) (k : Kp S w w') (hn : ∀ g, v.ownBlock = some g → ¬ S g) : Own w' size v n cs := h.kept k hn

abbrev PtrTo (b o : Nat) : Value := .pointer (some ⟨b, o, none⟩)
/-- a method of something, bound -/
abbrev Bound (f : Nat) (r : Value) : Value := .func (.func f) #[r] #[]
abbrev giveUpV (P : Nat) : Value := Bound 81 (PtrTo P 0)

/-- the cells of a wanted page -/
def wpCells (x : Pl.WPage) : List Value := [I x.page.place, I x.page.length, .int .u32 x.page.sum, I x.group, I x.column, I x.rows]
def PagesAt (col : Colr) (w : World) (v : Value) (l : List Pl.WPage) : Prop := RowAt (fun b => col b = .ro) false w 6 v l.length (l.flatMap wpCells)
theorem PagesAt.go {col col' : Colr} {S : Nat → Prop} {w w' : World} {v : Value} {l : List Pl.WPage} (h : PagesAt col w v l) (k : Kp S w w') (hS : ∀ i, S i → col i ≠ .ro) (hc : ∀ i, i < w.heap.size → col' i = col i) : PagesAt col' w' v l :=
  RowAt.go h k (fun i hi hs => hS i hs hi) (fun i hlt hi => by rw [hc i hlt]; exact hi)
theorem PagesAt.nil (col : Colr) (w : World) : PagesAt col w (.slice none 0 0) [] := RowAt.nil _ _ _ _

def AimAt (col : Colr) (w : World) (P : Nat) (v : Value) : Pl.Aim → Prop
  | .tail => v = Bound 84 (PtrTo P 0)
  | .footer => v = Bound 104 (PtrTo P 0)
  | .piece p => ∃ pv, v = Bound 149 (.agg #[PtrTo P 0, I p.place, I p.length, pv]) ∧ PagesAt col w pv p.pages
theorem AimAt.go {col col' : Colr} {S : Nat → Prop} {w w' : World} {P : Nat} {v : Value} {a : Pl.Aim} (h : AimAt col w P v a) (k : Kp S w w') (hS : ∀ i, S i → col i ≠ .ro) (hc : ∀ i, i < w.heap.size → col' i = col i) : AimAt col' w' P v a := by
  cases a with
  | tail => exact h
  | footer => exact h
  | piece p =>
    obtain ⟨pv, e, hp⟩ := h
    exact ⟨pv, e, hp.go k hS hc⟩

/-- a part of the file, at block p -/
def partCells (P : Nat) (x : Pl.Part) (dv av : Value) : List Value := [PtrTo P 7, I x.place, I x.length, dv, I x.failures, av]
structure PartAt (col : Colr) (w : World) (P p : Nat) (x : Pl.Part) (dv av : Value) : Prop where
  blk : Blk w p (partCells P x dv av) 164
  data : OwnB w dv x.data
  dcol : ∀ g, dv.ownBlock = some g → col g = .data p
  aim : AimAt col w P av x.aim
  pcol : col p = .part
theorem PartAt.go {col col' : Colr} {S : Nat → Prop} {w w' : World} {P p : Nat} {x : Pl.Part} {dv av : Value} (h : PartAt col w P p x dv av) (k : Kp S w w') (hp : ¬ S p) (hd : ∀ i, S i → col i ≠ .data p) (hS : ∀ i, S i → col i ≠ .ro) (hc : ∀ i, i < w.heap.size → col' i = col i) : PartAt col' w' P p x dv av :=
  ⟨h.blk.kept k hp, h.data.kept k (fun g hg hs => hd g hs (h.dcol g hg)), fun g hg => by rw [hc g (h.data.lt hg)]; exact h.dcol g hg, h.aim.go k hS hc, by rw [hc p h.blk.lt]; exact h.pcol⟩

/-- the parts of a list of requests, or of those that wait -/
def PartsAt (col : Colr) (w : World) (P : Nat) (ps : List Nat) (l : List (Nat × Pl.Part)) : Prop :=
  ps.length = l.length ∧ ∀ (i : Nat) (p : Nat) (q : Nat × Pl.Part), ps[i]? = some p → l[i]? = some q → ∃ dv av, PartAt col w P p q.2 dv av
theorem PartsAt.go {col col' : Colr} {S : Nat → Prop} {w w' : World} {P : Nat} {ps : List Nat} {l : List (Nat × Pl.Part)} (h : PartsAt col w P ps l) (k : Kp S w w') (hp : ∀ p ∈ ps, ¬ S p) (hd : ∀ p ∈ ps, ∀ i, S i → col i ≠ .data p) (hS : ∀ i, S i → col i ≠ .ro) (hc : ∀ i, i < w.heap.size → col' i = col i) : PartsAt col' w' P ps l :=
  ⟨h.1, fun i p q a b => let ⟨dv, av, e⟩ := h.2 i p q a b; ⟨dv, av, e.go k (hp p (List.mem_of_getElem? a)) (hd p (List.mem_of_getElem? a)) hS hc⟩⟩
theorem PartsAt.lt {col : Colr} {w : World} {P : Nat} {ps : List Nat} {l : List (Nat × Pl.Part)} (h : PartsAt col w P ps l) {p : Nat} (hp : p ∈ ps) : p < w.heap.size ∧ col p = .part := by
  obtain ⟨i, hi⟩ := List.getElem?_of_mem hp
  have hil := (List.getElem?_eq_some_iff.1 hi).1
  obtain ⟨_, _, e⟩ := h.2 i p _ hi (List.getElem?_eq_getElem (by rw [← h.1]; exact hil))
  exact ⟨e.blk.lt, e.pcol⟩

def reqCells (p : Nat) (q : Nat × Pl.Part) : List Value := [I q.1, I (q.2.place + q.2.data.length : Nat), I (q.2.length - q.2.data.length : Nat), Bound 118 (PtrTo p 0), Bound 119 (PtrTo p 0)]
def waitCells (p : Nat) (q : Nat × Pl.Part) : List Value := [I q.1, Bound 102 (PtrTo p 0)]
def reqRow (ps : List Nat) (l : List (Nat × Pl.Part)) : List Value := (List.zipWith reqCells ps l).flatten
def waitRow (ps : List Nat) (l : List (Nat × Pl.Part)) : List Value := (List.zipWith waitCells ps l).flatten

def pieceRow (pvs : List Value) (l : List Pl.Piece) : List Value := (List.zipWith (fun pv (p : Pl.Piece) => [I p.place, I p.length, pv]) pvs l).flatten
def AheadAt (col : Colr) (w : World) (v : Value) (l : List Pl.Piece) : Prop :=
  ∃ pvs : List Value, pvs.length = l.length ∧ RowAt (fun b => col b = .ro) false w 3 v l.length (pieceRow pvs l) ∧ ∀ (i : Nat) (pv : Value) (p : Pl.Piece), pvs[i]? = some pv → l[i]? = some p → PagesAt col w pv p.pages
theorem AheadAt.go {col col' : Colr} {S : Nat → Prop} {w w' : World} {v : Value} {l : List Pl.Piece} (h : AheadAt col w v l) (k : Kp S w w') (hS : ∀ i, S i → col i ≠ .ro) (hc : ∀ i, i < w.heap.size → col' i = col i) : AheadAt col' w' v l := by
  obtain ⟨pvs, h1, h2, h3⟩ := h
  exact ⟨pvs, h1, h2.go k (fun i hi hs => hS i hs hi) (fun i hlt hi => by rw [hc i hlt]; exact hi), fun i pv p a b => (h3 i pv p a b).go k hS hc⟩
theorem AheadAt.nil (col : Colr) (w : World) : AheadAt col w (.slice none 0 0) [] := ⟨[], rfl, RowAt.nil _ _ _ _, fun i _ _ a => by simp at a⟩

/-- rows that have come -/
def ListsAt (col : Colr) (w : World) (g : Nat) (v : Value) (ls : List (List Int)) : Prop :=
  ∃ vs : List Value, vs.length = ls.length ∧ RowAt (fun b => col b = .lists g) true w 1 v ls.length vs ∧ ∀ (i : Nat) (u : Value) (l : List Int), vs[i]? = some u → ls[i]? = some l → RowAt (fun b => col b = .ro) false w 1 u l.length (l.map I)
theorem ListsAt.go {col col' : Colr} {S : Nat → Prop} {w w' : World} {g : Nat} {v : Value} {ls : List (List Int)} (h : ListsAt col w g v ls) (k : Kp S w w') (hg : ∀ i, S i → col i ≠ .lists g) (hS : ∀ i, S i → col i ≠ .ro) (hc : ∀ i, i < w.heap.size → col' i = col i) : ListsAt col' w' g v ls := by
  obtain ⟨vs, h1, h2, h3⟩ := h
  exact ⟨vs, h1, h2.go k (fun i hi hs => hg i hs hi) (fun i hlt hi => by rw [hc i hlt]; exact hi), fun i u l a b => (h3 i u l a b).go k (fun i hi hs => hS i hs hi) (fun i hlt hi => by rw [hc i hlt]; exact hi)⟩
def groupRow (lvs : List Value) (l : List Pl.RGroup) : List Value := (List.zipWith (fun lv (g : Pl.RGroup) => [I g.rows, lv, I g.missing]) lvs l).flatten
def GroupsAt (col : Colr) (w : World) (gone : Nat) (v : Value) (l : List Pl.RGroup) : Prop :=
  ∃ lvs : List Value, lvs.length = l.length ∧ RowAt (fun b => col b = .groups) true w 3 v l.length (groupRow lvs l) ∧ ∀ (i : Nat) (lv : Value) (g : Pl.RGroup), lvs[i]? = some lv → l[i]? = some g → ListsAt col w (gone + i) lv g.lists
theorem GroupsAt.go {col col' : Colr} {S : Nat → Prop} {w w' : World} {gone : Nat} {v : Value} {l : List Pl.RGroup} (h : GroupsAt col w gone v l) (k : Kp S w w') (hg : ∀ i, S i → col i ≠ .groups) (hl : ∀ g i, S i → col i ≠ .lists g) (hS : ∀ i, S i → col i ≠ .ro) (hc : ∀ i, i < w.heap.size → col' i = col i) : GroupsAt col' w' gone v l := by
  obtain ⟨pvs, h1, h2, h3⟩ := h
  exact ⟨pvs, h1, h2.go k (fun i hi hs => hg i hs hi) (fun i hlt hi => by rw [hc i hlt]; exact hi), fun i pv p a b => (h3 i pv p a b).go k (hl _) hS hc⟩
theorem GroupsAt.nil (col : Colr) (w : World) (gone : Nat) : GroupsAt col w gone (.slice none 0 0) [] := ⟨[], rfl, RowAt.nil _ _ _ _, fun i _ _ a => by simp at a⟩

def giveV (P : Nat) (m : Pl.Sc) : Value := if m.state = 0 then giveUpV P else .nilFunc
def scCells (P : Nat) (m : Pl.Sc) (nv av wv hv gv : Value) : List Value :=
  [I m.state, I m.size, nv, I m.win, I m.tries, I m.nrows, I m.gap, I m.tries, giveV P m, I m.lastId, av, wv, hv, I m.opened, I m.rows.columns, gv, I m.rows.gone, I m.rows.row, I m.rows.left]
abbrev tx (l : List UInt8) : Value := .string ⟨l.toArray⟩

/-- what the scan at block P holds, its own block left out -/
structure Inner (col : Colr) (w : World) (P : Nat) (m : Pl.Sc) (ps qs : List Nat) (nv av wv hv gv : Value) : Prop where
  pcol : col P = .scan
  top : ∀ k, w.heap.size ≤ k → col k = .out
  names : RowAt (fun b => col b = .ro) false w 1 nv m.want.length (m.want.map tx)
  asked : Own w 5 av m.asked.length (reqRow ps m.asked)
  acol : ∀ g, av.ownBlock = some g → col g = .asked
  aparts : PartsAt col w P ps m.asked
  waiting : Own w 2 wv m.waiting.length (waitRow qs m.waiting)
  wcol : ∀ g, wv.ownBlock = some g → col g = .wait
  wparts : PartsAt col w P qs m.waiting
  nodup : (ps ++ qs).Nodup
  ahead : AheadAt col w hv m.ahead
  groups : GroupsAt col w m.rows.gone gv m.rows.groups
/-- the scan at block P is m -/
structure Rep (col : Colr) (w : World) (P : Nat) (m : Pl.Sc) (ps qs : List Nat) (nv av wv hv gv : Value) : Prop where
  blk : Blk w P (scCells P m nv av wv hv gv) 142
  inn : Inner col w P m ps qs nv av wv hv gv

/-- what is inside goes on where only blocks of no colour, or of the scan itself, are touched; new blocks may be coloured -/
theorem Inner.go {col col' : Colr} {S : Nat → Prop} {w w' : World} {P : Nat} {m : Pl.Sc} {ps qs : List Nat} {nv av wv hv gv : Value} (h : Inner col w P m ps qs nv av wv hv gv) (k : Kp S w w') (hP : P < w.heap.size) (hS : ∀ i, S i → col i = .out ∨ col i = .scan) (hc : ∀ i, i < w.heap.size → col' i = col i) (ht : ∀ i, w'.heap.size ≤ i → col' i = .out) : Inner col' w' P m ps qs nv av wv hv gv := by
  have hno : ∀ (c : Col), c ≠ .out → c ≠ .scan → ∀ i, S i → col i ≠ c := fun c hc hc' i hi e => by
    rcases hS i hi with e' | e'
    · exact hc (by rw [← e, e'])
    · exact hc' (by rw [← e, e'])
  have ha : ∀ p ∈ ps, ¬ S p := fun p hp hs => hno .part (by simp) (by simp) p hs (h.aparts.lt hp).2
  have hw : ∀ p ∈ qs, ¬ S p := fun p hp hs => hno .part (by simp) (by simp) p hs (h.wparts.lt hp).2
  refine ⟨by rw [hc P hP]; exact h.pcol, ht, ?_, ?_, fun g hg => by rw [hc g (h.asked.lt hg)]; exact h.acol g hg, ?_, ?_, fun g hg => by rw [hc g (h.waiting.lt hg)]; exact h.wcol g hg, ?_, h.nodup, ?_, ?_⟩
  · exact h.names.go k (fun i hi hs => hno .ro (by simp) (by simp) i hs hi) (fun i hlt e => by rw [hc i hlt]; exact e)
  · exact h.asked.kept k (fun g hg hs => hno .asked (by simp) (by simp) g hs (h.acol g hg))
  · exact h.aparts.go k ha (fun p _ => hno _ (by simp) (by simp)) (hno _ (by simp) (by simp)) hc
  · exact h.waiting.kept k (fun g hg hs => hno .wait (by simp) (by simp) g hs (h.wcol g hg))
  · exact h.wparts.go k hw (fun p _ => hno _ (by simp) (by simp)) (hno _ (by simp) (by simp)) hc
  · exact h.ahead.go k (hno _ (by simp) (by simp)) hc
  · exact h.groups.go k (hno _ (by simp) (by simp)) (fun g => hno _ (by simp) (by simp)) (hno _ (by simp) (by simp)) hc
theorem Inner.put {col : Colr} {w w' : World} {P : Nat} {m : Pl.Sc} {ps qs : List Nat} {nv av wv hv gv : Value} (h : Inner col w P m ps qs nv av wv hv gv) (k : Kp (fun k => k = P) w w') (hP : P < w.heap.size) : Inner col w' P m ps qs nv av wv hv gv :=
  h.go k hP (fun i hi => .inr (by rw [hi]; exact h.pcol)) (fun _ _ => rfl) (fun i hi => h.top i (Nat.le_trans k.size hi))
/-- the scan goes on as it is where nothing of it is touched -/
theorem Rep.kept {col : Colr} {S : Nat → Prop} {w w' : World} {P : Nat} {m : Pl.Sc} {ps qs : List Nat} {nv av wv hv gv : Value} (h : Rep col w P m ps qs nv av wv hv gv) (k : Kp S w w') (hS : ∀ i, S i → col i = .out) : Rep col w' P m ps qs nv av wv hv gv :=
  ⟨h.blk.kept k (fun hs => by have := hS P hs; rw [h.inn.pcol] at this; simp at this), h.inn.go k h.blk.lt (fun i hi => .inl (hS i hi)) (fun _ _ => rfl) (fun i hi => h.inn.top i (Nat.le_trans k.size hi))⟩
theorem Rep.ext {col : Colr} {w w' : World} {P : Nat} {m : Pl.Sc} {ps qs : List Nat} {nv av wv hv gv : Value} (h : Rep col w P m ps qs nv av wv hv gv) (k : Ext w w') : Rep col w' P m ps qs nv av wv hv gv := h.kept k (fun _ f => f.elim)
/-- new blocks may be coloured -/
theorem Rep.recol {col col' : Colr} {w : World} {P : Nat} {m : Pl.Sc} {ps qs : List Nat} {nv av wv hv gv : Value} (h : Rep col w P m ps qs nv av wv hv gv) (hc : ∀ i, i < w.heap.size → col' i = col i) (ht : ∀ i, w.heap.size ≤ i → col' i = .out) : Rep col' w P m ps qs nv av wv hv gv :=
  ⟨h.blk, h.inn.go (S := fun _ => False) (Kp.refl _ _) h.blk.lt (fun _ f => f.elim) hc ht⟩
/-- one cell of the scan's own block is another one -/
theorem Rep.cellP {col : Colr} {w : World} {P : Nat} {m m' : Pl.Sc} {ps qs : List Nat} {nv av wv hv gv nv' av' wv' hv' gv' : Value} (h : Rep col w P m ps qs nv av wv hv gv) (j : Nat) (v : Value) (e : (scCells P m nv av wv hv gv).set j v = scCells P m' nv' av' wv' hv' gv') (hi : Inner col w P m' ps qs nv' av' wv' hv' gv') :
    Rep col (w.setCell ⟨P, j, none⟩ v) P m' ps qs nv' av' wv' hv' gv' :=
  ⟨by have := h.blk.set j v; rw [e] at this; exact this, hi.put (kp_set' w P j v) h.blk.lt⟩
/-- the scan, whatever lies where -/
def IsSc (col : Colr) (w : World) (P : Nat) (m : Pl.Sc) : Prop := ∃ ps qs nv av wv hv gv, Rep col w P m ps qs nv av wv hv gv
theorem Rep.is {col : Colr} {w : World} {P : Nat} {m : Pl.Sc} {ps qs : List Nat} {nv av wv hv gv : Value} (h : Rep col w P m ps qs nv av wv hv gv) : IsSc col w P m := ⟨_, _, _, _, _, _, _, h⟩
theorem IsSc.kept {col : Colr} {S : Nat → Prop} {w w' : World} {P : Nat} {m : Pl.Sc} (h : IsSc col w P m) (k : Kp S w w') (hS : ∀ i, S i → col i = .out) : IsSc col w' P m := by
  obtain ⟨ps, qs, nv, av, wv, hv, gv, r⟩ := h
  exact ⟨ps, qs, nv, av, wv, hv, gv, r.kept k hS⟩
/-- what is right behind a call on the scan -/
structure Went (col : Colr) (w w' : World) (col' : Colr) : Prop where
  kept : Kp (Mine col) w w'
  same : ∀ k, k < w.heap.size → col' k = col k
theorem Went.refl (col : Colr) (w : World) : Went col w w col := ⟨Kp.refl _ _, fun _ _ => rfl⟩
theorem Went.trans {a b c : Colr} {w w1 w2 : World} (h : Went a w w1 b) (k : Went b w1 w2 c) : Went a w w2 c :=
  ⟨h.kept.then k.kept (fun i hi e => by have := h.same i hi; unfold Mine at *; rw [← this]; exact e), fun i hi => by rw [k.same i (Nat.lt_of_lt_of_le hi h.kept.size), h.same i hi]⟩
theorem Went.ext {col : Colr} {w w' : World} (k : Ext w w') : Went col w w' col := ⟨Kp.of_ext k, fun _ _ => rfl⟩

/-- blocks that hold none of the things that are only read, of the parts, or of the rows -/
structure Calm (col : Colr) (S : Nat → Prop) : Prop where
  ro : ∀ i, S i → col i ≠ .ro
  part : ∀ i, S i → col i ≠ .part
  data : ∀ p i, S i → col i ≠ .data p
  groups : ∀ i, S i → col i ≠ .groups
  lists : ∀ g i, S i → col i ≠ .lists g
theorem Calm.one {col : Colr} {S : Nat → Prop} (c : Col) (h : ∀ i, S i → col i = c) (h1 : c ≠ .ro) (h2 : c ≠ .part) (h3 : ∀ p, c ≠ .data p) (h4 : c ≠ .groups) (h5 : ∀ g, c ≠ .lists g) : Calm col S :=
  ⟨fun i hi e => h1 (by rw [← h i hi, e]), fun i hi e => h2 (by rw [← h i hi, e]), fun p i hi e => h3 p (by rw [← h i hi, e]), fun i hi e => h4 (by rw [← h i hi, e]), fun g i hi e => h5 g (by rw [← h i hi, e])⟩
structure Rest (col : Colr) (w : World) (P : Nat) (m : Pl.Sc) (ps qs : List Nat) (nv hv gv : Value) : Prop where
  names : RowAt (fun b => col b = .ro) false w 1 nv m.want.length (m.want.map tx)
  aparts : PartsAt col w P ps m.asked
  wparts : PartsAt col w P qs m.waiting
  ahead : AheadAt col w hv m.ahead
  groups : GroupsAt col w m.rows.gone gv m.rows.groups
theorem Inner.rest {col col' : Colr} {S : Nat → Prop} {w w' : World} {P : Nat} {m : Pl.Sc} {ps qs : List Nat} {nv av wv hv gv : Value} (h : Inner col w P m ps qs nv av wv hv gv) (k : Kp S w w') (hS : Calm col S) (hc : ∀ i, i < w.heap.size → col' i = col i) : Rest col' w' P m ps qs nv hv gv :=
  ⟨h.names.go k (fun i hi hs => hS.ro i hs hi) (fun i hlt e => by rw [hc i hlt]; exact e),
   h.aparts.go k (fun p hp hs => hS.part p hs (h.aparts.lt hp).2) (fun p _ => hS.data p) hS.ro hc,
   h.wparts.go k (fun p hp hs => hS.part p hs (h.wparts.lt hp).2) (fun p _ => hS.data p) hS.ro hc,
   h.ahead.go k hS.ro hc, h.groups.go k hS.groups hS.lists hS.ro hc⟩
theorem PartsAt.snoc {col : Colr} {w : World} {P : Nat} {ps : List Nat} {l : List (Nat × Pl.Part)} (h : PartsAt col w P ps l) {p : Nat} {q : Nat × Pl.Part} {dv av : Value} (hp : PartAt col w P p q.2 dv av) : PartsAt col w P (ps ++ [p]) (l ++ [q]) := by
  refine ⟨by simp [h.1], fun i p' q' a b => ?_⟩
  by_cases hi : i < ps.length
  · rw [List.getElem?_append_left hi] at a
    rw [List.getElem?_append_left (by rw [← h.1]; exact hi)] at b
    exact h.2 i p' q' a b
  · rw [List.getElem?_append_right (by omega)] at a
    rw [List.getElem?_append_right (by rw [← h.1]; omega)] at b
    rw [List.getElem?_singleton] at a b
    split at a
    · rw [if_pos (by rw [← h.1]; assumption)] at b
      cases a
      cases b
      exact ⟨_, _, hp⟩
    · cases a
theorem reqRow_snoc (ps : List Nat) (l : List (Nat × Pl.Part)) (p : Nat) (q : Nat × Pl.Part) (h : ps.length = l.length) : reqRow (ps ++ [p]) (l ++ [q]) = reqRow ps l ++ reqCells p q := by
  unfold reqRow
  rw [List.zipWith_append h]
  simp
theorem waitRow_snoc (ps : List Nat) (l : List (Nat × Pl.Part)) (p : Nat) (q : Nat × Pl.Part) (h : ps.length = l.length) : waitRow (ps ++ [p]) (l ++ [q]) = waitRow ps l ++ waitCells p q := by
  unfold waitRow
  rw [List.zipWith_append h]
  simp

/-- one request more: the row of requests has grown -/
theorem Rep.askMore {col : Colr} {w u w1 : World} {P p : Nat} {m : Pl.Sc} {x : Pl.Part} {ps qs : List Nat} {nv av wv hv gv dv xv av' : Value} (h : Rep col w P m ps qs nv av wv hv gv) (hp : PartAt col w P p x dv xv) (hn : p ∉ ps ++ qs) (hu : Ext w u) (k : Kp (Of av) u w1) (s : Sep u av av') (o : Own w1 5 av' (m.asked.length + 1) (reqRow ps m.asked ++ reqCells p (m.lastId, x))) :
    Rep (paint col w.heap.size w1.heap.size .asked) (w1.setCell ⟨P, 10, none⟩ av') P { m with asked := m.asked ++ [(m.lastId, x)] } (ps ++ [p]) qs nv av' wv hv gv ∧ Went col w (w1.setCell ⟨P, 10, none⟩ av') (paint col w.heap.size w1.heap.size .asked) := by
  have kw : Kp (Of av) w w1 := (Kp.of_ext hu).trans k
  have hc : ∀ i, i < w.heap.size → paint col w.heap.size w1.heap.size .asked i = col i := fun i hi => paint_lt _ _ _ _ _ hi
  have hav : ∀ i, Of av i → col i = .asked := fun i hi => h.inn.acol i hi
  have hcalm : Calm col (Of av) := Calm.one .asked hav (by simp) (by simp) (by simp) (by simp) (by simp)
  have r := h.inn.rest kw hcalm hc
  have hp1 := hp.go kw (fun e => hcalm.part p e hp.pcol) (hcalm.data p) hcalm.ro hc
  have hPlt := h.blk.lt
  have hPn : ¬ Of av P := fun e => by have := hav P e; rw [h.inn.pcol] at this; simp at this
  have hb1 := h.blk.kept kw hPn
  have hin : Inner (paint col w.heap.size w1.heap.size .asked) w1 P { m with asked := m.asked ++ [(m.lastId, x)] } (ps ++ [p]) qs nv av' wv hv gv := by
    refine ⟨by rw [hc P hPlt]; exact h.inn.pcol, fun i hi => by rw [paint_ge _ _ _ _ _ hi]; exact h.inn.top i (Nat.le_trans kw.size hi), r.names, ?_, fun g hg => ?_, r.aparts.snoc (q := (m.lastId, x)) hp1, ?_, fun g hg => by rw [hc g (h.inn.waiting.lt hg)]; exact h.inn.wcol g hg, r.wparts, ?_, r.ahead, r.groups⟩
    · rw [reqRow_snoc _ _ _ _ h.inn.aparts.1]
      simpa using o
    · rcases s with e | ⟨g', e1, e2⟩
      · rw [e] at hg
        rw [hc g (h.inn.asked.lt hg)]
        exact h.inn.acol g hg
      · rw [e1] at hg
        simp only [Option.some.injEq] at hg
        subst hg
        exact paint_in _ _ _ _ _ (by have := hu.size; omega) (o.lt e1)
    · exact h.inn.waiting.kept kw (fun g hg hs => by have := hav g hs; rw [h.inn.wcol g hg] at this; simp at this)
    · have := h.inn.nodup
      rw [List.append_assoc]
      refine (List.nodup_append.2 ⟨(List.nodup_append.1 this).1, ?_, ?_⟩)
      · simp only [List.singleton_append, List.nodup_cons]
        exact ⟨fun hq => hn (List.mem_append.2 (.inr hq)), (List.nodup_append.1 this).2.1⟩
      · intro a ha b hb
        simp only [List.singleton_append, List.mem_cons] at hb
        rcases hb with rfl | hb
        · exact fun e => hn (List.mem_append.2 (.inl (e ▸ ha)))
        · exact (List.nodup_append.1 this).2.2 a ha b hb
  refine ⟨⟨?_, hin.put (kp_set' w1 P 10 av') hb1.lt⟩, ⟨?_, hc⟩⟩
  · have := hb1.set 10 av'
    simpa [scCells, giveV] using this
  · refine (kw.mono (fun i _ hi => ?_)).setCell (p := ⟨P, 10, none⟩) (.inl ?_) av'
    · show col i ≠ .out
      rw [hav i hi]; simp
    · show col P ≠ .out
      rw [h.inn.pcol]; simp

end Go.Proofs.YthicgffppmbamaaGreat
