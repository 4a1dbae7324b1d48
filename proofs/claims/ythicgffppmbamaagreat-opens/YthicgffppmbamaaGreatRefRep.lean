/- The document's scan in memory. -/
import Derived.Test.YthicgffppmbamaaGreatScAsked
import Derived.Test.YthicgffppmbamaaGreatPlainR
import Derived.StillTailTactics
namespace Go.Proofs.YthicgffppmbamaaGreat
open Go.RowKit

def rpartCells (x : Pl.RPart) : List Value := [I x.group, I x.want, I x.page.place, I x.page.length, tx (Pl.bytes4 x.page.sum)]
def RPartsAt (col : Colr) (w : World) (v : Value) (l : List Pl.RPart) : Prop := RowAt (fun b => col b = .ro) false w 5 v l.length (l.flatMap rpartCells)
def rpCells (pv : Value) (p : Pl.RPiece) : List Value := [I p.kind, I p.place, I p.length, tx p.got, I p.failed, I p.id, I p.due, I p.turn, pv]
def rpRow (pvs : List Value) (l : List Pl.RPiece) : List Value := (List.zipWith rpCells pvs l).flatten
def ThereAt (col : Colr) (w : World) (v : Value) (ls : List (List (List Int))) : Prop :=
  ∃ lvs : List Value, lvs.length = ls.length ∧ RowAt (fun b => col b = .groups) true w 1 v ls.length lvs ∧ ∀ (i : Nat) (lv : Value) (l : List (List Int)), lvs[i]? = some lv → ls[i]? = some l → ListsAt col w i lv l
def rcCells (r : Pl.RSc) (nv pv rv tv : Value) : List Value := [I r.size, nv, I r.win, I r.tries, I r.nrows, I r.gap, I r.state, pv, I r.made, I r.now, I r.fails, rv, tv, I r.next]

structure RInner (col : Colr) (w : World) (Y : Nat) (r : Pl.RSc) (pvs : List Value) (nv pv rv tv : Value) : Prop where
  ycol : col Y = .scan
  top : ∀ k, w.heap.size ≤ k → col k = .out
  names : RowAt (fun b => col b = .ro) false w 1 nv r.want.length (r.want.map tx)
  plen : pvs.length = r.pieces.length
  pieces : Own w 9 pv r.pieces.length (rpRow pvs r.pieces)
  pcol : ∀ g, pv.ownBlock = some g → col g = .asked
  parts : ∀ (i : Nat) (x : Value) (p : Pl.RPiece), pvs[i]? = some x → r.pieces[i]? = some p → RPartsAt col w x p.parts
  rows : RowAt (fun b => col b = .ro) false w 1 rv r.rows.length (r.rows.map fun (n : Nat) => I n)
  there : ThereAt col w tv r.there
structure RRep (col : Colr) (w : World) (Y : Nat) (r : Pl.RSc) (pvs : List Value) (nv pv rv tv : Value) : Prop where
  blk : Blk w Y (rcCells r nv pv rv tv) 118
  inn : RInner col w Y r pvs nv pv rv tv

theorem ThereAt.go {col col' : Colr} {S : Nat → Prop} {w w' : World} {v : Value} {ls : List (List (List Int))} (h : ThereAt col w v ls) (k : Kp S w w') (hg : ∀ i, S i → col i ≠ .groups) (hl : ∀ g i, S i → col i ≠ .lists g) (hS : ∀ i, S i → col i ≠ .ro) (hc : ∀ i, i < w.heap.size → col' i = col i) : ThereAt col' w' v ls := by
  obtain ⟨lvs, h1, h2, h3⟩ := h
  exact ⟨lvs, h1, h2.go k (fun i hi hs => hg i hs hi) (fun i hlt e => by rw [hc i hlt]; exact e), fun i lv l a b => (h3 i lv l a b).go k (hl _) hS hc⟩
theorem ThereAt.nil (col : Colr) (w : World) : ThereAt col w (.slice none 0 0) [] := ⟨[], rfl, RowAt.nil _ _ _ _, fun i _ _ a => by simp at a⟩
/-- all but the pieces' own row -/
theorem RInner.go {col col' : Colr} {S : Nat → Prop} {w w' : World} {Y : Nat} {r : Pl.RSc} {pvs : List Value} {nv pv rv tv : Value} (h : RInner col w Y r pvs nv pv rv tv) (k : Kp S w w') (hY : Y < w.heap.size) (hS : Calm col S) (hp : ∀ g, pv.ownBlock = some g → ¬ S g) (hc : ∀ i, i < w.heap.size → col' i = col i) (ht : ∀ i, w'.heap.size ≤ i → col' i = .out) : RInner col' w' Y r pvs nv pv rv tv :=
  ⟨by rw [hc Y hY]; exact h.ycol, ht, h.names.go k (fun i hi hs => hS.ro i hs hi) (fun i hlt e => by rw [hc i hlt]; exact e), h.plen, h.pieces.kept k hp, fun g hg => by rw [hc g (h.pieces.lt hg)]; exact h.pcol g hg,
    fun i x p a b => (h.parts i x p a b).go k (fun i hi hs => hS.ro i hs hi) (fun i hlt e => by rw [hc i hlt]; exact e),
    h.rows.go k (fun i hi hs => hS.ro i hs hi) (fun i hlt e => by rw [hc i hlt]; exact e), h.there.go k hS.groups hS.lists hS.ro hc⟩
theorem RRep.kept {col : Colr} {S : Nat → Prop} {w w' : World} {Y : Nat} {r : Pl.RSc} {pvs : List Value} {nv pv rv tv : Value} (h : RRep col w Y r pvs nv pv rv tv) (k : Kp S w w') (hS : ∀ i, S i → col i = .out) : RRep col w' Y r pvs nv pv rv tv := by
  have hcm : Calm col S := Calm.one .out hS (by simp) (by simp) (by simp) (by simp) (by simp)
  exact ⟨h.blk.kept k (fun e => by have := hS Y e; rw [h.inn.ycol] at this; simp at this), h.inn.go k h.blk.lt hcm (fun g hg e => by have := hS g e; rw [h.inn.pcol g hg] at this; simp at this) (fun _ _ => rfl) (fun i hi => h.inn.top i (Nat.le_trans k.size hi))⟩
theorem RRep.ext {col : Colr} {w w' : World} {Y : Nat} {r : Pl.RSc} {pvs : List Value} {nv pv rv tv : Value} (h : RRep col w Y r pvs nv pv rv tv) (k : Ext w w') : RRep col w' Y r pvs nv pv rv tv := h.kept k (fun _ f => f.elim)
/-- a cell of the scan's own block is another one -/
theorem RRep.cellY {col : Colr} {w : World} {Y : Nat} {r r' : Pl.RSc} {pvs : List Value} {nv pv rv tv nv' pv' rv' tv' : Value} (h : RRep col w Y r pvs nv pv rv tv) (j : Nat) (v : Value) (e : (rcCells r nv pv rv tv).set j v = rcCells r' nv' pv' rv' tv') (hi : RInner col w Y r' pvs nv' pv' rv' tv') :
    RRep col (w.setCell ⟨Y, j, none⟩ v) Y r' pvs nv' pv' rv' tv' := by
  have k := kp_set' w Y j v
  have hcm : Calm col (fun k => k = Y) := Calm.one .scan (fun i hi => by rw [hi]; exact h.inn.ycol) (by simp) (by simp) (by simp) (by simp) (by simp)
  refine ⟨by have := h.blk.set j v; rw [e] at this; exact this, hi.go k h.blk.lt hcm (fun g hg e => ?_) (fun _ _ => rfl) (fun i hi' => h.inn.top i (Nat.le_trans k.size hi'))⟩
  have := hi.pcol g hg
  rw [e, h.inn.ycol] at this
  simp at this
def IsR (col : Colr) (w : World) (Y : Nat) (r : Pl.RSc) : Prop := ∃ pvs nv pv rv tv, RRep col w Y r pvs nv pv rv tv
theorem IsR.kept {col : Colr} {S : Nat → Prop} {w w' : World} {Y : Nat} {r : Pl.RSc} (h : IsR col w Y r) (k : Kp S w w') (hS : ∀ i, S i → col i = .out) : IsR col w' Y r := by
  obtain ⟨pvs, nv, pv, rv, tv, x⟩ := h
  exact ⟨pvs, nv, pv, rv, tv, x.kept k hS⟩

theorem rpRow_at (pvs : List Value) (l : List Pl.RPiece) (hl : pvs.length = l.length) (i j : Nat) (hi : i < l.length) (hj : j < 9) : (rpRow pvs l)[i * 9 + j]? = (rpCells (pvs[i]'(by omega)) l[i])[j]? := by
  unfold rpRow
  refine flatten_at 9 _ (fun e he => ?_) i j hj _ ?_
  · rw [List.mem_iff_getElem] at he
    obtain ⟨k, hk, rfl⟩ := he
    rw [List.getElem_zipWith]
    rfl
  · rw [List.getElem?_eq_getElem (by simp; omega), List.getElem_zipWith]
/-- one cell of one piece is another one -/
theorem rpRow_set (pvs : List Value) : ∀ (l : List Pl.RPiece) (_ : pvs.length = l.length) (i j : Nat) (v : Value) (f : Pl.RPiece → Pl.RPiece), i < l.length → j < 9 → (∀ pv p, (rpCells pv p).set j v = rpCells pv (f p)) → (rpRow pvs l).set (i * 9 + j) v = rpRow pvs (l.modify i f) := by
  induction pvs with
  | nil => intro l hl i j v f hi _ _; simp at hl; omega
  | cons pv r ih =>
    intro l hl i j v f hi hj hf
    cases l with
    | nil => simp at hi
    | cons p t =>
      unfold rpRow at *
      cases i with
      | zero =>
        simp only [List.zipWith_cons_cons, List.flatten_cons, List.modify_zero_cons, Nat.zero_mul, Nat.zero_add]
        rw [List.set_append_left _ _ (by simpa [rpCells] using hj), hf]
      | succ i =>
        simp only [List.zipWith_cons_cons, List.flatten_cons, List.modify_succ_cons]
        rw [List.set_append_right _ _ (by simp [rpCells]; omega)]
        congr 1
        rw [show (i + 1) * 9 + j - (rpCells pv p).length = i * 9 + j by simp [rpCells]; omega]
        exact ih t (by simpa using hl) i j v f (by simpa using hi) hj hf
theorem Own.setCell {w : World} {size n : Nat} {g cap : Nat} {cs : List Value} (h : Own w size (.slice (some ⟨g, 0, none⟩) n cap) n cs) (j : Nat) (hj : j < n * size) (v : Value) : Own (w.setCell ⟨g, j, none⟩ v) size (.slice (some ⟨g, 0, none⟩) n cap) n (cs.set j v) := by
  refine ⟨by rw [List.length_set]; exact h.1, ?_⟩
  rcases h.2 with ⟨e, _⟩ | ⟨g', cap', e, h1, h2, h3, h4, h5⟩
  · cases e
  · cases e
    have hiso := (h5 j (Nat.lt_of_lt_of_le hj (Nat.mul_le_mul_right _ h1))).1
    refine .inr ⟨g, cap, rfl, h1, h2, by simpa [World.setCell] using h3, fun i hi => ?_, fun i hi => ⟨?_, by rw [World.frozen?_setCell]; exact (h5 i hi).2⟩⟩
    · by_cases hij : j = i
      · subst hij
        rw [World.cell?_setCell_same' _ _ _ hiso, List.getElem?_set_self (by rw [h.1]; exact hj)]
      · rw [World.cell?_setCell_other _ _ _ _ (fun e => hij (by cases e; rfl)), List.getElem?_set_ne hij]
        exact h4 i hi
    · by_cases hij : j = i
      · subst hij
        rw [World.cell?_setCell_same' _ _ _ hiso]; rfl
      · rw [World.cell?_setCell_other _ _ _ _ (fun e => hij (by cases e; rfl))]
        exact (h5 i hi).1
end Go.Proofs.YthicgffppmbamaaGreat
