/- Join, Wanted, FootPl, Of, FooterCame, PieceRead. -/
import Derived.Test.YthicgffppmbamaaGreatPart3
import Derived.Test.YthicgffppmbamaaGreatPart4
import Derived.Test.YthicgffppmbamaaGreatPart5
import Derived.Test.YthicgffppmbamaaGreatPart6
namespace Go.Proofs.YthicgffppmbamaaGreat
open Go.RowKit

namespace Pl
theorem joinS_mem {gap : Nat} {l : List Piece} {x : WPage} {q : Piece} (h : q ∈ joinS gap l x) : q ∈ l ∨ q = ⟨x.page.place, x.page.length, [x]⟩ ∨ ∃ p ∈ l, q = ⟨p.place, lengthWith p x, p.pages ++ [x]⟩ := by
  unfold joinS at h
  split at h
  · rename_i he
    simp at h
    exact .inr (.inl h)
  · rename_i p he
    have hp : p ∈ l := List.mem_of_getLast? he
    split at h
    · rw [List.mem_append] at h
      rcases h with h | h
      · exact .inl ((List.dropLast_sublist l).subset h)
      · simp at h
        exact .inr (.inr ⟨p, hp, h⟩)
    · rw [List.mem_append] at h
      rcases h with h | h
      · exact .inl h
      · simp at h
        exact .inr (.inl h)
/-- pages in the order of their places, within M -/
def Sorted (M : Nat) (l : List WPage) : Prop := (∀ x ∈ l, x.page.place + x.page.length ≤ M) ∧ l.Pairwise (fun x y => x.page.place ≤ y.page.place)
theorem joinW_ok {gap M : Nat} {l : List WPage} (h : Sorted M l) : ∀ k, k ≤ l.length → (joinW gap (l.take k)).length ≤ k ∧ ∀ p ∈ joinW gap (l.take k), p.place + p.length ≤ M ∧ p.pages.length ≤ k ∧ ∀ y ∈ l.drop k, p.place ≤ y.page.place := by
  intro k
  induction k with
  | zero => intro _; exact ⟨by simp [joinW], fun p hp => by simp [joinW] at hp⟩
  | succ k ih =>
    intro hk
    have hkl : k < l.length := hk
    obtain ⟨i1, i2⟩ := ih (Nat.le_of_lt hkl)
    have e : joinW gap (l.take (k + 1)) = joinS gap (joinW gap (l.take k)) l[k] := by
      unfold joinW
      rw [List.take_succ_eq_append_getElem hkl, List.foldl_append]
      rfl
    have hx := h.1 l[k] (List.getElem_mem hkl)
    have hin : l[k] ∈ l.drop k := by rw [List.drop_eq_getElem_cons hkl]; exact List.mem_cons_self
    have hsub : ∀ y ∈ l.drop (k + 1), y ∈ l.drop k := fun y hy => by rw [List.drop_eq_getElem_cons hkl]; exact List.mem_cons_of_mem _ hy
    have hord : ∀ y ∈ l.drop (k + 1), l[k].page.place ≤ y.page.place := fun y hy => by
      have hp := h.2.sublist (List.drop_sublist k l)
      rw [List.drop_eq_getElem_cons hkl, List.pairwise_cons] at hp
      exact hp.1 y hy
    rw [e]
    refine ⟨?_, fun q hq => ?_⟩
    · unfold joinS
      split
      · simp
      · split
        · rw [List.length_append, List.length_dropLast]; simp; omega
        · simp; omega
    · rcases joinS_mem hq with hq | rfl | ⟨p, hp, rfl⟩
      · obtain ⟨a, b, c⟩ := i2 q hq
        exact ⟨a, by omega, fun y hy => c y (hsub y hy)⟩
      · exact ⟨hx, by simp, hord⟩
      · obtain ⟨a, b, c⟩ := i2 p hp
        have := c _ hin
        refine ⟨?_, by simp; omega, fun y hy => c y (hsub y hy)⟩
        show p.place + max p.length (l[k].page.place + l[k].page.length - p.place) ≤ M
        omega
end Pl

/-- rows of pages, of pieces -/
def PcAt (C : Nat → Prop) (w : World) (pvs : List Value) (l : List Pl.Piece) : Prop :=
  pvs.length = l.length ∧ ∀ (i : Nat) (pv : Value) (p : Pl.Piece), pvs[i]? = some pv → l[i]? = some p → RowAt C false w 6 pv p.pages.length (p.pages.flatMap wpCells)
theorem PcAt.go {C C' : Nat → Prop} {S : Nat → Prop} {w w' : World} {pvs : List Value} {l : List Pl.Piece} (h : PcAt C w pvs l) (k : Kp S w w') (hS : ∀ i, C i → ¬ S i) (hC : ∀ i, i < w.heap.size → C i → C' i) : PcAt C' w' pvs l :=
  ⟨h.1, fun i pv p a b => (h.2 i pv p a b).go k hS hC⟩
theorem PcAt.snoc {C : Nat → Prop} {w : World} {pvs : List Value} {l : List Pl.Piece} (h : PcAt C w pvs l) {pv : Value} {p : Pl.Piece} (hp : RowAt C false w 6 pv p.pages.length (p.pages.flatMap wpCells)) : PcAt C w (pvs ++ [pv]) (l ++ [p]) := by
  refine ⟨by simp [h.1], fun i pv' g' a b => ?_⟩
  by_cases hi : i < pvs.length
  · rw [List.getElem?_append_left hi] at a
    rw [List.getElem?_append_left (by rw [← h.1]; exact hi)] at b
    exact h.2 i pv' g' a b
  · rw [List.getElem?_append_right (by omega)] at a
    rw [List.getElem?_append_right (by rw [← h.1]; omega)] at b
    rw [List.getElem?_singleton] at a b
    split at a
    · rw [if_pos (by rw [← h.1]; assumption)] at b
      cases a
      cases b
      exact hp
    · cases a
theorem pieceRow_snoc (pvs : List Value) (l : List Pl.Piece) (pv : Value) (p : Pl.Piece) (h : pvs.length = l.length) : pieceRow (pvs ++ [pv]) (l ++ [p]) = pieceRow pvs l ++ [I p.place, I p.length, pv] := by
  unfold pieceRow
  rw [List.zipWith_append h]
  simp
theorem pieceRow_len (pvs : List Value) : ∀ (l : List Pl.Piece), pvs.length = l.length → (pieceRow pvs l).length = l.length * 3 := by
  induction pvs with
  | nil => intro l h; simp at h; rw [List.eq_nil_of_length_eq_zero h.symm]; rfl
  | cons a r ih =>
    intro l h
    cases l with
    | nil => simp at h
    | cons p l =>
      simp at h
      have := ih l h
      unfold pieceRow at *
      simp only [List.zipWith_cons_cons, List.flatten_cons, List.length_append, List.length_cons, List.length_nil, this]
      omega
/-- pieces while they are made: of the last one the pages may grow -/
inductive JS (n0 : Nat) (w : World) : Value → List Pl.Piece → Prop
  | nil : JS n0 w (.slice none 0 0) []
  | snoc (b cap : Nat) (pvs : List Value) (l : List Pl.Piece) (pv : Value) (p : Pl.Piece) (hO : Own w 3 (.slice (some ⟨b, 0, none⟩) (l.length + 1) cap) (l.length + 1) (pieceRow pvs l ++ [I p.place, I p.length, pv])) (hb : n0 ≤ b)
      (hP : Own w 6 pv p.pages.length (p.pages.flatMap wpCells)) (hpb : ∀ g, pv.ownBlock = some g → n0 ≤ g ∧ g ≠ b) (hR : PcAt (fun k => n0 ≤ k ∧ k ≠ b ∧ pv.ownBlock ≠ some k) w pvs l) :
      JS n0 w (.slice (some ⟨b, 0, none⟩) (l.length + 1) cap) (l ++ [p])
theorem JS.ext {n0 : Nat} {w w' : World} {v : Value} {l : List Pl.Piece} (h : JS n0 w v l) (x : Ext w w') : JS n0 w' v l := by
  cases h with
  | nil => exact .nil
  | snoc b cap pvs l pv p hO hb hP hpb hR => exact .snoc b cap pvs l pv p (hO.ext x) hb (hP.ext x) hpb (hR.go x (fun _ _ f => f) (fun _ _ e => e))
def zPc : Value := .agg #[.int .i64 0, .int .i64 0, .slice none 0 0]
theorem infoPc : (Tryz.prog.info? 235).map (fun i => (i.zero, i.size, i.bytes)) = some (some zPc, 3, 40) := by kernel_rfl
theorem JS.own {n0 : Nat} {w : World} {v : Value} {l : List Pl.Piece} (h : JS n0 w v l) : ∃ pvs, pvs.length = l.length ∧ Own w 3 v l.length (pieceRow pvs l) ∧ (∀ g, v.ownBlock = some g → n0 ≤ g) ∧ PcAt (fun k => n0 ≤ k ∧ v.ownBlock ≠ some k) w pvs l := by
  cases h with
  | nil => exact ⟨[], rfl, Own.nil _ _, fun g e => by simp [Value.ownBlock] at e, rfl, fun i pv p a => by simp at a⟩
  | snoc b cap pvs l pv p hO hb hP hpb hR =>
    refine ⟨pvs ++ [pv], by simp [hR.1], ?_, fun g e => ?_, (hR.go (S := fun _ => False) (Kp.refl _ _) (fun _ _ f => f) (fun i _ h => ⟨h.1, fun e => ?_⟩)).snoc ((hP.rowAt _ (fun g e => ⟨(hpb g e).1, fun e' => ?_⟩)).weak)⟩
    · rw [pieceRow_snoc _ _ _ _ hR.1, List.length_append]; exact hO
    · simp [Value.ownBlock] at e; omega
    · simp [Value.ownBlock] at e; exact h.2.1 e.symm
    · simp [Value.ownBlock] at e'; exact (hpb g e).2 e'.symm
theorem Blk.own1 {w : World} {b : Nat} {cs : List Value} {e : TypeId} (h : Blk w b cs e) : Own w cs.length (.slice (some ⟨b, 0, none⟩) 1 1) 1 cs :=
  ⟨by simp, .inr ⟨b, 1, rfl, Nat.le_refl _, by unfold maxLen; omega, h.lt, fun j _ => h.cell j, fun j hj => ⟨by rw [h.cell j, List.getElem?_eq_getElem (by omega)]; rfl, h.free j⟩⟩⟩
/-- a new piece behind the others -/
theorem JS.more {n0 : Nat} {w1 w2 : World} {v v' : Value} {l : List Pl.Piece} {pvs : List Value} {x : Pl.WPage} {gp : Nat} (hP : PcAt (fun k => n0 ≤ k ∧ v.ownBlock ≠ some k ∧ k < gp) w1 pvs l) (hvb : ∀ g, v.ownBlock = some g → n0 ≤ g ∧ g < gp) (hG : Own w1 6 (.slice (some ⟨gp, 0, none⟩) 1 1) 1 (wpCells x)) (hgp : n0 ≤ gp)
    (o2 : Own w2 3 v' (l.length + 1) (pieceRow pvs l ++ [I x.page.place, I x.page.length, .slice (some ⟨gp, 0, none⟩) 1 1])) (k2 : Kp (Of v) w1 w2) (s2 : Sep w1 v v') : JS n0 w2 v' (l ++ [⟨x.page.place, x.page.length, [x]⟩]) := by
  obtain ⟨b, cap, rfl, hcap, hlt, -⟩ := o2.at (by omega)
  have hgl : gp < w1.heap.size := hG.lt rfl
  have hb : b = b ∧ ((v.ownBlock = some b) ∨ w1.heap.size ≤ b) := by
    refine ⟨rfl, ?_⟩
    rcases s2 with e | ⟨g, e1, e2⟩
    · exact .inl (by rw [← e]; rfl)
    · simp [Value.ownBlock] at e1; subst e1; exact .inr e2
  have hbne : b ≠ gp := hb.2.elim (fun e => by have := hvb b e; omega) (fun e => by omega)
  refine .snoc b cap pvs l (.slice (some ⟨gp, 0, none⟩) 1 1) ⟨x.page.place, x.page.length, [x]⟩ o2 ?_ ?_ ?_ ?_
  · rcases hb.2 with e | e
    · exact (hvb b e).1
    · omega
  · have : ([x].flatMap wpCells) = wpCells x := by simp
    show Own w2 6 _ 1 ([x].flatMap wpCells)
    rw [this]
    exact hG.kept k2 (fun g e he => by simp [Value.ownBlock] at e; have := hvb g he; omega)
  · intro g e
    simp [Value.ownBlock] at e
    subst e
    exact ⟨hgp, fun e => hbne e.symm⟩
  · refine hP.go k2 (fun i hi e => hi.2.1 e) (fun i hi h => ⟨h.1, fun e => ?_, fun e => ?_⟩)
    · subst e
      rcases hb.2 with e | e
      · exact h.2.1 e
      · omega
    · simp [Value.ownBlock] at e; omega

set_option maxRecDepth 20000 in
set_option maxHeartbeats 2000000 in
theorem join_any (D : Nat → Prop) (w : World) (gv : Value) (pages : List Pl.WPage) (gap : Nat) (hr : RowAt D false w 6 gv pages.length (pages.flatMap wpCells)) (hl : pages.length ≤ 100) (hs : Pl.Sorted 1000000 pages) (hgap : gap ≤ 1000000) :
    Calls Tryz.prog 147 #[gv, .int .i64 gap] w fun e w' => ∃ v, e = .returned v ∧ Ext w w' ∧ JS w.heap.size w' v (Pl.joinW gap pages) := by
  obtain ⟨ga, gc, rfl, hgc, h3⟩ := hr.get
  clear hr
  have HW := hide (fun k hk => Pl.joinW_ok (gap := gap) hs k hk)
  go_enter Tryz.func147, Tryz.ntmps147
  go_wp2_with fail
  go_loopw [5, 11] (fun t i wr => ∃ (k : Nat), i = .int .i64 k ∧ k ≤ pages.length ∧ JS w.heap.size wr t (Pl.joinW gap (pages.take k)) ∧ Ext w wr) (fun _ i _ => pages.length - (intOf i).toNat)
  case atStart => exact ⟨0, rfl, by omega, .nil, Kp.refl _ _⟩
  case round =>
    obtain ⟨k, rfl, hk, hj, hx⟩ := hrel
    by_cases hkl : k < pages.length
    · obtain ⟨b, off, rfl, hb, hc⟩ := h3 (by omega)
      have hck : ∀ j, j < 6 → wr.cell? ⟨b, off + (k * 6 + j), none⟩ = (wpCells pages[k])[j]? := fun j hj => by
        have e := flatten_at 6 (pages.map wpCells) (fun e he => by rw [List.mem_map] at he; obtain ⟨q, _, rfl⟩ := he; rfl) k j hj (wpCells pages[k]) (by rw [List.getElem?_map, List.getElem?_eq_getElem hkl]; rfl)
        have e2 := hc (k * 6 + j) (by omega)
        rw [show pages.flatMap wpCells = (pages.map wpCells).flatten from rfl, e] at e2
        have : j < (wpCells pages[k]).length := hj
        rw [List.getElem?_eq_getElem this] at e2 ⊢
        exact hx.cell e2 id
      have d0 := hck 0 (by omega)
      have d1 := hck 1 (by omega)
      have d2 := hck 2 (by omega)
      have d3 := hck 3 (by omega)
      have d4 := hck 4 (by omega)
      have d5 := hck 5 (by omega)
      have HT : Hid (Pl.joinW gap (pages.take (k + 1)) = Pl.joinS gap (Pl.joinW gap (pages.take k)) pages[k]) := by
        show _ = _
        unfold Pl.joinW
        rw [List.take_succ_eq_append_getElem hkl, List.foldl_append]
        rfl
      have hpb := hs.1 pages[k] (List.getElem_mem hkl)
      obtain ⟨hj1, hj2⟩ := (unhide HW) k hk
      have hin : pages[k] ∈ pages.drop k := by rw [List.drop_eq_getElem_cons hkl]; exact List.mem_cons_self
      have hj3 : ∀ p ∈ Pl.joinW gap (pages.take k), p.place + p.length ≤ 1000000 ∧ p.pages.length ≤ k ∧ p.place ≤ pages[k].page.place := fun p hp => ⟨(hj2 p hp).1, (hj2 p hp).2.1, (hj2 p hp).2.2 _ hin⟩
      generalize pages[k] = x at *
      simp only [wpCells, I, List.getElem?_cons_zero, List.getElem?_cons_succ, Nat.add_zero, ← Nat.add_assoc] at d0 d1 d2 d3 d4 d5
      clear hck hc h3 HW hin hj2
      generalize Pl.joinW gap (pages.take k) = acc at *
      have hj0 := hj
      cases hj with
      | nil =>
        go_wp2_with fail
        have xA : Ext wr (wr.alloc (.cells #[.int .i64 x.page.place, .int .i64 x.page.length, .int .u32 x.page.sum, .int .i64 x.group, .int .i64 x.column, .int .i64 x.rows] 253)) := (Kp.refl _ _).alloc _
        have bA : Blk (wr.alloc (.cells #[.int .i64 x.page.place, .int .i64 x.page.length, .int .u32 x.page.sum, .int .i64 x.group, .int .i64 x.column, .int .i64 x.rows] 253)) wr.heap.size (wpCells x) 253 := Blk.of_alloc wr (wpCells x) 253
        generalize wr.alloc (.cells #[.int .i64 x.page.place, .int .i64 x.page.length, .int .u32 x.page.sum, .int .i64 x.group, .int .i64 x.column, .int .i64 x.rows] 253) = W at *
        have hB : ∀ u, Ext W u → u.cell? ⟨wr.heap.size, 0, none⟩ = some (.int .i64 x.page.place) ∧ u.cell? ⟨wr.heap.size, 1, none⟩ = some (.int .i64 x.page.length) ∧ u.cell? ⟨wr.heap.size, 2, none⟩ = some (.int .u32 x.page.sum) ∧ u.cell? ⟨wr.heap.size, 3, none⟩ = some (.int .i64 x.group) ∧ u.cell? ⟨wr.heap.size, 4, none⟩ = some (.int .i64 x.column) ∧ u.cell? ⟨wr.heap.size, 5, none⟩ = some (.int .i64 x.rows) :=
          fun u hu => ⟨hu.cell (bA.cell 0) id, hu.cell (bA.cell 1) id, hu.cell (bA.cell 2) id, hu.cell (bA.cell 3) id, hu.cell (bA.cell 4) id, hu.cell (bA.cell 5) id⟩
        have HB := hide hB
        clear hB d0 d1 d2 d3 d4 d5
        have hsW : wr.heap.size < W.heap.size := bA.lt
        have hx1 : Ext W W.drew := (Kp.refl _ _).drew
        refine wp_region_late (n := 17) (Ext W) (by kernel_rfl) ?_
        refine Late.take (i := 0) (oi := ⟨some 18, .move (.tmp 8), 3, "pieces.go:48", #[], none⟩) (v := ?_) [1, 2, 8, 10, 17] rfl (by kernel_rfl) (by kernel_rfl) (by decide) (by decide) (by kernel_rfl) (by kernel_rfl) (by kernel_rfl) (fun _ _ _ h => h) rfl ?_ hx1 ?_
        rotate_left
        · (intro u hu; obtain ⟨u0, u1, u2, u3, u4, u5⟩ := (unhide HB) u hu; go_simp; first | done | with_reducible rfl)
        try simp only [Act.put, List.setIfInBounds_toArray, List.set_cons_zero, List.set_cons_succ]
        refine Late.take (i := 1) (oi := ⟨some 19, .binOp .geq 3 (.tmp 18) (.const (.int .i64 0)) 3, 4, "pieces.go:48", #[⟨0, .data⟩], none⟩) (v := ?_) [2, 8, 10, 17] rfl (by kernel_rfl) (by kernel_rfl) (by decide) (by decide) (by kernel_rfl) (by kernel_rfl) (by kernel_rfl) (fun _ _ _ h => h) rfl ?_ hx1 ?_
        rotate_left
        · (intro u hu; obtain ⟨u0, u1, u2, u3, u4, u5⟩ := (unhide HB) u hu; go_simp; first | done | with_reducible rfl)
        try simp only [Act.put, List.setIfInBounds_toArray, List.set_cons_zero, List.set_cons_succ]
        refine Late.take (i := 2) (oi := ⟨some 20, .move (.tmp 19), 4, "pieces.go:48", #[⟨1, .data⟩], none⟩) (v := ?_) [8, 10, 17] rfl (by kernel_rfl) (by kernel_rfl) (by decide) (by decide) (by kernel_rfl) (by kernel_rfl) (by kernel_rfl) (fun _ _ _ h => h) rfl ?_ hx1 ?_
        rotate_left
        · (intro u hu; obtain ⟨u0, u1, u2, u3, u4, u5⟩ := (unhide HB) u hu; go_simp; first | done | with_reducible rfl)
        try simp only [Act.put, List.setIfInBounds_toArray, List.set_cons_zero, List.set_cons_succ]
        refine Late.skip (i := 3) (oi := ⟨some 21, .move (.tmp 5), 137, "pieces.go:48", #[⟨2, .guard⟩], some (2, true)⟩) [5, 8, 10, 17] rfl (by kernel_rfl) (by kernel_rfl) (by decide) (by decide) (by kernel_rfl) (by kernel_rfl) (by kernel_rfl) (fun _ _ _ h => h) (by rfl) hx1 ?_
        try simp only [Act.put, List.setIfInBounds_toArray, List.set_cons_zero, List.set_cons_succ]
        refine Late.skip (i := 4) (oi := ⟨some 22, .move (.tmp 8), 3, "pieces.go:48", #[⟨2, .guard⟩], some (2, true)⟩) [5, 8, 10, 17] rfl (by kernel_rfl) (by kernel_rfl) (by decide) (by decide) (by kernel_rfl) (by kernel_rfl) (by kernel_rfl) (fun _ _ _ h => h) (by rfl) hx1 ?_
        try simp only [Act.put, List.setIfInBounds_toArray, List.set_cons_zero, List.set_cons_succ]
        refine Late.skip (i := 5) (oi := ⟨some 23, .indexAddr 137 (.tmp 21) (.tmp 22), 0, "pieces.go:48", #[⟨3, .data⟩, ⟨4, .data⟩, ⟨2, .guard⟩], some (2, true)⟩) [8, 10, 17] rfl (by kernel_rfl) (by kernel_rfl) (by decide) (by decide) (by kernel_rfl) (by kernel_rfl) (by kernel_rfl) (fun _ _ _ h => h) (by rfl) hx1 ?_
        try simp only [Act.put, List.setIfInBounds_toArray, List.set_cons_zero, List.set_cons_succ]
        refine Late.skip (i := 6) (oi := ⟨some 24, .load 253 (.tmp 7), 253, "pieces.go:48", #[⟨2, .guard⟩], some (2, true)⟩) [8, 10, 17] rfl (by kernel_rfl) (by kernel_rfl) (by decide) (by decide) (by kernel_rfl) (by kernel_rfl) (by kernel_rfl) (fun _ _ _ h => h) (by rfl) hx1 ?_
        try simp only [Act.put, List.setIfInBounds_toArray, List.set_cons_zero, List.set_cons_succ]
        refine Late.skip (i := 7) (oi := ⟨some 25, .move (.tmp 1), 3, "pieces.go:48", #[⟨2, .guard⟩], some (2, true)⟩) [8, 10, 17] rfl (by kernel_rfl) (by kernel_rfl) (by decide) (by decide) (by kernel_rfl) (by kernel_rfl) (by kernel_rfl) (fun _ _ _ h => h) (by rfl) hx1 ?_
        try simp only [Act.put, List.setIfInBounds_toArray, List.set_cons_zero, List.set_cons_succ]
        refine Late.skip (i := 8) (oi := ⟨some 26, .call { callee := .value (.func 163), args := #[.tmp 23, .tmp 24, .tmp 25], argTypes := #[235, 253, 3] }, 4, "pieces.go:48", #[⟨5, .data⟩, ⟨6, .data⟩, ⟨7, .data⟩, ⟨2, .chain⟩, ⟨2, .guard⟩], some (2, true)⟩) [10, 17] rfl (by kernel_rfl) (by kernel_rfl) (by decide) (by decide) (by kernel_rfl) (by kernel_rfl) (by kernel_rfl) (fun _ _ _ h => h) (by rfl) hx1 ?_
        try simp only [Act.put, List.setIfInBounds_toArray, List.set_cons_zero, List.set_cons_succ]
        refine Late.take (i := 9) (oi := ⟨some 27, .pick (.tmp 20) (.tmp 26) (.const (.bool false)), 4, "pieces.go:48", #[⟨2, .data⟩, ⟨8, .data⟩], none⟩) (v := ?_) [10, 17] rfl (by kernel_rfl) (by kernel_rfl) (by decide) (by decide) (by kernel_rfl) (by kernel_rfl) (by kernel_rfl) (fun _ _ _ h => h) rfl ?_ hx1 ?_
        rotate_left
        · (intro u hu; skip; go_simp; first | done | with_reducible rfl)
        try simp only [Act.put, List.setIfInBounds_toArray, List.set_cons_zero, List.set_cons_succ]
        refine Late.take (i := 10) (oi := ⟨some 28, .move (.tmp 27), 4, "pieces.go:48", #[⟨9, .data⟩, ⟨8, .chain⟩], none⟩) (v := ?_) [17] rfl (by kernel_rfl) (by kernel_rfl) (by decide) (by decide) (by kernel_rfl) (by kernel_rfl) (by kernel_rfl) (fun _ _ _ h => h) rfl ?_ hx1 ?_
        rotate_left
        · (intro u hu; skip; go_simp; first | done | with_reducible rfl)
        try simp only [Act.put, List.setIfInBounds_toArray, List.set_cons_zero, List.set_cons_succ]
        refine Late.skip (i := 11) (oi := ⟨some 29, .move (.tmp 5), 137, "pieces.go:48", #[⟨10, .guard⟩], some (10, true)⟩) [13, 15, 16, 17] rfl (by kernel_rfl) (by kernel_rfl) (by decide) (by decide) (by kernel_rfl) (by kernel_rfl) (by kernel_rfl) (fun _ _ _ h => h) (by rfl) hx1 ?_
        try simp only [Act.put, List.setIfInBounds_toArray, List.set_cons_zero, List.set_cons_succ]
        refine Late.skip (i := 12) (oi := ⟨some 30, .move (.tmp 8), 3, "pieces.go:48", #[⟨10, .guard⟩], some (10, true)⟩) [13, 15, 16, 17] rfl (by kernel_rfl) (by kernel_rfl) (by decide) (by decide) (by kernel_rfl) (by kernel_rfl) (by kernel_rfl) (fun _ _ _ h => h) (by rfl) hx1 ?_
        try simp only [Act.put, List.setIfInBounds_toArray, List.set_cons_zero, List.set_cons_succ]
        refine Late.skip (i := 13) (oi := ⟨some 31, .indexAddr 137 (.tmp 29) (.tmp 30), 0, "pieces.go:48", #[⟨11, .data⟩, ⟨12, .data⟩, ⟨10, .guard⟩], some (10, true)⟩) [15, 16, 17] rfl (by kernel_rfl) (by kernel_rfl) (by decide) (by decide) (by kernel_rfl) (by kernel_rfl) (by kernel_rfl) (fun _ _ _ h => h) (by rfl) hx1 ?_
        try simp only [Act.put, List.setIfInBounds_toArray, List.set_cons_zero, List.set_cons_succ]
        refine Late.skip (i := 14) (oi := ⟨some 32, .load 253 (.tmp 7), 253, "pieces.go:48", #[⟨10, .guard⟩], some (10, true)⟩) [15, 16, 17] rfl (by kernel_rfl) (by kernel_rfl) (by decide) (by decide) (by kernel_rfl) (by kernel_rfl) (by kernel_rfl) (fun _ _ _ h => h) (by rfl) hx1 ?_
        try simp only [Act.put, List.setIfInBounds_toArray, List.set_cons_zero, List.set_cons_succ]
        refine Late.skip (i := 15) (oi := ⟨some 33, .call { callee := .value (.func 164), args := #[.tmp 31, .tmp 32], argTypes := #[235, 253] }, 3, "pieces.go:48", #[⟨13, .data⟩, ⟨14, .data⟩, ⟨10, .chain⟩, ⟨10, .guard⟩], some (10, true)⟩) [16, 17] rfl (by kernel_rfl) (by kernel_rfl) (by decide) (by decide) (by kernel_rfl) (by kernel_rfl) (by kernel_rfl) (fun _ _ _ h => h) (by rfl) hx1 ?_
        try simp only [Act.put, List.setIfInBounds_toArray, List.set_cons_zero, List.set_cons_succ]
        refine Late.skip (i := 16) (oi := ⟨some 34, .binOp .leq 3 (.tmp 33) (.const (.int .i64 64)) 3, 4, "pieces.go:48", #[⟨15, .data⟩, ⟨10, .guard⟩], some (10, true)⟩) [17] rfl (by kernel_rfl) (by kernel_rfl) (by decide) (by decide) (by kernel_rfl) (by kernel_rfl) (by kernel_rfl) (fun _ _ _ h => h) (by rfl) hx1 ?_
        try simp only [Act.put, List.setIfInBounds_toArray, List.set_cons_zero, List.set_cons_succ]
        refine Late.one (i := 17) (o := ⟨some 35, .pick (.tmp 28) (.tmp 34) (.const (.bool false)), 4, "pieces.go:48", #[⟨10, .data⟩, ⟨16, .data⟩], none⟩) (by kernel_rfl) rfl (fun K hK => ?_)
        go_simp
        refine hK _ _ (fun h => absurd rfl h) ?_
        clear hK K
        try simp only [Act.put, List.setIfInBounds_toArray, List.set_cons_zero, List.set_cons_succ]
        refine Late.done (by kernel_rfl) ?_ _
        have hx2 := hx1
        obtain ⟨e0, e1, e2, e3, e4, e5⟩ := (unhide HB) _ hx2
        generalize W.drew = W2 at *
        have x2 : Ext wr W2 := xA.trans hx2
        have hx2z := hx2.size
        obtain ⟨pvs0, hpl0, hO0, hvb0, hPc0⟩ := hj0.own
        go_wp2_with (at_builtin; go_must (refine wpList_append_g _ rfl _ _ 137 137 rfl 235 zPc 3 40 Tryz.underlying137 infoPc rfl _ _ _ rfl (((hO0.ext x2).ext_alloc _).ext_alloc _) _ rfl 1 _ (src_elemN' _ _ (by simp) _ _ Tryz.underlying137 _ [I x.page.place, I x.page.length, .slice (some ⟨W2.heap.size, 0, none⟩) 1 1] rfl (by intro u hu; simp at hu; rcases hu with rfl | rfl | rfl <;> rfl)) (by omega) (by omega) ?_); intro v3 w3 o3 k3 s3)
        have hG := ((Blk.of_alloc W2 (wpCells x) 253).kept (S := fun _ => False) ((Kp.refl _ _).alloc (.cells #[I x.page.place, I x.page.length, .slice (some ⟨W2.heap.size, 0, none⟩) 1 1] 235)) id).own1
        refine ⟨⟨k + 1, by go_num, by omega, ?_, (((hx.trans x2).alloc _).alloc _).then k3 (fun i hi e => by have := hvb0 i e; omega)⟩, by simp [intOf]; omega⟩
        rw [HT.out, show Pl.joinS gap [] x = [] ++ [⟨x.page.place, x.page.length, [x]⟩] from rfl]
        exact JS.more (gp := W2.heap.size) (hPc0.go (S := fun _ => False) ((x2.alloc _).alloc _) (fun _ _ f => f) (fun i hi h => ⟨h.1, h.2, by have := x2.size; omega⟩)) (fun g e => ⟨hvb0 g e, by have := hO0.lt e; have := x2.size; omega⟩) hG (by have := hx.size; have := x2.size; omega) o3 k3 s3
      | snoc lb cap pvs l pv p hO hlb hP hpv hR =>
        have hJS : Pl.joinS gap (l ++ [p]) x = if Pl.joins gap p x = true then l ++ [⟨p.place, Pl.lengthWith p x, p.pages ++ [x]⟩] else (l ++ [p]) ++ [⟨x.page.place, x.page.length, [x]⟩] := by
          unfold Pl.joinS
          rw [List.getLast?_append, List.getLast?_singleton, Option.some_or, List.dropLast_append_of_ne_nil (by simp)]
          simp
        have HJ := hide hJS
        clear hJS
        have hl1 : l.length + 1 ≤ k := by simpa using hj1
        have hjo : Hid (Pl.joins gap p x = (decide (x.page.place ≤ p.place + p.length + gap) && decide (max p.length (x.page.place + x.page.length - p.place) ≤ 64))) := hide rfl
        go_wp2_with fail
        have xA : Ext wr (wr.alloc (.cells #[.int .i64 x.page.place, .int .i64 x.page.length, .int .u32 x.page.sum, .int .i64 x.group, .int .i64 x.column, .int .i64 x.rows] 253)) := (Kp.refl _ _).alloc _
        have bA : Blk (wr.alloc (.cells #[.int .i64 x.page.place, .int .i64 x.page.length, .int .u32 x.page.sum, .int .i64 x.group, .int .i64 x.column, .int .i64 x.rows] 253)) wr.heap.size (wpCells x) 253 := Blk.of_alloc wr (wpCells x) 253
        generalize wr.alloc (.cells #[.int .i64 x.page.place, .int .i64 x.page.length, .int .u32 x.page.sum, .int .i64 x.group, .int .i64 x.column, .int .i64 x.rows] 253) = W at *
        have hB : ∀ u, Ext W u → u.cell? ⟨wr.heap.size, 0, none⟩ = some (.int .i64 x.page.place) ∧ u.cell? ⟨wr.heap.size, 1, none⟩ = some (.int .i64 x.page.length) ∧ u.cell? ⟨wr.heap.size, 2, none⟩ = some (.int .u32 x.page.sum) ∧ u.cell? ⟨wr.heap.size, 3, none⟩ = some (.int .i64 x.group) ∧ u.cell? ⟨wr.heap.size, 4, none⟩ = some (.int .i64 x.column) ∧ u.cell? ⟨wr.heap.size, 5, none⟩ = some (.int .i64 x.rows) :=
          fun u hu => ⟨hu.cell (bA.cell 0) id, hu.cell (bA.cell 1) id, hu.cell (bA.cell 2) id, hu.cell (bA.cell 3) id, hu.cell (bA.cell 4) id, hu.cell (bA.cell 5) id⟩
        have HB := hide hB
        clear hB d0 d1 d2 d3 d4 d5
        have hsW : wr.heap.size < W.heap.size := bA.lt
        have hx1 : Ext W W.drew := (Kp.refl _ _).drew
        refine wp_region_late (n := 17) (Ext W) (by kernel_rfl) ?_
        refine Late.take (i := 0) (oi := ⟨some 18, .move (.tmp 8), 3, "pieces.go:48", #[], none⟩) (v := ?_) [1, 2, 8, 10, 17] rfl (by kernel_rfl) (by kernel_rfl) (by decide) (by decide) (by kernel_rfl) (by kernel_rfl) (by kernel_rfl) (fun _ _ _ h => h) rfl ?_ hx1 ?_
        rotate_left
        · (intro u hu; obtain ⟨u0, u1, u2, u3, u4, u5⟩ := (unhide HB) u hu; go_simp; first | done | with_reducible rfl)
        try simp only [Act.put, List.setIfInBounds_toArray, List.set_cons_zero, List.set_cons_succ]
        refine Late.take (i := 1) (oi := ⟨some 19, .binOp .geq 3 (.tmp 18) (.const (.int .i64 0)) 3, 4, "pieces.go:48", #[⟨0, .data⟩], none⟩) (v := ?_) [2, 8, 10, 17] rfl (by kernel_rfl) (by kernel_rfl) (by decide) (by decide) (by kernel_rfl) (by kernel_rfl) (by kernel_rfl) (fun _ _ _ h => h) rfl ?_ hx1 ?_
        rotate_left
        · (intro u hu; obtain ⟨u0, u1, u2, u3, u4, u5⟩ := (unhide HB) u hu; go_simp; first | done | with_reducible rfl)
        try simp only [Act.put, List.setIfInBounds_toArray, List.set_cons_zero, List.set_cons_succ]
        refine Late.take (i := 2) (oi := ⟨some 20, .move (.tmp 19), 4, "pieces.go:48", #[⟨1, .data⟩], none⟩) (v := ?_) [8, 10, 17] rfl (by kernel_rfl) (by kernel_rfl) (by decide) (by decide) (by kernel_rfl) (by kernel_rfl) (by kernel_rfl) (fun _ _ _ h => h) rfl ?_ hx1 ?_
        rotate_left
        · (intro u hu; obtain ⟨u0, u1, u2, u3, u4, u5⟩ := (unhide HB) u hu; go_simp; first | done | with_reducible rfl)
        try simp only [Act.put, List.setIfInBounds_toArray, List.set_cons_zero, List.set_cons_succ]
        obtain ⟨hm1, hm2, hm3⟩ := hj3 p (by simp)
        have hrl := pieceRow_len pvs l hR.1
        have hLc : ∀ u, Ext W u → u.cell? ⟨lb, l.length * 3, none⟩ = some (.int .i64 p.place) ∧ u.cell? ⟨lb, l.length * 3 + 1, none⟩ = some (.int .i64 p.length) := fun u hu => by
          obtain ⟨g0, g1, -⟩ := get_mid (pieceRow pvs l) (I p.place) (I p.length) pv
          rw [hrl] at g0 g1
          exact ⟨(xA.trans hu).cell ((hO.cellAt (l.length * 3) (by omega)).1.trans g0) id, (xA.trans hu).cell ((hO.cellAt (l.length * 3 + 1) (by omega)).1.trans g1) id⟩
        have HL := hide hLc
        have hlt1 : (l.length : Int) < (l.length : Int) + 1 := by omega
        have HRL := hide hrl
        clear hLc hrl
        refine Late.takeW (i := 3) (oi := ⟨some 21, .move (.tmp 5), 137, "pieces.go:48", #[⟨2, .guard⟩], some (2, true)⟩) (v := ?_) [5, 8, 10, 17] rfl (by kernel_rfl) (by kernel_rfl) (by decide) (by decide) (by kernel_rfl) (by kernel_rfl) (by kernel_rfl) (fun _ _ _ h => h) (by rfl) ?_ hx1 ?_
        rotate_left
        · (intro u hu; obtain ⟨u0, u1, u2, u3, u4, u5⟩ := (unhide HB) u hu; go_simp; first | done | with_reducible rfl)
        try simp only [Act.put, List.setIfInBounds_toArray, List.set_cons_zero, List.set_cons_succ]
        refine Late.takeW (i := 4) (oi := ⟨some 22, .move (.tmp 8), 3, "pieces.go:48", #[⟨2, .guard⟩], some (2, true)⟩) (v := ?_) [5, 8, 10, 17] rfl (by kernel_rfl) (by kernel_rfl) (by decide) (by decide) (by kernel_rfl) (by kernel_rfl) (by kernel_rfl) (fun _ _ _ h => h) (by rfl) ?_ hx1 ?_
        rotate_left
        · (intro u hu; obtain ⟨u0, u1, u2, u3, u4, u5⟩ := (unhide HB) u hu; go_simp; first | done | with_reducible rfl)
        try simp only [Act.put, List.setIfInBounds_toArray, List.set_cons_zero, List.set_cons_succ]
        refine Late.takeW (i := 5) (oi := ⟨some 23, .indexAddr 137 (.tmp 21) (.tmp 22), 0, "pieces.go:48", #[⟨3, .data⟩, ⟨4, .data⟩, ⟨2, .guard⟩], some (2, true)⟩) (v := ?_) [8, 10, 17] rfl (by kernel_rfl) (by kernel_rfl) (by decide) (by decide) (by kernel_rfl) (by kernel_rfl) (by kernel_rfl) (fun _ _ _ h => h) (by rfl) ?_ hx1 ?_
        rotate_left
        · (intro u hu; obtain ⟨u0, u1, u2, u3, u4, u5⟩ := (unhide HB) u hu; go_simp; first | done | with_reducible rfl)
        try simp only [Act.put, List.setIfInBounds_toArray, List.set_cons_zero, List.set_cons_succ]
        refine Late.takeW (i := 6) (oi := ⟨some 24, .load 253 (.tmp 7), 253, "pieces.go:48", #[⟨2, .guard⟩], some (2, true)⟩) (v := ?_) [8, 10, 17] rfl (by kernel_rfl) (by kernel_rfl) (by decide) (by decide) (by kernel_rfl) (by kernel_rfl) (by kernel_rfl) (fun _ _ _ h => h) (by rfl) ?_ hx1 ?_
        rotate_left
        · (intro u hu; obtain ⟨u0, u1, u2, u3, u4, u5⟩ := (unhide HB) u hu; go_simp; first | done | with_reducible rfl)
        try simp only [Act.put, List.setIfInBounds_toArray, List.set_cons_zero, List.set_cons_succ]
        refine Late.takeW (i := 7) (oi := ⟨some 25, .move (.tmp 1), 3, "pieces.go:48", #[⟨2, .guard⟩], some (2, true)⟩) (v := ?_) [8, 10, 17] rfl (by kernel_rfl) (by kernel_rfl) (by decide) (by decide) (by kernel_rfl) (by kernel_rfl) (by kernel_rfl) (fun _ _ _ h => h) (by rfl) ?_ hx1 ?_
        rotate_left
        · (intro u hu; obtain ⟨u0, u1, u2, u3, u4, u5⟩ := (unhide HB) u hu; go_simp; first | done | with_reducible rfl)
        try simp only [Act.put, List.setIfInBounds_toArray, List.set_cons_zero, List.set_cons_succ]
        cases hd1 : decide (x.page.place ≤ p.place + p.length + gap) with
        | false =>
          refine Late.one (i := 8) (o := ⟨some 26, .call { callee := .value (.func 163), args := #[.tmp 23, .tmp 24, .tmp 25], argTypes := #[235, 253, 3] }, 4, "pieces.go:48", #[⟨5, .data⟩, ⟨6, .data⟩, ⟨7, .data⟩, ⟨2, .chain⟩, ⟨2, .guard⟩], some (2, true)⟩) (by kernel_rfl) rfl (fun K hK => ?_)
          refine step_call_w (by rfl) 163 #[PtrTo lb (l.length * 3), wpV x.page.place x.page.length x.page.sum x.group x.column x.rows, .int .i64 gap] (by go_simp) ?_
          obtain ⟨q0, q1⟩ := (unhide HL) _ hx1
          refine (near_any W.drew lb (l.length * 3) p.place p.length x.page.place x.page.length x.page.sum x.group x.column x.rows gap q0 q1 (by omega) (by omega) (by omega) (by omega)).mono ?_
          rw [hd1]
          rintro e w3 ⟨rfl, x3⟩
          have hx3 : Ext W w3 := hx1.trans x3
          refine ⟨_, rfl, hK _ _ (fun _ => hx3) ?_⟩
          clear hK K
          try simp only [Act.put, List.setIfInBounds_toArray, List.set_cons_zero, List.set_cons_succ]
          refine Late.take (i := 9) (oi := ⟨some 27, .pick (.tmp 20) (.tmp 26) (.const (.bool false)), 4, "pieces.go:48", #[⟨2, .data⟩, ⟨8, .data⟩], none⟩) (v := ?_) [10, 17] rfl (by kernel_rfl) (by kernel_rfl) (by decide) (by decide) (by kernel_rfl) (by kernel_rfl) (by kernel_rfl) (fun _ _ _ h => h) rfl ?_ hx3 ?_
          rotate_left
          · (intro u hu; skip; go_simp; first | done | with_reducible rfl)
          try simp only [Act.put, List.setIfInBounds_toArray, List.set_cons_zero, List.set_cons_succ]
          refine Late.take (i := 10) (oi := ⟨some 28, .move (.tmp 27), 4, "pieces.go:48", #[⟨9, .data⟩, ⟨8, .chain⟩], none⟩) (v := ?_) [17] rfl (by kernel_rfl) (by kernel_rfl) (by decide) (by decide) (by kernel_rfl) (by kernel_rfl) (by kernel_rfl) (fun _ _ _ h => h) rfl ?_ hx3 ?_
          rotate_left
          · (intro u hu; skip; go_simp; first | done | with_reducible rfl)
          try simp only [Act.put, List.setIfInBounds_toArray, List.set_cons_zero, List.set_cons_succ]
          refine Late.skip (i := 11) (oi := ⟨some 29, .move (.tmp 5), 137, "pieces.go:48", #[⟨10, .guard⟩], some (10, true)⟩) [13, 15, 16, 17] rfl (by kernel_rfl) (by kernel_rfl) (by decide) (by decide) (by kernel_rfl) (by kernel_rfl) (by kernel_rfl) (fun _ _ _ h => h) (by rfl) hx3 ?_
          try simp only [Act.put, List.setIfInBounds_toArray, List.set_cons_zero, List.set_cons_succ]
          refine Late.skip (i := 12) (oi := ⟨some 30, .move (.tmp 8), 3, "pieces.go:48", #[⟨10, .guard⟩], some (10, true)⟩) [13, 15, 16, 17] rfl (by kernel_rfl) (by kernel_rfl) (by decide) (by decide) (by kernel_rfl) (by kernel_rfl) (by kernel_rfl) (fun _ _ _ h => h) (by rfl) hx3 ?_
          try simp only [Act.put, List.setIfInBounds_toArray, List.set_cons_zero, List.set_cons_succ]
          refine Late.skip (i := 13) (oi := ⟨some 31, .indexAddr 137 (.tmp 29) (.tmp 30), 0, "pieces.go:48", #[⟨11, .data⟩, ⟨12, .data⟩, ⟨10, .guard⟩], some (10, true)⟩) [15, 16, 17] rfl (by kernel_rfl) (by kernel_rfl) (by decide) (by decide) (by kernel_rfl) (by kernel_rfl) (by kernel_rfl) (fun _ _ _ h => h) (by rfl) hx3 ?_
          try simp only [Act.put, List.setIfInBounds_toArray, List.set_cons_zero, List.set_cons_succ]
          refine Late.skip (i := 14) (oi := ⟨some 32, .load 253 (.tmp 7), 253, "pieces.go:48", #[⟨10, .guard⟩], some (10, true)⟩) [15, 16, 17] rfl (by kernel_rfl) (by kernel_rfl) (by decide) (by decide) (by kernel_rfl) (by kernel_rfl) (by kernel_rfl) (fun _ _ _ h => h) (by rfl) hx3 ?_
          try simp only [Act.put, List.setIfInBounds_toArray, List.set_cons_zero, List.set_cons_succ]
          refine Late.skip (i := 15) (oi := ⟨some 33, .call { callee := .value (.func 164), args := #[.tmp 31, .tmp 32], argTypes := #[235, 253] }, 3, "pieces.go:48", #[⟨13, .data⟩, ⟨14, .data⟩, ⟨10, .chain⟩, ⟨10, .guard⟩], some (10, true)⟩) [16, 17] rfl (by kernel_rfl) (by kernel_rfl) (by decide) (by decide) (by kernel_rfl) (by kernel_rfl) (by kernel_rfl) (fun _ _ _ h => h) (by rfl) hx3 ?_
          try simp only [Act.put, List.setIfInBounds_toArray, List.set_cons_zero, List.set_cons_succ]
          refine Late.skip (i := 16) (oi := ⟨some 34, .binOp .leq 3 (.tmp 33) (.const (.int .i64 64)) 3, 4, "pieces.go:48", #[⟨15, .data⟩, ⟨10, .guard⟩], some (10, true)⟩) [17] rfl (by kernel_rfl) (by kernel_rfl) (by decide) (by decide) (by kernel_rfl) (by kernel_rfl) (by kernel_rfl) (fun _ _ _ h => h) (by rfl) hx3 ?_
          try simp only [Act.put, List.setIfInBounds_toArray, List.set_cons_zero, List.set_cons_succ]
          refine Late.one (i := 17) (o := ⟨some 35, .pick (.tmp 28) (.tmp 34) (.const (.bool false)), 4, "pieces.go:48", #[⟨10, .data⟩, ⟨16, .data⟩], none⟩) (by kernel_rfl) rfl (fun K hK => ?_)
          go_simp
          refine hK _ _ (fun h => absurd rfl h) ?_
          clear hK K
          try simp only [Act.put, List.setIfInBounds_toArray, List.set_cons_zero, List.set_cons_succ]
          refine Late.done (by kernel_rfl) ?_ _
          have hx2 := hx3
          have HNW : Hid (Pl.joinS gap (l ++ [p]) x = (l ++ [p]) ++ [⟨x.page.place, x.page.length, [x]⟩]) := hide (by rw [HJ.out, hjo.out, hd1]; rfl)
          clear hd1
          obtain ⟨e0, e1, e2, e3, e4, e5⟩ := (unhide HB) _ hx2
          generalize w3 = W2 at *
          have x2 : Ext wr W2 := xA.trans hx2
          have hx2z := hx2.size
          obtain ⟨pvs0, hpl0, hO0, hvb0, hPc0⟩ := hj0.own
          rw [show (l ++ [p]).length = l.length + 1 by simp] at hO0
          go_wp2_with (at_builtin; go_must (refine wpList_append_g _ rfl _ _ 137 137 rfl 235 zPc 3 40 Tryz.underlying137 infoPc rfl _ _ _ rfl (((hO0.ext x2).ext_alloc _).ext_alloc _) _ rfl 1 _ (src_elemN' _ _ (by simp) _ _ Tryz.underlying137 _ [I x.page.place, I x.page.length, .slice (some ⟨W2.heap.size, 0, none⟩) 1 1] rfl (by intro u hu; simp at hu; rcases hu with rfl | rfl | rfl <;> rfl)) (by omega) (by omega) ?_); intro v3 w5 o3 k3 s3)
          have hG := ((Blk.of_alloc W2 (wpCells x) 253).kept (S := fun _ => False) ((Kp.refl _ _).alloc (.cells #[I x.page.place, I x.page.length, .slice (some ⟨W2.heap.size, 0, none⟩) 1 1] 235)) id).own1
          refine ⟨⟨k + 1, by go_num, by omega, ?_, (((hx.trans x2).alloc _).alloc _).then k3 (fun i hi e => by have := hvb0 i e; omega)⟩, by simp [intOf]; omega⟩
          rw [HT.out, HNW.out]
          exact JS.more (gp := W2.heap.size) (hPc0.go (S := fun _ => False) ((x2.alloc _).alloc _) (fun _ _ f => f) (fun i hi h => ⟨h.1, h.2, by have := x2.size; omega⟩)) (fun g e => ⟨hvb0 g e, by have := hO0.lt e; have := x2.size; omega⟩) hG (by have := hx.size; have := x2.size; omega) (by simpa using o3) k3 s3
        | true =>
          refine Late.one (i := 8) (o := ⟨some 26, .call { callee := .value (.func 163), args := #[.tmp 23, .tmp 24, .tmp 25], argTypes := #[235, 253, 3] }, 4, "pieces.go:48", #[⟨5, .data⟩, ⟨6, .data⟩, ⟨7, .data⟩, ⟨2, .chain⟩, ⟨2, .guard⟩], some (2, true)⟩) (by kernel_rfl) rfl (fun K hK => ?_)
          refine step_call_w (by rfl) 163 #[PtrTo lb (l.length * 3), wpV x.page.place x.page.length x.page.sum x.group x.column x.rows, .int .i64 gap] (by go_simp) ?_
          obtain ⟨q0, q1⟩ := (unhide HL) _ hx1
          refine (near_any W.drew lb (l.length * 3) p.place p.length x.page.place x.page.length x.page.sum x.group x.column x.rows gap q0 q1 (by omega) (by omega) (by omega) (by omega)).mono ?_
          rw [hd1]
          rintro e w3 ⟨rfl, x3⟩
          have hx3 : Ext W w3 := hx1.trans x3
          refine ⟨_, rfl, hK _ _ (fun _ => hx3) ?_⟩
          clear hK K
          try simp only [Act.put, List.setIfInBounds_toArray, List.set_cons_zero, List.set_cons_succ]
          refine Late.take (i := 9) (oi := ⟨some 27, .pick (.tmp 20) (.tmp 26) (.const (.bool false)), 4, "pieces.go:48", #[⟨2, .data⟩, ⟨8, .data⟩], none⟩) (v := ?_) [10, 17] rfl (by kernel_rfl) (by kernel_rfl) (by decide) (by decide) (by kernel_rfl) (by kernel_rfl) (by kernel_rfl) (fun _ _ _ h => h) rfl ?_ hx3 ?_
          rotate_left
          · (intro u hu; skip; go_simp; first | done | with_reducible rfl)
          try simp only [Act.put, List.setIfInBounds_toArray, List.set_cons_zero, List.set_cons_succ]
          refine Late.take (i := 10) (oi := ⟨some 28, .move (.tmp 27), 4, "pieces.go:48", #[⟨9, .data⟩, ⟨8, .chain⟩], none⟩) (v := ?_) [17] rfl (by kernel_rfl) (by kernel_rfl) (by decide) (by decide) (by kernel_rfl) (by kernel_rfl) (by kernel_rfl) (fun _ _ _ h => h) rfl ?_ hx3 ?_
          rotate_left
          · (intro u hu; skip; go_simp; first | done | with_reducible rfl)
          try simp only [Act.put, List.setIfInBounds_toArray, List.set_cons_zero, List.set_cons_succ]
          refine Late.takeW (i := 11) (oi := ⟨some 29, .move (.tmp 5), 137, "pieces.go:48", #[⟨10, .guard⟩], some (10, true)⟩) (v := ?_) [13, 15, 16, 17] rfl (by kernel_rfl) (by kernel_rfl) (by decide) (by decide) (by kernel_rfl) (by kernel_rfl) (by kernel_rfl) (fun _ _ _ h => h) (by rfl) ?_ hx3 ?_
          rotate_left
          · (intro u hu; obtain ⟨u0, u1, u2, u3, u4, u5⟩ := (unhide HB) u hu; go_simp; first | done | with_reducible rfl)
          try simp only [Act.put, List.setIfInBounds_toArray, List.set_cons_zero, List.set_cons_succ]
          refine Late.takeW (i := 12) (oi := ⟨some 30, .move (.tmp 8), 3, "pieces.go:48", #[⟨10, .guard⟩], some (10, true)⟩) (v := ?_) [13, 15, 16, 17] rfl (by kernel_rfl) (by kernel_rfl) (by decide) (by decide) (by kernel_rfl) (by kernel_rfl) (by kernel_rfl) (fun _ _ _ h => h) (by rfl) ?_ hx3 ?_
          rotate_left
          · (intro u hu; obtain ⟨u0, u1, u2, u3, u4, u5⟩ := (unhide HB) u hu; go_simp; first | done | with_reducible rfl)
          try simp only [Act.put, List.setIfInBounds_toArray, List.set_cons_zero, List.set_cons_succ]
          refine Late.takeW (i := 13) (oi := ⟨some 31, .indexAddr 137 (.tmp 29) (.tmp 30), 0, "pieces.go:48", #[⟨11, .data⟩, ⟨12, .data⟩, ⟨10, .guard⟩], some (10, true)⟩) (v := ?_) [15, 16, 17] rfl (by kernel_rfl) (by kernel_rfl) (by decide) (by decide) (by kernel_rfl) (by kernel_rfl) (by kernel_rfl) (fun _ _ _ h => h) (by rfl) ?_ hx3 ?_
          rotate_left
          · (intro u hu; obtain ⟨u0, u1, u2, u3, u4, u5⟩ := (unhide HB) u hu; go_simp; first | done | with_reducible rfl)
          try simp only [Act.put, List.setIfInBounds_toArray, List.set_cons_zero, List.set_cons_succ]
          refine Late.takeW (i := 14) (oi := ⟨some 32, .load 253 (.tmp 7), 253, "pieces.go:48", #[⟨10, .guard⟩], some (10, true)⟩) (v := ?_) [15, 16, 17] rfl (by kernel_rfl) (by kernel_rfl) (by decide) (by decide) (by kernel_rfl) (by kernel_rfl) (by kernel_rfl) (fun _ _ _ h => h) (by rfl) ?_ hx3 ?_
          rotate_left
          · (intro u hu; obtain ⟨u0, u1, u2, u3, u4, u5⟩ := (unhide HB) u hu; go_simp; first | done | with_reducible rfl)
          try simp only [Act.put, List.setIfInBounds_toArray, List.set_cons_zero, List.set_cons_succ]
          refine Late.one (i := 15) (o := ⟨some 33, .call { callee := .value (.func 164), args := #[.tmp 31, .tmp 32], argTypes := #[235, 253] }, 3, "pieces.go:48", #[⟨13, .data⟩, ⟨14, .data⟩, ⟨10, .chain⟩, ⟨10, .guard⟩], some (10, true)⟩) (by kernel_rfl) rfl (fun K hK => ?_)
          refine step_call_w (by rfl) 164 #[PtrTo lb (l.length * 3), wpV x.page.place x.page.length x.page.sum x.group x.column x.rows] (by go_simp) ?_
          obtain ⟨q2, q3⟩ := (unhide HL) _ hx3
          obtain ⟨mx, hmx⟩ : ∃ mx, mx = max p.length (x.page.place + x.page.length - p.place) := ⟨_, rfl⟩
          have hLW := lengthWith_any w3 lb (l.length * 3) p.place p.length x.page.place x.page.length x.page.sum x.group x.column x.rows q2 q3 (by omega) (by omega) (by omega) (by omega) (by omega)
          rw [← hmx] at hLW hjo
          have HM := hide hmx
          clear hmx
          refine hLW.mono ?_
          clear hLW
          rintro e w4 ⟨rfl, x4⟩
          have hx4 : Ext W w4 := hx3.trans x4
          refine ⟨_, rfl, hK _ _ (fun _ => hx4) ?_⟩
          clear hK K
          try simp only [Act.put, List.setIfInBounds_toArray, List.set_cons_zero, List.set_cons_succ]
          by_cases hd2 : mx ≤ 64
          · have hd3 : ((mx : Int) ≤ 64) := by omega
            refine Late.takeW (i := 16) (oi := ⟨some 34, .binOp .leq 3 (.tmp 33) (.const (.int .i64 64)) 3, 4, "pieces.go:48", #[⟨15, .data⟩, ⟨10, .guard⟩], some (10, true)⟩) (v := ?_) [17] rfl (by kernel_rfl) (by kernel_rfl) (by decide) (by decide) (by kernel_rfl) (by kernel_rfl) (by kernel_rfl) (fun _ _ _ h => h) (by rfl) ?_ hx4 ?_
            rotate_left
            · (intro u hu; skip; go_simp; first | done | with_reducible rfl)
            try simp only [Act.put, List.setIfInBounds_toArray, List.set_cons_zero, List.set_cons_succ]
            refine Late.one (i := 17) (o := ⟨some 35, .pick (.tmp 28) (.tmp 34) (.const (.bool false)), 4, "pieces.go:48", #[⟨10, .data⟩, ⟨16, .data⟩], none⟩) (by kernel_rfl) rfl (fun K hK => ?_)
            go_simp
            refine hK _ _ (fun h => absurd rfl h) ?_
            clear hK K
            try simp only [Act.put, List.setIfInBounds_toArray, List.set_cons_zero, List.set_cons_succ]
            refine Late.done (by kernel_rfl) ?_ _
            have HNW : Hid (Pl.joinS gap (l ++ [p]) x = l ++ [⟨p.place, mx, p.pages ++ [x]⟩]) := hide (by rw [HJ.out, hjo.out, hd1, decide_eq_true hd2, HM.out]; rfl)
            clear hd1 hd2
            go_wp2_with fail
            have hy1 : Ext w4 w4.drew := (Kp.refl _ _).drew
            have xd : Ext wr w4.drew := (xA.trans hx4).trans hy1
            refine wp_region_late (n := 4) (Ext w4) (by kernel_rfl) ?_
            refine Late.take (i := 0) (oi := ⟨some 36, .move (.tmp 5), 137, "pieces.go:49", #[], none⟩) (v := ?_) [2, 4] rfl (by kernel_rfl) (by kernel_rfl) (by decide) (by decide) (by kernel_rfl) (by kernel_rfl) (by kernel_rfl) (fun _ _ _ h => h) rfl ?_ hy1 ?_
            rotate_left
            · (intro u hu; obtain ⟨u0, u1, u2, u3, u4, u5⟩ := (unhide HB) u (hx4.trans hu); go_simp; first | done | with_reducible rfl)
            try simp only [Act.put, List.setIfInBounds_toArray, List.set_cons_zero, List.set_cons_succ]
            refine Late.take (i := 1) (oi := ⟨some 37, .move (.tmp 8), 3, "pieces.go:49", #[], none⟩) (v := ?_) [2, 4] rfl (by kernel_rfl) (by kernel_rfl) (by decide) (by decide) (by kernel_rfl) (by kernel_rfl) (by kernel_rfl) (fun _ _ _ h => h) rfl ?_ hy1 ?_
            rotate_left
            · (intro u hu; obtain ⟨u0, u1, u2, u3, u4, u5⟩ := (unhide HB) u (hx4.trans hu); go_simp; first | done | with_reducible rfl)
            try simp only [Act.put, List.setIfInBounds_toArray, List.set_cons_zero, List.set_cons_succ]
            refine Late.take (i := 2) (oi := ⟨some 38, .indexAddr 137 (.tmp 36) (.tmp 37), 0, "pieces.go:49", #[⟨0, .data⟩, ⟨1, .data⟩], none⟩) (v := ?_) [4] rfl (by kernel_rfl) (by kernel_rfl) (by decide) (by decide) (by kernel_rfl) (by kernel_rfl) (by kernel_rfl) (fun _ _ _ h => h) rfl ?_ hy1 ?_
            rotate_left
            · (intro u hu; obtain ⟨u0, u1, u2, u3, u4, u5⟩ := (unhide HB) u (hx4.trans hu); go_simp; first | done | with_reducible rfl)
            try simp only [Act.put, List.setIfInBounds_toArray, List.set_cons_zero, List.set_cons_succ]
            refine Late.take (i := 3) (oi := ⟨some 39, .load 253 (.tmp 7), 253, "pieces.go:49", #[], none⟩) (v := ?_) [4] rfl (by kernel_rfl) (by kernel_rfl) (by decide) (by decide) (by kernel_rfl) (by kernel_rfl) (by kernel_rfl) (fun _ _ _ h => h) rfl ?_ hy1 ?_
            rotate_left
            · (intro u hu; obtain ⟨u0, u1, u2, u3, u4, u5⟩ := (unhide HB) u (hx4.trans hu); go_simp; first | done | with_reducible rfl)
            try simp only [Act.put, List.setIfInBounds_toArray, List.set_cons_zero, List.set_cons_succ]
            refine Late.one (i := 4) (o := ⟨some 40, .call { callee := .value (.func 165), args := #[.tmp 38, .tmp 39], argTypes := #[235, 253] }, 0, "pieces.go:49", #[⟨2, .data⟩, ⟨3, .data⟩], none⟩) (by kernel_rfl) rfl (fun K hK => ?_)
            refine step_call_g rfl 165 #[PtrTo lb (l.length * 3), wpV x.page.place x.page.length x.page.sum x.group x.column x.rows] (by go_simp) ?_
            refine (add_any w4.drew lb cap l.length p.place p.length p.pages.length (pieceRow pvs l) pv (p.pages.flatMap wpCells) x HRL.out (hO.ext xd) (hP.ext xd) (fun g e => (hpv g e).2) (by omega) (by omega) (by omega) (by omega) (by omega) (by omega)).mono ?_
            rw [← HM.out]
            rintro e w5 ⟨rfl, pv', hO5, hP5, s5, k5⟩
            refine ⟨_, rfl, hK _ _ (fun h => absurd rfl h) ?_⟩
            clear hK K
            try simp only [Act.put, List.setIfInBounds_toArray, List.set_cons_zero, List.set_cons_succ]
            refine Late.done (by kernel_rfl) ?_ _
            go_wp2_with fail
            have hxz := xd.size
            have hxw := hx.size
            have hpvl : ∀ g, pv.ownBlock = some g → g < wr.heap.size := fun g e => hP.lt e
            have hlbl : lb < wr.heap.size := hO.lt rfl
            have hnew : ∀ g, pv'.ownBlock = some g → pv.ownBlock = some g ∨ wr.heap.size ≤ g := fun g e => by
              rcases s5 with e' | ⟨g', e1, e2⟩
              · rw [e'] at e; exact .inl e
              · rw [e1] at e; simp only [Option.some.injEq] at e; subst e; exact .inr (Nat.le_trans hxz e2)
            refine ⟨⟨k + 1, by go_num, by omega, ?_, (hx.trans xd).then k5 (fun i hi e => e.elim (fun e => by omega) (fun e => by have := hpv i e; omega))⟩, by simp [intOf]; omega⟩
            rw [HT.out, HNW.out]
            refine .snoc lb cap pvs l pv' ⟨p.place, mx, p.pages ++ [x]⟩ hO5 hlb (by simpa using hP5) (fun g e => (hnew g e).elim (fun e => hpv g e) (fun e => by omega)) ?_
            refine (hR.go xd (fun _ _ f => f) (C' := fun k => (w.heap.size ≤ k ∧ k ≠ lb ∧ pv.ownBlock ≠ some k) ∧ k < wr.heap.size) (fun i hi h => ⟨h, hi⟩)).go k5 (fun i hi e => e.elim hi.1.2.1 hi.1.2.2) (fun i hi h => ⟨h.1.1, h.1.2.1, fun e => (hnew i e).elim h.1.2.2 (fun e => by omega)⟩)
          · have hd3 : ¬ ((mx : Int) ≤ 64) := by omega
            refine Late.takeW (i := 16) (oi := ⟨some 34, .binOp .leq 3 (.tmp 33) (.const (.int .i64 64)) 3, 4, "pieces.go:48", #[⟨15, .data⟩, ⟨10, .guard⟩], some (10, true)⟩) (v := ?_) [17] rfl (by kernel_rfl) (by kernel_rfl) (by decide) (by decide) (by kernel_rfl) (by kernel_rfl) (by kernel_rfl) (fun _ _ _ h => h) (by rfl) ?_ hx4 ?_
            rotate_left
            · (intro u hu; skip; go_simp; first | done | with_reducible rfl)
            try simp only [Act.put, List.setIfInBounds_toArray, List.set_cons_zero, List.set_cons_succ]
            refine Late.one (i := 17) (o := ⟨some 35, .pick (.tmp 28) (.tmp 34) (.const (.bool false)), 4, "pieces.go:48", #[⟨10, .data⟩, ⟨16, .data⟩], none⟩) (by kernel_rfl) rfl (fun K hK => ?_)
            go_simp
            refine hK _ _ (fun h => absurd rfl h) ?_
            clear hK K
            try simp only [Act.put, List.setIfInBounds_toArray, List.set_cons_zero, List.set_cons_succ]
            refine Late.done (by kernel_rfl) ?_ _
            have hx2 := hx4
            have HNW : Hid (Pl.joinS gap (l ++ [p]) x = (l ++ [p]) ++ [⟨x.page.place, x.page.length, [x]⟩]) := hide (by rw [HJ.out, hjo.out, hd1, decide_eq_false hd2]; rfl)
            clear hd1 hd2
            obtain ⟨e0, e1, e2, e3, e4, e5⟩ := (unhide HB) _ hx2
            generalize w4 = W2 at *
            have x2 : Ext wr W2 := xA.trans hx2
            have hx2z := hx2.size
            obtain ⟨pvs0, hpl0, hO0, hvb0, hPc0⟩ := hj0.own
            rw [show (l ++ [p]).length = l.length + 1 by simp] at hO0
            go_wp2_with (at_builtin; go_must (refine wpList_append_g _ rfl _ _ 137 137 rfl 235 zPc 3 40 Tryz.underlying137 infoPc rfl _ _ _ rfl (((hO0.ext x2).ext_alloc _).ext_alloc _) _ rfl 1 _ (src_elemN' _ _ (by simp) _ _ Tryz.underlying137 _ [I x.page.place, I x.page.length, .slice (some ⟨W2.heap.size, 0, none⟩) 1 1] rfl (by intro u hu; simp at hu; rcases hu with rfl | rfl | rfl <;> rfl)) (by omega) (by omega) ?_); intro v3 w5 o3 k3 s3)
            have hG := ((Blk.of_alloc W2 (wpCells x) 253).kept (S := fun _ => False) ((Kp.refl _ _).alloc (.cells #[I x.page.place, I x.page.length, .slice (some ⟨W2.heap.size, 0, none⟩) 1 1] 235)) id).own1
            refine ⟨⟨k + 1, by go_num, by omega, ?_, (((hx.trans x2).alloc _).alloc _).then k3 (fun i hi e => by have := hvb0 i e; omega)⟩, by simp [intOf]; omega⟩
            rw [HT.out, HNW.out]
            exact JS.more (gp := W2.heap.size) (hPc0.go (S := fun _ => False) ((x2.alloc _).alloc _) (fun _ _ f => f) (fun i hi h => ⟨h.1, h.2, by have := x2.size; omega⟩)) (fun g e => ⟨hvb0 g e, by have := hO0.lt e; have := x2.size; omega⟩) hG (by have := hx.size; have := x2.size; omega) (by simpa using o3) k3 s3
    · obtain rfl : k = pages.length := by omega
      rw [List.take_length] at hj
      go_wp2_with fail
      go_ret
      exact ⟨_, rfl, hx, hj⟩
end Go.Proofs.YthicgffppmbamaaGreat

namespace Go.Proofs.YthicgffppmbamaaGreat
open Go.RowKit

namespace Pl
theorem insW_split (l : List WPage) (x : WPage) (hs : l.Pairwise (fun a b => a.page.place ≤ b.page.place)) : ∃ A B, l = A ++ B ∧ insW l x = A ++ [x] ++ B ∧ (∀ y ∈ A, y.page.place ≤ x.page.place) ∧ ∀ y ∈ B, x.page.place < y.page.place := by
  have e : l = (l.reverse.dropWhile (fun y => decide (x.page.place < y.page.place))).reverse ++ (l.reverse.takeWhile (fun y => decide (x.page.place < y.page.place))).reverse := by
    rw [← List.reverse_append, List.takeWhile_append_dropWhile, List.reverse_reverse]
  refine ⟨_, _, e, rfl, fun y hy => ?_, fun y hy => ?_⟩
  · rw [List.mem_reverse] at hy
    have hs' : (l.reverse.dropWhile (fun y => decide (x.page.place < y.page.place))).Pairwise (fun a b => b.page.place ≤ a.page.place) := by
      refine List.Pairwise.sublist (List.dropWhile_sublist _) ?_
      rw [List.pairwise_reverse]
      exact hs
    have hd : ∀ z, (l.reverse.dropWhile (fun y => decide (x.page.place < y.page.place))).head? = some z → z.page.place ≤ x.page.place := fun z hz => by
      have := List.head?_dropWhile_not (fun y : WPage => decide (x.page.place < y.page.place)) l.reverse
      rw [hz] at this
      simpa using this
    cases hh : l.reverse.dropWhile (fun y => decide (x.page.place < y.page.place)) with
    | nil => rw [hh] at hy; simp at hy
    | cons z r =>
      rw [hh] at hy hs' hd
      have hz := hd z rfl
      rcases List.mem_cons.1 hy with rfl | hy
      · exact hz
      · exact Nat.le_trans ((List.pairwise_cons.1 hs').1 y hy) hz
  · rw [List.mem_reverse] at hy
    have hall := List.all_takeWhile (p := fun y : WPage => decide (x.page.place < y.page.place)) (l := l.reverse)
    rw [List.all_eq_true] at hall
    simpa using hall y hy
theorem insW_sorted (l : List WPage) (x : WPage) (hs : l.Pairwise (fun a b => a.page.place ≤ b.page.place)) : (insW l x).Pairwise (fun a b => a.page.place ≤ b.page.place) ∧ ∀ y ∈ insW l x, y ∈ l ∨ y = x := by
  obtain ⟨A, B, e, e2, hA, hB⟩ := insW_split l x hs
  rw [e] at hs
  obtain ⟨hsA, hsB, hAB⟩ := List.pairwise_append.1 hs
  rw [e2]
  refine ⟨?_, fun y hy => ?_⟩
  · rw [List.append_assoc]
    refine List.pairwise_append.2 ⟨hsA, ?_, fun a ha b hb => ?_⟩
    · rw [List.singleton_append, List.pairwise_cons]
      exact ⟨fun b hb => Nat.le_of_lt (hB b hb), hsB⟩
    · rw [List.singleton_append] at hb
      rcases List.mem_cons.1 hb with rfl | hb
      · exact hA a ha
      · exact hAB a ha b hb
  · rw [e]
    simp only [List.append_assoc, List.singleton_append, List.mem_append, List.mem_cons] at hy ⊢
    rcases hy with h | h | h
    · exact .inl (.inl h)
    · exact .inr h
    · exact .inl (.inr h)
theorem sortW_sorted (l : List WPage) : (sortW l).Pairwise (fun a b => a.page.place ≤ b.page.place) ∧ ∀ y ∈ sortW l, y ∈ l := by
  have h : ∀ (l acc : List WPage), acc.Pairwise (fun a b => a.page.place ≤ b.page.place) → (l.foldl insW acc).Pairwise (fun a b => a.page.place ≤ b.page.place) ∧ ∀ y ∈ l.foldl insW acc, y ∈ acc ∨ y ∈ l := by
    intro l
    induction l with
    | nil => intro acc h; exact ⟨h, fun y hy => .inl hy⟩
    | cons a l ih =>
      intro acc hs
      obtain ⟨h1, h2⟩ := insW_sorted acc a hs
      obtain ⟨h3, h4⟩ := ih (insW acc a) h1
      refine ⟨h3, fun y hy => ?_⟩
      rcases h4 y hy with h | h
      · rcases h2 y h with h | h
        · exact .inl h
        · exact .inr (by simp [h])
      · exact .inr (by simp [h])
  obtain ⟨h1, h2⟩ := h l [] List.Pairwise.nil
  exact ⟨h1, fun y hy => (h2 y hy).elim (fun h => by simp at h) id⟩
/-- every page of a group ends within M -/
def PagesIn (M : Nat) (gr : FGroup) : Prop := ∀ p ∈ gr.pages, p.place + p.length ≤ M
theorem wanted_sorted (M g : Nat) (gr : FGroup) (cols : List Nat) (h : PagesIn M gr) : Sorted M (sortW (wantedRaw g gr cols)) := by
  obtain ⟨h1, h2⟩ := sortW_sorted (wantedRaw g gr cols)
  refine ⟨fun x hx => ?_, h1⟩
  have := h2 x hx
  unfold wantedRaw at this
  rw [List.mem_map] at this
  obtain ⟨i, _, rfl⟩ := this
  show (gr.pages.getD (cols.getD i 0) default).place + (gr.pages.getD (cols.getD i 0) default).length ≤ M
  rw [List.getD_eq_getElem?_getD]
  cases hq : gr.pages[cols.getD i 0]? with
  | none => show 0 + 0 ≤ M; omega
  | some p => exact h p (List.mem_of_getElem? hq)
end Pl

set_option maxRecDepth 20000 in
set_option maxHeartbeats 1000000 in
theorem stable_any (w : World) (g cap : Nat) (pages : List Pl.WPage) (h0 : 0 < pages.length) (hl : pages.length ≤ 10) (hO : Own w 6 (.slice (some ⟨g, 0, none⟩) pages.length cap) pages.length (pages.flatMap wpCells)) :
    Calls Tryz.prog 174 #[.slice (some ⟨g, 0, none⟩) pages.length cap, .int .i64 pages.length, F 167] w fun e w' => e = .returned (.tuple #[]) ∧ Own w' 6 (.slice (some ⟨g, 0, none⟩) pages.length cap) pages.length ((Pl.sortW pages).flatMap wpCells) ∧ Kp (fun k => k = g) w w' := by
  have HC := hide (insertSort_any w g cap pages h0 (by omega) hO)
  go_enter Tryz.func174, Tryz.ntmps174
  go_wp2_with fail
  go_loopw [7, 8] (fun a b wr => a = .int .i64 0 ∧ b = .int .i64 20 ∧ wr = w) (fun _ _ _ => 0)
  case atStart => exact ⟨rfl, rfl, rfl⟩
  case round =>
    obtain ⟨rfl, rfl, rfl⟩ := hrel
    go_wp2_with (go_at_call 177; refine (unhide HC).mono ?_; rintro e w1 ⟨rfl, o1, k1⟩)
    go_loopw [6] (fun a wr2 => a = .int .i64 20 ∧ wr2 = w1) (fun _ _ => 0)
    case atStart => exact ⟨rfl, rfl⟩
    case round =>
      obtain ⟨rfl, rfl⟩ := hrel
      go_wp2_with fail
      go_end0
      exact ⟨rfl, o1, k1⟩

set_option maxRecDepth 20000 in
set_option maxHeartbeats 1000000 in
theorem sortStable_any (w : World) (g cap : Nat) (pages : List Pl.WPage) (h0 : 0 < pages.length) (hl : pages.length ≤ 10) (hO : Own w 6 (.slice (some ⟨g, 0, none⟩) pages.length cap) pages.length (pages.flatMap wpCells)) :
    Calls Tryz.prog 166 #[.slice (some ⟨g, 0, none⟩) pages.length cap, F 167] w fun e w' => e = .returned (.tuple #[]) ∧ Own w' 6 (.slice (some ⟨g, 0, none⟩) pages.length cap) pages.length ((Pl.sortW pages).flatMap wpCells) ∧ Kp (fun k => k = g) w w' := by
  have HC := hide (stable_any w g cap pages h0 hl hO)
  go_enter Tryz.func166, Tryz.ntmps166
  go_wp2_with (go_at_call 174; refine (unhide HC).mono ?_; rintro e w1 ⟨rfl, o1, k1⟩)
  go_end0
  exact ⟨rfl, o1, k1⟩

theorem fpRow_at (L : List Pl.FPage) (i j : Nat) (hi : i < L.length) (hj : j < 3) : (L.flatMap fpCells)[i * 3 + j]? = (fpCells L[i])[j]? := by
  rw [show L.flatMap fpCells = (L.map fpCells).flatten from rfl]
  exact flatten_at 3 (L.map fpCells) (fun e he => by rw [List.mem_map] at he; obtain ⟨q, _, rfl⟩ := he; rfl) i j hj (fpCells L[i]) (by rw [List.getElem?_map, List.getElem?_eq_getElem hi]; rfl)
theorem wantedRaw_len (g : Nat) (gr : Pl.FGroup) (cols : List Nat) : (Pl.wantedRaw g gr cols).length = cols.length := by simp [Pl.wantedRaw]

set_option maxRecDepth 20000 in
set_option maxHeartbeats 2000000 in
theorem wanted_any (C D : Nat → Prop) (w : World) (g nc : Nat) (gr : Pl.FGroup) (pv cv : Value) (cols : List Nat) (hp : RowAt C false w 3 pv nc (gr.pages.flatMap fpCells)) (hgp : gr.pages.length = nc) (hc : RowAt D false w 1 cv cols.length (cols.map fun n : Nat => I n)) (hcl : 0 < cols.length) (hcl4 : cols.length ≤ 10) (hcols : ∀ c ∈ cols, c < nc) (_hg : g ≤ 1000) (hnc : nc ≤ 1000) :
    Calls Tryz.prog 148 #[.int .i64 g, .agg #[I gr.rows, pv], cv] w fun e w' => ∃ v, e = .returned v ∧ Ext w w' ∧ RowAt (fun b => w.heap.size ≤ b) false w' 6 v cols.length ((Pl.sortW (Pl.wantedRaw g gr cols)).flatMap wpCells) := by
  obtain ⟨pa, pc, rfl, hpc, hp3⟩ := hp.get
  obtain ⟨ca, cc, rfl, hcc, hc3⟩ := hc.get
  clear hp hc
  have b0 := Blk.of_alloc w [I gr.rows, .slice pa nc pc] 229
  have x0 : Ext w (w.alloc (.cells #[I gr.rows, .slice pa nc pc] 229)) := (Kp.refl _ _).alloc _
  go_enter Tryz.func148, Tryz.ntmps148
  go_wp2_with fail
  generalize w.alloc (.cells #[I gr.rows, .slice pa nc pc] 229) = W at *
  have hsW : w.heap.size < W.heap.size := b0.lt
  go_loopw [7, 12] (fun t i wr => ∃ k : Nat, i = .int .i64 k ∧ k ≤ cols.length ∧ Own wr 6 t k (((List.range k).map fun i => (⟨gr.pages.getD (cols.getD i 0) default, g, i, gr.rows⟩ : Pl.WPage)).flatMap wpCells) ∧ (∀ b, t.ownBlock = some b → W.heap.size ≤ b) ∧ Ext W wr) (fun _ i _ => cols.length - (intOf i).toNat)
  case atStart => exact ⟨0, rfl, by omega, by simpa using Own.nil _ _, fun b e => by simp [Value.ownBlock] at e, Kp.refl _ _⟩
  case round =>
    obtain ⟨k, rfl, hk, ho, hfr, hx⟩ := hrel
    obtain ⟨ta, tc, rfl, htc⟩ := ho.shape
    by_cases hkl : k < cols.length
    · obtain ⟨cb, co, rfl, hcb, hcc3⟩ := hc3 (by omega)
      have hck := (x0.trans hx).cell ((hcc3 k (by omega)).trans (by rw [List.getElem?_map, List.getElem?_eq_getElem hkl]; rfl)) id
      have hcn := hcols cols[k] (List.getElem_mem hkl)
      have HT : Hid (((List.range (k + 1)).map fun i => (⟨gr.pages.getD (cols.getD i 0) default, g, i, gr.rows⟩ : Pl.WPage)).flatMap wpCells = ((List.range k).map fun i => (⟨gr.pages.getD (cols.getD i 0) default, g, i, gr.rows⟩ : Pl.WPage)).flatMap wpCells ++ wpCells ⟨gr.pages[cols[k]]'(by omega), g, k, gr.rows⟩) := by
        show _ = _
        rw [List.range_succ, List.map_append, List.flatMap_append]
        simp [List.getD_eq_getElem?_getD, List.getElem?_eq_getElem hkl, List.getElem?_eq_getElem (show cols[k] < gr.pages.length by omega)]
      obtain ⟨pb, po, rfl, hpb, hpc3⟩ := hp3 (by omega)
      have d : ∀ j, j < 3 → wr.cell? ⟨pb, po + (cols[k] * 3 + j), none⟩ = (fpCells (gr.pages[cols[k]]'(by omega)))[j]? := fun j hj => by
        have e2 := (hpc3 (cols[k] * 3 + j) (by omega)).trans (fpRow_at gr.pages cols[k] j (by omega) hj)
        have : j < (fpCells (gr.pages[cols[k]]'(by omega))).length := hj
        rw [List.getElem?_eq_getElem this] at e2 ⊢
        exact (x0.trans hx).cell e2 id
      generalize gr.pages[cols[k]]'(by omega) = fp at *
      generalize cols[k] = c at *
      have d0 := d 0 (by omega)
      have d1 := d 1 (by omega)
      have d2 := d 2 (by omega)
      simp only [fpCells, I, List.getElem?_cons_zero, List.getElem?_cons_succ, Nat.add_zero, ← Nat.add_assoc] at d0 d1 d2
      have e0 : wr.cell? ⟨w.heap.size, 0, none⟩ = some (I gr.rows) := hx.cell (b0.cell 0) id
      have e1 : wr.cell? ⟨w.heap.size, 1, none⟩ = some (.slice (some ⟨pb, po, none⟩) nc pc) := hx.cell (b0.cell 1) id
      simp only [I] at e0 hck
      clear d hcc3 hpc3 hc3 hp3
      go_wp2_with fail
      have hS : ∀ u, Kp (fun b => W.heap.size ≤ b) wr u → u.cell? ⟨pb, po + c * 3, none⟩ = some (.int .i64 fp.place) ∧ u.cell? ⟨pb, po + c * 3 + 1, none⟩ = some (.int .i64 fp.length) ∧ u.cell? ⟨pb, po + c * 3 + 2, none⟩ = some (.int .u32 fp.sum) ∧ u.cell? ⟨w.heap.size, 0, none⟩ = some (.int .i64 gr.rows) ∧ u.cell? ⟨w.heap.size, 1, none⟩ = some (.slice (some ⟨pb, po, none⟩) nc pc) :=
        fun u hu => ⟨hu.cell d0 (by simp; omega), hu.cell d1 (by simp; omega), hu.cell d2 (by simp; omega), hu.cell e0 (by simp; omega), hu.cell e1 (by simp; omega)⟩
      have HS := hide hS
      clear hS d0 d1 d2 e0 e1
      have hx1 : Kp (fun b => W.heap.size ≤ b) wr wr.drew := (Kp.refl _ _).drew
      refine wp_region_late (n := 13) (Kp (fun b => W.heap.size ≤ b) wr) (by kernel_rfl) ?_
      refine Late.take (i := 0) (oi := ⟨some 17, .move (.tmp 7), 232, "pieces.go:37", #[], none⟩) (v := ?_) [13] rfl (by kernel_rfl) (by kernel_rfl) (by decide) (by decide) (by kernel_rfl) (by kernel_rfl) (by kernel_rfl) (fun _ _ _ h => h) rfl ?_ hx1 ?_
      rotate_left
      · (intro u hu; obtain ⟨u0, u1, u2, u3, u4⟩ := (unhide HS) u hu; go_simp; first | done | with_reducible rfl)
      try simp only [Act.put, List.setIfInBounds_toArray, List.set_cons_zero, List.set_cons_succ]
      refine Late.take (i := 1) (oi := ⟨some 18, .fieldAddr 229 (.tmp 4) 1, 0, "pieces.go:37", #[], none⟩) (v := ?_) [13] rfl (by kernel_rfl) (by kernel_rfl) (by decide) (by decide) (by kernel_rfl) (by kernel_rfl) (by kernel_rfl) (fun _ _ _ h => h) rfl ?_ hx1 ?_
      rotate_left
      · (intro u hu; obtain ⟨u0, u1, u2, u3, u4⟩ := (unhide HS) u hu; go_simp; first | done | with_reducible rfl)
      try simp only [Act.put, List.setIfInBounds_toArray, List.set_cons_zero, List.set_cons_succ]
      refine Late.take (i := 2) (oi := ⟨some 19, .load 227 (.tmp 18), 227, "pieces.go:37", #[⟨1, .data⟩], none⟩) (v := ?_) [13] rfl (by kernel_rfl) (by kernel_rfl) (by decide) (by decide) (by kernel_rfl) (by kernel_rfl) (by kernel_rfl) (fun _ _ _ h => h) rfl ?_ hx1 ?_
      rotate_left
      · (intro u hu; obtain ⟨u0, u1, u2, u3, u4⟩ := (unhide HS) u hu; go_simp; first | done | with_reducible rfl)
      try simp only [Act.put, List.setIfInBounds_toArray, List.set_cons_zero, List.set_cons_succ]
      refine Late.take (i := 3) (oi := ⟨some 20, .move (.tmp 9), 3, "pieces.go:37", #[], none⟩) (v := ?_) [13] rfl (by kernel_rfl) (by kernel_rfl) (by decide) (by decide) (by kernel_rfl) (by kernel_rfl) (by kernel_rfl) (fun _ _ _ h => h) rfl ?_ hx1 ?_
      rotate_left
      · (intro u hu; obtain ⟨u0, u1, u2, u3, u4⟩ := (unhide HS) u hu; go_simp; first | done | with_reducible rfl)
      try simp only [Act.put, List.setIfInBounds_toArray, List.set_cons_zero, List.set_cons_succ]
      refine Late.take (i := 4) (oi := ⟨some 21, .indexAddr 227 (.tmp 19) (.tmp 20), 0, "pieces.go:37", #[⟨2, .data⟩, ⟨3, .data⟩], none⟩) (v := ?_) [13] rfl (by kernel_rfl) (by kernel_rfl) (by decide) (by decide) (by kernel_rfl) (by kernel_rfl) (by kernel_rfl) (fun _ _ _ h => h) rfl ?_ hx1 ?_
      rotate_left
      · (intro u hu; obtain ⟨u0, u1, u2, u3, u4⟩ := (unhide HS) u hu; go_simp; first | done | with_reducible rfl)
      try simp only [Act.put, List.setIfInBounds_toArray, List.set_cons_zero, List.set_cons_succ]
      refine Late.take (i := 5) (oi := ⟨some 22, .load 250 (.tmp 21), 250, "pieces.go:37", #[⟨4, .data⟩], none⟩) (v := ?_) [13] rfl (by kernel_rfl) (by kernel_rfl) (by decide) (by decide) (by kernel_rfl) (by kernel_rfl) (by kernel_rfl) (fun _ _ _ h => h) rfl ?_ hx1 ?_
      rotate_left
      · (intro u hu; obtain ⟨u0, u1, u2, u3, u4⟩ := (unhide HS) u hu; go_simp; first | done | with_reducible rfl)
      try simp only [Act.put, List.setIfInBounds_toArray, List.set_cons_zero, List.set_cons_succ]
      refine Late.take (i := 6) (oi := ⟨some 23, .move (.tmp 0), 3, "pieces.go:37", #[], none⟩) (v := ?_) [13] rfl (by kernel_rfl) (by kernel_rfl) (by decide) (by decide) (by kernel_rfl) (by kernel_rfl) (by kernel_rfl) (fun _ _ _ h => h) rfl ?_ hx1 ?_
      rotate_left
      · (intro u hu; obtain ⟨u0, u1, u2, u3, u4⟩ := (unhide HS) u hu; go_simp; first | done | with_reducible rfl)
      try simp only [Act.put, List.setIfInBounds_toArray, List.set_cons_zero, List.set_cons_succ]
      refine Late.take (i := 7) (oi := ⟨some 24, .move (.tmp 8), 3, "pieces.go:37", #[], none⟩) (v := ?_) [13] rfl (by kernel_rfl) (by kernel_rfl) (by decide) (by decide) (by kernel_rfl) (by kernel_rfl) (by kernel_rfl) (fun _ _ _ h => h) rfl ?_ hx1 ?_
      rotate_left
      · (intro u hu; obtain ⟨u0, u1, u2, u3, u4⟩ := (unhide HS) u hu; go_simp; first | done | with_reducible rfl)
      try simp only [Act.put, List.setIfInBounds_toArray, List.set_cons_zero, List.set_cons_succ]
      refine Late.take (i := 8) (oi := ⟨some 25, .fieldAddr 229 (.tmp 4) 0, 0, "pieces.go:37", #[], none⟩) (v := ?_) [13] rfl (by kernel_rfl) (by kernel_rfl) (by decide) (by decide) (by kernel_rfl) (by kernel_rfl) (by kernel_rfl) (fun _ _ _ h => h) rfl ?_ hx1 ?_
      rotate_left
      · (intro u hu; obtain ⟨u0, u1, u2, u3, u4⟩ := (unhide HS) u hu; go_simp; first | done | with_reducible rfl)
      try simp only [Act.put, List.setIfInBounds_toArray, List.set_cons_zero, List.set_cons_succ]
      refine Late.take (i := 9) (oi := ⟨some 26, .load 3 (.tmp 25), 3, "pieces.go:37", #[⟨8, .data⟩], none⟩) (v := ?_) [13] rfl (by kernel_rfl) (by kernel_rfl) (by decide) (by decide) (by kernel_rfl) (by kernel_rfl) (by kernel_rfl) (fun _ _ _ h => h) rfl ?_ hx1 ?_
      rotate_left
      · (intro u hu; obtain ⟨u0, u1, u2, u3, u4⟩ := (unhide HS) u hu; go_simp; first | done | with_reducible rfl)
      try simp only [Act.put, List.setIfInBounds_toArray, List.set_cons_zero, List.set_cons_succ]
      refine Late.take (i := 10) (oi := ⟨some 27, .build 253 #[(0, .tmp 22), (1, .tmp 23), (2, .tmp 24), (3, .tmp 26)], 253, "pieces.go:37", #[⟨5, .data⟩, ⟨6, .data⟩, ⟨7, .data⟩, ⟨9, .data⟩], none⟩) (v := ?_) [13] rfl (by kernel_rfl) (by kernel_rfl) (by decide) (by decide) (by kernel_rfl) (by kernel_rfl) (by kernel_rfl) (fun _ _ _ h => h) rfl ?_ hx1 ?_
      rotate_left
      · (intro u hu; obtain ⟨u0, u1, u2, u3, u4⟩ := (unhide HS) u hu; go_simp; first | done | with_reducible rfl)
      try simp only [Act.put, List.setIfInBounds_toArray, List.set_cons_zero, List.set_cons_succ]
      refine Late.one (i := 11) (o := ⟨some 28, .buildSlice 232 1 #[(0, .tmp 27)], 232, "pieces.go:37", #[⟨10, .data⟩], none⟩) (by kernel_rfl) rfl (fun K hK => ?_)
      go_simp
      refine hK _ _ (fun _ => hx1.alloc _) ?_
      clear hK K
      try simp only [Act.put, List.setIfInBounds_toArray, List.set_cons_zero, List.set_cons_succ]
      refine Late.one (i := 12) (o := ⟨some 29, .call { callee := .builtin .append, args := #[.tmp 17, .tmp 28], argTypes := #[232, 232] }, 232, "pieces.go:37", #[⟨0, .data⟩, ⟨11, .data⟩], none⟩) (by kernel_rfl) rfl (fun K hK => ?_)
      refine step_append_g rfl _ _ 232 232 rfl 253 zWp 6 48 Tryz.underlying232 infoWp rfl _ _ _ (by rfl) (ho.ext ((Kp.refl _ _).drew.alloc _)) _ (by rfl) 1 _ (src_elemN' wr.drew wr.drew.heap.size rfl _ _ Tryz.underlying232 _ (wpCells ⟨fp, g, k, gr.rows⟩) rfl (wp_one _)) (by omega) (by omega) ?_
      intro v' w5 o5 k5 s5
      have g5 : Kp (fun b => W.heap.size ≤ b) wr w5 := (hx1.alloc _).trans (k5.mono (fun i _ e => hfr i e))
      refine hK _ _ (fun _ => g5) ?_
      clear hK K
      obtain ⟨a', c', rfl, hc'⟩ := o5.shape
      try simp only [Act.put, List.setIfInBounds_toArray, List.set_cons_zero, List.set_cons_succ]
      refine Late.one (i := 13) (o := ⟨some 7, .assign (.tmp 29), 232, "pieces.go:37", #[⟨12, .data⟩, ⟨12, .chain⟩, ⟨0, .phase⟩, ⟨1, .phase⟩, ⟨2, .phase⟩, ⟨3, .phase⟩, ⟨4, .phase⟩, ⟨5, .phase⟩, ⟨6, .phase⟩, ⟨7, .phase⟩, ⟨8, .phase⟩, ⟨9, .phase⟩, ⟨10, .phase⟩, ⟨11, .phase⟩, ⟨12, .phase⟩], none⟩) (by kernel_rfl) rfl (fun K hK => ?_)
      go_simp
      refine hK _ _ (fun h => absurd rfl h) ?_
      clear hK K
      try simp only [Act.put, List.setIfInBounds_toArray, List.set_cons_zero, List.set_cons_succ]
      refine Late.done (by kernel_rfl) ?_ _
      go_wp2_with fail
      refine ⟨⟨k + 1, by go_num, by omega, by rw [HT.out]; exact o5, fun b e => ?_, hx.then g5 (fun i hi e => by omega)⟩, by simp [intOf]; omega⟩
      rcases s5 with e' | ⟨g', e1, e2⟩
      · rw [e'] at e; exact hfr b e
      · rw [e1] at e; simp only [Option.some.injEq] at e; subst e; have := hx.size; simp at e2; omega
    · obtain rfl : k = cols.length := by omega
      have hwr : ((List.range cols.length).map fun i => (⟨gr.pages.getD (cols.getD i 0) default, g, i, gr.rows⟩ : Pl.WPage)) = Pl.wantedRaw g gr cols := rfl
      rw [hwr] at ho
      obtain ⟨tb, tc', he, htc', -, -⟩ := ho.at (by omega)
      cases he
      have hfb : W.heap.size ≤ tb := hfr tb rfl
      have hwl := wantedRaw_len g gr cols
      have HC := hide (sortStable_any wr tb tc (Pl.wantedRaw g gr cols) (by omega) (by omega) (by rw [hwl]; exact ho))
      rw [hwl] at HC
      clear hwr hwl
      go_wp2_with (go_at_call 166; refine (unhide HC).mono ?_; rintro e w1 ⟨rfl, o1, k1⟩)
      go_ret
      exact ⟨_, rfl, (x0.trans hx).then k1 (fun i hi e => by omega), (o1.rowAt _ (fun b e => by simp [Value.ownBlock] at e; omega)).weak⟩
end Go.Proofs.YthicgffppmbamaaGreat

namespace Go.Proofs.YthicgffppmbamaaGreat.Pl

/-- a group as a footer may have it -/
structure GroupOk (n foot : Nat) (g : FGroup) : Prop where
  rows1 : 1 ≤ g.rows
  rows20 : g.rows ≤ 20
  pages : g.pages.length = n
  place : ∀ p ∈ g.pages, 4 ≤ p.place
  length : ∀ p ∈ g.pages, 1 ≤ p.length
  ends : ∀ p ∈ g.pages, p.place + p.length ≤ foot + 1
  sums : ∀ p ∈ g.pages, p.sum < 4294967296
structure FootOk (foot : Nat) (f : Foot) : Prop where
  names : okNames f.names = true
  count : f.groups.length ≤ 6
  groups : ∀ g ∈ f.groups, GroupOk f.names.length foot g

theorem rSum_lt (r : Rdr) : (rSum r).1 < 4294967296 := by
  have h : ∀ k r, (iter rSumS k (0, r)).1 < 4294967296 := by
    intro k
    induction k with
    | zero => intro r; show 0 < _; omega
    | succ k ih =>
      intro r
      have h1 := ih r
      have h2 := rByte_lt (iter rSumS k (0, r)).2
      show (iter rSumS k (0, r)).1 * 256 % 4294967296 + (rByte (iter rSumS k (0, r)).2).1 < 4294967296
      omega
  exact h 4 r
theorem fpageS_ok (foot : Nat) (hf : 4 ≤ foot) (r : Rdr) : ∀ k, ∀ p ∈ (iter (fpageS foot) k ([], r)).1, 4 ≤ p.place ∧ 1 ≤ p.length ∧ p.place + p.length ≤ foot + 1 ∧ p.sum < 4294967296 := by
  intro k
  induction k with
  | zero => intro p hp; simp [iter] at hp
  | succ k ih =>
    intro p hp
    simp only [iter, fpageS, List.mem_append, List.mem_singleton] at hp
    rcases hp with hp | rfl
    · exact ih p hp
    · have h1 := rNum_ge 4 (foot - 1) (iter (fpageS foot) k ([], r)).2
      have h2 := rNum_ge 1 (foot - (rNum 4 (foot - 1) (iter (fpageS foot) k ([], r)).2).1) (rNum 4 (foot - 1) (iter (fpageS foot) k ([], r)).2).2
      refine ⟨h1.1, h2.1, ?_, rSum_lt _⟩
      show (rNum 4 (foot - 1) (iter (fpageS foot) k ([], r)).2).1 + (rNum 1 (foot - (rNum 4 (foot - 1) (iter (fpageS foot) k ([], r)).2).1) (rNum 4 (foot - 1) (iter (fpageS foot) k ([], r)).2).2).1 ≤ foot + 1
      omega
theorem fgroup_ok (n foot : Nat) (hf : 4 ≤ foot) (r : Rdr) : GroupOk n foot (fgroup n foot r).1 := by
  have h := fpageS_ok foot hf (rNum 1 20 r).2 n
  have hr := rNum_le 1 20 r (by omega)
  exact ⟨hr.1, hr.2, (fpageS_len foot n _).1, fun p hp => (h p hp).1, fun p hp => (h p hp).2.1, fun p hp => (h p hp).2.2.1, fun p hp => (h p hp).2.2.2⟩
theorem readFooter_ok (data : List UInt8) (foot : Nat) (hf : 4 ≤ foot) (f : Foot) (h : readFooter data foot = some f) : FootOk foot f := by
  unfold readFooter at h
  split at h
  · rename_i hc
    cases h
    refine ⟨hc.2, ?_, ?_⟩
    · show (footGroups data foot).1.length ≤ 6
      unfold footGroups
      simp only
      rw [(fgroupS_len _ foot _ _).1]
      exact (rNum_le 0 6 _ (by omega)).2
    · have : ∀ (c k : Nat) (r : Rdr), ∀ g ∈ (iter (fgroupS c foot) k ([], r)).1, GroupOk c foot g := by
        intro c k
        induction k with
        | zero => intro r g hg; simp [iter] at hg
        | succ k ih =>
          intro r g hg
          simp only [iter, fgroupS, List.mem_append, List.mem_singleton] at hg
          rcases hg with hg | rfl
          · exact ih r g hg
          · exact fgroup_ok c foot hf _
      exact this _ _ _
  · cases h
theorem columnsF_ok (names : List (List UInt8)) : ∀ (want : List (List UInt8)) (acc cols : List Nat), columnsF names want acc = some cols → (∀ c ∈ acc, c < names.length) → acc.Nodup → cols.length = acc.length + want.length ∧ 0 < cols.length ∧ (∀ c ∈ cols, c < names.length) ∧ cols.Nodup
  | [], acc, cols, h, ha, hn => by
    unfold columnsF at h
    split at h
    · cases h; exact ⟨by simp, by assumption, ha, hn⟩
    · cases h
  | n :: r, acc, cols, h, ha, hn => by
    rw [columnsF_step] at h
    cases hi : indexOf names n with
    | none => rw [hi] at h; cases h
    | some i =>
      rw [hi] at h
      simp only at h
      have hil : i < names.length := (List.findIdx?_eq_some_iff_getElem.1 hi).1
      split at h
      · cases h
      · rename_i hni
        have := columnsF_ok names r (acc ++ [i]) cols h (fun c hc => by
          rcases List.mem_append.1 hc with h | h
          · exact ha c h
          · simp at h; omega) (by
          rw [List.nodup_append]
          exact ⟨hn, by simp, fun a ha b hb => by simp at hb; subst hb; exact fun e => hni (e ▸ ha)⟩)
        simp at this ⊢
        exact ⟨by omega, this.2⟩
theorem columns_ok (names want : List (List UInt8)) (cols : List Nat) (h : columns names want = some cols) : cols.length = want.length ∧ 0 < cols.length ∧ (∀ c ∈ cols, c < names.length) ∧ cols.Nodup := by
  have := columnsF_ok names want [] cols h (fun c hc => by simp at hc) (by simp)
  simpa using this
/-- what is known of a wanted page -/
structure WOk (foot ng nc : Nat) (gs : List FGroup) (x : WPage) : Prop where
  group : x.group < ng
  column : x.column < nc
  rows : gs[x.group]?.map (·.rows) = some x.rows
  place : 4 ≤ x.page.place
  length : 1 ≤ x.page.length
  ends : x.page.place + x.page.length ≤ foot + 1
  sum : x.page.sum < 4294967296
/-- a piece and its pages: each within -/
structure PieceOk (M : Nat) (p : Piece) : Prop where
  len : 1 ≤ p.length
  ends : p.place + p.length ≤ M
  within : ∀ x ∈ p.pages, p.place ≤ x.page.place ∧ x.page.place + x.page.length ≤ p.place + p.length
  some : p.pages ≠ []
theorem joinW_pieces (gap M : Nat) (l : List WPage) (hs : Sorted M l) (h1 : ∀ x ∈ l, 1 ≤ x.page.length) : ∀ k, k ≤ l.length → ∀ p ∈ joinW gap (l.take k), PieceOk M p ∧ (∀ x ∈ p.pages, x ∈ l) ∧ ∀ y ∈ l.drop k, p.place ≤ y.page.place := by
  intro k
  induction k with
  | zero => intro _ p hp; simp [joinW] at hp
  | succ k ih =>
    intro hk q hq
    have hkl : k < l.length := hk
    have e : joinW gap (l.take (k + 1)) = joinS gap (joinW gap (l.take k)) l[k] := by
      unfold joinW
      rw [List.take_succ_eq_append_getElem hkl, List.foldl_append]
      rfl
    have hin : l[k] ∈ l.drop k := by rw [List.drop_eq_getElem_cons hkl]; exact List.mem_cons_self
    have hsub : ∀ y ∈ l.drop (k + 1), y ∈ l.drop k := fun y hy => by rw [List.drop_eq_getElem_cons hkl]; exact List.mem_cons_of_mem _ hy
    have hord : ∀ y ∈ l.drop (k + 1), l[k].page.place ≤ y.page.place := fun y hy => by
      have hp := hs.2.sublist (List.drop_sublist k l)
      rw [List.drop_eq_getElem_cons hkl, List.pairwise_cons] at hp
      exact hp.1 y hy
    have hm := hs.1 l[k] (List.getElem_mem hkl)
    have hl1 := h1 l[k] (List.getElem_mem hkl)
    rw [e] at hq
    rcases joinS_mem hq with hq | rfl | ⟨p, hp, rfl⟩
    · obtain ⟨a, b, c⟩ := ih (Nat.le_of_lt hkl) q hq
      exact ⟨a, b, fun y hy => c y (hsub y hy)⟩
    · refine ⟨⟨hl1, hm, fun x hx => ?_, by simp⟩, fun x hx => ?_, hord⟩
      · simp at hx; subst hx; exact ⟨Nat.le_refl _, Nat.le_refl _⟩
      · simp at hx; subst hx; exact List.getElem_mem hkl
    · obtain ⟨a, b, c⟩ := ih (Nat.le_of_lt hkl) p hp
      have hpl := c _ hin
      have a1 := a.len
      have a2 := a.ends
      refine ⟨⟨?_, ?_, fun x hx => ?_, by simp⟩, fun x hx => ?_, fun y hy => c y (hsub y hy)⟩
      · show 1 ≤ max p.length _; omega
      · show p.place + max p.length (l[k].page.place + l[k].page.length - p.place) ≤ M; omega
      · show p.place ≤ _ ∧ _ ≤ p.place + max p.length (l[k].page.place + l[k].page.length - p.place)
        rcases List.mem_append.1 hx with h | h
        · have := a.within x h; omega
        · simp at h; subst h; omega
      · rcases List.mem_append.1 hx with h | h
        · exact b x h
        · simp at h; subst h; exact List.getElem_mem hkl
/-- the pieces of a footer that is right -/
theorem piecesOf_ok (gap foot : Nat) (cols : List Nat) (nn : Nat) (gs : List FGroup) (hg : ∀ g ∈ gs, GroupOk nn foot g) (hc : ∀ c ∈ cols, c < nn) : ∀ k, k ≤ gs.length → ∀ p ∈ piecesTo gap cols gs k, PieceOk (foot + 1) p ∧ ∀ x ∈ p.pages, WOk foot k cols.length gs x := by
  intro k
  induction k with
  | zero => intro _ p hp; simp [piecesTo] at hp
  | succ k ih =>
    intro hk p hp
    have hkl : k < gs.length := hk
    simp only [piecesTo, List.mem_append] at hp
    rcases hp with hp | hp
    · obtain ⟨a, b⟩ := ih (Nat.le_of_lt hkl) p hp
      exact ⟨a, fun x hx => ⟨by have := (b x hx).group; omega, (b x hx).column, (b x hx).rows, (b x hx).place, (b x hx).length, (b x hx).ends, (b x hx).sum⟩⟩
    · have hgd : gs.getD k default = gs[k] := by rw [List.getD_eq_getElem?_getD, List.getElem?_eq_getElem hkl]; rfl
      rw [hgd] at hp
      have hok := hg gs[k] (List.getElem_mem hkl)
      have hraw : ∀ x ∈ sortW (wantedRaw k gs[k] cols), WOk foot (k + 1) cols.length gs x := fun x hx => by
        have hx' := (sortW_sorted (wantedRaw k gs[k] cols)).2 x hx
        unfold wantedRaw at hx'
        rw [List.mem_map] at hx'
        obtain ⟨i, hi, rfl⟩ := hx'
        rw [List.mem_range] at hi
        have hci : cols.getD i 0 < nn := by
          rw [List.getD_eq_getElem?_getD, List.getElem?_eq_getElem hi]
          exact hc _ (List.getElem_mem hi)
        have hpm : gs[k].pages.getD (cols.getD i 0) default ∈ gs[k].pages := by
          rw [List.getD_eq_getElem?_getD, List.getElem?_eq_getElem (by rw [hok.pages]; exact hci)]
          exact List.getElem_mem _
        exact ⟨by show k < k + 1; omega, hi, by simp [List.getElem?_eq_getElem hkl], hok.place _ hpm, hok.length _ hpm, hok.ends _ hpm, hok.sums _ hpm⟩
      have hs : Sorted (foot + 1) (sortW (wantedRaw k gs[k] cols)) := ⟨fun x hx => (hraw x hx).ends, (sortW_sorted _).1⟩
      have := joinW_pieces gap (foot + 1) _ hs (fun x hx => (hraw x hx).length) _ (Nat.le_refl _)
      rw [List.take_length] at this
      obtain ⟨a, b, -⟩ := this p hp
      exact ⟨a, fun x hx => hraw x (b x hx)⟩
end Go.Proofs.YthicgffppmbamaaGreat.Pl

namespace Go.Proofs.YthicgffppmbamaaGreat
open Go.RowKit

/-- pieces that are only read -/
def PiecesAt (C : Nat → Prop) (w : World) (v : Value) (l : List Pl.Piece) : Prop := ∃ pvs, RowAt C false w 3 v l.length (pieceRow pvs l) ∧ PcAt C w pvs l
theorem pieceRow_append (p1 p2 : List Value) (l1 l2 : List Pl.Piece) (h : p1.length = l1.length) : pieceRow (p1 ++ p2) (l1 ++ l2) = pieceRow p1 l1 ++ pieceRow p2 l2 := by
  unfold pieceRow
  rw [List.zipWith_append h, List.flatten_append]
theorem PcAt.append {C : Nat → Prop} {w : World} {p1 p2 : List Value} {l1 l2 : List Pl.Piece} (h1 : PcAt C w p1 l1) (h2 : PcAt C w p2 l2) : PcAt C w (p1 ++ p2) (l1 ++ l2) := by
  refine ⟨by simp [h1.1, h2.1], fun i pv p a b => ?_⟩
  by_cases hi : i < p1.length
  · rw [List.getElem?_append_left hi] at a
    rw [List.getElem?_append_left (by rw [← h1.1]; exact hi)] at b
    exact h1.2 i pv p a b
  · rw [List.getElem?_append_right (by omega)] at a
    rw [List.getElem?_append_right (by rw [← h1.1]; omega), ← h1.1] at b
    exact h2.2 _ pv p a b
/-- a row of one's own as what is appended -/
theorem Own.src {P : Program} {w : World} {size n : Nat} {v : Value} {cs : List Value} (h : Own w size v n cs) (t e : TypeId) (ht : P.underlying t = some (.slice e)) (h1 : ∀ u ∈ cs, u.oneCell' = true) : Src P size t v n cs w := by
  rcases h.2 with ⟨rfl, rfl⟩ | ⟨g, cap, rfl, _, _, _, h4, _⟩
  · have : cs = [] := List.eq_nil_of_length_eq_zero (by simpa using h.1)
    subst this
    exact Src.ofNil _ (e' := e) ht 0
  · exact Src.ofSlice (P := P) _ (e' := e) ht _ _ _ _ h.1 (fun j u hu => by
      have hj := (List.getElem?_eq_some_iff.1 hu).1
      rw [Addr.add_lit, Nat.zero_add]
      exact (h4 j (by rw [← h.1]; exact hj)).trans hu) h1
theorem pieceRow_one (pvs : List Value) (l : List Pl.Piece) (hp : ∀ pv ∈ pvs, ∃ a n c, pv = .slice a n c) : ∀ u ∈ pieceRow pvs l, u.oneCell' = true := by
  intro u hu
  unfold pieceRow at hu
  rw [List.mem_flatten] at hu
  obtain ⟨e, he, hu⟩ := hu
  rw [List.mem_iff_getElem] at he
  obtain ⟨i, hi, rfl⟩ := he
  have hi' : i < pvs.length := by simp at hi; omega
  rw [List.getElem_zipWith] at hu
  simp at hu
  rcases hu with rfl | rfl | rfl
  · rfl
  · rfl
  · obtain ⟨a, n, c, e⟩ := hp _ (List.getElem_mem hi')
    rw [e]
    rfl
theorem PcAt.slices {C : Nat → Prop} {w : World} {pvs : List Value} {l : List Pl.Piece} (h : PcAt C w pvs l) : ∀ pv ∈ pvs, ∃ a n c, pv = .slice a n c := by
  intro pv hp
  obtain ⟨i, hi⟩ := List.getElem?_of_mem hp
  have hil := (List.getElem?_eq_some_iff.1 hi).1
  obtain ⟨a, c, e, -⟩ := (h.2 i pv _ hi (List.getElem?_eq_getElem (by rw [← h.1]; exact hil))).get
  exact ⟨_, _, _, e⟩
theorem joinW_len (gap : Nat) (l : List Pl.WPage) : (Pl.joinW gap l).length ≤ l.length := by
  have h : ∀ (l : List Pl.WPage) (acc : List Pl.Piece), (l.foldl (Pl.joinS gap) acc).length ≤ acc.length + l.length := by
    intro l
    induction l with
    | nil => intro acc; simp
    | cons a l ih =>
      intro acc
      rw [List.foldl_cons]
      have h1 := ih (Pl.joinS gap acc a)
      have h2 : (Pl.joinS gap acc a).length ≤ acc.length + 1 := by
        unfold Pl.joinS
        split
        · simp
        · split
          · rw [List.length_append, List.length_dropLast]; simp only [List.length_cons, List.length_nil]; omega
          · simp
      simp
      omega
  simpa [Pl.joinW] using h l []
theorem piecesTo_len (gap : Nat) (cols : List Nat) (gs : List Pl.FGroup) (k : Nat) : (Pl.piecesTo gap cols gs k).length ≤ k * cols.length := by
  induction k with
  | zero => simp [Pl.piecesTo]
  | succ k ih =>
    have h1 : (Pl.piecesG gap cols k (gs.getD k default)).length ≤ cols.length := by
      have := joinW_len gap (Pl.sortW (Pl.wantedRaw k (gs.getD k default) cols))
      rw [Pl.sortW_len, wantedRaw_len] at this
      exact this
    simp only [Pl.piecesTo, List.length_append, Nat.add_mul, Nat.one_mul]
    omega

set_option maxRecDepth 20000 in
set_option maxHeartbeats 2000000 in
theorem of_any (C D : Nat → Prop) (w : World) (gv cv : Value) (pvs : List Value) (gs : List Pl.FGroup) (cols : List Nat) (nc gap : Nat) (hr : RowAt C false w 2 gv gs.length (fgRow pvs gs)) (hp : FgAt C w nc pvs gs) (hc : RowAt D false w 1 cv cols.length (cols.map fun n : Nat => I n)) (hcl : 0 < cols.length) (hcl4 : cols.length ≤ 10) (hcols : ∀ c ∈ cols, c < nc) (hnc : nc ≤ 1000) (hgl : gs.length ≤ 100) (hgap : gap ≤ 1000000) (hM : ∀ g ∈ gs, Pl.PagesIn 1000000 g) :
    Calls Tryz.prog 124 #[gv, cv, .int .i64 gap] w fun e w' => ∃ v, e = .returned v ∧ Ext w w' ∧ PiecesAt (fun b => w.heap.size ≤ b) w' v (Pl.piecesOf gap cols gs) := by
  obtain ⟨ga, gc, rfl, hgc, h3⟩ := hr.get
  have hpl := hp.1
  have hcs := hc
  obtain ⟨ca, cc, rfl, -, -⟩ := hcs.get
  clear hr hcs
  go_enter Tryz.func124, Tryz.ntmps124
  go_wp2_with fail
  go_loopw [7, 12] (fun t i wr => ∃ (k : Nat) (qs : List Value), i = .int .i64 k ∧ k ≤ gs.length ∧ Own wr 3 t (Pl.piecesTo gap cols gs k).length (pieceRow qs (Pl.piecesTo gap cols gs k)) ∧ PcAt (fun b => w.heap.size ≤ b ∧ t.ownBlock ≠ some b) wr qs (Pl.piecesTo gap cols gs k) ∧ (∀ b, t.ownBlock = some b → w.heap.size ≤ b) ∧ Ext w wr) (fun _ i _ => gs.length - (intOf i).toNat)
  case atStart => exact ⟨0, [], rfl, by omega, Own.nil _ _, ⟨rfl, fun i pv p a => by simp at a⟩, fun b e => by simp [Value.ownBlock] at e, Kp.refl _ _⟩
  case round =>
    obtain ⟨k, qs, rfl, hk, ho, hpc, hfr, hx⟩ := hrel
    have hlen := piecesTo_len gap cols gs k
    have hkc : k * cols.length ≤ 100 * 10 := Nat.mul_le_mul (by omega) (by omega)
    obtain ⟨ta, tc, rfl, htc⟩ := ho.shape
    by_cases hkl : k < gs.length
    · obtain ⟨b, off, rfl, hb, hcc⟩ := h3 (by omega)
      have d0 := hx.cell ((hcc (k * 2 + 0) (by omega)).trans (fgRow_at pvs gs hpl k 0 hkl (by omega))) id
      have d1 := hx.cell ((hcc (k * 2 + 1) (by omega)).trans (fgRow_at pvs gs hpl k 1 hkl (by omega))) id
      obtain ⟨hgp, hgr⟩ := hp.2 k _ _ (List.getElem?_eq_getElem (by omega)) (List.getElem?_eq_getElem hkl)
      have hMk := hM gs[k] (List.getElem_mem hkl)
      have hgd : gs.getD k default = gs[k] := by rw [List.getD_eq_getElem?_getD, List.getElem?_eq_getElem hkl]; rfl
      have HT : Hid (Pl.piecesTo gap cols gs (k + 1) = Pl.piecesTo gap cols gs k ++ Pl.joinW gap (Pl.sortW (Pl.wantedRaw k gs[k] cols))) := hide (by rw [← hgd]; rfl)
      generalize gs[k] = gr at *
      generalize pvs[k]'(by omega) = pv at *
      obtain ⟨pa, pn, rfl, -, -⟩ := hgr.get
      simp only [I, Nat.add_zero, ← Nat.add_assoc] at d0 d1
      clear hcc h3 hgd
      generalize hPT : Pl.piecesTo gap cols gs k = PT at *
      have HS := hide (Pl.wanted_sorted 1000000 k gr cols hMk)
      have HW := hide (fun (u : World) (hu : Ext w u) => wanted_any C D u k nc gr _ _ cols (hgr.go (S := fun _ => False) hu (fun _ _ f => f) (fun _ _ e => e)) hgp (hc.go (S := fun _ => False) hu (fun _ _ f => f) (fun _ _ e => e)) hcl hcl4 hcols (by omega) hnc)
      have hwl : (Pl.sortW (Pl.wantedRaw k gr cols)).length = cols.length := by rw [Pl.sortW_len, wantedRaw_len]
      have HJ := hide (joinW_len gap (Pl.sortW (Pl.wantedRaw k gr cols)))
      generalize Pl.sortW (Pl.wantedRaw k gr cols) = SW at *
      have hx2 : ∀ o, Ext w (wr.alloc o) := fun o => hx.alloc o
      go_wp2_with (first | (at_builtin; have hJo := hjs.own; obtain ⟨q2, hq2l, hO2, hf2, hP2⟩ := hJo; go_must (refine wpList_append_g _ rfl _ _ 137 137 rfl 235 zPc 3 40 Tryz.underlying137 infoPc rfl _ _ _ rfl (ho.ext ((hx1.trans x2).trans x3)) _ rfl _ _ (hO2.src 137 235 Tryz.underlying137 (pieceRow_one _ _ hP2.slices)) (by have := HJ.out; omega) (by have := HJ.out; omega) ?_); intro v4 w4 o4 k4 s4) | (go_at_call 147; refine (join_any _ w2 _ SW gap (by rw [hwl]; exact r2) (by omega) HS.out hgap).mono ?_; rintro e w3 ⟨jv, rfl, x3, hjs⟩) | (go_at_call 148; refine ((unhide HW) _ (hx2 _)).mono ?_; rintro e w2 ⟨wv, rfl, x2, r2⟩; have hx1 : Ext wr (wr.alloc (.cells #[.int .i64 gr.rows, .slice pa nc pn] 229)) := (Kp.refl _ _).alloc _))
      have x13 : Ext wr w3 := (hx1.trans x2).trans x3
      have hz12 : wr.heap.size ≤ w2.heap.size := Nat.le_trans hx1.size x2.size
      have hz23 := x3.size
      have hzw := hx.size
      have hol : ∀ g, (Value.slice ta PT.length tc).ownBlock = some g → g < wr.heap.size := fun g e => ho.lt e
      have hnew : ∀ g, v4.ownBlock = some g → (Value.slice ta PT.length tc).ownBlock = some g ∨ w3.heap.size ≤ g := fun g e => by
        rcases s4 with e' | ⟨g', e1, e2⟩
        · rw [e'] at e; exact .inl e
        · rw [e1] at e; simp only [Option.some.injEq] at e; subst e; exact .inr e2
      refine ⟨⟨k + 1, qs ++ q2, by go_num, by omega, ?_, ?_, fun g e => (hnew g e).elim (hfr g) (fun e => by omega), (hx.trans x13).then k4 (fun i hi e => by have := hfr i e; omega)⟩, by simp [intOf]; omega⟩
      · rw [HT.out, List.length_append, pieceRow_append _ _ _ _ hpc.1]
        exact o4
      · rw [HT.out]
        refine PcAt.append ?_ ?_
        · refine (hpc.go x13 (fun _ _ f => f) (C' := fun b => (w.heap.size ≤ b ∧ (Value.slice ta PT.length tc).ownBlock ≠ some b) ∧ b < wr.heap.size) (fun i hi h => ⟨h, hi⟩)).go k4 (fun i hi e => hi.1.2 e) (fun i hi h => ⟨h.1.1, fun e => (hnew i e).elim h.1.2 (fun e => by omega)⟩)
        · exact hP2.go k4 (fun i hi e => by have := hol i e; omega) (fun i hi h => ⟨by omega, fun e => (hnew i e).elim (fun e => by have := hol i e; omega) (fun e => by omega)⟩)
    · obtain rfl : k = gs.length := by omega
      go_wp2_with fail
      go_ret
      exact ⟨_, rfl, hx, qs, (ho.rowAt _ hfr).weak, hpc.go (S := fun _ => False) (Kp.refl _ _) (fun _ _ f => f) (fun i _ h => h.1)⟩
end Go.Proofs.YthicgffppmbamaaGreat

namespace Go.Proofs.YthicgffppmbamaaGreat
open Go.RowKit

/-- the colours behind the footer: the groups at g, their lists at bs, all else that is new is only read -/
def footCol (col : Colr) (n0 n1 : Nat) (gv : Value) (bs : List Nat) : Colr := fun k =>
  if k < n0 then col k else if gv.ownBlock = some k then .groups else match bs.findIdx? (fun b => decide (b = k)) with
    | some i => .lists i
    | none => if k < n1 then .ro else .out
theorem find_nodup {l : List Nat} (hn : l.Nodup) {i : Nat} (hi : i < l.length) : l.findIdx? (fun b => decide (b = l[i])) = some i := by
  rw [List.findIdx?_eq_some_iff_getElem]
  refine ⟨hi, by simp, fun j hj => ?_⟩
  simp
  intro e
  exact (List.pairwise_iff_getElem.1 hn) j i (by omega) hi hj e
theorem lists0 {col' : Colr} {w : World} {b i cols : Nat} (hb : Blk w b (List.replicate cols (.slice none 0 0)) 46) (hc : col' b = .lists i) : ListsAt col' w i (mkL cols b) (List.replicate cols []) := by
  refine ⟨List.replicate cols (.slice none 0 0), by simp, ⟨by simp, _, cols, by simp, by simp, fun hp => ⟨b, 0, rfl, hc, hb.lt, fun j hj => ?_, fun _ j hj => hb.free _⟩⟩, fun j u l hu hl => ?_⟩
  · rw [Nat.zero_add]; exact hb.cell j
  · have e1 := List.eq_of_mem_replicate (List.mem_of_getElem? hu)
    have e2 := List.eq_of_mem_replicate (List.mem_of_getElem? hl)
    subst e1
    subst e2
    exact RowAt.nil _ _ _ _
theorem infoRows : (Tryz.prog.info? 140).map (·.size) = some 5 := by kernel_rfl

/-- the scan with its rows and pieces, behind the footer -/
theorem rep_foot {col : Colr} {w w8 : World} {P cols : Nat} {m : Pl.Sc} {ps qs : List Nat} {nv av wv hv gv gv' hv' : Value} {bs ls : List Nat} {pcs : List Pl.Piece} (n1 : Nat) (h : Rep col w P m ps qs nv av wv hv gv) (k : Kp (fun k => k = P) w w8) (hn1 : n1 ≤ w8.heap.size) (hw1 : w.heap.size ≤ n1)
    (hb : Blk w8 P (scCells P { m with rows := Pl.rwNew cols ls, ahead := pcs } nv av wv hv' gv') 142)
    (hO : Own w8 3 gv' ls.length (groupRow (bs.map (mkL cols)) (ls.map (rg0 cols)))) (hbl : bs.length = ls.length) (hg : ∀ g, gv'.ownBlock = some g → w.heap.size ≤ g ∧ g ∉ bs ∧ g < n1) (hnd : bs.Nodup) (hbs : ∀ b ∈ bs, w.heap.size ≤ b ∧ b < n1 ∧ Blk w8 b (List.replicate cols (.slice none 0 0)) 46)
    (hp : PiecesAt (fun b => n1 ≤ b) w8 hv' pcs) :
    Rep (footCol col w.heap.size w8.heap.size gv' bs) w8 P { m with rows := Pl.rwNew cols ls, ahead := pcs } ps qs nv av wv hv' gv' := by
  have hlt : ∀ i, i < w.heap.size → footCol col w.heap.size w8.heap.size gv' bs i = col i := fun i hi => by unfold footCol; rw [if_pos hi]
  have hnone : ∀ i, n1 ≤ i → bs.findIdx? (fun b => decide (b = i)) = none := fun i hi => by
    rw [List.findIdx?_eq_none_iff]
    intro x hx
    have := (hbs x hx).2.1
    simp
    omega
  have hgne : ∀ i, n1 ≤ i → gv'.ownBlock ≠ some i := fun i hi e => by have := (hg i e).2.2; omega
  have htop : ∀ i, w8.heap.size ≤ i → footCol col w.heap.size w8.heap.size gv' bs i = .out := fun i hi => by
    unfold footCol
    rw [if_neg (by omega), if_neg (hgne i (by omega)), hnone i (by omega)]
    simp only
    rw [if_neg (by omega)]
  have hro : ∀ i, i < w8.heap.size → n1 ≤ i → footCol col w.heap.size w8.heap.size gv' bs i = .ro := fun i hi h1 => by
    unfold footCol
    rw [if_neg (by omega), if_neg (hgne i h1), hnone i h1]
    simp only
    rw [if_pos hi]
  have hi := h.inn.go (col' := footCol col w.heap.size w8.heap.size gv' bs) k h.blk.lt (fun i hi => .inr (by rw [hi]; exact h.inn.pcol)) hlt htop
  obtain ⟨pvs, hpr, hpc⟩ := hp
  refine ⟨hb, hi.pcol, hi.top, hi.names, hi.asked, hi.acol, hi.aparts, hi.waiting, hi.wcol, hi.wparts, hi.nodup, ⟨pvs, hpc.1, hpr.go (S := fun _ => False) (Kp.refl _ _) (fun _ _ f => f) (fun i hi h => hro i hi h), fun i pv p a b => (hpc.2 i pv p a b).go (S := fun _ => False) (Kp.refl _ _) (fun _ _ f => f) (fun i hi h => hro i hi h)⟩, ?_⟩
  refine ⟨bs.map (mkL cols), by simp [Pl.rwNew, hbl], ?_, fun i lv g a b => ?_⟩
  · have := hO.rowAt (fun b => footCol col w.heap.size w8.heap.size gv' bs b = .groups) (fun g e => by
      unfold footCol
      rw [if_neg (by have := (hg g e).1; omega), if_pos e])
    have e : (Pl.rwNew cols ls).groups = ls.map (rg0 cols) := rfl
    rw [e, List.length_map]
    exact this
  · have e : (Pl.rwNew cols ls).groups = ls.map (rg0 cols) := rfl
    show ListsAt _ _ (0 + i) _ _
    rw [Nat.zero_add]
    change (ls.map (rg0 cols))[i]? = some g at b
    rw [List.getElem?_map] at a b
    have hil : i < bs.length := by
      rcases Nat.lt_or_ge i bs.length with h | h
      · exact h
      · rw [List.getElem?_eq_none h] at a; cases a
    rw [List.getElem?_eq_getElem hil] at a
    rw [List.getElem?_eq_getElem (by omega)] at b
    cases a
    cases b
    have hbi := hbs bs[i] (List.getElem_mem hil)
    refine lists0 hbi.2.2 ?_
    unfold footCol
    rw [if_neg (by omega), if_neg (fun e => (hg _ e).2.1 (List.getElem_mem hil)), find_nodup hnd hil]

set_option maxRecDepth 20000 in
set_option maxHeartbeats 4000000 in
theorem footerCame_any (C : Nat → Prop) (col : Colr) (w : World) (P : Nat) (m : Pl.Sc) (ps qs : List Nat) (nv av wv hv gv : Value) (h : Rep col w P m ps qs nv av wv hv gv) (v : Value) (l : List UInt8) (hC : ∀ i, C i → i < w.heap.size) (hr : RowAt C false w 1 v l.length (l.map B)) (hl10 : l.length + 10 ≤ m.size) (hsz : m.size ≤ 4000) (hwant : m.want.length ≤ 4) (hgap : m.gap ≤ 1000) (hwin : m.win ≤ 1000) (hop : m.opened ≤ 900) (hid : m.lastId ≤ 100000000000) (hal : m.asked.length ≤ 900) :
    Calls Tryz.prog 104 #[PtrTo P 0, v] w fun e w' => e = .returned (.tuple #[]) ∧ ∃ col', IsSc col' w' P (Pl.footerCame m l) ∧ Went col w w' col' := by
  have s1 := h.blk.cell 1
  have s2 := h.blk.cell 2
  have s6 := h.blk.cell 6
  simp only [scCells, I, List.getElem?_cons_zero, List.getElem?_cons_succ] at s1 s2 s6
  obtain ⟨foot, hfoot⟩ : ∃ foot, foot = m.size - 6 - l.length := ⟨_, rfl⟩
  have hfe : (m.size : Int) - 6 - (l.length : Int) = (foot : Int) := by omega
  have hf4 : 4 ≤ foot := by omega
  have hfM : foot ≤ 4000 := by omega
  have hr0 := hr
  obtain ⟨va, vc, rfl, -, -⟩ := hr0.get
  have HRF := hide (readFooter_any C w _ l foot hC hr (by omega) hf4 (by omega))
  have HFC : Hid (Pl.footerCame m l = match Pl.readFooter l foot with
    | none => Pl.ended 2
    | some f => match Pl.columns f.names m.want with
      | none => Pl.ended 3
      | some cols => if f.groups.length = 0 then Pl.ended 1 else Pl.askAhead { m with rows := Pl.rwNew cols.length (f.groups.map (·.rows)), ahead := Pl.piecesOf m.gap cols f.groups }) := hide (by rw [hfoot]; rfl)
  clear hfoot hr0 hr
  have hnm := h.inn.names
  obtain ⟨na, nc, rfl, -, -⟩ := hnm.get
  go_enter Tryz.func104, Tryz.ntmps104
  cases hrf : Pl.readFooter l foot with
  | none =>
    rw [hrf] at HRF HFC
    go_wp2_with fail
    refine (unhide HRF).mono ?_
    rintro e w1 ⟨x1, hs⟩
    cases hs
    go_wp2_with fail
    have xa : Ext w (w1.alloc (.cells #[.slice none 0 0, .slice none 0 0] 188)) := x1.alloc _
    refine (end_any col _ P _ (scCells_len _ _ _ _ _ _ _) 2 (by decide) (h.ext xa).blk h.inn.pcol (h.ext xa).inn.top).mono ?_
    rintro e w2 ⟨rfl, r2, k2⟩
    go_wp2_with fail
    try simp only [Exit.inBlock, Exit.then]
    refine bodyPost_ret (results_none rfl _ _ _) rfl ?_
    rw [HFC.out]
    obtain ⟨a, b⟩ := (h.ext xa).ends r2 k2
    exact ⟨rfl, col, a, (Went.ext xa).trans b⟩
  | some f =>
    have hok := Pl.readFooter_ok l foot hf4 f hrf
    rw [hrf] at HRF HFC
    go_wp2_with fail
    refine (unhide HRF).mono ?_
    rintro e w1 ⟨x1, hs⟩
    cases hs with
    | yes f fn fg pvs hn hg hp =>
    obtain ⟨fna, fnc, rfl, -, -⟩ := hn.get
    obtain ⟨fga, fgc, rfl, -, -⟩ := hg.get
    go_wp2_with fail
    have xa : Ext w (w1.alloc (.cells #[.slice fna f.names.length fnc, .slice fga f.groups.length fgc] 188)) := x1.alloc _
    have x1a : Ext w1 (w1.alloc (.cells #[.slice fna f.names.length fnc, .slice fga f.groups.length fgc] 188)) := (Kp.refl _ _).alloc _
    have bF := Blk.of_alloc w1 [.slice fna f.names.length fnc, .slice fga f.groups.length fgc] 188
    generalize w1.alloc (.cells #[.slice fna f.names.length fnc, .slice fga f.groups.length fgc] 188) = W1 at *
    have hn1 := hn.go (S := fun _ => False) (C' := fun b => w.heap.size ≤ b) x1a (fun _ _ f => f) (fun _ _ e => e)
    have hg1 := hg.go (S := fun _ => False) (C' := fun b => w.heap.size ≤ b) x1a (fun _ _ f => f) (fun _ _ e => e)
    have hp1 := hp.go (S := fun _ => False) (C' := fun b => w.heap.size ≤ b) x1a (fun _ _ f => f) (fun _ _ e => e)
    clear hn hg hp HRF
    have hS : ∀ u, Ext W1 u → u.cell? ⟨P, 2, none⟩ = some (.slice na m.want.length nc) ∧ u.cell? ⟨w1.heap.size, 0, none⟩ = some (.slice fna f.names.length fnc) ∧ u.cell? ⟨w1.heap.size, 1, none⟩ = some (.slice fga f.groups.length fgc) := fun u hu => ⟨(xa.trans hu).cell s2 id, hu.cell (bF.cell 0) id, hu.cell (bF.cell 1) id⟩
    have HS := hide hS
    clear hS
    have hx1 : Ext W1 W1.drew := (Kp.refl _ _).drew
    have hnames4 : f.names.length ≤ 4 := ((Pl.okNames_iff f.names).1 hok.names).2.1
    refine wp_region_late (n := 10) (Ext W1) (by kernel_rfl) ?_
    refine Late.take (i := 0) (oi := ⟨some 25, .load 188 (.tmp 4), 188, "steps.go:28", #[], none⟩) (v := ?_) [10] rfl (by kernel_rfl) (by kernel_rfl) (by decide) (by decide) (by kernel_rfl) (by kernel_rfl) (by kernel_rfl) (fun _ _ _ h => h) rfl ?_ hx1 ?_
    rotate_left
    · (intro u hu; obtain ⟨u0, u1, u2⟩ := (unhide HS) u hu; go_simp; first | done | with_reducible rfl)
    try simp only [Act.put, List.setIfInBounds_toArray, List.set_cons_zero, List.set_cons_succ]
    refine Late.take (i := 1) (oi := ⟨some 26, .move (.tmp 0), 109, "steps.go:28", #[], none⟩) (v := ?_) [10] rfl (by kernel_rfl) (by kernel_rfl) (by decide) (by decide) (by kernel_rfl) (by kernel_rfl) (by kernel_rfl) (fun _ _ _ h => h) rfl ?_ hx1 ?_
    rotate_left
    · (intro u hu; obtain ⟨u0, u1, u2⟩ := (unhide HS) u hu; go_simp; first | done | with_reducible rfl)
    try simp only [Act.put, List.setIfInBounds_toArray, List.set_cons_zero, List.set_cons_succ]
    refine Late.take (i := 2) (oi := ⟨some 27, .nilCheck (.tmp 26), 0, "steps.go:28", #[⟨1, .data⟩], none⟩) (v := ?_) [10] rfl (by kernel_rfl) (by kernel_rfl) (by decide) (by decide) (by kernel_rfl) (by kernel_rfl) (by kernel_rfl) (fun _ _ _ h => h) rfl ?_ hx1 ?_
    rotate_left
    · (intro u hu; obtain ⟨u0, u1, u2⟩ := (unhide HS) u hu; go_simp; first | done | with_reducible rfl)
    try simp only [Act.put, List.setIfInBounds_toArray, List.set_cons_zero, List.set_cons_succ]
    refine Late.take (i := 3) (oi := ⟨some 28, .fieldAddr 142 (.tmp 27) 2, 0, "steps.go:28", #[⟨2, .data⟩], none⟩) (v := ?_) [10] rfl (by kernel_rfl) (by kernel_rfl) (by decide) (by decide) (by kernel_rfl) (by kernel_rfl) (by kernel_rfl) (fun _ _ _ h => h) rfl ?_ hx1 ?_
    rotate_left
    · (intro u hu; obtain ⟨u0, u1, u2⟩ := (unhide HS) u hu; go_simp; first | done | with_reducible rfl)
    try simp only [Act.put, List.setIfInBounds_toArray, List.set_cons_zero, List.set_cons_succ]
    refine Late.take (i := 4) (oi := ⟨some 29, .load 22 (.tmp 28), 22, "steps.go:28", #[⟨3, .data⟩], none⟩) (v := ?_) [10] rfl (by kernel_rfl) (by kernel_rfl) (by decide) (by decide) (by kernel_rfl) (by kernel_rfl) (by kernel_rfl) (fun _ _ _ h => h) rfl ?_ hx1 ?_
    rotate_left
    · (intro u hu; obtain ⟨u0, u1, u2⟩ := (unhide HS) u hu; go_simp; first | done | with_reducible rfl)
    try simp only [Act.put, List.setIfInBounds_toArray, List.set_cons_zero, List.set_cons_succ]
    refine Late.one (i := 5) (o := ⟨some 30, .call { callee := .value (.func 121), args := #[.tmp 25, .tmp 29], argTypes := #[188, 22] }, 191, "steps.go:28", #[⟨0, .data⟩, ⟨4, .data⟩], none⟩) (by kernel_rfl) rfl (fun K hK => ?_)
    refine step_call_g rfl 121 #[.agg #[.slice fna f.names.length fnc, .slice fga f.groups.length fgc], .slice na m.want.length nc] (by go_simp) ?_
    refine (columns_any _ _ W1.drew _ _ _ f.names m.want ⟨_, _, _, rfl⟩ (hn1.go (S := fun _ => False) (C' := fun b => w.heap.size ≤ b) hx1 (fun _ _ f => f) (fun _ _ e => e)) (hnm.go (S := fun _ => False) (C' := fun b => col b = .ro) (xa.trans hx1) (fun _ _ f => f) (fun _ _ e => e)) (by omega) (by omega)).mono ?_
    rintro e w3 ⟨x3, hcs⟩
    have hx3 : Ext W1 w3 := hx1.trans x3
    have hcs' := hcs
    have hsh : ∃ a b, e = .returned (.tuple #[a, .bool b]) ∧ (∃ c d e, a = .slice c d e) := by
      generalize Pl.columns f.names m.want = cc at hcs'
      cases hcs' with
      | no v hv => exact ⟨_, _, rfl, hv⟩
      | yes v l h0 hr => obtain ⟨x, y, rfl, -⟩ := hr.get; exact ⟨_, _, rfl, _, _, _, rfl⟩
    obtain ⟨ca, cb, rfl, cc1, cc2, cc3, rfl⟩ := hsh
    refine ⟨_, rfl, hK _ _ (fun _ => hx3) ?_⟩
    clear hK K hcs'
    try simp only [Act.put, List.setIfInBounds_toArray, List.set_cons_zero, List.set_cons_succ]
    refine Late.take (i := 6) (oi := ⟨some 24, .move (.tmp 30), 191, "steps.go:28", #[⟨5, .data⟩], none⟩) (v := ?_) [10] rfl (by kernel_rfl) (by kernel_rfl) (by decide) (by decide) (by kernel_rfl) (by kernel_rfl) (by kernel_rfl) (fun _ _ _ h => h) rfl ?_ hx3 ?_
    rotate_left
    · (intro u hu; skip; go_simp; first | done | with_reducible rfl)
    try simp only [Act.put, List.setIfInBounds_toArray, List.set_cons_zero, List.set_cons_succ]
    refine Late.take (i := 7) (oi := ⟨some 31, .extract (.tmp 24) 0, 46, "steps.go:28", #[⟨6, .data⟩], none⟩) (v := ?_) [10] rfl (by kernel_rfl) (by kernel_rfl) (by decide) (by decide) (by kernel_rfl) (by kernel_rfl) (by kernel_rfl) (fun _ _ _ h => h) rfl ?_ hx3 ?_
    rotate_left
    · (intro u hu; skip; go_simp; first | done | with_reducible rfl)
    try simp only [Act.put, List.setIfInBounds_toArray, List.set_cons_zero, List.set_cons_succ]
    refine Late.take (i := 8) (oi := ⟨some 32, .extract (.tmp 24) 1, 4, "steps.go:28", #[⟨6, .data⟩, { on := 9, ground := Go.Ground.gcOnly Go.Departure.lateStores }], none⟩) (v := ?_) [10] rfl (by kernel_rfl) (by kernel_rfl) (by decide) (by decide) (by kernel_rfl) (by kernel_rfl) (by kernel_rfl) (fun _ _ _ h => h) rfl ?_ hx3 ?_
    rotate_left
    · (intro u hu; skip; go_simp; first | done | with_reducible rfl)
    try simp only [Act.put, List.setIfInBounds_toArray, List.set_cons_zero, List.set_cons_succ]
    refine Late.one (i := 9) (o := ⟨some 6, .assign (.tmp 31), 46, "steps.go:28", #[⟨7, .data⟩, ⟨5, .chain⟩, ⟨0, .phase⟩, ⟨1, .phase⟩, ⟨2, .phase⟩, ⟨3, .phase⟩, ⟨4, .phase⟩, ⟨5, .phase⟩, ⟨6, .phase⟩, ⟨7, .phase⟩, { on := 8, ground := Go.Ground.textOnly Go.Departure.lateStores }], none⟩) (by kernel_rfl) rfl (fun K hK => ?_)
    go_simp
    refine hK _ _ (fun _ => hx3) ?_
    clear hK K
    try simp only [Act.put, List.setIfInBounds_toArray, List.set_cons_zero, List.set_cons_succ]
    refine Late.one (i := 10) (o := ⟨some 5, .assign (.tmp 32), 4, "steps.go:28", #[⟨8, .data⟩, ⟨9, .chain⟩, ⟨0, .phase⟩, ⟨1, .phase⟩, ⟨2, .phase⟩, ⟨3, .phase⟩, ⟨4, .phase⟩, ⟨5, .phase⟩, ⟨6, .phase⟩, ⟨7, .phase⟩, ⟨8, .phase⟩, ⟨9, .phase⟩], none⟩) (by kernel_rfl) rfl (fun K hK => ?_)
    go_simp
    refine hK _ _ (fun h => absurd rfl h) ?_
    clear hK K
    try simp only [Act.put, List.setIfInBounds_toArray, List.set_cons_zero, List.set_cons_succ]
    refine Late.done (by kernel_rfl) ?_ _
    have xw3 : Ext w w3 := xa.trans hx3
    have h3 := h.ext xw3
    cases hco : Pl.columns f.names m.want with
    | none =>
      rw [hco] at hcs HFC
      cases hcs
      go_wp2_with fail
      refine (end_any col w3 P _ (scCells_len _ _ _ _ _ _ _) 3 (by decide) h3.blk h3.inn.pcol h3.inn.top).mono ?_
      rintro e w4 ⟨rfl, r4, k4⟩
      go_wp2_with fail
      try simp only [Exit.inBlock, Exit.then]
      refine bodyPost_ret (results_none rfl _ _ _) rfl ?_
      rw [HFC.out]
      obtain ⟨a, b⟩ := h3.ends r4 k4
      exact ⟨rfl, col, a, (Went.ext xw3).trans b⟩
    | some cols =>
      have HCK := hide (Pl.columns_ok f.names m.want cols hco)
      rw [hco] at hcs HFC
      cases hcs with
      | yes _ _ h0c hrc =>
      have hrc0 := hrc
      obtain ⟨_, _, hee, -, -⟩ := hrc0.get
      cases hee
      clear hrc0
      have e0 := (unhide HS) w3 hx3
      obtain ⟨q0, q1, q2⟩ := e0
      by_cases hg0 : f.groups.length = 0
      · have HFD : Hid (Pl.footerCame m l = Pl.ended 1) := hide (by rw [HFC.out]; simp only; rw [if_pos hg0])
        go_wp2_with fail
        refine (end_any col w3 P _ (scCells_len _ _ _ _ _ _ _) 1 (by decide) h3.blk h3.inn.pcol h3.inn.top).mono ?_
        rintro e w4 ⟨rfl, r4, k4⟩
        go_wp2_with fail
        try simp only [Exit.inBlock, Exit.then]
        refine bodyPost_ret (results_none rfl _ _ _) rfl ?_
        rw [HFD.out]
        obtain ⟨a, b⟩ := h3.ends r4 k4
        exact ⟨rfl, col, a, (Went.ext xw3).trans b⟩
      · have HFD : Hid (Pl.footerCame m l = Pl.askAhead { m with rows := Pl.rwNew cols.length (f.groups.map (·.rows)), ahead := Pl.piecesOf m.gap cols f.groups }) := hide (by rw [HFC.out]; simp only; rw [if_neg hg0])
        have hcnt := hok.count
        have hg3 := hg1.go (S := fun _ => False) (C' := fun b => w.heap.size ≤ b) hx3 (fun _ _ f => f) (fun _ _ e => e)
        have hp3 := hp1.go (S := fun _ => False) (C' := fun b => w.heap.size ≤ b) hx3 (fun _ _ f => f) (fun _ _ e => e)
        have hcl4 : cols.length ≤ 4 := by rw [HCK.out.1]; exact hwant
        have hfr : ∀ u, Ext w u → (∃ a b c d e, u.cell? ⟨P, 14, none⟩ = some a ∧ u.cell? ⟨P, 15, none⟩ = some b ∧ u.cell? ⟨P, 16, none⟩ = some c ∧ u.cell? ⟨P, 17, none⟩ = some d ∧ u.cell? ⟨P, 18, none⟩ = some e) ∧ u.frozen? ⟨P, 14, none⟩ = false ∧ u.frozen? ⟨P, 15, none⟩ = false ∧ u.frozen? ⟨P, 16, none⟩ = false ∧ u.frozen? ⟨P, 17, none⟩ = false ∧ u.frozen? ⟨P, 18, none⟩ = false := fun u hu => by
          have hb := (h.ext hu).blk
          exact ⟨⟨_, _, _, _, _, hb.cell 14, hb.cell 15, hb.cell 16, hb.cell 17, hb.cell 18⟩, hb.free 14, hb.free 15, hb.free 16, hb.free 17, hb.free 18⟩
        have HFR := hide hfr
        clear hfr
        have HL := hide (lengths_any _ w3 _ pvs f.groups f.names.length hg3 hp3 (by omega))
        have hgi : ¬ ((f.groups.length : Nat) : Int) = 0 := by omega
        go_wp2_with fail
        refine (unhide HL).mono ?_
        rintro e w4 ⟨lv, rfl, x4, r4⟩
        go_wp2_with fail
        have hls : RowAt (fun b => w3.heap.size ≤ b) false w4 1 lv (f.groups.map (·.rows)).length ((f.groups.map (·.rows)).map fun n : Nat => I n) := by
          rw [List.length_map, List.map_map]
          exact r4
        refine (rowsNew_any _ w4 cols.length lv (f.groups.map (·.rows)) hls (by rw [List.length_map]; omega) (by omega) (fun n hn => by
          rw [List.mem_map] at hn
          obtain ⟨g, hg, rfl⟩ := hn
          have := (hok.groups g hg).rows20
          omega)).mono ?_
        rintro e w5 ⟨gv5, bs, rfl, x5, hbl, hO5, hgv5, hnd, hbs5⟩
        have xw5 : Ext w w5 := (xw3.trans x4).trans x5
        obtain ⟨⟨y0, y1, y2, y3, y4, y14, y15, y16, y17, y18⟩, z14, z15, z16, z17, z18⟩ := (unhide HFR) w5 xw5
        have h5 := h.ext xw5
        rw [List.length_map] at hO5 hbl
        obtain ⟨ga5, gc5, rfl, -⟩ := hO5.shape
        have HS6 : Hid (∀ u, Ext w u → u.cell? ⟨P, 6, none⟩ = some (.int .i64 m.gap)) := hide fun u hu => hu.cell s6 id
        simp only [I]
        go_wp2_with fail
        have hb5 := ((((h5.blk.set 14 (.int .i64 cols.length)).set 15 (.slice ga5 f.groups.length gc5)).set 16 (.int .i64 0)).set 17 (.int .i64 0)).set 18 (.int .i64 ((f.groups.map (·.rows)).sum : Nat))
        have hce : ((((((scCells P m (.slice na m.want.length nc) av wv hv gv).set 14 (.int .i64 cols.length)).set 15 (.slice ga5 f.groups.length gc5)).set 16 (.int .i64 0)).set 17 (.int .i64 0)).set 18 (.int .i64 ((f.groups.map (·.rows)).sum : Nat))) = scCells P { m with rows := Pl.rwNew cols.length (f.groups.map (·.rows)) } (.slice na m.want.length nc) av wv hv (.slice ga5 f.groups.length gc5) := by simp [scCells, Pl.rwNew, I, giveV]
        rw [hce] at hb5
        have k6 : Kp (fun k => k = P) w5 (((((w5.setCell ⟨P, 14, none⟩ (.int .i64 cols.length)).setCell ⟨P, 15, none⟩ (.slice ga5 f.groups.length gc5)).setCell ⟨P, 16, none⟩ (.int .i64 0)).setCell ⟨P, 17, none⟩ (.int .i64 0)).setCell ⟨P, 18, none⟩ (.int .i64 ((f.groups.map (·.rows)).sum : Nat))) := ((((kp_set' _ _ _ _).trans (kp_set' _ _ _ _)).trans (kp_set' _ _ _ _)).trans (kp_set' _ _ _ _)).trans (kp_set' _ _ _ _)
        have hz6 : (((((w5.setCell ⟨P, 14, none⟩ (.int .i64 cols.length)).setCell ⟨P, 15, none⟩ (.slice ga5 f.groups.length gc5)).setCell ⟨P, 16, none⟩ (.int .i64 0)).setCell ⟨P, 17, none⟩ (.int .i64 0)).setCell ⟨P, 18, none⟩ (.int .i64 ((f.groups.map (·.rows)).sum : Nat))).heap.size = w5.heap.size := by simp
        have HZ6 := hide hz6
        clear hz6 hce y14 y15 y16 y17 y18 z14 z15 z16 z17 z18
        generalize ((((w5.setCell ⟨P, 14, none⟩ (.int .i64 cols.length)).setCell ⟨P, 15, none⟩ (.slice ga5 f.groups.length gc5)).setCell ⟨P, 16, none⟩ (.int .i64 0)).setCell ⟨P, 17, none⟩ (.int .i64 0)).setCell ⟨P, 18, none⟩ (.int .i64 ((f.groups.map (·.rows)).sum : Nat)) = W6 at *
        have hPn : P < w.heap.size := h.blk.lt
        have x35 : Ext w3 w5 := x4.trans x5
        have kw6 : Kp (fun k => k = P) w W6 := (Kp.of_ext xw5).trans k6
        have c6 : W6.cell? ⟨P, 6, none⟩ = some (.int .i64 m.gap) := hb5.cell 6
        have c12 : W6.cell? ⟨P, 12, none⟩ = some hv := hb5.cell 12
        have f12 := hb5.free 12
        have cF : W6.cell? ⟨w1.heap.size, 1, none⟩ = some (.slice fga f.groups.length fgc) := k6.cell (x35.cell q2 id) (by have := x1.size; show ¬ w1.heap.size = P; omega)
        have hS6 : ∀ u, Ext W6 u → u.cell? ⟨P, 6, none⟩ = some (.int .i64 m.gap) ∧ u.cell? ⟨w1.heap.size, 1, none⟩ = some (.slice fga f.groups.length fgc) := fun u hu => ⟨hu.cell c6 id, hu.cell cF id⟩
        have HS6' := hide hS6
        clear hS6 HS6
        have hx6 : Ext W6 W6.drew := (Kp.refl _ _).drew
        have k3d : Kp (fun k => k = P) w3 W6.drew := ((Kp.of_ext x35).trans k6).trans (Kp.of_ext hx6)
        have hPC : ∀ i, w.heap.size ≤ i → ¬ i = P := fun i hi e => by omega
        have hM : ∀ g ∈ f.groups, Pl.PagesIn 1000000 g := fun g hg p hp => by have := (hok.groups g hg).ends p hp; omega
        have HOF := hide (of_any (fun b => w.heap.size ≤ b) (fun b => W1.drew.heap.size ≤ b) W6.drew _ _ pvs f.groups cols f.names.length m.gap (hg3.go k3d hPC (fun _ _ e => e)) (hp3.go k3d hPC (fun _ _ e => e)) (hrc.go k3d (fun i hi e => by have := xa.size; have : W1.heap.size ≤ i := hi; omega) (fun _ _ e => e)) h0c (by omega) HCK.out.2.2.1 (by omega) (by omega) (by omega) hM)
        refine wp_region_late (n := 12) (Ext W6) (by kernel_rfl) ?_
        refine Late.take (i := 0) (oi := ⟨some 52, .move (.tmp 0), 109, "steps.go:38", #[], none⟩) (v := ?_) [12] rfl (by kernel_rfl) (by kernel_rfl) (by decide) (by decide) (by kernel_rfl) (by kernel_rfl) (by kernel_rfl) (fun _ _ _ h => h) rfl ?_ hx6 ?_
        rotate_left
        · (intro u hu; obtain ⟨u0, u1⟩ := (unhide HS6') u hu; go_simp; first | done | with_reducible rfl)
        try simp only [Act.put, List.setIfInBounds_toArray, List.set_cons_zero, List.set_cons_succ]
        refine Late.take (i := 1) (oi := ⟨some 53, .fieldAddr 188 (.tmp 4) 1, 0, "steps.go:38", #[], none⟩) (v := ?_) [12] rfl (by kernel_rfl) (by kernel_rfl) (by decide) (by decide) (by kernel_rfl) (by kernel_rfl) (by kernel_rfl) (fun _ _ _ h => h) rfl ?_ hx6 ?_
        rotate_left
        · (intro u hu; obtain ⟨u0, u1⟩ := (unhide HS6') u hu; go_simp; first | done | with_reducible rfl)
        try simp only [Act.put, List.setIfInBounds_toArray, List.set_cons_zero, List.set_cons_succ]
        refine Late.take (i := 2) (oi := ⟨some 54, .load 186 (.tmp 53), 186, "steps.go:38", #[⟨1, .data⟩], none⟩) (v := ?_) [12] rfl (by kernel_rfl) (by kernel_rfl) (by decide) (by decide) (by kernel_rfl) (by kernel_rfl) (by kernel_rfl) (fun _ _ _ h => h) rfl ?_ hx6 ?_
        rotate_left
        · (intro u hu; obtain ⟨u0, u1⟩ := (unhide HS6') u hu; go_simp; first | done | with_reducible rfl)
        try simp only [Act.put, List.setIfInBounds_toArray, List.set_cons_zero, List.set_cons_succ]
        refine Late.take (i := 3) (oi := ⟨some 55, .move (.tmp 6), 46, "steps.go:38", #[], none⟩) (v := ?_) [12] rfl (by kernel_rfl) (by kernel_rfl) (by decide) (by decide) (by kernel_rfl) (by kernel_rfl) (by kernel_rfl) (fun _ _ _ h => h) rfl ?_ hx6 ?_
        rotate_left
        · (intro u hu; obtain ⟨u0, u1⟩ := (unhide HS6') u hu; go_simp; first | done | with_reducible rfl)
        try simp only [Act.put, List.setIfInBounds_toArray, List.set_cons_zero, List.set_cons_succ]
        refine Late.take (i := 4) (oi := ⟨some 56, .move (.tmp 0), 109, "steps.go:38", #[], none⟩) (v := ?_) [12] rfl (by kernel_rfl) (by kernel_rfl) (by decide) (by decide) (by kernel_rfl) (by kernel_rfl) (by kernel_rfl) (fun _ _ _ h => h) rfl ?_ hx6 ?_
        rotate_left
        · (intro u hu; obtain ⟨u0, u1⟩ := (unhide HS6') u hu; go_simp; first | done | with_reducible rfl)
        try simp only [Act.put, List.setIfInBounds_toArray, List.set_cons_zero, List.set_cons_succ]
        refine Late.take (i := 5) (oi := ⟨some 57, .nilCheck (.tmp 56), 0, "steps.go:38", #[⟨4, .data⟩], none⟩) (v := ?_) [12] rfl (by kernel_rfl) (by kernel_rfl) (by decide) (by decide) (by kernel_rfl) (by kernel_rfl) (by kernel_rfl) (fun _ _ _ h => h) rfl ?_ hx6 ?_
        rotate_left
        · (intro u hu; obtain ⟨u0, u1⟩ := (unhide HS6') u hu; go_simp; first | done | with_reducible rfl)
        try simp only [Act.put, List.setIfInBounds_toArray, List.set_cons_zero, List.set_cons_succ]
        refine Late.take (i := 6) (oi := ⟨some 58, .fieldAddr 142 (.tmp 57) 3, 0, "steps.go:38", #[⟨5, .data⟩], none⟩) (v := ?_) [12] rfl (by kernel_rfl) (by kernel_rfl) (by decide) (by decide) (by kernel_rfl) (by kernel_rfl) (by kernel_rfl) (fun _ _ _ h => h) rfl ?_ hx6 ?_
        rotate_left
        · (intro u hu; obtain ⟨u0, u1⟩ := (unhide HS6') u hu; go_simp; first | done | with_reducible rfl)
        try simp only [Act.put, List.setIfInBounds_toArray, List.set_cons_zero, List.set_cons_succ]
        refine Late.take (i := 7) (oi := ⟨some 59, .fieldAddr 24 (.tmp 58) 3, 0, "steps.go:38", #[⟨6, .data⟩], none⟩) (v := ?_) [12] rfl (by kernel_rfl) (by kernel_rfl) (by decide) (by decide) (by kernel_rfl) (by kernel_rfl) (by kernel_rfl) (fun _ _ _ h => h) rfl ?_ hx6 ?_
        rotate_left
        · (intro u hu; obtain ⟨u0, u1⟩ := (unhide HS6') u hu; go_simp; first | done | with_reducible rfl)
        try simp only [Act.put, List.setIfInBounds_toArray, List.set_cons_zero, List.set_cons_succ]
        refine Late.take (i := 8) (oi := ⟨some 60, .load 3 (.tmp 59), 3, "steps.go:38", #[⟨7, .data⟩], none⟩) (v := ?_) [12] rfl (by kernel_rfl) (by kernel_rfl) (by decide) (by decide) (by kernel_rfl) (by kernel_rfl) (by kernel_rfl) (fun _ _ _ h => h) rfl ?_ hx6 ?_
        rotate_left
        · (intro u hu; obtain ⟨u0, u1⟩ := (unhide HS6') u hu; go_simp; first | done | with_reducible rfl)
        try simp only [Act.put, List.setIfInBounds_toArray, List.set_cons_zero, List.set_cons_succ]
        refine Late.one (i := 9) (o := ⟨some 61, .call { callee := .value (.func 124), args := #[.tmp 54, .tmp 55, .tmp 60], argTypes := #[186, 46, 3] }, 137, "steps.go:38", #[⟨2, .data⟩, ⟨3, .data⟩, ⟨8, .data⟩], none⟩) (by kernel_rfl) rfl (fun K hK => ?_)
        refine step_call_g rfl 124 #[.slice fga f.groups.length fgc, .slice cc1 cols.length cc3, .int .i64 m.gap] (by go_simp) ?_
        refine (unhide HOF).mono ?_
        rintro e w7 ⟨pv7, rfl, x7, hp7⟩
        have hx7 : Ext W6 w7 := hx6.trans x7
        have hp7' := hp7
        obtain ⟨pvs7, hpr7, hpc7⟩ := hp7'
        obtain ⟨pa7, pc7, rfl, -, -⟩ := hpr7.get
        refine ⟨_, rfl, hK _ _ (fun _ => hx7) ?_⟩
        clear hK K
        try simp only [Act.put, List.setIfInBounds_toArray, List.set_cons_zero, List.set_cons_succ]
        have c12' := hx7.cell c12 id
        have f12' : w7.frozen? ⟨P, 12, none⟩ = false := by rw [World.frozen?_of_block (w := W6) (a := ⟨P, 12, none⟩) (hx7.block P hb5.lt id)]; exact f12
        refine Late.one (i := 10) (o := ⟨some 62, .nilCheck (.tmp 52), 0, "steps.go:38", #[⟨0, .data⟩, ⟨0, .phase⟩, ⟨1, .phase⟩, ⟨2, .phase⟩, ⟨3, .phase⟩, ⟨4, .phase⟩, ⟨5, .phase⟩, ⟨6, .phase⟩, ⟨7, .phase⟩, ⟨8, .phase⟩, ⟨9, .phase⟩], none⟩) (by kernel_rfl) rfl (fun K hK => ?_)
        go_simp
        refine hK _ _ (fun _ => hx7) ?_
        clear hK K
        try simp only [Act.put, List.setIfInBounds_toArray, List.set_cons_zero, List.set_cons_succ]
        refine Late.one (i := 11) (o := ⟨some 63, .fieldAddr 142 (.tmp 62) 5, 0, "steps.go:38", #[⟨10, .data⟩, ⟨0, .phase⟩, ⟨1, .phase⟩, ⟨2, .phase⟩, ⟨3, .phase⟩, ⟨4, .phase⟩, ⟨5, .phase⟩, ⟨6, .phase⟩, ⟨7, .phase⟩, ⟨8, .phase⟩, ⟨9, .phase⟩], none⟩) (by kernel_rfl) rfl (fun K hK => ?_)
        go_simp
        refine hK _ _ (fun _ => hx7) ?_
        clear hK K
        try simp only [Act.put, List.setIfInBounds_toArray, List.set_cons_zero, List.set_cons_succ]
        refine Late.one (i := 12) (o := ⟨none, .store 137 (.tmp 63) (.tmp 61), 0, "steps.go:38", #[⟨11, .data⟩, ⟨9, .data⟩, ⟨9, .chain⟩, ⟨0, .phase⟩, ⟨1, .phase⟩, ⟨2, .phase⟩, ⟨3, .phase⟩, ⟨4, .phase⟩, ⟨5, .phase⟩, ⟨6, .phase⟩, ⟨7, .phase⟩, ⟨8, .phase⟩, ⟨9, .phase⟩], none⟩) (by kernel_rfl) rfl (fun K hK => ?_)
        go_simp
        refine hK _ _ (fun h => absurd rfl h) ?_
        clear hK K
        try simp only [Act.put, List.setIfInBounds_toArray, List.set_cons_zero, List.set_cons_succ]
        refine Late.done (by kernel_rfl) ?_ _
        have hb7 := (hb5.kept hx7 id).set 12 (.slice pa7 (Pl.piecesOf m.gap cols f.groups).length pc7)
        have hce : (scCells P { m with rows := Pl.rwNew cols.length (f.groups.map (·.rows)) } (.slice na m.want.length nc) av wv hv (.slice ga5 f.groups.length gc5)).set 12 (.slice pa7 (Pl.piecesOf m.gap cols f.groups).length pc7) = scCells P { m with rows := Pl.rwNew cols.length (f.groups.map (·.rows)), ahead := Pl.piecesOf m.gap cols f.groups } (.slice na m.want.length nc) av wv (.slice pa7 (Pl.piecesOf m.gap cols f.groups).length pc7) (.slice ga5 f.groups.length gc5) := by simp [scCells, giveV]
        rw [hce] at hb7
        have k8 := kp_set' w7 P 12 (.slice pa7 (Pl.piecesOf m.gap cols f.groups).length pc7)
        have hz8 : (w7.setCell ⟨P, 12, none⟩ (.slice pa7 (Pl.piecesOf m.gap cols f.groups).length pc7)).heap.size = w7.heap.size := size_set _ _ _
        have HZ8 := hide hz8
        clear hz8 hce c12' f12' c12 f12
        generalize w7.setCell ⟨P, 12, none⟩ (.slice pa7 (Pl.piecesOf m.gap cols f.groups).length pc7) = W8 at *
        have k58 : Kp (fun k => k = P) w5 W8 := (k6.trans (Kp.of_ext hx7)).trans k8
        have hw45 : w.heap.size ≤ w4.heap.size := Nat.le_trans xw3.size x4.size
        have hrep := rep_foot (cols := cols.length) (bs := bs) (ls := f.groups.map (·.rows)) (pcs := Pl.piecesOf m.gap cols f.groups) (gv' := .slice ga5 f.groups.length gc5) (hv' := .slice pa7 (Pl.piecesOf m.gap cols f.groups).length pc7) w5.heap.size h ((kw6.trans (Kp.of_ext hx7)).trans k8) k58.size xw5.size hb7 (by rw [List.length_map]; exact hO5.kept k58 (fun g e he => by have := (hgv5 g e).1; omega)) (by rw [List.length_map]; exact hbl) (fun g e => ⟨by have := (hgv5 g e).1; omega, (hgv5 g e).2, hO5.lt e⟩) hnd (fun b hb => ⟨by have := (hbs5 b hb).1; omega, (hbs5 b hb).2.lt, (hbs5 b hb).2.kept k58 (by have := (hbs5 b hb).1; omega)⟩) ⟨pvs7, hpr7.go k8 (fun i hi e => by have : W6.heap.size ≤ i := hi; have := kw6.size; omega) (fun i _ hi => by have : W6.heap.size ≤ i := hi; have := HZ6.out; omega), hpc7.go k8 (fun i hi e => by have : W6.heap.size ≤ i := hi; have := kw6.size; omega) (fun i _ hi => by have : W6.heap.size ≤ i := hi; have := HZ6.out; omega)⟩
        have hfine : Fine { m with rows := Pl.rwNew cols.length (f.groups.map (·.rows)), ahead := Pl.piecesOf m.gap cols f.groups } := by
          have hpl := piecesTo_len m.gap cols f.groups f.groups.length
          have hpl' : (Pl.piecesOf m.gap cols f.groups).length ≤ 24 := Nat.le_trans hpl (Nat.le_trans (Nat.mul_le_mul (show f.groups.length ≤ 6 by omega) hcl4) (by omega))
          refine ⟨hsz, ?_, ?_, hwin, ?_, fun p hp => ?_⟩
          · show m.lastId + (Pl.piecesOf m.gap cols f.groups).length ≤ _; omega
          · show m.asked.length + (Pl.piecesOf m.gap cols f.groups).length ≤ _; omega
          · show m.opened + (Pl.piecesOf m.gap cols f.groups).length ≤ _; omega
          · have := (Pl.piecesOf_ok m.gap foot cols f.names.length f.groups hok.groups HCK.out.2.2.1 f.groups.length (Nat.le_refl _) p hp).1.ends
            omega
        have HAA := hide (askAhead_any _ W8 P _ hrep.is hfine)
        have hwent : Went col w W8 (footCol col w.heap.size W8.heap.size (.slice ga5 f.groups.length gc5) bs) := ⟨((kw6.trans (Kp.of_ext hx7)).trans k8).mono (fun i _ hi => by show col i ≠ .out; rw [hi, h.inn.pcol]; simp), fun i hi => by unfold footCol; rw [if_pos hi]⟩
        go_wp2_with fail
        refine (unhide HAA).mono ?_
        rintro e w9 ⟨rfl, c9, s9, g9⟩
        go_wp2_with fail
        go_end0
        rw [HFD.out]
        exact ⟨rfl, c9, s9, hwent.trans g9⟩
end Go.Proofs.YthicgffppmbamaaGreat

namespace Go.Proofs.YthicgffppmbamaaGreat
open Go.RowKit

set_option maxRecDepth 20000 in
set_option maxHeartbeats 2000000 in
theorem pieceRead_any (C : Nat → Prop) (w : World) (b o pp place length sum g c r : Nat) (v : Value) (l : List UInt8) (hC : ∀ i, C i → i < w.heap.size) (c0 : w.cell? ⟨b, o, none⟩ = some (.int .i64 pp)) (h : RowAt C false w 1 v l.length (l.map B)) (hl : l.length ≤ 1000000)
    (h1 : pp ≤ place) (h2 : 1 ≤ length) (h3 : place + length ≤ pp + l.length) (_h4 : place ≤ 1000000) (hr1 : 1 ≤ r) (hr20 : r ≤ 20) (hs : sum < 4294967296) :
    Calls Tryz.prog 169 #[PtrTo b o, wpV place length sum g c r, v] w fun e w' => Ext w w' ∧ PageSaid w w' r (fpageRead sum ((l.drop (place - pp)).take length) r) e := by
  have hb : b < w.heap.size := World.block_lt_of_cell? w _ c0
  have h' := h
  obtain ⟨-, ao, cap, rfl, hcap, h5⟩ := h'
  obtain ⟨vb, vo, rfl, -, -, -, -⟩ := h5 (by omega)
  clear h5
  have hd := h.drop1 (q := place - pp) (by omega)
  rw [if_neg (by omega)] at hd
  have ht := hd.take1 (q := length) (by omega)
  rw [← List.map_drop, ← List.map_take] at ht
  have hll : ((l.drop (place - pp)).take length).length = length := by rw [List.length_take, List.length_drop]; omega
  generalize hL : (l.drop (place - pp)).take length = L at *
  have HR : ∀ u, Ext w u → RowAt C false u 1 (.slice (some ⟨vb, vo + (place - pp), none⟩) length (cap - (place - pp))) L.length (L.map B) := fun u hu => by
    rw [hll]
    exact ht.go (S := fun _ => False) hu (fun _ _ f => f) (fun _ _ e => e)
  have HR := hide HR
  have HL := hide hll
  clear hll hL hd ht h
  go_enter Tryz.func169, Tryz.ntmps169
  go_wp2_with fail
  have x0 : Ext w (w.alloc (.cells #[.int .i64 place, .int .i64 length, .int .u32 sum, .int .i64 g, .int .i64 c, .int .i64 r] 253)) := (Kp.refl _ _).alloc _
  have d := fun j => World.cell?_alloc_new w #[.int .i64 place, .int .i64 length, .int .u32 sum, .int .i64 g, .int .i64 c, .int .i64 r] 253 j
  have d0 := d 0
  have d1 := d 1
  have d2 := d 2
  have d5 := d 5
  simp only [List.getElem?_toArray, List.getElem?_cons_zero, List.getElem?_cons_succ] at d0 d1 d2 d5
  clear d
  generalize w.alloc (.cells #[.int .i64 place, .int .i64 length, .int .u32 sum, .int .i64 g, .int .i64 c, .int .i64 r] 253) = W1 at *
  have e0 := x0.cell c0 id
  clear c0
  go_quiet (fail)
  go_wp2_with fail
  have x1 : Ext w (W1.drewN nq) := x0.drewN nq
  have hS : ∀ u, Ext (W1.drewN nq) u → u.cell? ⟨w.heap.size, 0, none⟩ = some (.int .i64 place) ∧ u.cell? ⟨w.heap.size, 1, none⟩ = some (.int .i64 length) ∧ u.cell? ⟨w.heap.size, 2, none⟩ = some (.int .u32 sum) ∧ u.cell? ⟨w.heap.size, 5, none⟩ = some (.int .i64 r) := fun u hu => ⟨hu.cell d0 id, hu.cell d1 id, hu.cell d2 id, hu.cell d5 id⟩
  generalize W1.drewN nq = W2 at *
  rw [show ((place : Int) - pp) = ((place - pp : Nat) : Int) by omega]
  have HS := hide hS
  clear hS d0 d1 d2 d5 e0 x0
  generalize hbg : place - pp = bg at *
  have hb1 : bg + length ≤ l.length := by omega
  have hx1 : Ext W2 W2.drew := (Kp.refl _ _).drew
  obtain ⟨be, hbe⟩ : ∃ be, be = bg + length := ⟨_, rfl⟩
  have hwr : IntKind.i64.wrap ((bg : Int) + (length : Int)) = (be : Int) := by
    simp only [IntKind.wrap, IntKind.bits, IntKind.signed, Bool.true_and]
    rw [if_neg (by simp; omega)]
    omega
  have hbe1 : be ≤ cap := by omega
  have hbe2 : bg ≤ be := by omega
  have hbe3 : be - bg = length := by omega
  have hbe4 : ¬ cap = bg := by omega
  clear hbe
  refine wp_region_late (n := 16) (Ext W2) (by kernel_rfl) ?_
  refine Late.take (i := 0) (oi := ⟨some 17, .fieldAddr 253 (.tmp 4) 0, 0, "pieces.go:74", #[], none⟩) (v := ?_) [16] rfl (by kernel_rfl) (by kernel_rfl) (by decide) (by decide) (by kernel_rfl) (by kernel_rfl) (by kernel_rfl) (fun _ _ _ h => h) rfl ?_ hx1 ?_
  rotate_left
  · (intro u hu; obtain ⟨u0, u1, u2, u5⟩ := (unhide HS) u hu; go_simp; first | done | with_reducible rfl)
  try simp only [Act.put, List.setIfInBounds_toArray, List.set_cons_zero, List.set_cons_succ]
  refine Late.take (i := 1) (oi := ⟨some 18, .load 250 (.tmp 17), 250, "pieces.go:74", #[⟨0, .data⟩], none⟩) (v := ?_) [16] rfl (by kernel_rfl) (by kernel_rfl) (by decide) (by decide) (by kernel_rfl) (by kernel_rfl) (by kernel_rfl) (fun _ _ _ h => h) rfl ?_ hx1 ?_
  rotate_left
  · (intro u hu; obtain ⟨u0, u1, u2, u5⟩ := (unhide HS) u hu; go_simp; first | done | with_reducible rfl)
  try simp only [Act.put, List.setIfInBounds_toArray, List.set_cons_zero, List.set_cons_succ]
  refine Late.take (i := 2) (oi := ⟨some 19, .move (.tmp 2), 76, "pieces.go:74", #[], none⟩) (v := ?_) [16] rfl (by kernel_rfl) (by kernel_rfl) (by decide) (by decide) (by kernel_rfl) (by kernel_rfl) (by kernel_rfl) (fun _ _ _ h => h) rfl ?_ hx1 ?_
  rotate_left
  · (intro u hu; obtain ⟨u0, u1, u2, u5⟩ := (unhide HS) u hu; go_simp; first | done | with_reducible rfl)
  try simp only [Act.put, List.setIfInBounds_toArray, List.set_cons_zero, List.set_cons_succ]
  refine Late.take (i := 3) (oi := ⟨some 20, .move (.tmp 8), 3, "pieces.go:74", #[], none⟩) (v := ?_) [16] rfl (by kernel_rfl) (by kernel_rfl) (by decide) (by decide) (by kernel_rfl) (by kernel_rfl) (by kernel_rfl) (fun _ _ _ h => h) rfl ?_ hx1 ?_
  rotate_left
  · (intro u hu; obtain ⟨u0, u1, u2, u5⟩ := (unhide HS) u hu; go_simp; first | done | with_reducible rfl)
  try simp only [Act.put, List.setIfInBounds_toArray, List.set_cons_zero, List.set_cons_succ]
  refine Late.take (i := 4) (oi := ⟨some 21, .move (.tmp 8), 3, "pieces.go:74", #[], none⟩) (v := ?_) [16] rfl (by kernel_rfl) (by kernel_rfl) (by decide) (by decide) (by kernel_rfl) (by kernel_rfl) (by kernel_rfl) (fun _ _ _ h => h) rfl ?_ hx1 ?_
  rotate_left
  · (intro u hu; obtain ⟨u0, u1, u2, u5⟩ := (unhide HS) u hu; go_simp; first | done | with_reducible rfl)
  try simp only [Act.put, List.setIfInBounds_toArray, List.set_cons_zero, List.set_cons_succ]
  refine Late.take (i := 5) (oi := ⟨some 22, .fieldAddr 253 (.tmp 4) 0, 0, "pieces.go:74", #[], none⟩) (v := ?_) [16] rfl (by kernel_rfl) (by kernel_rfl) (by decide) (by decide) (by kernel_rfl) (by kernel_rfl) (by kernel_rfl) (fun _ _ _ h => h) rfl ?_ hx1 ?_
  rotate_left
  · (intro u hu; obtain ⟨u0, u1, u2, u5⟩ := (unhide HS) u hu; go_simp; first | done | with_reducible rfl)
  try simp only [Act.put, List.setIfInBounds_toArray, List.set_cons_zero, List.set_cons_succ]
  refine Late.take (i := 6) (oi := ⟨some 23, .fieldAddr 250 (.tmp 22) 1, 0, "pieces.go:74", #[⟨5, .data⟩], none⟩) (v := ?_) [16] rfl (by kernel_rfl) (by kernel_rfl) (by decide) (by decide) (by kernel_rfl) (by kernel_rfl) (by kernel_rfl) (fun _ _ _ h => h) rfl ?_ hx1 ?_
  rotate_left
  · (intro u hu; obtain ⟨u0, u1, u2, u5⟩ := (unhide HS) u hu; go_simp; first | done | with_reducible rfl)
  try simp only [Act.put, List.setIfInBounds_toArray, List.set_cons_zero, List.set_cons_succ]
  refine Late.take (i := 7) (oi := ⟨some 24, .load 3 (.tmp 23), 3, "pieces.go:74", #[⟨6, .data⟩], none⟩) (v := ?_) [16] rfl (by kernel_rfl) (by kernel_rfl) (by decide) (by decide) (by kernel_rfl) (by kernel_rfl) (by kernel_rfl) (fun _ _ _ h => h) rfl ?_ hx1 ?_
  rotate_left
  · (intro u hu; obtain ⟨u0, u1, u2, u5⟩ := (unhide HS) u hu; go_simp; first | done | with_reducible rfl)
  try simp only [Act.put, List.setIfInBounds_toArray, List.set_cons_zero, List.set_cons_succ]
  refine Late.take (i := 8) (oi := ⟨some 25, .binOp .add 3 (.tmp 21) (.tmp 24) 3, 3, "pieces.go:74", #[⟨4, .data⟩, ⟨7, .data⟩], none⟩) (v := ?_) [16] rfl (by kernel_rfl) (by kernel_rfl) (by decide) (by decide) (by kernel_rfl) (by kernel_rfl) (by kernel_rfl) (fun _ _ _ h => h) rfl ?_ hx1 ?_
  rotate_left
  · (intro u hu; obtain ⟨u0, u1, u2, u5⟩ := (unhide HS) u hu; go_simp; first | done | with_reducible rfl)
  try simp only [Act.put, List.setIfInBounds_toArray, List.set_cons_zero, List.set_cons_succ]
  refine Late.take (i := 9) (oi := ⟨some 26, .slice 76 (.tmp 19) (some (.tmp 20)) (some (.tmp 25)) none, 76, "pieces.go:74", #[⟨2, .data⟩, ⟨3, .data⟩, ⟨8, .data⟩], none⟩) (v := ?_) [16] rfl (by kernel_rfl) (by kernel_rfl) (by decide) (by decide) (by kernel_rfl) (by kernel_rfl) (by kernel_rfl) (fun _ _ _ h => h) rfl ?_ hx1 ?_
  rotate_left
  · (intro u hu; obtain ⟨u0, u1, u2, u5⟩ := (unhide HS) u hu; go_simp; first | done | with_reducible rfl)
  try simp only [Act.put, List.setIfInBounds_toArray, List.set_cons_zero, List.set_cons_succ]
  refine Late.take (i := 10) (oi := ⟨some 27, .fieldAddr 253 (.tmp 4) 3, 0, "pieces.go:74", #[], none⟩) (v := ?_) [16] rfl (by kernel_rfl) (by kernel_rfl) (by decide) (by decide) (by kernel_rfl) (by kernel_rfl) (by kernel_rfl) (fun _ _ _ h => h) rfl ?_ hx1 ?_
  rotate_left
  · (intro u hu; obtain ⟨u0, u1, u2, u5⟩ := (unhide HS) u hu; go_simp; first | done | with_reducible rfl)
  try simp only [Act.put, List.setIfInBounds_toArray, List.set_cons_zero, List.set_cons_succ]
  refine Late.take (i := 11) (oi := ⟨some 28, .load 3 (.tmp 27), 3, "pieces.go:74", #[⟨10, .data⟩], none⟩) (v := ?_) [16] rfl (by kernel_rfl) (by kernel_rfl) (by decide) (by decide) (by kernel_rfl) (by kernel_rfl) (by kernel_rfl) (fun _ _ _ h => h) rfl ?_ hx1 ?_
  rotate_left
  · (intro u hu; obtain ⟨u0, u1, u2, u5⟩ := (unhide HS) u hu; go_simp; first | done | with_reducible rfl)
  try simp only [Act.put, List.setIfInBounds_toArray, List.set_cons_zero, List.set_cons_succ]
  refine Late.one (i := 12) (o := ⟨some 29, .call { callee := .value (.func 176), args := #[.tmp 18, .tmp 26, .tmp 28], argTypes := #[250, 76, 3] }, 191, "pieces.go:74", #[⟨1, .data⟩, ⟨9, .data⟩, ⟨11, .data⟩], none⟩) (by kernel_rfl) rfl (fun K hK => ?_)
  refine step_call_g rfl 176 #[.agg #[.int .i64 place, .int .i64 length, .int .u32 sum], .slice (some ⟨vb, vo + bg, none⟩) length (cap - bg), .int .i64 r] (by go_simp) ?_
  have x2 := x1.trans hx1
  refine (fpageRead_any C W2.drew _ L r place length sum (fun i hi => Nat.lt_of_lt_of_le (hC i hi) x2.size) ((unhide HR) _ x2) (by have := HL.out; omega) hr1 hr20 hs).mono ?_
  rintro e w3 ⟨x3, ps⟩
  have hps : PageSaid w w3 r (fpageRead sum L r) e := by
    generalize fpageRead sum L r = pp at ps
    cases ps with
    | no => exact .no
    | yes g xs hg hb hl => exact .yes g xs (Nat.le_trans x2.size hg) hb hl
  have HQ := hide hps
  clear hps ps
  have ht : ∃ a b, e = .returned (.tuple #[a, b]) := by
    have := HQ.out
    generalize fpageRead sum L r = pp at this
    cases this <;> exact ⟨_, _, rfl⟩
  obtain ⟨ra, rb, rfl⟩ := ht
  have h23 : Ext W2 w3 := hx1.trans x3
  refine ⟨_, rfl, hK _ _ (fun _ => h23) ?_⟩
  clear hK K
  try simp only [Act.put, List.setIfInBounds_toArray, List.set_cons_zero, List.set_cons_succ]
  refine Late.take (i := 13) (oi := ⟨some 30, .extract (.tmp 29) 0, 46, "pieces.go:74", #[⟨12, .data⟩], none⟩) (v := ?_) [16] rfl (by kernel_rfl) (by kernel_rfl) (by decide) (by decide) (by kernel_rfl) (by kernel_rfl) (by kernel_rfl) (fun _ _ _ h => h) rfl ?_ h23 ?_
  rotate_left
  · (intro u hu; skip; go_simp; first | done | with_reducible rfl)
  try simp only [Act.put, List.setIfInBounds_toArray, List.set_cons_zero, List.set_cons_succ]
  refine Late.take (i := 14) (oi := ⟨some 31, .extract (.tmp 29) 1, 4, "pieces.go:74", #[⟨12, .data⟩], none⟩) (v := ?_) [16] rfl (by kernel_rfl) (by kernel_rfl) (by decide) (by decide) (by kernel_rfl) (by kernel_rfl) (by kernel_rfl) (fun _ _ _ h => h) rfl ?_ h23 ?_
  rotate_left
  · (intro u hu; skip; go_simp; first | done | with_reducible rfl)
  try simp only [Act.put, List.setIfInBounds_toArray, List.set_cons_zero, List.set_cons_succ]
  refine Late.one (i := 15) (o := ⟨some 6, .assign (.tmp 30), 46, "pieces.go:74", #[⟨13, .data⟩, ⟨12, .chain⟩, ⟨0, .phase⟩, ⟨1, .phase⟩, ⟨2, .phase⟩, ⟨3, .phase⟩, ⟨4, .phase⟩, ⟨5, .phase⟩, ⟨6, .phase⟩, ⟨7, .phase⟩, ⟨8, .phase⟩, ⟨9, .phase⟩, ⟨10, .phase⟩, ⟨11, .phase⟩, ⟨12, .phase⟩, ⟨13, .phase⟩, ⟨14, .phase⟩], none⟩) (by kernel_rfl) rfl (fun K hK => ?_)
  go_simp
  refine hK _ _ (fun _ => h23) ?_
  clear hK K
  try simp only [Act.put, List.setIfInBounds_toArray, List.set_cons_zero, List.set_cons_succ]
  refine Late.one (i := 16) (o := ⟨some 7, .assign (.tmp 31), 4, "pieces.go:74", #[⟨14, .data⟩, ⟨15, .chain⟩, ⟨0, .phase⟩, ⟨1, .phase⟩, ⟨2, .phase⟩, ⟨3, .phase⟩, ⟨4, .phase⟩, ⟨5, .phase⟩, ⟨6, .phase⟩, ⟨7, .phase⟩, ⟨8, .phase⟩, ⟨9, .phase⟩, ⟨10, .phase⟩, ⟨11, .phase⟩, ⟨12, .phase⟩, ⟨13, .phase⟩, ⟨14, .phase⟩, ⟨15, .phase⟩], none⟩) (by kernel_rfl) rfl (fun K hK => ?_)
  go_simp
  refine hK _ _ (fun h => absurd rfl h) ?_
  clear hK K
  try simp only [Act.put, List.setIfInBounds_toArray, List.set_cons_zero, List.set_cons_succ]
  refine Late.done (by kernel_rfl) ?_ _
  go_wp2_with fail
  go_ret2
  exact ⟨x1.trans h23, HQ.out⟩
end Go.Proofs.YthicgffppmbamaaGreat
