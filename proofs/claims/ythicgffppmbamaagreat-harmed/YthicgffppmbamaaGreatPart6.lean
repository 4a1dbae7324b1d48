/- Pieces, Add, Take, ReadTail, TailCame, Sort. -/
import Derived.BigQuiet
import Derived.Deep.RegionHeld3
import Derived.Lib.SliceRun
import Derived.Deep.MidRow
import Derived.Test.YthicgffppmbamaaGreatPart1
import Derived.Test.YthicgffppmbamaaGreatPart3
import Derived.Test.YthicgffppmbamaaGreatPart4
import Derived.Test.YthicgffppmbamaaGreatPart5
namespace Go.Proofs.YthicgffppmbamaaGreat
open Go.RowKit

/-- a wanted page as a value -/
abbrev wpV (place length sum g c r : Nat) : Value := .agg #[.int .i64 place, .int .i64 length, .int .u32 sum, .int .i64 g, .int .i64 c, .int .i64 r]

set_option maxRecDepth 20000 in
set_option maxHeartbeats 1000000 in
theorem near_any (w : World) (b o pp pl place length sum g c r gap : Nat) (c0 : w.cell? ⟨b, o, none⟩ = some (.int .i64 pp)) (c1 : w.cell? ⟨b, o + 1, none⟩ = some (.int .i64 pl))
    (h1 : pp ≤ 1099511627775) (h2 : pl ≤ 1099511627775) (h3 : place ≤ 1099511627775) (_h4 : gap ≤ 1099511627775) :
    Calls Tryz.prog 163 #[PtrTo b o, wpV place length sum g c r, .int .i64 gap] w fun e w' => e = .returned (.bool (decide (place ≤ pp + pl + gap))) ∧ Ext w w' := by
  have hb : b < w.heap.size := World.block_lt_of_cell? w _ c0
  go_enter Tryz.func163, Tryz.ntmps163
  go_wp2_with fail
  have x0 : Ext w (w.alloc (.cells #[.int .i64 place, .int .i64 length, .int .u32 sum, .int .i64 g, .int .i64 c, .int .i64 r] 253)) := (Kp.refl _ _).alloc _
  have d0 : (w.alloc (.cells #[.int .i64 place, .int .i64 length, .int .u32 sum, .int .i64 g, .int .i64 c, .int .i64 r] 253)).cell? ⟨w.heap.size, 0, none⟩ = some (.int .i64 place) := World.cell?_alloc_new w _ _ 0
  generalize w.alloc (.cells #[.int .i64 place, .int .i64 length, .int .u32 sum, .int .i64 g, .int .i64 c, .int .i64 r] 253) = W1 at *
  have e0 := x0.cell c0 id
  have e1 := x0.cell c1 id
  clear c0 c1
  go_quiet (fail)
  go_wp2_with fail
  go_ret
  refine ⟨?_, x0.drewN nq⟩
  show Ending.returned (.bool (decide ((place : Int) - (pp + pl) ≤ gap))) = .returned (.bool (decide (place ≤ pp + pl + gap)))
  rw [show decide ((place : Int) - (pp + pl) ≤ gap) = decide (place ≤ pp + pl + gap) by rw [decide_eq_decide]; omega]

set_option maxRecDepth 20000 in
set_option maxHeartbeats 1000000 in
theorem lengthWith_any (w : World) (b o pp pl place length sum g c r : Nat) (c0 : w.cell? ⟨b, o, none⟩ = some (.int .i64 pp)) (c1 : w.cell? ⟨b, o + 1, none⟩ = some (.int .i64 pl))
    (h1 : pp ≤ 1099511627775) (_h2 : pl ≤ 1099511627775) (h3 : place ≤ 1099511627775) (h4 : length ≤ 1099511627775) (h5 : pp ≤ place) :
    Calls Tryz.prog 164 #[PtrTo b o, wpV place length sum g c r] w fun e w' => e = .returned (.int .i64 ((max pl (place + length - pp) : Nat) : Int)) ∧ Ext w w' := by
  have hb : b < w.heap.size := World.block_lt_of_cell? w _ c0
  go_enter Tryz.func164, Tryz.ntmps164
  go_wp2_with fail
  have x0 : Ext w (w.alloc (.cells #[.int .i64 place, .int .i64 length, .int .u32 sum, .int .i64 g, .int .i64 c, .int .i64 r] 253)) := (Kp.refl _ _).alloc _
  have d0 : (w.alloc (.cells #[.int .i64 place, .int .i64 length, .int .u32 sum, .int .i64 g, .int .i64 c, .int .i64 r] 253)).cell? ⟨w.heap.size, 0, none⟩ = some (.int .i64 place) := World.cell?_alloc_new w _ _ 0
  have d1 : (w.alloc (.cells #[.int .i64 place, .int .i64 length, .int .u32 sum, .int .i64 g, .int .i64 c, .int .i64 r] 253)).cell? ⟨w.heap.size, 1, none⟩ = some (.int .i64 length) := World.cell?_alloc_new w _ _ 1
  have d2 : (w.alloc (.cells #[.int .i64 place, .int .i64 length, .int .u32 sum, .int .i64 g, .int .i64 c, .int .i64 r] 253)).cell? ⟨w.heap.size, 2, none⟩ = some (.int .u32 sum) := World.cell?_alloc_new w _ _ 2
  generalize w.alloc (.cells #[.int .i64 place, .int .i64 length, .int .u32 sum, .int .i64 g, .int .i64 c, .int .i64 r] 253) = W1 at *
  have e0 := x0.cell c0 id
  have e1 := x0.cell c1 id
  clear c0 c1
  go_region_held3 (fun u => u.cell? ⟨b, o, none⟩ = some (.int .i64 pp) ∧ u.cell? ⟨b, o + 1, none⟩ = some (.int .i64 pl) ∧ u.cell? ⟨w.heap.size, 0, none⟩ = some (.int .i64 place) ∧ u.cell? ⟨w.heap.size, 1, none⟩ = some (.int .i64 length) ∧ u.cell? ⟨w.heap.size, 2, none⟩ = some (.int .u32 sum)) (first | go_keep | exact ⟨x1.cell e0 id, x1.cell e1 id, x1.cell d0 id, x1.cell d1 id, x1.cell d2 id⟩) (first | (go_at_call 173; refine (fpageEnd_any _ place length sum h3 h4).mono ?_; rintro e w' ⟨rfl, x1⟩) | fail)
  have hw : IntKind.i64.wrap ((place : Int) + length - pp) = ((place + length - pp : Nat) : Int) := by
    simp only [IntKind.wrap, IntKind.bits, IntKind.signed, Bool.true_and]
    rw [if_neg (by simp; omega)]
    omega
  have hx : Ext w w' := (x0.drew).trans x1
  have hm : (if (pl : Int) < ((place + length - pp : Nat) : Int) then ((place + length - pp : Nat) : Int) else (pl : Int)) = ((max pl (place + length - pp) : Nat) : Int) := by split <;> omega
  rw [hw, hm]
  go_wp2_with fail
  go_ret
  exact ⟨rfl, hx⟩
end Go.Proofs.YthicgffppmbamaaGreat

namespace Go.Proofs.YthicgffppmbamaaGreat
open Go.RowKit

theorem Own.set {w : World} {size n g cap : Nat} {cs : List Value} (h : Own w size (.slice (some ⟨g, 0, none⟩) n cap) n cs) (j : Nat) (hj : j < n * size) (u : Value) : Own (w.setCell ⟨g, j, none⟩ u) size (.slice (some ⟨g, 0, none⟩) n cap) n (cs.set j u) := by
  refine ⟨by rw [List.length_set]; exact h.1, ?_⟩
  rcases h.2 with ⟨e, _⟩ | ⟨g', cap', e, h1, h2, h3, h4, h5⟩
  · cases e
  · cases e
    have hc : ∀ i, (w.setCell ⟨g, j, none⟩ u).cell? ⟨g, i, none⟩ = if i = j then some u else w.cell? ⟨g, i, none⟩ := fun i => by
      by_cases hij : i = j
      · subst hij
        rw [if_pos rfl]
        have := h4 i hj
        rw [List.getElem?_eq_getElem (by rw [h.1]; exact hj)] at this
        exact World.cell?_setCell_same _ _ _ this
      · rw [if_neg hij]
        exact World.cell?_setCell_other _ _ _ _ (fun e => hij (by cases e; rfl))
    refine .inr ⟨g, cap, rfl, h1, h2, by simpa using h3, fun i hi => ?_, fun i hi => ⟨?_, by simpa using (h5 i hi).2⟩⟩
    · rw [hc, List.getElem?_set]
      by_cases hij : i = j
      · subst hij
        rw [if_pos rfl, if_pos rfl, if_pos (by rw [h.1]; exact hj)]
      · rw [if_neg hij, if_neg (fun e => hij e.symm)]
        exact h4 i hi
    · rw [hc]
      split
      · rfl
      · exact (h5 i hi).1
theorem Own.cellAt {w : World} {size n g cap : Nat} {cs : List Value} (h : Own w size (.slice (some ⟨g, 0, none⟩) n cap) n cs) (j : Nat) (hj : j < n * size) : w.cell? ⟨g, j, none⟩ = cs[j]? ∧ w.frozen? ⟨g, j, none⟩ = false := by
  rcases h.2 with ⟨e, _⟩ | ⟨g', cap', e, h1, h2, h3, h4, h5⟩
  · cases e
  · cases e
    exact ⟨h4 j hj, (h5 j (Nat.lt_of_lt_of_le hj (Nat.mul_le_mul_right _ h1))).2⟩
def zWp : Value := .agg #[.int .i64 0, .int .i64 0, .int .u32 0, .int .i64 0, .int .i64 0, .int .i64 0]
theorem infoWp : (Tryz.prog.info? 253).map (fun i => (i.zero, i.size, i.bytes)) = some (some zWp, 6, 48) := by kernel_rfl
theorem get_mid {α : Type} (A : List α) (x y z : α) : (A ++ [x, y, z])[A.length]? = some x ∧ (A ++ [x, y, z])[A.length + 1]? = some y ∧ (A ++ [x, y, z])[A.length + 2]? = some z := by
  refine ⟨?_, ?_, ?_⟩
  · rw [List.getElem?_append_right (Nat.le_refl _), Nat.sub_self]; rfl
  · rw [List.getElem?_append_right (by omega), show A.length + 1 - A.length = 1 by omega]; rfl
  · rw [List.getElem?_append_right (by omega), show A.length + 2 - A.length = 2 by omega]; rfl
theorem set_mid {α : Type} (A : List α) (x y z u : α) : (A ++ [x, y, z]).set (A.length + 1) u = A ++ [x, u, z] ∧ (A ++ [x, y, z]).set (A.length + 2) u = A ++ [x, y, u] := by
  refine ⟨?_, ?_⟩
  · rw [List.set_append_right _ _ (by omega), show A.length + 1 - A.length = 1 by omega]; rfl
  · rw [List.set_append_right _ _ (by omega), show A.length + 2 - A.length = 2 by omega]; rfl
theorem wp_one (x : Pl.WPage) : ∀ u ∈ wpCells x, u.oneCell' = true := by
  intro u hu
  simp [wpCells] at hu
  rcases hu with rfl | rfl | rfl | rfl | rfl | rfl <;> rfl

set_option maxRecDepth 20000 in
set_option maxHeartbeats 2000000 in
theorem add_any (w : World) (b cap L pp pl n : Nat) (A : List Value) (pv : Value) (cs : List Value) (x : Pl.WPage) (hA : A.length = L * 3) (hO : Own w 3 (.slice (some ⟨b, 0, none⟩) (L + 1) cap) (L + 1) (A ++ [I pp, I pl, pv])) (hP : Own w 6 pv n cs) (hne : ∀ g, pv.ownBlock = some g → g ≠ b) (hn : n ≤ 1000)
    (h1 : pp ≤ 1099511627775) (h2 : pl ≤ 1099511627775) (h3 : x.page.place ≤ 1099511627775) (h4 : x.page.length ≤ 1099511627775) (h5 : pp ≤ x.page.place) :
    Calls Tryz.prog 165 #[PtrTo b (L * 3), wpV x.page.place x.page.length x.page.sum x.group x.column x.rows] w fun e w' => e = .returned (.tuple #[]) ∧ ∃ pv', Own w' 3 (.slice (some ⟨b, 0, none⟩) (L + 1) cap) (L + 1) (A ++ [I pp, I (max pl (x.page.place + x.page.length - pp) : Nat), pv']) ∧ Own w' 6 pv' (n + 1) (cs ++ wpCells x) ∧ Sep w pv pv' ∧ Kp (fun k => k = b ∨ Of pv k) w w' := by
  rw [← hA]
  obtain ⟨g0, g1, g2⟩ := get_mid A (I pp) (I pl) pv
  have c0 := (hO.cellAt A.length (by omega)).1.trans g0
  have c1 := (hO.cellAt (A.length + 1) (by omega)).1.trans g1
  have c2 := (hO.cellAt (A.length + 2) (by omega)).1.trans g2
  have f1 := (hO.cellAt (A.length + 1) (by omega)).2
  have f2 := (hO.cellAt (A.length + 2) (by omega)).2
  simp only [I] at c0 c1
  clear g0 g1 g2
  have hbl : b < w.heap.size := World.block_lt_of_cell? w _ c0
  have HA := hide hA
  clear hA
  obtain ⟨pa, pc, rfl, -⟩ := hP.shape
  have hPb : ∀ g, (Value.slice pa n pc).ownBlock = some g → g < w.heap.size := fun g e => hP.lt e
  go_enter Tryz.func165, Tryz.ntmps165
  go_upto_region 1 with fail
  have x0 : Ext w (w.alloc (.cells #[.int .i64 x.page.place, .int .i64 x.page.length, .int .u32 x.page.sum, .int .i64 x.group, .int .i64 x.column, .int .i64 x.rows] 253)) := (Kp.refl _ _).alloc _
  have b0 := Blk.of_alloc w [.int .i64 x.page.place, .int .i64 x.page.length, .int .u32 x.page.sum, .int .i64 x.group, .int .i64 x.column, .int .i64 x.rows] 253
  generalize w.alloc (.cells #[.int .i64 x.page.place, .int .i64 x.page.length, .int .u32 x.page.sum, .int .i64 x.group, .int .i64 x.column, .int .i64 x.rows] 253) = W1 at *
  have c0' := x0.cell c0 id
  have c1' := x0.cell c1 id
  have c2' := x0.cell c2 id
  have d0 := b0.cell 0
  have d1 := b0.cell 1
  have d2 := b0.cell 2
  have d3 := b0.cell 3
  have d4 := b0.cell 4
  have d5 := b0.cell 5
  simp only [List.getElem?_cons_zero, List.getElem?_cons_succ] at d0 d1 d2 d3 d4 d5
  have hmx : Hid (∀ u, Ext W1 u → u.cell? ⟨b, A.length + 1, none⟩ = some (.int .i64 pl) ∧ u.frozen? ⟨b, A.length + 1, none⟩ = false) := hide fun u hu => ⟨hu.cell c1' id, by rw [World.frozen?_of_block (w := w) (a := ⟨b, A.length + 1, none⟩) ((x0.trans hu).block b hbl id)]; exact f1⟩
  have HLW := hide (lengthWith_any W1 b A.length pp pl x.page.place x.page.length x.page.sum x.group x.column x.rows c0' c1' h1 h2 h3 h4 h5)
  obtain ⟨mx, hmx0⟩ : ∃ mx, mx = max pl (x.page.place + x.page.length - pp) := ⟨_, rfl⟩
  rw [← hmx0] at HLW
  have HM := hide hmx0
  clear hmx0
  go_wp2_with (go_at_call 164; refine (unhide HLW).mono ?_; rintro e w2 ⟨rfl, x2⟩; obtain ⟨q1, q2⟩ := (unhide hmx) w2 x2)
  have hO2 := hO.ext (x0.trans x2)
  have hO3 := hO2.set (A.length + 1) (by have := HA.out; omega) (.int .i64 mx)
  rw [(set_mid A (I pp) (I pl) (.slice pa n pc) (.int .i64 mx)).1] at hO3
  have k3 := kp_set' w2 b (A.length + 1) (.int .i64 mx)
  have hP3 := (hP.ext (x0.trans x2)).kept k3 (fun g e => hne g e)
  have hb3 := (b0.kept x2 id).kept k3 (by omega)
  have xw3 : Kp (fun k => k = b) w (w2.setCell ⟨b, A.length + 1, none⟩ (.int .i64 mx)) := (Kp.of_ext (x0.trans x2)).trans k3
  clear hO2 c0 c1 c2 f1 f2 c0' c1' c2' d0 d1 d2 d3 d4 d5 b0 hO hP q1 q2
  generalize w2.setCell ⟨b, A.length + 1, none⟩ (.int .i64 mx) = W3 at *
  obtain ⟨g0, g1, g2⟩ := get_mid A (I pp) (.int .i64 mx) (.slice pa n pc)
  have c2 := (hO3.cellAt (A.length + 2) (by have := HA.out; omega)).1.trans g2
  have f2 := (hO3.cellAt (A.length + 2) (by have := HA.out; omega)).2
  clear g0 g1 g2
  have d := fun j => hb3.cell j
  have hS : ∀ u, Kp (fun k => k ≠ b ∧ k ≠ w.heap.size) W3 u → u.cell? ⟨b, A.length + 2, none⟩ = some (.slice pa n pc) ∧ u.cell? ⟨w.heap.size, 0, none⟩ = some (.int .i64 x.page.place) ∧ u.cell? ⟨w.heap.size, 1, none⟩ = some (.int .i64 x.page.length) ∧ u.cell? ⟨w.heap.size, 2, none⟩ = some (.int .u32 x.page.sum) ∧ u.cell? ⟨w.heap.size, 3, none⟩ = some (.int .i64 x.group) ∧ u.cell? ⟨w.heap.size, 4, none⟩ = some (.int .i64 x.column) ∧ u.cell? ⟨w.heap.size, 5, none⟩ = some (.int .i64 x.rows) :=
    fun u hu => ⟨hu.cell c2 (by simp), hu.cell (d 0) (by simp), hu.cell (d 1) (by simp), hu.cell (d 2) (by simp), hu.cell (d 3) (by simp), hu.cell (d 4) (by simp), hu.cell (d 5) (by simp)⟩
  have HS := hide hS
  clear hS d
  have hx1 : Kp (fun k => k ≠ b ∧ k ≠ w.heap.size) W3 W3.drew := (Kp.refl _ _).drew
  have hb3l : b < W3.heap.size := Nat.lt_of_lt_of_le hbl xw3.size
  refine wp_region_late (n := 10) (Kp (fun k => k ≠ b ∧ k ≠ w.heap.size) W3) (by kernel_rfl) ?_
  refine Late.take (i := 0) (oi := ⟨some 10, .move (.tmp 0), 262, "pieces.go:68", #[], none⟩) (v := ?_) [10] rfl (by kernel_rfl) (by kernel_rfl) (by decide) (by decide) (by kernel_rfl) (by kernel_rfl) (by kernel_rfl) (fun _ _ _ h => h) rfl ?_ hx1 ?_
  rotate_left
  · (intro u hu; obtain ⟨u0, u1, u2, u3, u4, u5, u6⟩ := (unhide HS) u hu; go_simp; first | done | with_reducible rfl)
  try simp only [Act.put, List.setIfInBounds_toArray, List.set_cons_zero, List.set_cons_succ]
  refine Late.take (i := 1) (oi := ⟨some 11, .move (.tmp 0), 262, "pieces.go:68", #[], none⟩) (v := ?_) [10] rfl (by kernel_rfl) (by kernel_rfl) (by decide) (by decide) (by kernel_rfl) (by kernel_rfl) (by kernel_rfl) (fun _ _ _ h => h) rfl ?_ hx1 ?_
  rotate_left
  · (intro u hu; obtain ⟨u0, u1, u2, u3, u4, u5, u6⟩ := (unhide HS) u hu; go_simp; first | done | with_reducible rfl)
  try simp only [Act.put, List.setIfInBounds_toArray, List.set_cons_zero, List.set_cons_succ]
  refine Late.take (i := 2) (oi := ⟨some 12, .nilCheck (.tmp 11), 0, "pieces.go:68", #[⟨1, .data⟩], none⟩) (v := ?_) [10] rfl (by kernel_rfl) (by kernel_rfl) (by decide) (by decide) (by kernel_rfl) (by kernel_rfl) (by kernel_rfl) (fun _ _ _ h => h) rfl ?_ hx1 ?_
  rotate_left
  · (intro u hu; obtain ⟨u0, u1, u2, u3, u4, u5, u6⟩ := (unhide HS) u hu; go_simp; first | done | with_reducible rfl)
  try simp only [Act.put, List.setIfInBounds_toArray, List.set_cons_zero, List.set_cons_succ]
  refine Late.take (i := 3) (oi := ⟨some 13, .fieldAddr 235 (.tmp 12) 2, 0, "pieces.go:68", #[⟨2, .data⟩], none⟩) (v := ?_) [10] rfl (by kernel_rfl) (by kernel_rfl) (by decide) (by decide) (by kernel_rfl) (by kernel_rfl) (by kernel_rfl) (fun _ _ _ h => h) rfl ?_ hx1 ?_
  rotate_left
  · (intro u hu; obtain ⟨u0, u1, u2, u3, u4, u5, u6⟩ := (unhide HS) u hu; go_simp; first | done | with_reducible rfl)
  try simp only [Act.put, List.setIfInBounds_toArray, List.set_cons_zero, List.set_cons_succ]
  refine Late.take (i := 4) (oi := ⟨some 14, .load 232 (.tmp 13), 232, "pieces.go:68", #[⟨3, .data⟩], none⟩) (v := ?_) [10] rfl (by kernel_rfl) (by kernel_rfl) (by decide) (by decide) (by kernel_rfl) (by kernel_rfl) (by kernel_rfl) (fun _ _ _ h => h) rfl ?_ hx1 ?_
  rotate_left
  · (intro u hu; obtain ⟨u0, u1, u2, u3, u4, u5, u6⟩ := (unhide HS) u hu; go_simp; first | done | with_reducible rfl)
  try simp only [Act.put, List.setIfInBounds_toArray, List.set_cons_zero, List.set_cons_succ]
  refine Late.take (i := 5) (oi := ⟨some 15, .load 253 (.tmp 3), 253, "pieces.go:68", #[], none⟩) (v := ?_) [10] rfl (by kernel_rfl) (by kernel_rfl) (by decide) (by decide) (by kernel_rfl) (by kernel_rfl) (by kernel_rfl) (fun _ _ _ h => h) rfl ?_ hx1 ?_
  rotate_left
  · (intro u hu; obtain ⟨u0, u1, u2, u3, u4, u5, u6⟩ := (unhide HS) u hu; go_simp; first | done | with_reducible rfl)
  try simp only [Act.put, List.setIfInBounds_toArray, List.set_cons_zero, List.set_cons_succ]
  refine Late.one (i := 6) (o := ⟨some 16, .buildSlice 232 1 #[(0, .tmp 15)], 232, "pieces.go:68", #[⟨5, .data⟩], none⟩) (by kernel_rfl) rfl (fun K hK => ?_)
  go_simp
  refine hK _ _ (fun _ => hx1.alloc _) ?_
  clear hK K
  try simp only [Act.put, List.setIfInBounds_toArray, List.set_cons_zero, List.set_cons_succ]
  refine Late.one (i := 7) (o := ⟨some 17, .call { callee := .builtin .append, args := #[.tmp 14, .tmp 16], argTypes := #[232, 232] }, 232, "pieces.go:68", #[⟨4, .data⟩, ⟨6, .data⟩], none⟩) (by kernel_rfl) rfl (fun K hK => ?_)
  refine step_append_g rfl _ _ 232 232 rfl 253 zWp 6 48 Tryz.underlying232 infoWp rfl _ _ _ (by rfl) (hP3.ext ((Kp.refl _ _).drew.alloc _)) _ (by rfl) 1 _ (src_elemN' W3.drew W3.drew.heap.size rfl _ _ Tryz.underlying232 _ (wpCells x) rfl (wp_one x)) (by omega) (by omega) ?_
  intro v' w5 o5 k5 s5
  have g5 : Kp (fun k => k ≠ b ∧ k ≠ w.heap.size) W3 w5 := (hx1.alloc _).trans (k5.mono (fun i _ e => ⟨hne i e, by have := hPb i e; omega⟩))
  refine hK _ _ (fun _ => g5) ?_
  clear hK K
  obtain ⟨a', c', rfl, hc'⟩ := o5.shape
  try simp only [Act.put, List.setIfInBounds_toArray, List.set_cons_zero, List.set_cons_succ]
  have c5 : w5.cell? ⟨b, A.length + 2, none⟩ = some (.slice pa n pc) := g5.cell c2 (by simp)
  have f5 : w5.frozen? ⟨b, A.length + 2, none⟩ = false := by rw [World.frozen?_of_block (w := W3) (a := ⟨b, A.length + 2, none⟩) (g5.block _ hb3l (by simp))]; exact f2
  refine Late.one (i := 8) (o := ⟨some 18, .nilCheck (.tmp 10), 0, "pieces.go:68", #[⟨0, .data⟩, ⟨0, .phase⟩, ⟨1, .phase⟩, ⟨2, .phase⟩, ⟨3, .phase⟩, ⟨4, .phase⟩, ⟨5, .phase⟩, ⟨6, .phase⟩, ⟨7, .phase⟩], none⟩) (by kernel_rfl) rfl (fun K hK => ?_)
  go_simp
  refine hK _ _ (fun _ => g5) ?_
  clear hK K
  try simp only [Act.put, List.setIfInBounds_toArray, List.set_cons_zero, List.set_cons_succ]
  refine Late.one (i := 9) (o := ⟨some 19, .fieldAddr 235 (.tmp 18) 2, 0, "pieces.go:68", #[⟨8, .data⟩, ⟨0, .phase⟩, ⟨1, .phase⟩, ⟨2, .phase⟩, ⟨3, .phase⟩, ⟨4, .phase⟩, ⟨5, .phase⟩, ⟨6, .phase⟩, ⟨7, .phase⟩], none⟩) (by kernel_rfl) rfl (fun K hK => ?_)
  go_simp
  refine hK _ _ (fun _ => g5) ?_
  clear hK K
  try simp only [Act.put, List.setIfInBounds_toArray, List.set_cons_zero, List.set_cons_succ]
  refine Late.one (i := 10) (o := ⟨none, .store 232 (.tmp 19) (.tmp 17), 0, "pieces.go:68", #[⟨9, .data⟩, ⟨7, .data⟩, ⟨7, .chain⟩, ⟨0, .phase⟩, ⟨1, .phase⟩, ⟨2, .phase⟩, ⟨3, .phase⟩, ⟨4, .phase⟩, ⟨5, .phase⟩, ⟨6, .phase⟩, ⟨7, .phase⟩], none⟩) (by kernel_rfl) rfl (fun K hK => ?_)
  go_simp
  refine hK _ _ (fun h => absurd rfl h) ?_
  clear hK K
  try simp only [Act.put, List.setIfInBounds_toArray, List.set_cons_zero, List.set_cons_succ]
  refine Late.done (by kernel_rfl) ?_ _
  go_end0
  have ks := kp_set' w5 b (A.length + 2) (.slice a' (n + 1) c')
  have x35 : Kp (Of (.slice pa n pc)) W3 w5 := ((Kp.refl _ _).drew.alloc _).trans k5
  have hO5 := (hO3.kept x35 (fun g e he => hne g he (by simp [Value.ownBlock] at e; exact e.symm))).set (A.length + 2) (by have := HA.out; omega) (.slice a' (n + 1) c')
  rw [(set_mid A (I pp) (.int .i64 mx) (.slice pa n pc) (.slice a' (n + 1) c')).2] at hO5
  have s5' : Sep w (.slice pa n pc) (.slice a' (n + 1) c') := Sep.mono (by have := xw3.size; simp; omega) s5
  have hnew : ∀ g, (Value.slice a' (n + 1) c').ownBlock = some g → g ≠ b := fun g e => by
    rcases s5' with e' | ⟨g', e1, e2⟩
    · rw [e'] at e; exact hne g e
    · rw [e1] at e; simp only [Option.some.injEq] at e; subst e; omega
  rw [← HM.out]
  exact ⟨rfl, _, hO5, o5.kept ks hnew, s5', ((xw3.mono (fun _ _ e => .inl e)).trans (x35.mono (fun _ _ e => .inr e))).trans (ks.mono (fun _ _ e => .inl e))⟩
end Go.Proofs.YthicgffppmbamaaGreat

namespace Go.Proofs.YthicgffppmbamaaGreat
open Go.RowKit

/-- append where there is room -/
theorem step_append_room {P : Program} {ops : Array Oper} {o : Oper} {a : Act} {w : World} {K : Act → World → Prop} {Q : Exit → Act → World → Prop} {E : Prop}
    (hg : o.guard = none) (s x : Operand) (t tx : TypeId) (ho : o.op = .call { callee := .builtin .append, args := #[s, x], argTypes := #[t, tx] }) (e : TypeId) (z : Value) (size bytes : Nat) (ht : P.underlying t = some (.slice e)) (hinfo : (P.info? e).map (fun i => (i.zero, i.size, i.bytes)) = some (some z, size, bytes)) (hzc : z.cells.size = size)
    (g n cap : Nat) (cs : List Value) (hv : a.eval s = .slice (some ⟨g, 0, none⟩) n cap) (hown : Own w size (.slice (some ⟨g, 0, none⟩) n cap) n cs) (xv : Value) (hx : a.eval x = xv) (m : Nat) (news : List Value) (hs : Src P size tx xv m news w) (hroom : n + m ≤ cap) (hb : (n + m) * bytes ≤ 140737488355328) (hm : n + m ≤ 1000000000000000)
    (hK : ∀ w', Own w' size (.slice (some ⟨g, 0, none⟩) (n + m) cap) (n + m) (cs ++ news) → Kp (fun k => k = g) w w' → K (a.put o.dst (.slice (some ⟨g, 0, none⟩) (n + m) cap)) w') :
    if Region.wanted o (yielded ops a.tmps) = true then Oper.wp P o a w K Q else E := by
  have hw : Region.wanted o (yielded ops a.tmps) = true := by simp [Region.wanted, hg]
  rw [if_pos hw]
  obtain ⟨v', w', hrun, r1, r2, r3⟩ := run_append_g P w t e tx o.type z size bytes ht hinfo hzc _ n cs hown xv m news hs hb hm
  obtain ⟨i0, hi, hz0, hz1, hz2⟩ := info_parts hinfo
  have hs' : Src P i0.size tx xv m news w := by rw [hz1]; exact hs
  have hnl : news.length = m * size := hs.newsLen
  have hext : ∀ j, j < cap * size → (w.cell? ⟨g, j, none⟩).isSome = true ∧ w.frozen? ⟨g, j, none⟩ = false := by
    rcases hown.2 with ⟨e, _⟩ | ⟨g', cap', e, _, _, _, _, h5⟩
    · cases e
    · cases e; exact h5
  have hcs : (n + m) * size ≤ cap * size := Nat.mul_le_mul_right _ hroom
  rw [Nat.add_mul] at hcs
  have hrun2 := run_append_room_src (P := P) w t tx o.type e i0 ht hi g 0 n cap xv m news hs' hroom
    (fun j hj => by rw [hz1, Nat.zero_add]; exact (hext _ (by omega)).1) (fun j hj => by rw [hz1, Nat.zero_add]; exact (hext _ (by omega)).2)
  rw [Nat.zero_add] at hrun2
  rw [hrun2] at hrun
  simp only [Result.ok.injEq] at hrun
  obtain ⟨e1, e2⟩ := hrun
  subst e1
  unfold Oper.wp
  simp [execOp, ho, resolve, invoke, builtin, hv, hx, hrun2, Result.andThen]
  rw [e2]
  exact hK w' r1 (r2.mono (fun k _ e => (Option.some.inj (show some g = some k from e)).symm))

def reqZ : List Value := [.int .i64 0, .int .i64 0, .int .i64 0, .nilFunc, .nilFunc]
theorem zero_req (w : World) : (zeroValue 169).run Tryz.prog w = .ok zReq w := by
  obtain ⟨i, hi, hz0, hz1, hz2⟩ := info_parts infoReq
  simp [zeroValue, typeInfo, hi, hz0]
theorem run_clear_req (w : World) (ty : TypeId) (b o c : Nat) (hc : ∀ j, j < 5 → (w.cell? ⟨b, o + j, none⟩).isSome = true) (hf : ∀ j, j < 5 → w.frozen? ⟨b, o + j, none⟩ = false) :
    (Builtin.clear_ #[133] ty #[.slice (some ⟨b, o, none⟩) 1 c]).run Tryz.prog w = .ok (.tuple #[]) (w.setCells b o reqZ) := by
  have hzc : (Builtin.zeroCells zReq.cells 1).toList = reqZ := by kernel_rfl
  have hst := run_storeCells_cells (P := Tryz.prog) b o reqZ 0 w (by simpa [reqZ] using hc) (by simpa [reqZ] using hf) (by intro v hv; simp [reqZ] at hv; rcases hv with rfl | rfl <;> rfl)
  simp only [Nat.add_zero] at hst
  have hzr := zero_req
  unfold zReq at hzc hzr
  simp [Builtin.clear_, run_underlying Tryz.underlying133, hzr, hzc, hst]
theorem Own.beyond {w : World} {s n g cap : Nat} {cs : List Value} (h : Own w s (.slice (some ⟨g, 0, none⟩) n cap) n cs) (o : Nat) (vs : List Value) (ho : n * s ≤ o) (hl : o + vs.length ≤ cap * s) : Own (w.setCells g o vs) s (.slice (some ⟨g, 0, none⟩) n cap) n cs := by
  refine ⟨h.1, ?_⟩
  rcases h.2 with ⟨e, _⟩ | ⟨g', cap', e, h1, h2, h3, h4, h5⟩
  · cases e
  · cases e
    have hsz := (World.keptBut_setCells g (may := fun _ => True) vs o w (fun _ _ => trivial)).size
    refine .inr ⟨g, cap, rfl, h1, h2, by omega, fun j hj => ?_, fun j hj => ⟨?_, by rw [World.frozen?_setCells]; exact (h5 j hj).2⟩⟩
    · rw [World.cell?_setCells_out g _ _ _ _ (fun _ _ => Or.inl (by show j < o; omega))]
      exact h4 j hj
    · by_cases hc : j < o ∨ o + vs.length ≤ j
      · rw [World.cell?_setCells_out g _ _ _ _ (fun _ _ => hc)]; exact (h5 j hj).1
      · have := World.cell?_setCells_in g vs o w (fun j' hj' => (h5 _ (by omega)).1) (j - o) (by omega)
        rw [show o + (j - o) = j by omega] at this
        rw [this]
        rfl
theorem Own.prefix {w : World} {s n g cap : Nat} {cs : List Value} (h : Own w s (.slice (some ⟨g, 0, none⟩) n cap) n cs) (q : Nat) (hq : q ≤ n) : Own w s (.slice (some ⟨g, 0, none⟩) q cap) q (cs.take (q * s)) := by
  have hqs : q * s ≤ n * s := Nat.mul_le_mul_right _ hq
  refine ⟨by rw [List.length_take, h.1]; omega, ?_⟩
  rcases h.2 with ⟨e, _⟩ | ⟨g', cap', e, h1, h2, h3, h4, h5⟩
  · cases e
  · cases e
    refine .inr ⟨g, cap, rfl, by omega, h2, h3, fun j hj => ?_, h5⟩
    rw [List.getElem?_take_of_lt hj]
    exact h4 j (by omega)
theorem Own.there {w : World} {s n g cap : Nat} {cs : List Value} (h : Own w s (.slice (some ⟨g, 0, none⟩) n cap) n cs) : n ≤ cap ∧ ∀ j, j < cap * s → (w.cell? ⟨g, j, none⟩).isSome = true ∧ w.frozen? ⟨g, j, none⟩ = false := by
  rcases h.2 with ⟨e, _⟩ | ⟨g', cap', e, h1, h2, h3, h4, h5⟩
  · cases e
  · cases e
    exact ⟨h1, h5⟩

set_option maxRecDepth 20000 in
set_option maxHeartbeats 2000000 in
theorem delete_any (w : World) (g cap k i j : Nat) (cs : List Value) (hO : Own w 5 (.slice (some ⟨g, 0, none⟩) (k + 1) cap) (k + 1) cs) (hone : ∀ u ∈ cs, u.oneCell' = true) (hi : i ≤ k) (hk : k ≤ 1000) (hj : j = i + 1) :
    Calls Tryz.prog 128 #[.slice (some ⟨g, 0, none⟩) (k + 1) cap, .int .i64 i, .int .i64 j] w fun e w' => e = .returned (.slice (some ⟨g, 0, none⟩) k cap) ∧ Own w' 5 (.slice (some ⟨g, 0, none⟩) k cap) k (cs.take (i * 5) ++ cs.drop ((i + 1) * 5)) ∧ Kp (fun k => k = g) w w' := by
  obtain ⟨hkc, hth⟩ := hO.there
  have hcell := fun j hj => (hO.cellAt j hj).1
  have hP := hO.prefix i (by omega)
  have hlen := hO.1
  have hsrc : ∀ u, Ext w u → Src Tryz.prog 5 133 (.slice (if cap = j then some ⟨g, 0, none⟩ else some ⟨g, j * 5, none⟩) (k + 1 - j) (cap - j)) (k - i) (cs.drop ((i + 1) * 5)) u := fun u hu => by
    have hkj : k + 1 - j = k - i := by omega
    rw [hkj]
    by_cases hc : cap = j
    · rw [if_pos hc]
      have h0 : cs.drop ((i + 1) * 5) = [] := List.drop_eq_nil_of_le (by rw [hlen]; omega)
      rw [h0, show k - i = 0 by omega]
      exact Src.ofSlice (P := Tryz.prog) _ (e' := 169) Tryz.underlying133 _ _ _ _ (by simp) (fun j u hu => by simp at hu) (fun u hu => by simp at hu)
    · rw [if_neg hc]
      exact Src.ofSlice (P := Tryz.prog) _ (e' := 169) Tryz.underlying133 _ _ _ _ (by rw [List.length_drop, hlen]; omega) (fun q u' hu' => by
        rw [List.getElem?_drop] at hu'
        have hq := (List.getElem?_eq_some_iff.1 hu').1
        rw [Addr.add_lit, hj]
        exact hu.cell ((hcell _ (by omega)).trans hu') id) (fun u hu => hone u (List.mem_of_mem_drop hu))
  have HSRC := hide hsrc
  have HO := hide hO
  have HJ := hide hj
  have h1 : i < j := by omega
  have h2 : j ≤ k + 1 := by omega
  have h3 : i ≤ cap := by omega
  have h4 : j ≤ cap := by omega
  have h5 : i ≤ j := by omega
  have h6 : ¬ (i : Int) = (j : Int) := by omega
  have h7 : k ≤ cap := by omega
  have h8 : (j : Int) ≤ (k : Int) + 1 := by omega
  have HN : Hid (i + (k - i) = k) := hide (by omega)
  have HTH := hide hth
  clear hj hsrc hO hcell hlen hth
  go_enter Tryz.func128, Tryz.ntmps128
  go_wp2_with fail
  have hx1 : Kp (fun k => k = g) w w.drew := (Kp.refl _ _).drew
  have xd : Ext w w.drew := (Kp.refl _ _).drew
  refine wp_region_late (n := 7) (Kp (fun k => k = g) w) (by kernel_rfl) ?_
  refine Late.take (i := 0) (oi := ⟨some 20, .move (.tmp 0), 133, "slices.go:232", #[], none⟩) (v := ?_) [7] rfl (by kernel_rfl) (by kernel_rfl) (by decide) (by decide) (by kernel_rfl) (by kernel_rfl) (by kernel_rfl) (fun _ _ _ h => h) rfl ?_ hx1 ?_
  rotate_left
  · (intro u hu; skip; go_simp; first | done | with_reducible rfl)
  try simp only [Act.put, List.setIfInBounds_toArray, List.set_cons_zero, List.set_cons_succ]
  refine Late.take (i := 1) (oi := ⟨some 21, .move (.tmp 1), 3, "slices.go:232", #[], none⟩) (v := ?_) [7] rfl (by kernel_rfl) (by kernel_rfl) (by decide) (by decide) (by kernel_rfl) (by kernel_rfl) (by kernel_rfl) (fun _ _ _ h => h) rfl ?_ hx1 ?_
  rotate_left
  · (intro u hu; skip; go_simp; first | done | with_reducible rfl)
  try simp only [Act.put, List.setIfInBounds_toArray, List.set_cons_zero, List.set_cons_succ]
  refine Late.take (i := 2) (oi := ⟨some 22, .slice 133 (.tmp 20) none (some (.tmp 21)) none, 133, "slices.go:232", #[⟨0, .data⟩, ⟨1, .data⟩], none⟩) (v := ?_) [7] rfl (by kernel_rfl) (by kernel_rfl) (by decide) (by decide) (by kernel_rfl) (by kernel_rfl) (by kernel_rfl) (fun _ _ _ h => h) rfl ?_ hx1 ?_
  rotate_left
  · (intro u hu; skip; go_simp; first | done | with_reducible rfl)
  try simp only [Act.put, List.setIfInBounds_toArray, List.set_cons_zero, List.set_cons_succ]
  refine Late.take (i := 3) (oi := ⟨some 23, .move (.tmp 0), 133, "slices.go:232", #[], none⟩) (v := ?_) [7] rfl (by kernel_rfl) (by kernel_rfl) (by decide) (by decide) (by kernel_rfl) (by kernel_rfl) (by kernel_rfl) (fun _ _ _ h => h) rfl ?_ hx1 ?_
  rotate_left
  · (intro u hu; skip; go_simp; first | done | with_reducible rfl)
  try simp only [Act.put, List.setIfInBounds_toArray, List.set_cons_zero, List.set_cons_succ]
  refine Late.take (i := 4) (oi := ⟨some 24, .move (.tmp 2), 3, "slices.go:232", #[], none⟩) (v := ?_) [7] rfl (by kernel_rfl) (by kernel_rfl) (by decide) (by decide) (by kernel_rfl) (by kernel_rfl) (by kernel_rfl) (fun _ _ _ h => h) rfl ?_ hx1 ?_
  rotate_left
  · (intro u hu; skip; go_simp; first | done | with_reducible rfl)
  try simp only [Act.put, List.setIfInBounds_toArray, List.set_cons_zero, List.set_cons_succ]
  refine Late.take (i := 5) (oi := ⟨some 25, .slice 133 (.tmp 23) (some (.tmp 24)) none none, 133, "slices.go:232", #[⟨3, .data⟩, ⟨4, .data⟩], none⟩) (v := ?_) [7] rfl (by kernel_rfl) (by kernel_rfl) (by decide) (by decide) (by kernel_rfl) (by kernel_rfl) (by kernel_rfl) (fun _ _ _ h => h) rfl ?_ hx1 ?_
  rotate_left
  · (intro u hu; skip; go_simp; first | done | with_reducible rfl)
  try simp only [Act.put, List.setIfInBounds_toArray, List.set_cons_zero, List.set_cons_succ]
  refine Late.one (i := 6) (o := ⟨some 26, .call { callee := .builtin .append, args := #[.tmp 22, .tmp 25], argTypes := #[133, 133] }, 133, "slices.go:232", #[⟨2, .data⟩, ⟨5, .data⟩], none⟩) (by kernel_rfl) rfl (fun K hK => ?_)
  refine step_append_room rfl _ _ 133 133 rfl 169 zReq 5 40 Tryz.underlying133 infoReq rfl g i cap _ (by rfl) (hP.ext xd) _ (by rfl) _ _ ((unhide HSRC) _ xd) (by omega) (by omega) (by omega) ?_
  rw [HN.out]
  intro w5 o5 k5
  have g5 : Kp (fun k => k = g) w w5 := hx1.trans k5
  refine hK _ _ (fun _ => g5) ?_
  clear hK K
  try simp only [Act.put, List.setIfInBounds_toArray, List.set_cons_zero, List.set_cons_succ]
  refine Late.one (i := 7) (o := ⟨some 0, .assign (.tmp 26), 133, "slices.go:232", #[⟨6, .data⟩, ⟨6, .chain⟩, ⟨0, .phase⟩, ⟨1, .phase⟩, ⟨2, .phase⟩, ⟨3, .phase⟩, ⟨4, .phase⟩, ⟨5, .phase⟩, ⟨6, .phase⟩], none⟩) (by kernel_rfl) rfl (fun K hK => ?_)
  go_simp
  refine hK _ _ (fun h => absurd rfl h) ?_
  clear hK K
  try simp only [Act.put, List.setIfInBounds_toArray, List.set_cons_zero, List.set_cons_succ]
  refine Late.done (by kernel_rfl) ?_ _
  have hth5 := o5.there.2
  have hcl := run_clear_req w5 0 g (k * 5) (cap - k) (fun q hq => (hth5 (k * 5 + q) (by omega)).1) (fun q hq => (hth5 (k * 5 + q) (by omega)).2)
  have o6 := o5.beyond (k * 5) reqZ (Nat.le_refl _) (by show k * 5 + 5 ≤ cap * 5; omega)
  have k6 := kp_setCells g reqZ (k * 5) w5
  have hck : ¬ cap = k := by omega
  have h9 : k + 1 - k = 1 := by omega
  have h10 : (k : Int) ≤ (k : Int) + 1 := by omega
  generalize w5.setCells g (k * 5) reqZ = W6 at *
  go_wp2_with fail
  all_goals go_ret
  · rw [h] at o6
    exact ⟨rfl, o6, g5.trans k6⟩
  · exact ⟨rfl, o6, g5.trans k6⟩

theorem reqRow_append (p1 p2 : List Nat) (l1 l2 : List (Nat × Pl.Part)) (h : p1.length = l1.length) : reqRow (p1 ++ p2) (l1 ++ l2) = reqRow p1 l1 ++ reqRow p2 l2 := by
  unfold reqRow
  rw [List.zipWith_append h, List.flatten_append]
theorem reqRow_len (ps : List Nat) : ∀ (l : List (Nat × Pl.Part)), ps.length = l.length → (reqRow ps l).length = l.length * 5 := by
  induction ps with
  | nil => intro l h; simp at h; rw [List.eq_nil_of_length_eq_zero h.symm]; rfl
  | cons a r ih =>
    intro l h
    cases l with
    | nil => simp at h
    | cons p l =>
      simp at h
      have := ih l h
      unfold reqRow at *
      simp only [List.zipWith_cons_cons, List.flatten_cons, List.length_append, List.length_cons, this]
      show 5 + _ = _
      omega
theorem reqRow_erase (ps : List Nat) (l : List (Nat × Pl.Part)) (h : ps.length = l.length) (i : Nat) (hi : i < l.length) : (reqRow ps l).take (i * 5) ++ (reqRow ps l).drop ((i + 1) * 5) = reqRow (ps.eraseIdx i) (l.eraseIdx i) := by
  have e1 : ps = ps.take i ++ ([ps[i]'(by omega)] ++ ps.drop (i + 1)) := by rw [List.singleton_append, ← List.drop_eq_getElem_cons (by omega), List.take_append_drop]
  have e2 : l = l.take i ++ ([l[i]] ++ l.drop (i + 1)) := by rw [List.singleton_append, ← List.drop_eq_getElem_cons hi, List.take_append_drop]
  have hl1 : (ps.take i).length = (l.take i).length := by rw [List.length_take, List.length_take, h]
  have hlen1 : (reqRow (ps.take i) (l.take i)).length = i * 5 := by rw [reqRow_len _ _ hl1, List.length_take, Nat.min_eq_left (by omega)]
  have e3 : reqRow ps l = reqRow (ps.take i) (l.take i) ++ (reqRow [ps[i]'(by omega)] [l[i]] ++ reqRow (ps.drop (i + 1)) (l.drop (i + 1))) :=
    (congr (congrArg reqRow e1) e2).trans (by rw [reqRow_append _ _ _ _ hl1, reqRow_append _ _ _ _ rfl])
  rw [List.eraseIdx_eq_take_drop_succ, List.eraseIdx_eq_take_drop_succ, reqRow_append _ _ _ _ hl1, e3]
  congr 1
  · rw [List.take_append_of_le_length (by omega), List.take_of_length_le (by omega)]
  · have hr : (reqRow [ps[i]'(by omega)] [l[i]]).length = 5 := rfl
    rw [List.drop_append, List.drop_eq_nil_of_le (by omega), List.nil_append, List.drop_append, List.drop_eq_nil_of_le (by omega), List.nil_append, show (i + 1) * 5 - (reqRow (ps.take i) (l.take i)).length - (reqRow [ps[i]'(by omega)] [l[i]]).length = 0 by omega, List.drop_zero]
theorem reqRow_one (ps : List Nat) (l : List (Nat × Pl.Part)) : ∀ u ∈ reqRow ps l, u.oneCell' = true := by
  intro u hu
  unfold reqRow at hu
  rw [List.mem_flatten] at hu
  obtain ⟨e, he, hu⟩ := hu
  rw [List.mem_iff_getElem] at he
  obtain ⟨i, hi, rfl⟩ := he
  rw [List.getElem_zipWith] at hu
  simp [reqCells] at hu
  rcases hu with rfl | rfl | rfl | rfl | rfl <;> rfl
theorem PartsAt.erase {col : Colr} {w : World} {P : Nat} {ps : List Nat} {l : List (Nat × Pl.Part)} (h : PartsAt col w P ps l) (i : Nat) : PartsAt col w P (ps.eraseIdx i) (l.eraseIdx i) := by
  refine ⟨by rw [List.length_eraseIdx, List.length_eraseIdx, h.1], fun k p q a b => ?_⟩
  rw [List.getElem?_eraseIdx] at a b
  split at a
  · rename_i hk
    rw [if_pos hk] at b
    exact h.2 k p q a b
  · rename_i hk
    rw [if_neg hk] at b
    exact h.2 (k + 1) p q a b
/-- one request less: the row of requests is shorter -/
theorem Rep.askLess {col : Colr} {w w1 : World} {P i g cap : Nat} {m : Pl.Sc} {ps qs : List Nat} {nv wv hv gv : Value} (h : Rep col w P m ps qs nv (.slice (some ⟨g, 0, none⟩) m.asked.length cap) wv hv gv) (k : Kp (fun k => k = g) w w1) (hi : i < m.asked.length) (o : Own w1 5 (.slice (some ⟨g, 0, none⟩) (m.asked.length - 1) cap) (m.asked.length - 1) (reqRow (ps.eraseIdx i) (m.asked.eraseIdx i))) :
    Rep col (w1.setCell ⟨P, 10, none⟩ (.slice (some ⟨g, 0, none⟩) (m.asked.length - 1) cap)) P (Pl.takeAt m i) (ps.eraseIdx i) qs nv (.slice (some ⟨g, 0, none⟩) (m.asked.length - 1) cap) wv hv gv ∧ Went col w (w1.setCell ⟨P, 10, none⟩ (.slice (some ⟨g, 0, none⟩) (m.asked.length - 1) cap)) col ∧ (∃ dv xv, PartAt col (w1.setCell ⟨P, 10, none⟩ (.slice (some ⟨g, 0, none⟩) (m.asked.length - 1) cap)) P (ps.getD i 0) (Pl.partAt m i) dv xv) ∧ ps.getD i 0 ∉ ps.eraseIdx i ++ qs := by
  have hgc : col g = .asked := h.inn.acol g rfl
  have hav : ∀ i, (i = g) → col i = .asked := fun i hi => by rw [hi]; exact hgc
  have hcalm : Calm col (fun k => k = g) := Calm.one .asked hav (by simp) (by simp) (by simp) (by simp) (by simp)
  have r := h.inn.rest k hcalm (fun _ _ => rfl)
  have hPn : ¬ P = g := fun e => by have := hgc; rw [← e, h.inn.pcol] at this; simp at this
  have hb1 := h.blk.kept k hPn
  have hpl : ps.length = m.asked.length := h.inn.aparts.1
  have hin : Inner col w1 P (Pl.takeAt m i) (ps.eraseIdx i) qs nv (.slice (some ⟨g, 0, none⟩) (m.asked.length - 1) cap) wv hv gv := by
    refine ⟨h.inn.pcol, fun q hq => h.inn.top q (Nat.le_trans k.size hq), r.names, ?_, fun q hq => by simp [Value.ownBlock] at hq; rw [← hq]; exact hgc, r.aparts.erase i, ?_, h.inn.wcol, r.wparts, ?_, r.ahead, r.groups⟩
    · show Own w1 5 _ (m.asked.eraseIdx i).length _
      rw [List.length_eraseIdx, if_pos hi]
      exact o
    · exact h.inn.waiting.kept k (fun q hq hs => by have := hav q hs; rw [h.inn.wcol q hq] at this; simp at this)
    · exact (List.Sublist.append (List.eraseIdx_sublist ps i) (List.Sublist.refl qs)).nodup h.inn.nodup
  have hrep : Rep col (w1.setCell ⟨P, 10, none⟩ (.slice (some ⟨g, 0, none⟩) (m.asked.length - 1) cap)) P (Pl.takeAt m i) (ps.eraseIdx i) qs nv (.slice (some ⟨g, 0, none⟩) (m.asked.length - 1) cap) wv hv gv := by
    refine ⟨?_, hin.put (kp_set' w1 P 10 _) hb1.lt⟩
    exact hb1.set 10 (.slice (some ⟨g, 0, none⟩) (m.asked.length - 1) cap)
  refine ⟨hrep, ⟨?_, fun _ _ => rfl⟩, ?_, ?_⟩
  · refine (k.mono (fun q _ hq => ?_)).setCell (p := ⟨P, 10, none⟩) (.inl ?_) _
    · show col q ≠ .out; rw [hav q hq]; simp
    · show col P ≠ .out; rw [h.inn.pcol]; simp
  · have hpi : ps.getD i 0 = ps[i]'(by omega) := by rw [List.getD_eq_getElem?_getD, List.getElem?_eq_getElem (by omega)]; rfl
    obtain ⟨dv, xv, hp⟩ := r.aparts.2 i _ _ (List.getElem?_eq_getElem (by omega)) (List.getElem?_eq_getElem hi)
    rw [hpi]
    have hpa : Pl.partAt m i = m.asked[i].2 := by unfold Pl.partAt; rw [List.getD_eq_getElem?_getD, List.getElem?_eq_getElem hi]; rfl
    rw [hpa]
    have hpp : ¬ ps[i]'(by omega) = P := fun e => by have := hp.pcol; rw [e, h.inn.pcol] at this; simp at this
    exact ⟨dv, xv, hp.go (kp_set' w1 P 10 _) hpp (fun q hq => by rw [hq, h.inn.pcol]; simp) (fun q hq => by rw [hq, h.inn.pcol]; simp) (fun _ _ => rfl)⟩
  · have hpi : ps.getD i 0 = ps[i]'(by omega) := by rw [List.getD_eq_getElem?_getD, List.getElem?_eq_getElem (by omega)]; rfl
    rw [hpi]
    intro hm
    have hnd := h.inn.nodup
    have hsplit : ps = ps.take i ++ ps[i]'(by omega) :: ps.drop (i + 1) := by rw [← List.drop_eq_getElem_cons (by omega), List.take_append_drop]
    rw [hsplit, List.append_assoc, List.cons_append, List.nodup_append] at hnd
    obtain ⟨-, hn2, hn3⟩ := hnd
    rw [List.eraseIdx_eq_take_drop_succ, List.append_assoc] at hm
    rcases List.mem_append.1 hm with hm | hm
    · exact hn3 _ hm _ List.mem_cons_self rfl
    · exact (List.nodup_cons.1 hn2).1 hm

set_option maxRecDepth 20000 in
set_option maxHeartbeats 2000000 in
theorem lineTake_any (col : Colr) (w : World) (P : Nat) (m : Pl.Sc) (ps qs : List Nat) (nv av wv hv gv : Value) (h : Rep col w P m ps qs nv av wv hv gv) (i : Nat) (hi : i < m.asked.length) (hal : m.asked.length ≤ 1000) :
    Calls Tryz.prog 106 #[PtrTo P 7, .int .i64 i] w fun e w' => (∃ a b c, e = .returned (reqV a b c (ps.getD i 0))) ∧ ∃ av', Rep col w' P (Pl.takeAt m i) (ps.eraseIdx i) qs nv av' wv hv gv ∧ Went col w w' col ∧ (∃ dv xv, PartAt col w' P (ps.getD i 0) (Pl.partAt m i) dv xv) ∧ ps.getD i 0 ∉ ps.eraseIdx i ++ qs := by
  have s10 := h.blk.cell 10
  have f10 := h.blk.free 10
  simp only [scCells, List.getElem?_cons_zero, List.getElem?_cons_succ] at s10
  have hown := h.inn.asked
  have hpl := h.inn.aparts.1
  obtain ⟨g, cap, rfl, hcap, hgl, hc⟩ := hown.at (by omega)
  have hPl := h.blk.lt
  have hgP : g ≠ P := fun e => by have := h.inn.acol g rfl; rw [e, h.inn.pcol] at this; simp at this
  have hpi : ps.getD i 0 = ps[i]'(by omega) := by rw [List.getD_eq_getElem?_getD, List.getElem?_eq_getElem (by omega)]; rfl
  have hck : ∀ j, j < 5 → w.cell? ⟨g, i * 5 + j, none⟩ = (reqCells (ps.getD i 0) m.asked[i])[j]? := fun j hj => by
    rw [hpi, hc (i * 5 + j) (by omega), reqRow_at ps m.asked hpl i j hi hj]
  have d0 := hck 0 (by omega)
  have d1 := hck 1 (by omega)
  have d2 := hck 2 (by omega)
  have d3 := hck 3 (by omega)
  have d4 := hck 4 (by omega)
  simp only [reqCells, I, List.getElem?_cons_zero, List.getElem?_cons_succ, Nat.add_zero] at d0 d1 d2 d3 d4
  clear hck hc hpi
  generalize m.asked[i].1 = ra at *
  generalize m.asked[i].2.place + m.asked[i].2.data.length = rb at *
  generalize m.asked[i].2.length - m.asked[i].2.data.length = rc at *
  generalize hpk : ps.getD i 0 = pk at *
  have HPK := hide hpk
  clear hpk
  obtain ⟨k, hk⟩ : ∃ k, m.asked.length = k + 1 := ⟨m.asked.length - 1, by omega⟩
  obtain ⟨j, hj⟩ : ∃ j, j = i + 1 := ⟨_, rfl⟩
  have hji : (i : Int) + 1 = (j : Int) := by omega
  have HLESS := hide (fun w1 k1 o1 => h.askLess (w1 := w1) (i := i) k1 hi o1)
  rw [hk] at HLESS s10 hown hal hcap hi
  rw [Nat.add_sub_cancel] at HLESS
  rw [HPK.out] at HLESS
  have HD := hide (fun (u : World) (hu : Ext w u) => delete_any u g cap k i j _ (hown.ext hu) (reqRow_one _ _) (by omega) (by omega) hj)
  have HER := hide (reqRow_erase ps m.asked hpl i (by omega))
  have hxP := h.inn.pcol
  have hacg := h.inn.acol g rfl
  have htop : col w.heap.size = .out := h.inn.top _ (Nat.le_refl _)
  clear hk hj hown h
  go_enter Tryz.func106, Tryz.ntmps106
  go_upto_region 2 with fail
  have x1 : Ext w ((w.alloc (.cells #[.int .i64 0, .int .i64 0, .int .i64 0, .nilFunc, .nilFunc] 169)).alloc (.cells #[.int .i64 ra, .int .i64 rb, .int .i64 rc, Bound 118 (PtrTo pk 0), Bound 119 (PtrTo pk 0)] 169)) := ((Kp.refl _ _).alloc _).alloc _
  have bR : Blk ((w.alloc (.cells #[.int .i64 0, .int .i64 0, .int .i64 0, .nilFunc, .nilFunc] 169)).alloc (.cells #[.int .i64 ra, .int .i64 rb, .int .i64 rc, Bound 118 (PtrTo pk 0), Bound 119 (PtrTo pk 0)] 169)) w.heap.size [.int .i64 0, .int .i64 0, .int .i64 0, .nilFunc, .nilFunc] 169 := (Blk.of_alloc w [.int .i64 0, .int .i64 0, .int .i64 0, .nilFunc, .nilFunc] _).kept (S := fun _ => False) ((Kp.refl _ _).alloc _) id
  have bC : Blk ((w.alloc (.cells #[.int .i64 0, .int .i64 0, .int .i64 0, .nilFunc, .nilFunc] 169)).alloc (.cells #[.int .i64 ra, .int .i64 rb, .int .i64 rc, Bound 118 (PtrTo pk 0), Bound 119 (PtrTo pk 0)] 169)) (w.heap.size + 1) [.int .i64 ra, .int .i64 rb, .int .i64 rc, Bound 118 (PtrTo pk 0), Bound 119 (PtrTo pk 0)] 169 := by
    have := Blk.of_alloc (w.alloc (.cells #[.int .i64 0, .int .i64 0, .int .i64 0, .nilFunc, .nilFunc] 169)) [.int .i64 ra, .int .i64 rb, .int .i64 rc, Bound 118 (PtrTo pk 0), Bound 119 (PtrTo pk 0)] 169
    simpa using this
  generalize (w.alloc (.cells #[.int .i64 0, .int .i64 0, .int .i64 0, .nilFunc, .nilFunc] 169)).alloc (.cells #[.int .i64 ra, .int .i64 rb, .int .i64 rc, Bound 118 (PtrTo pk 0), Bound 119 (PtrTo pk 0)] 169) = W1 at *
  have s10' := x1.cell s10 id
  have f10' : W1.frozen? ⟨P, 10, none⟩ = false := by rw [World.frozen?_of_block (w := w) (a := ⟨P, 10, none⟩) (x1.block P hPl id)]; exact f10
  have HF : Hid (∀ u, Kp (fun k => k = g) W1 u → u.cell? ⟨P, 10, none⟩ = some (.slice (some ⟨g, 0, none⟩) (k + 1) cap) ∧ u.frozen? ⟨P, 10, none⟩ = false) := hide fun u hu => ⟨hu.cell s10' (fun e => hgP (Eq.symm e)), by rw [World.frozen?_of_block (w := W1) (a := ⟨P, 10, none⟩) (hu.block P (Nat.lt_of_lt_of_le hPl x1.size) (fun e => hgP (Eq.symm e)))]; exact f10'⟩
  clear s10 f10 d0 d1 d2 d3 d4
  go_wp2_with fail
  refine ((unhide HD) W1 x1).mono ?_
  rw [HER.out]
  rintro e w2 ⟨rfl, o2, k2⟩
  obtain ⟨q1, q2⟩ := (unhide HF) w2 k2
  obtain ⟨r3, g3, pa3, pn3⟩ := (unhide HLESS) w2 ((Kp.of_ext x1).trans k2) o2
  have ks := kp_set' w2 P 10 (.slice (some ⟨g, 0, none⟩) k cap)
  have hwP : P ≠ w.heap.size := by omega
  go_upto_region 3 with fail
  have bR3 := (bR.kept k2 (by omega)).kept ks (fun e => hwP (Eq.symm e))
  have bC3 := (bC.kept k2 (by omega)).kept ks (by omega)
  have cc0 := bC3.cell 0
  have cr0 := bR3.cell 0
  have fr0 := bR3.free 0
  have cc1 := bC3.cell 1
  have cr1 := bR3.cell 1
  have fr1 := bR3.free 1
  have cc2 := bC3.cell 2
  have cr2 := bR3.cell 2
  have fr2 := bR3.free 2
  have cc3 := bC3.cell 3
  have cr3 := bR3.cell 3
  have fr3 := bR3.free 3
  have cc4 := bC3.cell 4
  have cr4 := bR3.cell 4
  have fr4 := bR3.free 4
  simp only [List.getElem?_cons_zero, List.getElem?_cons_succ] at cc0 cc1 cc2 cc3 cc4 cr0 cr1 cr2 cr3 cr4
  have b4 := ((((bR3.set 0 (.int .i64 ra)).set 1 (.int .i64 rb)).set 2 (.int .i64 rc)).set 3 (Bound 118 (PtrTo pk 0))).set 4 (Bound 119 (PtrTo pk 0))
  have k4 := ((((kp_set' (w2.setCell ⟨P, 10, none⟩ (.slice (some ⟨g, 0, none⟩) k cap)) w.heap.size 0 (.int .i64 ra)).trans (kp_set' _ w.heap.size 1 (.int .i64 rb))).trans (kp_set' _ w.heap.size 2 (.int .i64 rc))).trans (kp_set' _ w.heap.size 3 (Bound 118 (PtrTo pk 0)))).trans (kp_set' _ w.heap.size 4 (Bound 119 (PtrTo pk 0)))
  clear HD HLESS HF
  generalize w2.setCell ⟨P, 10, none⟩ (.slice (some ⟨g, 0, none⟩) k cap) = W3 at *
  go_wp2_with fail
  generalize ((((W3.setCell ⟨w.heap.size, 0, none⟩ (.int .i64 ra)).setCell ⟨w.heap.size, 1, none⟩ (.int .i64 rb)).setCell ⟨w.heap.size, 2, none⟩ (.int .i64 rc)).setCell ⟨w.heap.size, 3, none⟩ (Bound 118 (PtrTo pk 0))).setCell ⟨w.heap.size, 4, none⟩ (Bound 119 (PtrTo pk 0)) = W4 at *
  have e0 := b4.cell 0
  have e1 := b4.cell 1
  have e2 := b4.cell 2
  have e3 := b4.cell 3
  have e4 := b4.cell 4
  simp only [List.set_cons_zero, List.set_cons_succ, List.getElem?_cons_zero, List.getElem?_cons_succ] at e0 e1 e2 e3 e4
  refine bodyPost_ret (v := reqV ra rb rc pk) (by simp [results, Tryz.results106, go_sem, e0, e1, e2, e3, e4]) rfl ?_
  have hout : ∀ q, (q = w.heap.size) → col q = .out := fun q hq => by rw [hq]; exact htop
  obtain ⟨dv, xv, hpa⟩ := pa3
  refine ⟨⟨ra, rb, rc, rfl⟩, _, r3.kept k4 hout, ⟨g3.kept.then k4 (fun i hi e => by omega), fun _ _ => rfl⟩, ⟨dv, xv, hpa.go k4 (fun e => by have := hpa.pcol; rw [e, htop] at this; cases this) (fun q hq => by rw [hout q hq]; simp) (fun q hq => by rw [hout q hq]; simp) (fun _ _ => rfl)⟩, pn3⟩
end Go.Proofs.YthicgffppmbamaaGreat

namespace Go.Proofs.YthicgffppmbamaaGreat
open Go.RowKit

/-- what file.ReadTail answers -/
def tailSaid : Option Nat → Ending
  | none => .returned (.tuple #[.int .i64 0, .bool false])
  | some n => .returned (.tuple #[.int .i64 n, .bool true])

set_option maxRecDepth 20000 in
set_option maxHeartbeats 1000000 in
theorem readTail_any (C : Nat → Prop) (w : World) (v : Value) (l : List UInt8) (size : Nat) (h : RowAt C false w 1 v l.length (l.map B)) (hl : l.length ≤ 1000000) (hs : size ≤ 1099511627775) :
    Calls Tryz.prog 103 #[v, .int .i64 size] w fun e w' => e = tailSaid (Pl.readTail l size) ∧ Ext w w' ∧ w'.heap.size = w.heap.size := by
  by_cases h6 : l.length = 6
  · obtain ⟨-, ao, cap, rfl, hcap, h3⟩ := h
    obtain ⟨g, off, rfl, hC, hlt, hc, -⟩ := h3 (by omega)
    obtain ⟨a0, a1, a2, a3, a4, a5, rfl⟩ : ∃ a0 a1 a2 a3 a4 a5, l = [a0, a1, a2, a3, a4, a5] := by
      rcases l with _ | ⟨a0, _ | ⟨a1, _ | ⟨a2, _ | ⟨a3, _ | ⟨a4, _ | ⟨a5, _ | ⟨a6, t⟩⟩⟩⟩⟩⟩⟩ <;> simp at h6
      exact ⟨_, _, _, _, _, _, rfl⟩
    clear h6 h3
    have d0 := hc 0 (by simp)
    have d1 := hc 1 (by simp)
    simp only [List.map_cons, List.getElem?_cons_zero, List.getElem?_cons_succ, Nat.add_zero, B] at d0 d1
    have hcv : ∀ o c, o = (if cap = 2 then some ⟨g, off, none⟩ else some (⟨g, off + 2, none⟩ : Addr)) → Sem.run Tryz.prog (convert 76 9 (.slice (some ⟨g, off + 2, none⟩) 4 c)) w = .ok (.string ⟨#[a2, a3, a4, a5]⟩) w := by
      intro o c _
      exact run_convert_bytes_back (P := Tryz.prog) w 76 9 5 ⟨g, off + 2, none⟩ c [a2, a3, a4, a5] Tryz.underlying76 Tryz.underlying5 Tryz.underlying9 (fun j hj => by
        have ea : (⟨g, off + 2, none⟩ : Addr).add j = ⟨g, off + (2 + j), none⟩ := by
          unfold Addr.add
          by_cases h0 : j = 0
          · subst h0; rfl
          · simp [h0, Nat.add_assoc]
        have hj' : j < 4 := hj
        rw [ea, hc (2 + j) (by simp; omega)]
        have h4 : j = 0 ∨ j = 1 ∨ j = 2 ∨ j = 3 := by omega
        rcases h4 with rfl | rfl | rfl | rfl <;> rfl)
    have hcv1 := fun c => hcv _ c rfl
    clear hcv hc
    simp only [List.length_cons, List.length_nil, Nat.reduceAdd] at hcap ⊢
    have hcap2 : ¬ cap = 2 := by omega
    have b0 := a0.toNat_lt
    have b1 := a1.toNat_lt
    go_enter Tryz.func103, Tryz.ntmps103
    go_wp2_with fail
    · rename_i hm
      have hp : Pl.readTail [a0, a1, a2, a3, a4, a5] size = none := by
        unfold Pl.readTail
        rw [if_neg]
        rintro ⟨-, e, -⟩
        simp [Pl.mark] at e
        simp [e] at hm
      go_ret2
      rw [hp]
      exact ⟨rfl, Kp.refl _ _, rfl⟩
    · rename_i hm _ _
      have hm2 : [a2, a3, a4, a5] = Pl.mark := by
        simp at hm
        simp [Pl.mark, hm]
      have HM := hide hm2
      clear hm2 hm hcv1
      have ho : bits .or .i64 ((a0.toNat : Int) * 256) (a1.toNat : Int) = ((a0.toNat * 256 + a1.toNat : Nat) : Int) := by
        have e := or_i64_nat (a0.toNat * 256) a1.toNat (by omega) (by omega)
        rw [Nat.or_comm, or_parts a1.toNat a0.toNat 8 b1] at e
        rw [Nat.add_comm, ← e]
        simp
      have hR : ∀ ok : Prop, (ok ↔ 1 ≤ a0.toNat * 256 + a1.toNat ∧ a0.toNat * 256 + a1.toNat + 10 ≤ size) → (ok → Pl.readTail [a0, a1, a2, a3, a4, a5] size = some (a0.toNat * 256 + a1.toNat)) ∧ (¬ ok → Pl.readTail [a0, a1, a2, a3, a4, a5] size = none) := by
        intro ok hok
        unfold Pl.readTail
        constructor
        · intro h
          rw [if_pos ⟨rfl, HM.out, (hok.1 h).1, (hok.1 h).2⟩]
          rfl
        · intro h
          rw [if_neg]
          rintro ⟨-, -, e1, e2⟩
          exact h (hok.2 ⟨e1, e2⟩)
      have HR := hide hR
      clear hR
      by_cases hlo : 1 ≤ a0.toNat * 256 + a1.toNat
      · by_cases hhi : a0.toNat * 256 + a1.toNat + 10 ≤ size
        · go_quiet (fail)
          go_wp2_with fail
          go_ret2
          rw [(HR.out True (by simp [hlo, hhi])).1 trivial]
          refine ⟨?_, (Kp.refl _ _).drewN _, rfl⟩
          show Ending.returned (.tuple #[.int .i64 ((a0.toNat : Int) * 256 + a1.toNat), .bool true]) = .returned (.tuple #[.int .i64 ((a0.toNat * 256 + a1.toNat : Nat) : Int), .bool true])
          simp
        · go_quiet (fail)
          go_wp2_with fail
          go_ret2
          rw [(HR.out False (by simp [hhi])).2 id]
          exact ⟨rfl, (Kp.refl _ _).drewN _, rfl⟩
      · go_quiet (fail)
        go_wp2_with fail
        go_ret2
        rw [(HR.out False (by simp [hlo])).2 id]
        exact ⟨rfl, (Kp.refl _ _).drewN _, rfl⟩
  · have hp : Pl.readTail l size = none := by unfold Pl.readTail; rw [if_neg (fun e => h6 e.1)]
    obtain ⟨-, ao, cap, rfl, hcap, -⟩ := h
    rw [hp]
    go_enter Tryz.func103, Tryz.ntmps103
    go_wp2_with fail
    go_ret2
    exact ⟨rfl, Kp.refl _ _, rfl⟩
end Go.Proofs.YthicgffppmbamaaGreat

namespace Go.Proofs.YthicgffppmbamaaGreat
open Go.RowKit

theorem readTail_bound (l : List UInt8) (size n : Nat) (h : Pl.readTail l size = some n) : 1 ≤ n ∧ n + 10 ≤ size := by
  unfold Pl.readTail at h
  split at h
  · rename_i hc
    simp only [Option.some.injEq] at h
    omega
  · cases h

set_option maxRecDepth 20000 in
set_option maxHeartbeats 2000000 in
theorem tailCame_any (C : Nat → Prop) (col : Colr) (w : World) (P : Nat) (m : Pl.Sc) (ps qs : List Nat) (nv av wv hv gv : Value) (h : Rep col w P m ps qs nv av wv hv gv) (v : Value) (l : List UInt8) (hr : RowAt C false w 1 v l.length (l.map B)) (hl : l.length ≤ 1000000) (hsz : m.size ≤ 4000) (hid : m.lastId ≤ 1000000000000) (hal : m.asked.length ≤ 1000) :
    Calls Tryz.prog 84 #[PtrTo P 0, v] w fun e w' => e = .returned (.tuple #[]) ∧ ∃ col', IsSc col' w' P (Pl.tailCame m l) ∧ Went col w w' col' := by
  have s1 := h.blk.cell 1
  simp only [scCells, I, List.getElem?_cons_zero, List.getElem?_cons_succ] at s1
  cases hrt : Pl.readTail l m.size with
  | none =>
    have HP : Hid (Pl.tailCame m l = Pl.ended 2) := hide (by unfold Pl.tailCame; rw [hrt])
    go_enter Tryz.func84, Tryz.ntmps84
    go_wp2_with (first | (go_at_call 103; refine (readTail_any C _ v l m.size hr hl (by omega)).mono ?_; rw [hrt]; simp only [tailSaid]; rintro e w1 ⟨rfl, x1, z1⟩))
    refine (end_any col w1 P _ (scCells_len _ _ _ _ _ _ _) 2 (by decide) (h.ext x1).blk h.inn.pcol (h.ext x1).inn.top).mono ?_
    rintro e w2 ⟨rfl, r2, k2⟩
    go_wp2_with fail
    try simp only [Exit.inBlock, Exit.then]
    refine bodyPost_ret (results_none rfl _ _ _) rfl ?_
    rw [HP.out]
    obtain ⟨a, b⟩ := (h.ext x1).ends r2 k2
    exact ⟨rfl, col, a, (Went.ext x1).trans b⟩
  | some n =>
    have hb := readTail_bound l m.size n hrt
    have HP : Hid (Pl.tailCame m l = Pl.fetch m (m.size - 6 - n) n .footer) := hide (by unfold Pl.tailCame; rw [hrt])
    go_enter Tryz.func84, Tryz.ntmps84
    go_wp2_with (go_at_call 103; refine (readTail_any C _ v l m.size hr hl (by omega)).mono ?_; rw [hrt]; simp only [tailSaid]; rintro e w1 ⟨rfl, x1, z1⟩)
    have h1 := h.ext x1
    have t1 : ∀ u, Ext w1 u → u.cell? ⟨P, 1, none⟩ = some (.int .i64 (m.size : Int)) := fun u hu => hu.cell (x1.cell s1 id) id
    clear s1
    have HS := hide t1
    clear t1
    have hx1 : Ext w1 w1.drew := (Kp.refl _ _).drew
    have h2 := h1.ext hx1
    have e1 : IntKind.i64.wrap ((m.size : Int) - 6) = (m.size : Int) - 6 := by simp [IntKind.wrap, IntKind.bits, IntKind.signed]; omega
    have e2 : IntKind.i64.wrap ((m.size : Int) - 6 - (n : Int)) = (m.size : Int) - 6 - (n : Int) := by simp [IntKind.wrap, IntKind.bits, IntKind.signed]; omega
    refine wp_region_late (n := 13) (Ext w1) (by kernel_rfl) ?_
    refine Late.take (i := 0) (oi := ⟨some 19, .move (.tmp 0), 109, "steps.go:19", #[], none⟩) (v := ?_) [1, 2, 13] rfl (by kernel_rfl) (by kernel_rfl) (by decide) (by decide) (by kernel_rfl) (by kernel_rfl) (by kernel_rfl) (fun _ _ _ h => h) rfl ?_ hx1 ?_
    rotate_left
    · (intro u hu; have u1 := (unhide HS) u hu; go_simp; first | done | with_reducible rfl)
    try simp only [Act.put, List.setIfInBounds_toArray, List.set_cons_zero, List.set_cons_succ]
    refine Late.take (i := 1) (oi := ⟨some 20, .nilCheck (.tmp 19), 0, "steps.go:19", #[⟨0, .data⟩], none⟩) (v := ?_) [2, 13] rfl (by kernel_rfl) (by kernel_rfl) (by decide) (by decide) (by kernel_rfl) (by kernel_rfl) (by kernel_rfl) (fun _ _ _ h => h) rfl ?_ hx1 ?_
    rotate_left
    · (intro u hu; have u1 := (unhide HS) u hu; go_simp; first | done | with_reducible rfl)
    try simp only [Act.put, List.setIfInBounds_toArray, List.set_cons_zero, List.set_cons_succ]
    refine Late.take (i := 2) (oi := ⟨some 21, .fieldAddr 142 (.tmp 20) 4, 0, "steps.go:19", #[⟨1, .data⟩], none⟩) (v := ?_) [13] rfl (by kernel_rfl) (by kernel_rfl) (by decide) (by decide) (by kernel_rfl) (by kernel_rfl) (by kernel_rfl) (fun _ _ _ h => h) rfl ?_ hx1 ?_
    rotate_left
    · (intro u hu; have u1 := (unhide HS) u hu; go_simp; first | done | with_reducible rfl)
    try simp only [Act.put, List.setIfInBounds_toArray, List.set_cons_zero, List.set_cons_succ]
    refine Late.take (i := 3) (oi := ⟨some 22, .move (.tmp 0), 109, "steps.go:19", #[], none⟩) (v := ?_) [4, 5, 6, 7, 9, 13] rfl (by kernel_rfl) (by kernel_rfl) (by decide) (by decide) (by kernel_rfl) (by kernel_rfl) (by kernel_rfl) (fun _ _ _ h => h) rfl ?_ hx1 ?_
    rotate_left
    · (intro u hu; have u1 := (unhide HS) u hu; go_simp; first | done | with_reducible rfl)
    try simp only [Act.put, List.setIfInBounds_toArray, List.set_cons_zero, List.set_cons_succ]
    refine Late.take (i := 4) (oi := ⟨some 23, .nilCheck (.tmp 22), 0, "steps.go:19", #[⟨3, .data⟩], none⟩) (v := ?_) [5, 6, 7, 9, 13] rfl (by kernel_rfl) (by kernel_rfl) (by decide) (by decide) (by kernel_rfl) (by kernel_rfl) (by kernel_rfl) (fun _ _ _ h => h) rfl ?_ hx1 ?_
    rotate_left
    · (intro u hu; have u1 := (unhide HS) u hu; go_simp; first | done | with_reducible rfl)
    try simp only [Act.put, List.setIfInBounds_toArray, List.set_cons_zero, List.set_cons_succ]
    refine Late.take (i := 5) (oi := ⟨some 24, .fieldAddr 142 (.tmp 23) 1, 0, "steps.go:19", #[⟨4, .data⟩], none⟩) (v := ?_) [6, 7, 9, 13] rfl (by kernel_rfl) (by kernel_rfl) (by decide) (by decide) (by kernel_rfl) (by kernel_rfl) (by kernel_rfl) (fun _ _ _ h => h) rfl ?_ hx1 ?_
    rotate_left
    · (intro u hu; have u1 := (unhide HS) u hu; go_simp; first | done | with_reducible rfl)
    try simp only [Act.put, List.setIfInBounds_toArray, List.set_cons_zero, List.set_cons_succ]
    refine Late.take (i := 6) (oi := ⟨some 25, .load 3 (.tmp 24), 3, "steps.go:19", #[⟨5, .data⟩], none⟩) (v := ?_) [7, 9, 13] rfl (by kernel_rfl) (by kernel_rfl) (by decide) (by decide) (by kernel_rfl) (by kernel_rfl) (by kernel_rfl) (fun _ _ _ h => h) rfl ?_ hx1 ?_
    rotate_left
    · (intro u hu; have u1 := (unhide HS) u hu; go_simp; first | done | with_reducible rfl)
    try simp only [Act.put, List.setIfInBounds_toArray, List.set_cons_zero, List.set_cons_succ]
    refine Late.take (i := 7) (oi := ⟨some 26, .binOp .sub 3 (.tmp 25) (.const (.int .i64 6)) 3, 3, "steps.go:19", #[⟨6, .data⟩], none⟩) (v := ?_) [9, 13] rfl (by kernel_rfl) (by kernel_rfl) (by decide) (by decide) (by kernel_rfl) (by kernel_rfl) (by kernel_rfl) (fun _ _ _ h => h) rfl ?_ hx1 ?_
    rotate_left
    · (intro u hu; have u1 := (unhide HS) u hu; go_simp; first | done | with_reducible rfl)
    try simp only [Act.put, List.setIfInBounds_toArray, List.set_cons_zero, List.set_cons_succ]
    refine Late.take (i := 8) (oi := ⟨some 27, .move (.tmp 4), 3, "steps.go:19", #[], none⟩) (v := ?_) [9, 13] rfl (by kernel_rfl) (by kernel_rfl) (by decide) (by decide) (by kernel_rfl) (by kernel_rfl) (by kernel_rfl) (fun _ _ _ h => h) rfl ?_ hx1 ?_
    rotate_left
    · (intro u hu; have u1 := (unhide HS) u hu; go_simp; first | done | with_reducible rfl)
    try simp only [Act.put, List.setIfInBounds_toArray, List.set_cons_zero, List.set_cons_succ]
    refine Late.take (i := 9) (oi := ⟨some 28, .binOp .sub 3 (.tmp 26) (.tmp 27) 3, 3, "steps.go:19", #[⟨7, .data⟩, ⟨8, .data⟩], none⟩) (v := ?_) [13] rfl (by kernel_rfl) (by kernel_rfl) (by decide) (by decide) (by kernel_rfl) (by kernel_rfl) (by kernel_rfl) (fun _ _ _ h => h) rfl ?_ hx1 ?_
    rotate_left
    · (intro u hu; have u1 := (unhide HS) u hu; go_simp; first | done | with_reducible rfl)
    try simp only [Act.put, List.setIfInBounds_toArray, List.set_cons_zero, List.set_cons_succ]
    refine Late.take (i := 10) (oi := ⟨some 29, .move (.tmp 4), 3, "steps.go:19", #[], none⟩) (v := ?_) [13] rfl (by kernel_rfl) (by kernel_rfl) (by decide) (by decide) (by kernel_rfl) (by kernel_rfl) (by kernel_rfl) (fun _ _ _ h => h) rfl ?_ hx1 ?_
    rotate_left
    · (intro u hu; have u1 := (unhide HS) u hu; go_simp; first | done | with_reducible rfl)
    try simp only [Act.put, List.setIfInBounds_toArray, List.set_cons_zero, List.set_cons_succ]
    refine Late.take (i := 11) (oi := ⟨some 30, .move (.tmp 0), 109, "steps.go:19", #[], none⟩) (v := ?_) [12, 13] rfl (by kernel_rfl) (by kernel_rfl) (by decide) (by decide) (by kernel_rfl) (by kernel_rfl) (by kernel_rfl) (fun _ _ _ h => h) rfl ?_ hx1 ?_
    rotate_left
    · (intro u hu; have u1 := (unhide HS) u hu; go_simp; first | done | with_reducible rfl)
    try simp only [Act.put, List.setIfInBounds_toArray, List.set_cons_zero, List.set_cons_succ]
    refine Late.take (i := 12) (oi := ⟨some 31, .makeFunc (Go.Fn.func 104) #[.tmp 30] #[], 148, "steps.go:19", #[⟨11, .data⟩], none⟩) (v := ?_) [13] rfl (by kernel_rfl) (by kernel_rfl) (by decide) (by decide) (by kernel_rfl) (by kernel_rfl) (by kernel_rfl) (fun _ _ _ h => h) rfl ?_ hx1 ?_
    rotate_left
    · (intro u hu; have u1 := (unhide HS) u hu; go_simp; first | done | with_reducible rfl)
    try simp only [Act.put, List.setIfInBounds_toArray, List.set_cons_zero, List.set_cons_succ]
    refine Late.one (i := 13) (o := ⟨some 32, .call { callee := .value (.func 83), args := #[.tmp 21, .tmp 28, .tmp 29, .tmp 31], argTypes := #[136, 3, 3, 148] }, 0, "steps.go:19", #[⟨2, .data⟩, ⟨9, .data⟩, ⟨10, .data⟩, ⟨12, .data⟩], none⟩) (by kernel_rfl) rfl (fun K hK => ?_)
    refine step_call_g rfl 83 #[PtrTo P 7, .int .i64 ((m.size : Int) - 6 - (n : Int)), .int .i64 (n : Int), Bound 104 (PtrTo P 0)] (by go_simp) ?_
    refine (fetch_any col w1.drew P m _ _ .footer ps qs nv av wv hv gv _ h2 rfl ⟨_, _, rfl⟩ hid hal (by omega) (by omega) (by omega)).mono ?_
    rintro e w3 ⟨rfl, c3, p3, av3, r3, g3⟩
    refine ⟨_, rfl, hK _ _ (fun h => absurd rfl h) ?_⟩
    clear hK K
    try simp only [Act.put, List.setIfInBounds_toArray, List.set_cons_zero, List.set_cons_succ]
    refine Late.done (by kernel_rfl) ?_ _
    go_end0
    rw [HP.out]
    have e3 : ((m.size : Int) - 6 - (n : Int)).toNat = m.size - 6 - n := by omega
    rw [e3, Int.toNat_natCast] at r3
    exact ⟨rfl, c3, r3.is, (Went.ext (x1.trans hx1)).trans g3⟩
end Go.Proofs.YthicgffppmbamaaGreat

namespace Go.Proofs.YthicgffppmbamaaGreat
open Go.RowKit

def cmpV (x y : Nat) : Int := if x < y then -1 else if y < x then 1 else 0
theorem cmpV_neg (x y : Nat) : decide (cmpV x y < 0) = decide (x < y) := by
  unfold cmpV
  rw [decide_eq_decide]
  split
  · omega
  · split <;> omega
set_option maxRecDepth 20000 in
theorem isNaN_any (w : World) (x : Int) : Calls Tryz.prog 175 #[.int .i64 x] w fun e w' => e = .returned (.bool false) ∧ w' = w := by
  go_enter Tryz.func175, Tryz.ntmps175
  go_wp2_with fail
  go_ret
  exact ⟨rfl, rfl⟩
set_option maxRecDepth 20000 in
set_option maxHeartbeats 400000 in
theorem compare_any (w : World) (x y : Nat) : Calls Tryz.prog 168 #[.int .i64 x, .int .i64 y] w fun e w' => e = .returned (.int .i64 (cmpV x y)) ∧ w' = w := by
  unfold cmpV
  by_cases h1 : x < y
  · rw [if_pos h1]
    go_enter Tryz.func168, Tryz.ntmps168
    go_wp2_with (go_at_call 175; refine (isNaN_any _ _).mono ?_; rintro e w1 ⟨rfl, rfl⟩)
    go_ret
    exact ⟨rfl, rfl⟩
  · rw [if_neg h1]
    by_cases h2 : y < x
    · rw [if_pos h2]
      go_enter Tryz.func168, Tryz.ntmps168
      go_wp2_with (go_at_call 175; refine (isNaN_any _ _).mono ?_; rintro e w1 ⟨rfl, rfl⟩)
      go_ret
      exact ⟨rfl, rfl⟩
    · rw [if_neg h2]
      go_enter Tryz.func168, Tryz.ntmps168
      go_wp2_with (go_at_call 175; refine (isNaN_any _ _).mono ?_; rintro e w1 ⟨rfl, rfl⟩)
      go_ret
      exact ⟨rfl, rfl⟩
abbrev wpX (x : Pl.WPage) : Value := wpV x.page.place x.page.length x.page.sum x.group x.column x.rows
set_option maxRecDepth 20000 in
set_option maxHeartbeats 400000 in
theorem cmpW_any (w : World) (x y : Pl.WPage) : Calls Tryz.prog 167 #[wpX x, wpX y] w fun e w' => e = .returned (.int .i64 (cmpV x.page.place y.page.place)) ∧ Ext w w' := by
  go_enter Tryz.func167, Tryz.ntmps167
  go_wp2_with (go_at_call 168; refine (compare_any _ _ _).mono ?_; rintro e w1 ⟨rfl, rfl⟩)
  go_ret
  exact ⟨rfl, ((Kp.refl _ _).alloc _).alloc _⟩
namespace Pl
theorem insW_at (A B : List WPage) (x : WPage) (hB : ∀ y ∈ B, x.page.place < y.page.place) (hA : ∀ y, A.getLast? = some y → y.page.place ≤ x.page.place) : insW (A ++ B) x = A ++ [x] ++ B := by
  have hall : ∀ y ∈ B.reverse, decide (x.page.place < y.page.place) = true := fun y hy => decide_eq_true (hB y (List.mem_reverse.1 hy))
  have hd : ∀ (l r : List WPage), (∀ y ∈ l, decide (x.page.place < y.page.place) = true) → (l ++ r).dropWhile (fun y => decide (x.page.place < y.page.place)) = r.dropWhile (fun y => decide (x.page.place < y.page.place)) ∧ (l ++ r).takeWhile (fun y => decide (x.page.place < y.page.place)) = l ++ r.takeWhile (fun y => decide (x.page.place < y.page.place)) := by
    intro l r hl
    induction l with
    | nil => exact ⟨rfl, rfl⟩
    | cons a l ih =>
      have ha := hl a (by simp)
      obtain ⟨i1, i2⟩ := ih (fun y hy => hl y (by simp [hy]))
      constructor
      · rw [List.cons_append, List.dropWhile_cons, if_pos ha, i1]
      · rw [List.cons_append, List.takeWhile_cons, if_pos ha, i2]; rfl
  have hr : A.reverse.dropWhile (fun y => decide (x.page.place < y.page.place)) = A.reverse ∧ A.reverse.takeWhile (fun y => decide (x.page.place < y.page.place)) = [] := by
    cases h : A.reverse with
    | nil => exact ⟨rfl, rfl⟩
    | cons a r =>
      have : A.getLast? = some a := by rw [← List.head?_reverse, h]; rfl
      have hn : ¬ (decide (x.page.place < a.page.place) = true) := by simpa using hA a this
      exact ⟨by rw [List.dropWhile_cons, if_neg hn], by rw [List.takeWhile_cons, if_neg hn]⟩
  unfold insW
  rw [List.reverse_append]
  obtain ⟨h1, h2⟩ := hd B.reverse A.reverse hall
  rw [h1, h2, hr.1, hr.2]
  simp
theorem sortW_snoc (l : List WPage) (x : WPage) : sortW (l ++ [x]) = insW (sortW l) x := by
  unfold sortW
  rw [List.foldl_append]
  rfl
theorem insW_len (l : List WPage) (x : WPage) : (insW l x).length = l.length + 1 := by
  unfold insW
  have := congrArg List.length (List.takeWhile_append_dropWhile (p := fun y : WPage => decide (x.page.place < y.page.place)) (l := l.reverse))
  simp only [List.length_append, List.length_reverse, List.length_cons, List.length_nil] at this ⊢
  omega
theorem sortW_len (l : List WPage) : (sortW l).length = l.length := by
  have h : ∀ (l acc : List WPage), (l.foldl insW acc).length = acc.length + l.length := by
    intro l
    induction l with
    | nil => intro acc; rfl
    | cons a l ih => intro acc; rw [List.foldl_cons, ih, insW_len]; simp; omega
  unfold sortW
  simpa using h l []
end Pl
theorem wpRow_at (L : List Pl.WPage) (i j : Nat) (hi : i < L.length) (hj : j < 6) : (L.flatMap wpCells)[i * 6 + j]? = (wpCells L[i])[j]? := by
  rw [show L.flatMap wpCells = (L.map wpCells).flatten from rfl]
  exact flatten_at 6 (L.map wpCells) (fun e he => by rw [List.mem_map] at he; obtain ⟨q, _, rfl⟩ := he; rfl) i j hj (wpCells L[i]) (by rw [List.getElem?_map, List.getElem?_eq_getElem hi]; rfl)
theorem wpRow_len (L : List Pl.WPage) : (L.flatMap wpCells).length = L.length * 6 := by
  induction L with
  | nil => rfl
  | cons a r ih => rw [List.flatMap_cons, List.length_append, ih]; simp [wpCells]; omega
/-- one element of a row of one's own is another one -/
theorem Own.setCells {w : World} {g cap : Nat} {L : List Pl.WPage} (h : Own w 6 (.slice (some ⟨g, 0, none⟩) L.length cap) L.length (L.flatMap wpCells)) (i : Nat) (x : Pl.WPage) (hi : i < L.length) : Own (w.setCells g (i * 6) (wpCells x)) 6 (.slice (some ⟨g, 0, none⟩) L.length cap) L.length ((L.set i x).flatMap wpCells) := by
  refine ⟨by rw [wpRow_len, List.length_set], ?_⟩
  rcases h.2 with ⟨e, _⟩ | ⟨g', cap', e, h1, h2, h3, h4, h5⟩
  · cases e
  · cases e
    have hin : ∀ j, j < 6 → (w.setCells g (i * 6) (wpCells x)).cell? ⟨g, i * 6 + j, none⟩ = (wpCells x)[j]? := fun j hj => by
      exact (World.cell?_setCells_in g (wpCells x) (i * 6) w (fun j' hj' => (h5 _ (by have : (wpCells x).length = 6 := rfl; omega)).1) j hj).trans (List.getElem?_eq_getElem (show j < (wpCells x).length from hj)).symm
    have hout : ∀ k, (k < i * 6 ∨ i * 6 + 6 ≤ k) → (w.setCells g (i * 6) (wpCells x)).cell? ⟨g, k, none⟩ = w.cell? ⟨g, k, none⟩ := fun k hk => World.cell?_setCells_out g _ _ _ _ (fun _ _ => hk)
    have hsz := (World.keptBut_setCells g (may := fun _ => True) (wpCells x) (i * 6) w (fun _ _ => trivial)).size
    refine .inr ⟨g, cap, rfl, h1, h2, by omega, fun k hk => ?_, fun k hk => ⟨?_, by rw [World.frozen?_setCells]; exact (h5 k hk).2⟩⟩
    · have hq : k / 6 < L.length := by omega
      have hk' : k = k / 6 * 6 + k % 6 := by omega
      rw [hk', wpRow_at (L.set i x) (k / 6) (k % 6) (by rw [List.length_set]; exact hq) (by omega), List.getElem_set]
      by_cases he : i = k / 6
      · rw [if_pos he, ← he]
        exact hin _ (by omega)
      · rw [if_neg he, hout _ (by omega), h4 _ (by omega), wpRow_at L (k / 6) (k % 6) hq (by omega)]
    · by_cases hc : k < i * 6 ∨ i * 6 + 6 ≤ k
      · rw [hout k hc]; exact (h5 k hk).1
      · have := hin (k - i * 6) (by omega)
        rw [show i * 6 + (k - i * 6) = k by omega] at this
        rw [this, List.getElem?_eq_getElem (by show k - i * 6 < 6; omega)]
        rfl
theorem swap_eq (A B R : List Pl.WPage) (x y : Pl.WPage) : (((A ++ [y] ++ [x] ++ B ++ R).set (A.length + 1) y).set A.length x) = A ++ [x] ++ ([y] ++ B) ++ R := by
  simp
theorem get_two (A B R : List Pl.WPage) (x y : Pl.WPage) : (A ++ [y] ++ [x] ++ B ++ R)[A.length]? = some y ∧ (A ++ [y] ++ [x] ++ B ++ R)[A.length + 1]? = some x := by
  simp

theorem wp_all (x : Pl.WPage) : (wpCells x).toArray.all (·.oneCell') = true := by simp [wpCells, I, Value.oneCell']
theorem infoWpS : (Tryz.prog.info? 253).map (·.size) = some 6 := by kernel_rfl

set_option maxRecDepth 20000 in
set_option maxHeartbeats 4000000 in
theorem insertSort_any (w : World) (g cap : Nat) (pages : List Pl.WPage) (h0 : 0 < pages.length) (hl : pages.length ≤ 1000) (hO : Own w 6 (.slice (some ⟨g, 0, none⟩) pages.length cap) pages.length (pages.flatMap wpCells)) :
    Calls Tryz.prog 177 #[.slice (some ⟨g, 0, none⟩) pages.length cap, .int .i64 0, .int .i64 pages.length, F 167] w fun e w' => e = .returned (.tuple #[]) ∧ Own w' 6 (.slice (some ⟨g, 0, none⟩) pages.length cap) pages.length ((Pl.sortW pages).flatMap wpCells) ∧ Kp (fun k => k = g) w w' := by
  have hst1 : Pl.sortW (pages.take 1) ++ pages.drop 1 = pages := by
    cases pages with
    | nil => simp at h0
    | cons a r => rfl
  go_enter Tryz.func177, Tryz.ntmps177
  go_wp2_with fail
  go_loopw [8] (fun i wr => ∃ k : Nat, i = .int .i64 k ∧ 1 ≤ k ∧ k ≤ pages.length ∧ Own wr 6 (.slice (some ⟨g, 0, none⟩) pages.length cap) pages.length ((Pl.sortW (pages.take k) ++ pages.drop k).flatMap wpCells) ∧ Kp (fun k => k = g) w wr) (fun i _ => pages.length - (intOf i).toNat)
  case atStart => exact ⟨1, rfl, Nat.le_refl _, h0, by rw [hst1]; exact hO, Kp.refl _ _⟩
  case round =>
    obtain ⟨k, rfl, hk1, hk, ho, hx⟩ := hrel
    clear hO hst1
    by_cases hkl : k < pages.length
    · have hsl : (Pl.sortW (pages.take k)).length = k := by rw [Pl.sortW_len, List.length_take]; omega
      have HT : Hid (Pl.sortW (pages.take (k + 1)) = Pl.insW (Pl.sortW (pages.take k)) pages[k]) := hide (by rw [List.take_succ_eq_append_getElem hkl, Pl.sortW_snoc])
      rw [List.drop_eq_getElem_cons hkl] at ho
      generalize pages[k] = x at *
      generalize Pl.sortW (pages.take k) = SL at *
      have HD : Hid ((pages.drop (k + 1)).length + (k + 1) = pages.length) := hide (by rw [List.length_drop]; omega)
      generalize hR : pages.drop (k + 1) = R at *
      have HR := hide hR
      clear hR
      go_wp2_with fail
      go_loopw [9] (fun j wi => ∃ (A B : List Pl.WPage), j = .int .i64 A.length ∧ A ++ B = SL ∧ (∀ y ∈ B, x.page.place < y.page.place) ∧ Own wi 6 (.slice (some ⟨g, 0, none⟩) pages.length cap) pages.length ((A ++ [x] ++ B ++ R).flatMap wpCells) ∧ Kp (fun k => k = g) w wi) (fun j _ => (intOf j).toNat)
      case atStart => exact ⟨SL, [], by rw [hsl], by simp, fun y hy => by simp at hy, by simpa using ho, hx⟩
      case round =>
        obtain ⟨A, B, rfl, hAB, hB, hoi, hxi⟩ := hrel
        clear ho
        have hlen : A.length + B.length = k := by rw [← hsl, ← hAB, List.length_append]
        rcases List.eq_nil_or_concat A with rfl | ⟨A', y, rfl⟩
        · have HF : Hid (Pl.insW SL x = [] ++ [x] ++ B) := hide (by rw [← hAB]; exact Pl.insW_at [] B x hB (fun y e => by simp at e))
          clear hsl hAB
          have hx1 : Ext wr wr.drew := (Kp.refl _ _).drew
          go_wp2_with fail
          refine wp_region_late (n := 16) (Ext wr) (by kernel_rfl) ?_
          refine Late.take (i := 0) (oi := ⟨some 18, .move (.tmp 9), 3, "zsortanyfunc.go:12", #[], none⟩) (v := ?_) [2, 3, 16] rfl (by kernel_rfl) (by kernel_rfl) (by decide) (by decide) (by kernel_rfl) (by kernel_rfl) (by kernel_rfl) (fun _ _ _ h => h) rfl ?_ hx1 ?_
          rotate_left
          · (intro u hu; skip; go_simp; first | done | with_reducible rfl)
          try simp only [Act.put, List.setIfInBounds_toArray, List.set_cons_zero, List.set_cons_succ]
          refine Late.take (i := 1) (oi := ⟨some 19, .move (.tmp 1), 3, "zsortanyfunc.go:12", #[], none⟩) (v := ?_) [2, 3, 16] rfl (by kernel_rfl) (by kernel_rfl) (by decide) (by decide) (by kernel_rfl) (by kernel_rfl) (by kernel_rfl) (fun _ _ _ h => h) rfl ?_ hx1 ?_
          rotate_left
          · (intro u hu; skip; go_simp; first | done | with_reducible rfl)
          try simp only [Act.put, List.setIfInBounds_toArray, List.set_cons_zero, List.set_cons_succ]
          refine Late.take (i := 2) (oi := ⟨some 20, .binOp .gtr 3 (.tmp 18) (.tmp 19) 3, 4, "zsortanyfunc.go:12", #[⟨0, .data⟩, ⟨1, .data⟩], none⟩) (v := ?_) [3, 16] rfl (by kernel_rfl) (by kernel_rfl) (by decide) (by decide) (by kernel_rfl) (by kernel_rfl) (by kernel_rfl) (fun _ _ _ h => h) rfl ?_ hx1 ?_
          rotate_left
          · (intro u hu; skip; go_simp; first | done | with_reducible rfl)
          try simp only [Act.put, List.setIfInBounds_toArray, List.set_cons_zero, List.set_cons_succ]
          refine Late.take (i := 3) (oi := ⟨some 21, .move (.tmp 20), 4, "zsortanyfunc.go:12", #[⟨2, .data⟩], none⟩) (v := ?_) [16] rfl (by kernel_rfl) (by kernel_rfl) (by decide) (by decide) (by kernel_rfl) (by kernel_rfl) (by kernel_rfl) (fun _ _ _ h => h) rfl ?_ hx1 ?_
          rotate_left
          · (intro u hu; skip; go_simp; first | done | with_reducible rfl)
          try simp only [Act.put, List.setIfInBounds_toArray, List.set_cons_zero, List.set_cons_succ]
          refine Late.skip (i := 4) (oi := ⟨some 22, .move (.tmp 3), 258, "zsortanyfunc.go:12", #[⟨3, .guard⟩], some (3, true)⟩) [14, 15, 16] rfl (by kernel_rfl) (by kernel_rfl) (by decide) (by decide) (by kernel_rfl) (by kernel_rfl) (by kernel_rfl) (fun _ _ _ h => h) (by rfl) hx1 ?_
          try simp only [Act.put, List.setIfInBounds_toArray, List.set_cons_zero, List.set_cons_succ]
          refine Late.skip (i := 5) (oi := ⟨some 23, .move (.tmp 0), 232, "zsortanyfunc.go:12", #[⟨3, .guard⟩], some (3, true)⟩) [7, 8, 14, 15, 16] rfl (by kernel_rfl) (by kernel_rfl) (by decide) (by decide) (by kernel_rfl) (by kernel_rfl) (by kernel_rfl) (fun _ _ _ h => h) (by rfl) hx1 ?_
          try simp only [Act.put, List.setIfInBounds_toArray, List.set_cons_zero, List.set_cons_succ]
          refine Late.skip (i := 6) (oi := ⟨some 24, .move (.tmp 9), 3, "zsortanyfunc.go:12", #[⟨3, .guard⟩], some (3, true)⟩) [7, 8, 14, 15, 16] rfl (by kernel_rfl) (by kernel_rfl) (by decide) (by decide) (by kernel_rfl) (by kernel_rfl) (by kernel_rfl) (fun _ _ _ h => h) (by rfl) hx1 ?_
          try simp only [Act.put, List.setIfInBounds_toArray, List.set_cons_zero, List.set_cons_succ]
          refine Late.skip (i := 7) (oi := ⟨some 25, .indexAddr 232 (.tmp 23) (.tmp 24), 0, "zsortanyfunc.go:12", #[⟨5, .data⟩, ⟨6, .data⟩, ⟨3, .guard⟩], some (3, true)⟩) [8, 14, 15, 16] rfl (by kernel_rfl) (by kernel_rfl) (by decide) (by decide) (by kernel_rfl) (by kernel_rfl) (by kernel_rfl) (fun _ _ _ h => h) (by rfl) hx1 ?_
          try simp only [Act.put, List.setIfInBounds_toArray, List.set_cons_zero, List.set_cons_succ]
          refine Late.skip (i := 8) (oi := ⟨some 26, .load 253 (.tmp 25), 253, "zsortanyfunc.go:12", #[⟨7, .data⟩, ⟨3, .guard⟩], some (3, true)⟩) [14, 15, 16] rfl (by kernel_rfl) (by kernel_rfl) (by decide) (by decide) (by kernel_rfl) (by kernel_rfl) (by kernel_rfl) (fun _ _ _ h => h) (by rfl) hx1 ?_
          try simp only [Act.put, List.setIfInBounds_toArray, List.set_cons_zero, List.set_cons_succ]
          refine Late.skip (i := 9) (oi := ⟨some 27, .move (.tmp 0), 232, "zsortanyfunc.go:12", #[⟨3, .guard⟩], some (3, true)⟩) [12, 13, 14, 15, 16] rfl (by kernel_rfl) (by kernel_rfl) (by decide) (by decide) (by kernel_rfl) (by kernel_rfl) (by kernel_rfl) (fun _ _ _ h => h) (by rfl) hx1 ?_
          try simp only [Act.put, List.setIfInBounds_toArray, List.set_cons_zero, List.set_cons_succ]
          refine Late.skip (i := 10) (oi := ⟨some 28, .move (.tmp 9), 3, "zsortanyfunc.go:12", #[⟨3, .guard⟩], some (3, true)⟩) [11, 12, 13, 14, 15, 16] rfl (by kernel_rfl) (by kernel_rfl) (by decide) (by decide) (by kernel_rfl) (by kernel_rfl) (by kernel_rfl) (fun _ _ _ h => h) (by rfl) hx1 ?_
          try simp only [Act.put, List.setIfInBounds_toArray, List.set_cons_zero, List.set_cons_succ]
          refine Late.skip (i := 11) (oi := ⟨some 29, .binOp .sub 3 (.tmp 28) (.const (.int .i64 1)) 3, 3, "zsortanyfunc.go:12", #[⟨10, .data⟩, ⟨3, .guard⟩], some (3, true)⟩) [12, 13, 14, 15, 16] rfl (by kernel_rfl) (by kernel_rfl) (by decide) (by decide) (by kernel_rfl) (by kernel_rfl) (by kernel_rfl) (fun _ _ _ h => h) (by rfl) hx1 ?_
          try simp only [Act.put, List.setIfInBounds_toArray, List.set_cons_zero, List.set_cons_succ]
          refine Late.skip (i := 12) (oi := ⟨some 30, .indexAddr 232 (.tmp 27) (.tmp 29), 0, "zsortanyfunc.go:12", #[⟨9, .data⟩, ⟨11, .data⟩, ⟨3, .guard⟩], some (3, true)⟩) [13, 14, 15, 16] rfl (by kernel_rfl) (by kernel_rfl) (by decide) (by decide) (by kernel_rfl) (by kernel_rfl) (by kernel_rfl) (fun _ _ _ h => h) (by rfl) hx1 ?_
          try simp only [Act.put, List.setIfInBounds_toArray, List.set_cons_zero, List.set_cons_succ]
          refine Late.skip (i := 13) (oi := ⟨some 31, .load 253 (.tmp 30), 253, "zsortanyfunc.go:12", #[⟨12, .data⟩, ⟨3, .guard⟩], some (3, true)⟩) [14, 15, 16] rfl (by kernel_rfl) (by kernel_rfl) (by decide) (by decide) (by kernel_rfl) (by kernel_rfl) (by kernel_rfl) (fun _ _ _ h => h) (by rfl) hx1 ?_
          try simp only [Act.put, List.setIfInBounds_toArray, List.set_cons_zero, List.set_cons_succ]
          refine Late.skip (i := 14) (oi := ⟨some 32, .call { callee := .value (.tmp 22), args := #[.tmp 26, .tmp 31], argTypes := #[253, 253] }, 3, "zsortanyfunc.go:12", #[⟨4, .data⟩, ⟨8, .data⟩, ⟨13, .data⟩, ⟨3, .chain⟩, ⟨3, .guard⟩], some (3, true)⟩) [15, 16] rfl (by kernel_rfl) (by kernel_rfl) (by decide) (by decide) (by kernel_rfl) (by kernel_rfl) (by kernel_rfl) (fun _ _ _ h => h) (by rfl) hx1 ?_
          try simp only [Act.put, List.setIfInBounds_toArray, List.set_cons_zero, List.set_cons_succ]
          refine Late.skip (i := 15) (oi := ⟨some 33, .binOp .lss 3 (.tmp 32) (.const (.int .i64 0)) 3, 4, "zsortanyfunc.go:12", #[⟨14, .data⟩, ⟨3, .guard⟩], some (3, true)⟩) [16] rfl (by kernel_rfl) (by kernel_rfl) (by decide) (by decide) (by kernel_rfl) (by kernel_rfl) (by kernel_rfl) (fun _ _ _ h => h) (by rfl) hx1 ?_
          try simp only [Act.put, List.setIfInBounds_toArray, List.set_cons_zero, List.set_cons_succ]
          refine Late.one (i := 16) (o := ⟨some 34, .pick (.tmp 21) (.tmp 33) (.const (.bool false)), 4, "zsortanyfunc.go:12", #[⟨3, .data⟩, ⟨15, .data⟩], none⟩) (by kernel_rfl) rfl (fun K hK => ?_)
          go_simp
          refine hK _ _ (fun h => absurd rfl h) ?_
          clear hK K
          try simp only [Act.put, List.setIfInBounds_toArray, List.set_cons_zero, List.set_cons_succ]
          refine Late.done (by kernel_rfl) ?_ _
          go_wp2_with fail
          refine ⟨⟨k + 1, by go_num, by omega, by omega, ?_, hxi.trans (Kp.of_ext hx1)⟩, by simp [intOf]; omega⟩
          rw [HT.out, HF.out, HR.out]
          exact hoi.ext hx1
        · rw [List.concat_eq_append] at hAB hoi hlen
          rw [show (A'.concat y).length = A'.length + 1 by simp]
          have hll : (A' ++ [y] ++ [x] ++ B ++ R).length = pages.length := by have := HD.out; simp at hlen ⊢; omega
          obtain ⟨gy, gx⟩ := get_two A' B R x y
          obtain ⟨gyl, gy⟩ := List.getElem?_eq_some_iff.1 gy
          obtain ⟨gxl, gx⟩ := List.getElem?_eq_some_iff.1 gx
          have hcy : ∀ c, c < 6 → wr.cell? ⟨g, A'.length * 6 + c, none⟩ = (wpCells y)[c]? := fun c hc => by
            rw [(hoi.cellAt (A'.length * 6 + c) (by omega)).1, wpRow_at _ A'.length c gyl hc, gy]
          have hcx : ∀ c, c < 6 → wr.cell? ⟨g, (A'.length + 1) * 6 + c, none⟩ = (wpCells x)[c]? := fun c hc => by
            rw [(hoi.cellAt ((A'.length + 1) * 6 + c) (by omega)).1, wpRow_at _ (A'.length + 1) c gxl hc, gx]
          have hthy : wr.there g (A'.length * 6) 6 := fun c hc => ⟨by rw [hcy c hc, List.getElem?_eq_getElem (show c < (wpCells y).length from hc)]; rfl, (hoi.cellAt (A'.length * 6 + c) (by omega)).2⟩
          have hthx : wr.there g ((A'.length + 1) * 6) 6 := fun c hc => ⟨by rw [hcx c hc, List.getElem?_eq_getElem (show c < (wpCells x).length from hc)]; rfl, (hoi.cellAt ((A'.length + 1) * 6 + c) (by omega)).2⟩
          have HSW := hide (swap_eq A' B R x y)
          have hpq : A'.length + 1 ≤ pages.length := by have := HD.out; simp at hlen; omega
          obtain ⟨q, hq⟩ : ∃ q, q = A'.length + 1 := ⟨_, rfl⟩
          rw [← hq] at hcx hthx
          rw [← hq]
          have HQ := hide hq
          have hqi : (q : Int) - 1 = ((A'.length : Nat) : Int) := by omega
          have hq0 : 0 < q := by omega
          have hqp : q < pages.length := by have := HD.out; simp at hlen; omega
          have hqp' : A'.length < pages.length := by omega
          clear hq gy gx gyl gxl
          have hx1 : Ext wr wr.drew := (Kp.refl _ _).drew
          have hS : ∀ u, Ext wr u → u.cell? ⟨g, A'.length * 6, none⟩ = some (.int .i64 y.page.place) ∧ u.cell? ⟨g, A'.length * 6 + 1, none⟩ = some (.int .i64 y.page.length) ∧ u.cell? ⟨g, A'.length * 6 + 2, none⟩ = some (.int .u32 y.page.sum) ∧ u.cell? ⟨g, A'.length * 6 + 3, none⟩ = some (.int .i64 y.group) ∧ u.cell? ⟨g, A'.length * 6 + 4, none⟩ = some (.int .i64 y.column) ∧ u.cell? ⟨g, A'.length * 6 + 5, none⟩ = some (.int .i64 y.rows) ∧ u.cell? ⟨g, q * 6, none⟩ = some (.int .i64 x.page.place) ∧ u.cell? ⟨g, q * 6 + 1, none⟩ = some (.int .i64 x.page.length) ∧ u.cell? ⟨g, q * 6 + 2, none⟩ = some (.int .u32 x.page.sum) ∧ u.cell? ⟨g, q * 6 + 3, none⟩ = some (.int .i64 x.group) ∧ u.cell? ⟨g, q * 6 + 4, none⟩ = some (.int .i64 x.column) ∧ u.cell? ⟨g, q * 6 + 5, none⟩ = some (.int .i64 x.rows) :=
            fun u hu => ⟨hu.cell (hcy 0 (by omega)) id, hu.cell (hcy 1 (by omega)) id, hu.cell (hcy 2 (by omega)) id, hu.cell (hcy 3 (by omega)) id, hu.cell (hcy 4 (by omega)) id, hu.cell (hcy 5 (by omega)) id, hu.cell (hcx 0 (by omega)) id, hu.cell (hcx 1 (by omega)) id, hu.cell (hcx 2 (by omega)) id, hu.cell (hcx 3 (by omega)) id, hu.cell (hcx 4 (by omega)) id, hu.cell (hcx 5 (by omega)) id⟩
          have HS := hide hS
          clear hS hcy hcx
          have HY := hide hthy
          have HX := hide hthx
          clear hthy hthx
          generalize hpa : A'.length = pa at *
          have HPA := hide hpa
          clear hpa
          have hwp : IntKind.i64.wrap ((pa : Int)) = (pa : Int) := by simp only [IntKind.wrap, IntKind.bits, IntKind.signed, Bool.true_and]; rw [if_neg (by simp; omega)]; omega
          go_wp2_with fail
          refine wp_region_late (n := 16) (Ext wr) (by kernel_rfl) ?_
          refine Late.take (i := 0) (oi := ⟨some 18, .move (.tmp 9), 3, "zsortanyfunc.go:12", #[], none⟩) (v := ?_) [2, 3, 16] rfl (by kernel_rfl) (by kernel_rfl) (by decide) (by decide) (by kernel_rfl) (by kernel_rfl) (by kernel_rfl) (fun _ _ _ h => h) rfl ?_ hx1 ?_
          rotate_left
          · (intro u hu; skip; go_simp; first | done | with_reducible rfl)
          try simp only [Act.put, List.setIfInBounds_toArray, List.set_cons_zero, List.set_cons_succ]
          refine Late.take (i := 1) (oi := ⟨some 19, .move (.tmp 1), 3, "zsortanyfunc.go:12", #[], none⟩) (v := ?_) [2, 3, 16] rfl (by kernel_rfl) (by kernel_rfl) (by decide) (by decide) (by kernel_rfl) (by kernel_rfl) (by kernel_rfl) (fun _ _ _ h => h) rfl ?_ hx1 ?_
          rotate_left
          · (intro u hu; skip; go_simp; first | done | with_reducible rfl)
          try simp only [Act.put, List.setIfInBounds_toArray, List.set_cons_zero, List.set_cons_succ]
          refine Late.take (i := 2) (oi := ⟨some 20, .binOp .gtr 3 (.tmp 18) (.tmp 19) 3, 4, "zsortanyfunc.go:12", #[⟨0, .data⟩, ⟨1, .data⟩], none⟩) (v := ?_) [3, 16] rfl (by kernel_rfl) (by kernel_rfl) (by decide) (by decide) (by kernel_rfl) (by kernel_rfl) (by kernel_rfl) (fun _ _ _ h => h) rfl ?_ hx1 ?_
          rotate_left
          · (intro u hu; skip; go_simp; first | done | with_reducible rfl)
          try simp only [Act.put, List.setIfInBounds_toArray, List.set_cons_zero, List.set_cons_succ]
          refine Late.take (i := 3) (oi := ⟨some 21, .move (.tmp 20), 4, "zsortanyfunc.go:12", #[⟨2, .data⟩], none⟩) (v := ?_) [16] rfl (by kernel_rfl) (by kernel_rfl) (by decide) (by decide) (by kernel_rfl) (by kernel_rfl) (by kernel_rfl) (fun _ _ _ h => h) rfl ?_ hx1 ?_
          rotate_left
          · (intro u hu; skip; go_simp; first | done | with_reducible rfl)
          try simp only [Act.put, List.setIfInBounds_toArray, List.set_cons_zero, List.set_cons_succ]
          refine Late.takeW (i := 4) (oi := ⟨some 22, .move (.tmp 3), 258, "zsortanyfunc.go:12", #[⟨3, .guard⟩], some (3, true)⟩) (v := ?_) [14, 15, 16] rfl (by kernel_rfl) (by kernel_rfl) (by decide) (by decide) (by kernel_rfl) (by kernel_rfl) (by kernel_rfl) (fun _ _ _ h => h) (by rfl) ?_ hx1 ?_
          rotate_left
          · (intro u hu; obtain ⟨u0, u1, u2, u3, u4, u5, v0, v1, v2, v3, v4, v5⟩ := (unhide HS) u hu; go_simp; first | done | with_reducible rfl)
          try simp only [Act.put, List.setIfInBounds_toArray, List.set_cons_zero, List.set_cons_succ]
          refine Late.takeW (i := 5) (oi := ⟨some 23, .move (.tmp 0), 232, "zsortanyfunc.go:12", #[⟨3, .guard⟩], some (3, true)⟩) (v := ?_) [7, 8, 14, 15, 16] rfl (by kernel_rfl) (by kernel_rfl) (by decide) (by decide) (by kernel_rfl) (by kernel_rfl) (by kernel_rfl) (fun _ _ _ h => h) (by rfl) ?_ hx1 ?_
          rotate_left
          · (intro u hu; obtain ⟨u0, u1, u2, u3, u4, u5, v0, v1, v2, v3, v4, v5⟩ := (unhide HS) u hu; go_simp; first | done | with_reducible rfl)
          try simp only [Act.put, List.setIfInBounds_toArray, List.set_cons_zero, List.set_cons_succ]
          refine Late.takeW (i := 6) (oi := ⟨some 24, .move (.tmp 9), 3, "zsortanyfunc.go:12", #[⟨3, .guard⟩], some (3, true)⟩) (v := ?_) [7, 8, 14, 15, 16] rfl (by kernel_rfl) (by kernel_rfl) (by decide) (by decide) (by kernel_rfl) (by kernel_rfl) (by kernel_rfl) (fun _ _ _ h => h) (by rfl) ?_ hx1 ?_
          rotate_left
          · (intro u hu; obtain ⟨u0, u1, u2, u3, u4, u5, v0, v1, v2, v3, v4, v5⟩ := (unhide HS) u hu; go_simp; first | done | with_reducible rfl)
          try simp only [Act.put, List.setIfInBounds_toArray, List.set_cons_zero, List.set_cons_succ]
          refine Late.takeW (i := 7) (oi := ⟨some 25, .indexAddr 232 (.tmp 23) (.tmp 24), 0, "zsortanyfunc.go:12", #[⟨5, .data⟩, ⟨6, .data⟩, ⟨3, .guard⟩], some (3, true)⟩) (v := ?_) [8, 14, 15, 16] rfl (by kernel_rfl) (by kernel_rfl) (by decide) (by decide) (by kernel_rfl) (by kernel_rfl) (by kernel_rfl) (fun _ _ _ h => h) (by rfl) ?_ hx1 ?_
          rotate_left
          · (intro u hu; obtain ⟨u0, u1, u2, u3, u4, u5, v0, v1, v2, v3, v4, v5⟩ := (unhide HS) u hu; go_simp; first | done | with_reducible rfl)
          try simp only [Act.put, List.setIfInBounds_toArray, List.set_cons_zero, List.set_cons_succ]
          refine Late.takeW (i := 8) (oi := ⟨some 26, .load 253 (.tmp 25), 253, "zsortanyfunc.go:12", #[⟨7, .data⟩, ⟨3, .guard⟩], some (3, true)⟩) (v := ?_) [14, 15, 16] rfl (by kernel_rfl) (by kernel_rfl) (by decide) (by decide) (by kernel_rfl) (by kernel_rfl) (by kernel_rfl) (fun _ _ _ h => h) (by rfl) ?_ hx1 ?_
          rotate_left
          · (intro u hu; obtain ⟨u0, u1, u2, u3, u4, u5, v0, v1, v2, v3, v4, v5⟩ := (unhide HS) u hu; go_simp; first | done | with_reducible rfl)
          try simp only [Act.put, List.setIfInBounds_toArray, List.set_cons_zero, List.set_cons_succ]
          refine Late.takeW (i := 9) (oi := ⟨some 27, .move (.tmp 0), 232, "zsortanyfunc.go:12", #[⟨3, .guard⟩], some (3, true)⟩) (v := ?_) [12, 13, 14, 15, 16] rfl (by kernel_rfl) (by kernel_rfl) (by decide) (by decide) (by kernel_rfl) (by kernel_rfl) (by kernel_rfl) (fun _ _ _ h => h) (by rfl) ?_ hx1 ?_
          rotate_left
          · (intro u hu; obtain ⟨u0, u1, u2, u3, u4, u5, v0, v1, v2, v3, v4, v5⟩ := (unhide HS) u hu; go_simp; first | done | with_reducible rfl)
          try simp only [Act.put, List.setIfInBounds_toArray, List.set_cons_zero, List.set_cons_succ]
          refine Late.takeW (i := 10) (oi := ⟨some 28, .move (.tmp 9), 3, "zsortanyfunc.go:12", #[⟨3, .guard⟩], some (3, true)⟩) (v := ?_) [11, 12, 13, 14, 15, 16] rfl (by kernel_rfl) (by kernel_rfl) (by decide) (by decide) (by kernel_rfl) (by kernel_rfl) (by kernel_rfl) (fun _ _ _ h => h) (by rfl) ?_ hx1 ?_
          rotate_left
          · (intro u hu; obtain ⟨u0, u1, u2, u3, u4, u5, v0, v1, v2, v3, v4, v5⟩ := (unhide HS) u hu; go_simp; first | done | with_reducible rfl)
          try simp only [Act.put, List.setIfInBounds_toArray, List.set_cons_zero, List.set_cons_succ]
          refine Late.takeW (i := 11) (oi := ⟨some 29, .binOp .sub 3 (.tmp 28) (.const (.int .i64 1)) 3, 3, "zsortanyfunc.go:12", #[⟨10, .data⟩, ⟨3, .guard⟩], some (3, true)⟩) (v := ?_) [12, 13, 14, 15, 16] rfl (by kernel_rfl) (by kernel_rfl) (by decide) (by decide) (by kernel_rfl) (by kernel_rfl) (by kernel_rfl) (fun _ _ _ h => h) (by rfl) ?_ hx1 ?_
          rotate_left
          · (intro u hu; obtain ⟨u0, u1, u2, u3, u4, u5, v0, v1, v2, v3, v4, v5⟩ := (unhide HS) u hu; go_simp; first | done | with_reducible rfl)
          try simp only [Act.put, List.setIfInBounds_toArray, List.set_cons_zero, List.set_cons_succ]
          refine Late.takeW (i := 12) (oi := ⟨some 30, .indexAddr 232 (.tmp 27) (.tmp 29), 0, "zsortanyfunc.go:12", #[⟨9, .data⟩, ⟨11, .data⟩, ⟨3, .guard⟩], some (3, true)⟩) (v := ?_) [13, 14, 15, 16] rfl (by kernel_rfl) (by kernel_rfl) (by decide) (by decide) (by kernel_rfl) (by kernel_rfl) (by kernel_rfl) (fun _ _ _ h => h) (by rfl) ?_ hx1 ?_
          rotate_left
          · (intro u hu; obtain ⟨u0, u1, u2, u3, u4, u5, v0, v1, v2, v3, v4, v5⟩ := (unhide HS) u hu; go_simp; first | done | with_reducible rfl)
          try simp only [Act.put, List.setIfInBounds_toArray, List.set_cons_zero, List.set_cons_succ]
          refine Late.takeW (i := 13) (oi := ⟨some 31, .load 253 (.tmp 30), 253, "zsortanyfunc.go:12", #[⟨12, .data⟩, ⟨3, .guard⟩], some (3, true)⟩) (v := ?_) [14, 15, 16] rfl (by kernel_rfl) (by kernel_rfl) (by decide) (by decide) (by kernel_rfl) (by kernel_rfl) (by kernel_rfl) (fun _ _ _ h => h) (by rfl) ?_ hx1 ?_
          rotate_left
          · (intro u hu; obtain ⟨u0, u1, u2, u3, u4, u5, v0, v1, v2, v3, v4, v5⟩ := (unhide HS) u hu; go_simp; first | done | with_reducible rfl)
          try simp only [Act.put, List.setIfInBounds_toArray, List.set_cons_zero, List.set_cons_succ]
          refine Late.one (i := 14) (o := ⟨some 32, .call { callee := .value (.tmp 22), args := #[.tmp 26, .tmp 31], argTypes := #[253, 253] }, 3, "zsortanyfunc.go:12", #[⟨4, .data⟩, ⟨8, .data⟩, ⟨13, .data⟩, ⟨3, .chain⟩, ⟨3, .guard⟩], some (3, true)⟩) (by kernel_rfl) rfl (fun K hK => ?_)
          refine step_call_w (by rfl) 167 #[wpX x, wpX y] (by go_simp) ?_
          refine (cmpW_any wr.drew x y).mono ?_
          rintro e w3 ⟨rfl, x3⟩
          have hx3 : Ext wr w3 := hx1.trans x3
          refine ⟨_, rfl, hK _ _ (fun _ => hx3) ?_⟩
          clear hK K
          try simp only [Act.put, List.setIfInBounds_toArray, List.set_cons_zero, List.set_cons_succ]
          have hcn := cmpV_neg x.page.place y.page.place
          generalize cmpV x.page.place y.page.place = r at *
          by_cases hd : x.page.place < y.page.place
          · rw [decide_eq_true hd, decide_eq_true_iff] at hcn
            refine Late.takeW (i := 15) (oi := ⟨some 33, .binOp .lss 3 (.tmp 32) (.const (.int .i64 0)) 3, 4, "zsortanyfunc.go:12", #[⟨14, .data⟩, ⟨3, .guard⟩], some (3, true)⟩) (v := ?_) [16] rfl (by kernel_rfl) (by kernel_rfl) (by decide) (by decide) (by kernel_rfl) (by kernel_rfl) (by kernel_rfl) (fun _ _ _ h => h) (by rfl) ?_ hx3 ?_
            rotate_left
            · (intro u hu; skip; go_simp; first | done | with_reducible rfl)
            try simp only [Act.put, List.setIfInBounds_toArray, List.set_cons_zero, List.set_cons_succ]
            refine Late.one (i := 16) (o := ⟨some 34, .pick (.tmp 21) (.tmp 33) (.const (.bool false)), 4, "zsortanyfunc.go:12", #[⟨3, .data⟩, ⟨15, .data⟩], none⟩) (by kernel_rfl) rfl (fun K hK => ?_)
            go_simp
            refine hK _ _ (fun h => absurd rfl h) ?_
            clear hK K
            try simp only [Act.put, List.setIfInBounds_toArray, List.set_cons_zero, List.set_cons_succ]
            refine Late.done (by kernel_rfl) ?_ _
            go_wp2_with fail
            have hy1 : Ext w3 w3.drew := (Kp.refl _ _).drew
            refine wp_region_lateN (N := [2, 3, 4, 15, 16, 17]) (Ext w3) (by kernel_rfl) ?_
            refine LateN.takeP (i := 2) (oi := ⟨some 39, .move (.tmp 0), 232, "zsortanyfunc.go:13", #[{ on := 15, ground := Go.Ground.gcOnly Go.Departure.lateStores }], none⟩) (v := ?_) rfl (by kernel_rfl) (by decide) (by kernel_rfl) (by kernel_rfl) (fun _ _ _ h => h) rfl ?_ ?_
            rotate_left
            · (intro u; go_simp; first | done | with_reducible rfl)
            try simp only [Act.put, List.setIfInBounds_toArray, List.set_cons_zero, List.set_cons_succ]
            refine LateN.takeP (i := 3) (oi := ⟨some 40, .move (.tmp 9), 3, "zsortanyfunc.go:13", #[{ on := 15, ground := Go.Ground.gcOnly Go.Departure.lateStores }], none⟩) (v := ?_) rfl (by kernel_rfl) (by decide) (by kernel_rfl) (by kernel_rfl) (fun _ _ _ h => h) rfl ?_ ?_
            rotate_left
            · (intro u; go_simp; first | done | with_reducible rfl)
            try simp only [Act.put, List.setIfInBounds_toArray, List.set_cons_zero, List.set_cons_succ]
            refine LateN.takeP (i := 4) (oi := ⟨some 41, .binOp .sub 3 (.tmp 40) (.const (.int .i64 1)) 3, 3, "zsortanyfunc.go:13", #[⟨3, .data⟩, { on := 15, ground := Go.Ground.gcOnly Go.Departure.lateStores }], none⟩) (v := ?_) rfl (by kernel_rfl) (by decide) (by kernel_rfl) (by kernel_rfl) (fun _ _ _ h => h) rfl ?_ ?_
            rotate_left
            · (intro u; go_simp; first | done | with_reducible rfl)
            try simp only [Act.put, List.setIfInBounds_toArray, List.set_cons_zero, List.set_cons_succ]
            refine LateN.take (i := 0) (oi := ⟨some 37, .move (.tmp 0), 232, "zsortanyfunc.go:13", #[], none⟩) (v := ?_) [15, 16, 17] rfl (by kernel_rfl) (by kernel_rfl) (by kernel_rfl) (by kernel_rfl) (by kernel_rfl) (by kernel_rfl) (fun _ _ _ h => h) rfl ?_ hy1 ?_
            rotate_left
            · (intro u hu; skip; go_simp; first | done | with_reducible rfl)
            try simp only [Act.put, List.setIfInBounds_toArray, List.set_cons_zero, List.set_cons_succ]
            refine LateN.take (i := 1) (oi := ⟨some 38, .move (.tmp 9), 3, "zsortanyfunc.go:13", #[], none⟩) (v := ?_) [15, 16, 17] rfl (by kernel_rfl) (by kernel_rfl) (by kernel_rfl) (by kernel_rfl) (by kernel_rfl) (by kernel_rfl) (fun _ _ _ h => h) rfl ?_ hy1 ?_
            rotate_left
            · (intro u hu; skip; go_simp; first | done | with_reducible rfl)
            try simp only [Act.put, List.setIfInBounds_toArray, List.set_cons_zero, List.set_cons_succ]
            refine LateN.take (i := 5) (oi := ⟨some 42, .move (.tmp 0), 232, "zsortanyfunc.go:13", #[], none⟩) (v := ?_) [15, 16, 17] rfl (by kernel_rfl) (by kernel_rfl) (by kernel_rfl) (by kernel_rfl) (by kernel_rfl) (by kernel_rfl) (fun _ _ _ h => h) rfl ?_ hy1 ?_
            rotate_left
            · (intro u hu; obtain ⟨u0, u1, u2, u3, u4, u5, v0, v1, v2, v3, v4, v5⟩ := (unhide HS) u (hx3.trans hu); go_simp; first | done | with_reducible rfl)
            try simp only [Act.put, List.setIfInBounds_toArray, List.set_cons_zero, List.set_cons_succ]
            refine LateN.take (i := 6) (oi := ⟨some 43, .move (.tmp 9), 3, "zsortanyfunc.go:13", #[], none⟩) (v := ?_) [15, 16, 17] rfl (by kernel_rfl) (by kernel_rfl) (by kernel_rfl) (by kernel_rfl) (by kernel_rfl) (by kernel_rfl) (fun _ _ _ h => h) rfl ?_ hy1 ?_
            rotate_left
            · (intro u hu; obtain ⟨u0, u1, u2, u3, u4, u5, v0, v1, v2, v3, v4, v5⟩ := (unhide HS) u (hx3.trans hu); go_simp; first | done | with_reducible rfl)
            try simp only [Act.put, List.setIfInBounds_toArray, List.set_cons_zero, List.set_cons_succ]
            refine LateN.take (i := 7) (oi := ⟨some 44, .binOp .sub 3 (.tmp 43) (.const (.int .i64 1)) 3, 3, "zsortanyfunc.go:13", #[⟨6, .data⟩], none⟩) (v := ?_) [15, 16, 17] rfl (by kernel_rfl) (by kernel_rfl) (by kernel_rfl) (by kernel_rfl) (by kernel_rfl) (by kernel_rfl) (fun _ _ _ h => h) rfl ?_ hy1 ?_
            rotate_left
            · (intro u hu; obtain ⟨u0, u1, u2, u3, u4, u5, v0, v1, v2, v3, v4, v5⟩ := (unhide HS) u (hx3.trans hu); go_simp; first | done | with_reducible rfl)
            try simp only [Act.put, List.setIfInBounds_toArray, List.set_cons_zero, List.set_cons_succ]
            refine LateN.take (i := 8) (oi := ⟨some 45, .indexAddr 232 (.tmp 42) (.tmp 44), 0, "zsortanyfunc.go:13", #[⟨5, .data⟩, ⟨7, .data⟩], none⟩) (v := ?_) [15, 16, 17] rfl (by kernel_rfl) (by kernel_rfl) (by kernel_rfl) (by kernel_rfl) (by kernel_rfl) (by kernel_rfl) (fun _ _ _ h => h) rfl ?_ hy1 ?_
            rotate_left
            · (intro u hu; obtain ⟨u0, u1, u2, u3, u4, u5, v0, v1, v2, v3, v4, v5⟩ := (unhide HS) u (hx3.trans hu); go_simp; first | done | with_reducible rfl)
            try simp only [Act.put, List.setIfInBounds_toArray, List.set_cons_zero, List.set_cons_succ]
            refine LateN.take (i := 9) (oi := ⟨some 46, .load 253 (.tmp 45), 253, "zsortanyfunc.go:13", #[⟨8, .data⟩], none⟩) (v := ?_) [15, 16, 17] rfl (by kernel_rfl) (by kernel_rfl) (by kernel_rfl) (by kernel_rfl) (by kernel_rfl) (by kernel_rfl) (fun _ _ _ h => h) rfl ?_ hy1 ?_
            rotate_left
            · (intro u hu; obtain ⟨u0, u1, u2, u3, u4, u5, v0, v1, v2, v3, v4, v5⟩ := (unhide HS) u (hx3.trans hu); go_simp; first | done | with_reducible rfl)
            try simp only [Act.put, List.setIfInBounds_toArray, List.set_cons_zero, List.set_cons_succ]
            refine LateN.take (i := 10) (oi := ⟨some 47, .move (.tmp 0), 232, "zsortanyfunc.go:13", #[], none⟩) (v := ?_) [12, 13, 15, 16, 17] rfl (by kernel_rfl) (by kernel_rfl) (by kernel_rfl) (by kernel_rfl) (by kernel_rfl) (by kernel_rfl) (fun _ _ _ h => h) rfl ?_ hy1 ?_
            rotate_left
            · (intro u hu; obtain ⟨u0, u1, u2, u3, u4, u5, v0, v1, v2, v3, v4, v5⟩ := (unhide HS) u (hx3.trans hu); go_simp; first | done | with_reducible rfl)
            try simp only [Act.put, List.setIfInBounds_toArray, List.set_cons_zero, List.set_cons_succ]
            refine LateN.take (i := 11) (oi := ⟨some 48, .move (.tmp 9), 3, "zsortanyfunc.go:13", #[], none⟩) (v := ?_) [12, 13, 15, 16, 17] rfl (by kernel_rfl) (by kernel_rfl) (by kernel_rfl) (by kernel_rfl) (by kernel_rfl) (by kernel_rfl) (fun _ _ _ h => h) rfl ?_ hy1 ?_
            rotate_left
            · (intro u hu; obtain ⟨u0, u1, u2, u3, u4, u5, v0, v1, v2, v3, v4, v5⟩ := (unhide HS) u (hx3.trans hu); go_simp; first | done | with_reducible rfl)
            try simp only [Act.put, List.setIfInBounds_toArray, List.set_cons_zero, List.set_cons_succ]
            refine LateN.take (i := 12) (oi := ⟨some 49, .indexAddr 232 (.tmp 47) (.tmp 48), 0, "zsortanyfunc.go:13", #[⟨10, .data⟩, ⟨11, .data⟩], none⟩) (v := ?_) [13, 15, 16, 17] rfl (by kernel_rfl) (by kernel_rfl) (by kernel_rfl) (by kernel_rfl) (by kernel_rfl) (by kernel_rfl) (fun _ _ _ h => h) rfl ?_ hy1 ?_
            rotate_left
            · (intro u hu; obtain ⟨u0, u1, u2, u3, u4, u5, v0, v1, v2, v3, v4, v5⟩ := (unhide HS) u (hx3.trans hu); go_simp; first | done | with_reducible rfl)
            try simp only [Act.put, List.setIfInBounds_toArray, List.set_cons_zero, List.set_cons_succ]
            refine LateN.take (i := 13) (oi := ⟨some 50, .load 253 (.tmp 49), 253, "zsortanyfunc.go:13", #[⟨12, .data⟩], none⟩) (v := ?_) [15, 16, 17] rfl (by kernel_rfl) (by kernel_rfl) (by kernel_rfl) (by kernel_rfl) (by kernel_rfl) (by kernel_rfl) (fun _ _ _ h => h) rfl ?_ hy1 ?_
            rotate_left
            · (intro u hu; obtain ⟨u0, u1, u2, u3, u4, u5, v0, v1, v2, v3, v4, v5⟩ := (unhide HS) u (hx3.trans hu); go_simp; first | done | with_reducible rfl)
            try simp only [Act.put, List.setIfInBounds_toArray, List.set_cons_zero, List.set_cons_succ]
            refine LateN.take (i := 14) (oi := ⟨some 51, .indexAddr 232 (.tmp 37) (.tmp 38), 0, "zsortanyfunc.go:13", #[⟨0, .data⟩, ⟨1, .data⟩, ⟨0, .phase⟩, ⟨1, .phase⟩, { on := 2, ground := Go.Ground.textOnly Go.Departure.lateStores }, { on := 3, ground := Go.Ground.textOnly Go.Departure.lateStores }, { on := 4, ground := Go.Ground.textOnly Go.Departure.lateStores }, ⟨5, .phase⟩, ⟨6, .phase⟩, ⟨7, .phase⟩, ⟨8, .phase⟩, ⟨9, .phase⟩, { on := 10, ground := Go.Ground.textOnly Go.Departure.lateStores }, { on := 11, ground := Go.Ground.textOnly Go.Departure.lateStores }, { on := 12, ground := Go.Ground.textOnly Go.Departure.lateStoresUnsure }, ⟨13, .phase⟩], none⟩) (v := ?_) [15, 16, 17] rfl (by kernel_rfl) (by kernel_rfl) (by kernel_rfl) (by kernel_rfl) (by kernel_rfl) (by kernel_rfl) (fun _ _ _ h => h) rfl ?_ hy1 ?_
            rotate_left
            · (intro u hu; obtain ⟨u0, u1, u2, u3, u4, u5, v0, v1, v2, v3, v4, v5⟩ := (unhide HS) u (hx3.trans hu); go_simp; first | done | with_reducible rfl)
            try simp only [Act.put, List.setIfInBounds_toArray, List.set_cons_zero, List.set_cons_succ]
            have hdr : Ext wr w3.drew := hx3.trans hy1
            have hth1 : w3.drew.there g (q * 6) 6 := fun c hc => by
              have := (unhide HX) c hc
              rw [World.cell?_of_block (w := wr) (a := ⟨g, q * 6 + c, none⟩) (hdr.block g (hoi.lt rfl) id), World.frozen?_of_block (w := wr) (a := ⟨g, q * 6 + c, none⟩) (hdr.block g (hoi.lt rfl) id)]
              exact this
            refine LateN.one (i := 15) (o := ⟨none, .store 253 (.tmp 51) (.tmp 46), 0, "zsortanyfunc.go:13", #[⟨14, .data⟩, ⟨9, .data⟩, ⟨0, .phase⟩, ⟨1, .phase⟩, { on := 2, ground := Go.Ground.textOnly Go.Departure.lateStores }, { on := 3, ground := Go.Ground.textOnly Go.Departure.lateStores }, { on := 4, ground := Go.Ground.textOnly Go.Departure.lateStores }, ⟨5, .phase⟩, ⟨6, .phase⟩, ⟨7, .phase⟩, ⟨8, .phase⟩, ⟨9, .phase⟩, { on := 10, ground := Go.Ground.textOnly Go.Departure.lateStores }, { on := 11, ground := Go.Ground.textOnly Go.Departure.lateStores }, { on := 12, ground := Go.Ground.textOnly Go.Departure.lateStoresUnsure }, ⟨13, .phase⟩], none⟩) (by kernel_rfl) rfl (fun K hK => ?_)
            rw [if_pos (by rfl)]
            refine wp_store_mid 253 _ _ rfl g (q * 6) (wpCells y).toArray rfl rfl hth1 infoWpS (wp_all y) (hK _ _ (fun h => absurd (by decide) h) ?_)
            clear hK K
            try simp only [Act.put]
            try rw [show (wpCells y).toArray.toList = wpCells y from rfl]
            have hth2 : (w3.drew.setCells g (q * 6) (wpCells y)).there g (pa * 6) 6 := fun c hc => by
              have hq := HQ.out
              have := (unhide HY) c hc
              have e1 : (w3.drew.setCells g (q * 6) (wpCells y)).cell? ⟨g, pa * 6 + c, none⟩ = w3.drew.cell? ⟨g, pa * 6 + c, none⟩ := World.cell?_setCells_out g (wpCells y) (q * 6) w3.drew ⟨g, pa * 6 + c, none⟩ (fun _ _ => Or.inl (by show pa * 6 + c < q * 6; omega))
              have e2 : (w3.drew.setCells g (q * 6) (wpCells y)).frozen? ⟨g, pa * 6 + c, none⟩ = w3.drew.frozen? ⟨g, pa * 6 + c, none⟩ := World.frozen?_setCells g (wpCells y) (q * 6) w3.drew ⟨g, pa * 6 + c, none⟩
              rw [e1, e2, World.cell?_of_block (w := wr) (a := ⟨g, pa * 6 + c, none⟩) (hdr.block g (hoi.lt rfl) id), World.frozen?_of_block (w := wr) (a := ⟨g, pa * 6 + c, none⟩) (hdr.block g (hoi.lt rfl) id)]
              exact this
            have o2 : Own (w3.drew.setCells g (q * 6) (wpCells y)) 6 (.slice (some ⟨g, 0, none⟩) (A' ++ [y] ++ [x] ++ B ++ R).length cap) (A' ++ [y] ++ [x] ++ B ++ R).length (((A' ++ [y] ++ [x] ++ B ++ R).set q y).flatMap wpCells) := by
              have o1 := hoi.ext hdr
              rw [← hll] at o1
              exact o1.setCells q y (by rw [hll]; exact hqp)
            have hk5 : Kp (fun k => k = g) wr (w3.drew.setCells g (q * 6) (wpCells y)) := (Kp.of_ext hdr).trans (kp_setCells g (wpCells y) (q * 6) w3.drew)
            have HO2 := hide o2
            clear o2
            generalize w3.drew.setCells g (q * 6) (wpCells y) = W5 at *
            refine LateN.takeP (i := 16) (oi := ⟨some 52, .indexAddr 232 (.tmp 39) (.tmp 41), 0, "zsortanyfunc.go:13", #[⟨2, .data⟩, ⟨4, .data⟩, ⟨0, .phase⟩, ⟨1, .phase⟩, ⟨2, .phase⟩, ⟨3, .phase⟩, ⟨4, .phase⟩, ⟨5, .phase⟩, ⟨6, .phase⟩, ⟨7, .phase⟩, ⟨8, .phase⟩, ⟨9, .phase⟩, ⟨10, .phase⟩, ⟨11, .phase⟩, ⟨12, .phase⟩, ⟨13, .phase⟩, ⟨14, .phase⟩, ⟨15, .phase⟩], none⟩) (v := ?_) rfl (by kernel_rfl) (by decide) (by kernel_rfl) (by kernel_rfl) (fun _ _ _ h => h) rfl ?_ ?_
            rotate_left
            · (intro u; go_simp; first | done | with_reducible rfl)
            try simp only [Act.put, List.setIfInBounds_toArray, List.set_cons_zero, List.set_cons_succ]
            refine LateN.one (i := 17) (o := ⟨none, .store 253 (.tmp 52) (.tmp 50), 0, "zsortanyfunc.go:13", #[⟨16, .data⟩, ⟨13, .data⟩, ⟨15, .chain⟩, ⟨0, .phase⟩, ⟨1, .phase⟩, ⟨2, .phase⟩, ⟨3, .phase⟩, ⟨4, .phase⟩, ⟨5, .phase⟩, ⟨6, .phase⟩, ⟨7, .phase⟩, ⟨8, .phase⟩, ⟨9, .phase⟩, ⟨10, .phase⟩, ⟨11, .phase⟩, ⟨12, .phase⟩, ⟨13, .phase⟩, ⟨14, .phase⟩, ⟨15, .phase⟩], none⟩) (by kernel_rfl) rfl (fun K hK => ?_)
            rw [if_pos (by rfl)]
            refine wp_store_mid 253 _ _ rfl g (pa * 6) (wpCells x).toArray rfl rfl hth2 infoWpS (wp_all x) (hK _ _ (fun h => absurd (by decide) h) ?_)
            clear hK K
            try simp only [Act.put]
            try rw [show (wpCells x).toArray.toList = wpCells x from rfl]
            have hfin : Own (W5.setCells g (pa * 6) (wpCells x)) 6 (.slice (some ⟨g, 0, none⟩) pages.length cap) pages.length ((A' ++ [x] ++ ([y] ++ B) ++ R).flatMap wpCells) := by
              have o3 := Own.setCells (L := (A' ++ [y] ++ [x] ++ B ++ R).set q y) (by rw [List.length_set]; exact HO2.out) pa x (by rw [List.length_set, hll]; exact hqp')
              rw [List.length_set, hll, HQ.out, HSW.out] at o3
              exact o3
            have hkp : Kp (fun k => k = g) wr (W5.setCells g (pa * 6) (wpCells x)) := hk5.trans (kp_setCells g (wpCells x) (pa * 6) W5)
            have HFIN := hide hfin
            have HKP := hide hkp
            clear hfin hkp hth2 hk5 HO2
            generalize W5.setCells g (pa * 6) (wpCells x) = W9 at *
            refine LateN.done (by kernel_rfl) ?_ _
            have hAB' : A' ++ ([y] ++ B) = SL := by rw [← hAB]; simp
            have hB' : ∀ z ∈ [y] ++ B, x.page.place < z.page.place := fun z hz => by
              rcases List.mem_append.1 hz with h | h
              · simp at h; subst h; exact hd
              · exact hB z h
            go_wp2_with fail
            refine ⟨⟨A', [y] ++ B, by rw [HPA.out], hAB', hB', HFIN.out, hxi.trans HKP.out⟩, ?_⟩
            simp [intOf]
            omega
          · rw [decide_eq_false hd, decide_eq_false_iff_not] at hcn
            have HF : Hid (Pl.insW SL x = (A' ++ [y]) ++ [x] ++ B) := hide (by rw [← hAB]; exact Pl.insW_at (A' ++ [y]) B x hB (fun z e => by simp at e; subst e; omega))
            refine Late.takeW (i := 15) (oi := ⟨some 33, .binOp .lss 3 (.tmp 32) (.const (.int .i64 0)) 3, 4, "zsortanyfunc.go:12", #[⟨14, .data⟩, ⟨3, .guard⟩], some (3, true)⟩) (v := ?_) [16] rfl (by kernel_rfl) (by kernel_rfl) (by decide) (by decide) (by kernel_rfl) (by kernel_rfl) (by kernel_rfl) (fun _ _ _ h => h) (by rfl) ?_ hx3 ?_
            rotate_left
            · (intro u hu; skip; go_simp; first | done | with_reducible rfl)
            try simp only [Act.put, List.setIfInBounds_toArray, List.set_cons_zero, List.set_cons_succ]
            refine Late.one (i := 16) (o := ⟨some 34, .pick (.tmp 21) (.tmp 33) (.const (.bool false)), 4, "zsortanyfunc.go:12", #[⟨3, .data⟩, ⟨15, .data⟩], none⟩) (by kernel_rfl) rfl (fun K hK => ?_)
            go_simp
            refine hK _ _ (fun h => absurd rfl h) ?_
            clear hK K
            try simp only [Act.put, List.setIfInBounds_toArray, List.set_cons_zero, List.set_cons_succ]
            refine Late.done (by kernel_rfl) ?_ _
            go_wp2_with fail
            refine ⟨⟨k + 1, by go_num, by omega, by omega, ?_, hxi.trans (Kp.of_ext hx3)⟩, by simp [intOf]; omega⟩
            rw [HT.out, HF.out, HR.out]
            exact hoi.ext hx3
    · obtain rfl : k = pages.length := by omega
      rw [List.take_length, List.drop_length, List.append_nil] at ho
      go_wp2_with fail
      go_end0
      exact ⟨rfl, ho, hx⟩
end Go.Proofs.YthicgffppmbamaaGreat
