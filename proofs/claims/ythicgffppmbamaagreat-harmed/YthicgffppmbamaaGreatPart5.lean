/- ReadFooter, Columns, RowsTake, RangeSt, There, RoundIn, NxLists, NxSt, Nxt, Find. -/
import Derived.RangeFuncNested
import Derived.RangeFuncBound
import Derived.RangeFuncCalls
import Derived.RangeFuncLeaves
import Derived.Shelf.Abstract
import Derived.Shelf.RegionOpen
import Derived.WalkKit
import Derived.OwnWalkIn
import Derived.TacticsInMore
import Derived.LoopNIn
import Derived.LoopIn
import Derived.OrdersIn
import Derived.Test.YthicgffppmbamaaGreatPart1
import Derived.Test.YthicgffppmbamaaGreatPart3
import Derived.Test.YthicgffppmbamaaGreatPart4
namespace Go.Proofs.YthicgffppmbamaaGreat
open Go.RowKit

/-- the cells of the groups of a footer; pvs: their rows of pages -/
def fgRow (pvs : List Value) (l : List Pl.FGroup) : List Value := (List.zipWith (fun pv (g : Pl.FGroup) => [I g.rows, pv]) pvs l).flatten
theorem fgRow_snoc (pvs : List Value) (l : List Pl.FGroup) (pv : Value) (g : Pl.FGroup) (h : pvs.length = l.length) : fgRow (pvs ++ [pv]) (l ++ [g]) = fgRow pvs l ++ [I g.rows, pv] := by
  unfold fgRow
  rw [List.zipWith_append h]
  simp
/-- the rows of pages of the groups -/
def FgAt (C : Nat → Prop) (w : World) (cols : Nat) (pvs : List Value) (l : List Pl.FGroup) : Prop :=
  pvs.length = l.length ∧ ∀ (i : Nat) (pv : Value) (g : Pl.FGroup), pvs[i]? = some pv → l[i]? = some g → g.pages.length = cols ∧ RowAt C false w 3 pv cols (g.pages.flatMap fpCells)
theorem FgAt.go {C C' : Nat → Prop} {S : Nat → Prop} {w w' : World} {cols : Nat} {pvs : List Value} {l : List Pl.FGroup} (h : FgAt C w cols pvs l) (k : Kp S w w') (hS : ∀ i, C i → ¬ S i) (hC : ∀ i, i < w.heap.size → C i → C' i) : FgAt C' w' cols pvs l :=
  ⟨h.1, fun i pv g a b => ⟨(h.2 i pv g a b).1, (h.2 i pv g a b).2.go k hS hC⟩⟩
theorem FgAt.snoc {C : Nat → Prop} {w : World} {cols : Nat} {pvs : List Value} {l : List Pl.FGroup} (h : FgAt C w cols pvs l) {pv : Value} {g : Pl.FGroup} (hl : g.pages.length = cols) (hp : RowAt C false w 3 pv cols (g.pages.flatMap fpCells)) : FgAt C w cols (pvs ++ [pv]) (l ++ [g]) := by
  refine ⟨by simp [h.1], fun i pv' g' a b => ?_⟩
  by_cases hi : i < pvs.length
  · rw [List.getElem?_append_left hi] at a
    rw [List.getElem?_append_left (by rw [← h.1]; exact hi)] at b
    exact h.2 i pv' g' a b
  · rw [List.getElem?_append_right (by omega)] at a
    rw [List.getElem?_append_right (by rw [← h.1]; omega)] at b
    rw [List.getElem?_singleton] at a b
    split at a
    · rw [if_pos (by rw [← h.1]; assumption)] at b
      cases a
      cases b
      exact ⟨hl, hp⟩
    · cases a
/-- what file.ReadFooter answers; what it holds lies in new blocks -/
inductive FootSaid (C : Nat → Prop) (w' : World) : Option Pl.Foot → Ending → Prop
  | no : FootSaid C w' none (.returned (.tuple #[.agg #[.slice none 0 0, .slice none 0 0], .bool false]))
  | yes (f : Pl.Foot) (nv gv : Value) (pvs : List Value) (hn : RowAt C false w' 1 nv f.names.length (f.names.map tx)) (hg : RowAt C false w' 2 gv f.groups.length (fgRow pvs f.groups)) (hp : FgAt C w' f.names.length pvs f.groups) :
      FootSaid C w' (some f) (.returned (.tuple #[.agg #[nv, gv], .bool true]))

theorem nameS_len (n : Nat) (r : Pl.Rdr) : (Pl.iter Pl.nameS n ([], r)).1.length = n ∧ (Pl.iter Pl.nameS n ([], r)).2.1.length ≤ r.1.length := by
  induction n with
  | zero => exact ⟨rfl, Nat.le_refl _⟩
  | succ n ih =>
    refine ⟨by simp [Pl.iter, Pl.nameS, ih.1], ?_⟩
    refine Nat.le_trans ?_ ih.2
    have ht : ∀ k r, (Pl.rText k r).2.1.length ≤ r.1.length := by
      intro k r
      unfold Pl.rText
      split
      · exact Nat.le_refl _
      · simp
    exact Nat.le_trans (ht _ _) (rNum_len _ _ _)
theorem fgroupS_len (cols foot n : Nat) (r : Pl.Rdr) : (Pl.iter (Pl.fgroupS cols foot) n ([], r)).1.length = n ∧ (Pl.iter (Pl.fgroupS cols foot) n ([], r)).2.1.length ≤ r.1.length := by
  induction n with
  | zero => exact ⟨rfl, Nat.le_refl _⟩
  | succ n ih => exact ⟨by simp [Pl.iter, Pl.fgroupS, ih.1], Nat.le_trans (Nat.le_trans (fpageS_len foot cols _).2 (rNum_len _ _ _)) ih.2⟩
def zFg : Value := .agg #[.int .i64 0, .slice none 0 0]
theorem infoFg : (Tryz.prog.info? 229).map (fun i => (i.zero, i.size, i.bytes)) = some (some zFg, 2, 32) := by kernel_rfl

set_option maxRecDepth 20000 in
set_option maxHeartbeats 2000000 in
theorem readFooter_any (C : Nat → Prop) (w : World) (v : Value) (l : List UInt8) (foot : Nat) (hC : ∀ i, C i → i < w.heap.size) (h : RowAt C false w 1 v l.length (l.map B)) (hl : l.length ≤ 1000000) (hf4 : 4 ≤ foot) (hf : foot ≤ 1000000) :
    Calls Tryz.prog 120 #[v, .int .i64 foot] w fun e w' => Ext w w' ∧ FootSaid (fun b => w.heap.size ≤ b) w' (Pl.readFooter l foot) e := by
  have hq : ¬ C (w.heap.size + 1) := fun e => by have := hC _ e; omega
  have HP : Hid (Pl.readFooter l foot = if Pl.rRight (Pl.iter (Pl.fgroupS (Pl.iter Pl.nameS (Pl.rNum 1 4 (l, false)).1 ([], (Pl.rNum 1 4 (l, false)).2)).1.length foot) (Pl.rNum 0 6 (Pl.iter Pl.nameS (Pl.rNum 1 4 (l, false)).1 ([], (Pl.rNum 1 4 (l, false)).2)).2).1 ([], (Pl.rNum 0 6 (Pl.iter Pl.nameS (Pl.rNum 1 4 (l, false)).1 ([], (Pl.rNum 1 4 (l, false)).2)).2).2)).2 = true ∧ Pl.okNames (Pl.iter Pl.nameS (Pl.rNum 1 4 (l, false)).1 ([], (Pl.rNum 1 4 (l, false)).2)).1 = true then some ⟨(Pl.iter Pl.nameS (Pl.rNum 1 4 (l, false)).1 ([], (Pl.rNum 1 4 (l, false)).2)).1, (Pl.iter (Pl.fgroupS (Pl.iter Pl.nameS (Pl.rNum 1 4 (l, false)).1 ([], (Pl.rNum 1 4 (l, false)).2)).1.length foot) (Pl.rNum 0 6 (Pl.iter Pl.nameS (Pl.rNum 1 4 (l, false)).1 ([], (Pl.rNum 1 4 (l, false)).2)).2).1 ([], (Pl.rNum 0 6 (Pl.iter Pl.nameS (Pl.rNum 1 4 (l, false)).1 ([], (Pl.rNum 1 4 (l, false)).2)).2).2)).1⟩ else none) := hide rfl
  have hcr := rNum_le 1 4 (l, false) (by omega)
  have hcl := rNum_len 1 4 (l, false)
  generalize hc0 : Pl.rNum 1 4 (l, false) = c0 at *
  obtain ⟨cnt, r0⟩ := c0
  simp only at *
  have hnl := nameS_len cnt r0
  generalize hNM : Pl.iter Pl.nameS cnt ([], r0) = NM at *
  obtain ⟨names, r1⟩ := NM
  simp only at *
  have hgr := rNum_le 0 6 r1 (by omega)
  have hgl := rNum_len 0 6 r1
  generalize hg0 : Pl.rNum 0 6 r1 = g0 at *
  obtain ⟨gcnt, r2⟩ := g0
  simp only at *
  have hfl := fgroupS_len names.length foot gcnt r2
  generalize hGR : Pl.iter (Pl.fgroupS names.length foot) gcnt ([], r2) = GR at *
  obtain ⟨groups, r3⟩ := GR
  simp only at *
  have HNM := hide hNM
  have HGR := hide hGR
  clear hNM hGR
  go_enter Tryz.func120, Tryz.ntmps120
  go_wp2_with (first | (go_at_call 141; refine (newReader_any C _ v l (h.go (S := fun _ => False) ((Kp.refl _ _).alloc _) (fun _ _ f => f) (fun _ _ e => e))).mono ?_; rintro e w1 ⟨rfl, hr1, x1, z1⟩) | (go_at_call 142; refine (rnum_any C _ (w.heap.size + 1) (l, false) hq ((by simpa using hr1 : IsRdr C w1 (w.heap.size + 1) (l, false)).kept (S := fun _ => False) ((Kp.refl _ _).alloc _) id (fun _ _ => id)) (by show l.length ≤ _; omega) 1 4 4 (by omega) (by omega) (.inl rfl) (by omega)).mono ?_; rw [hc0]; rintro e w2 ⟨rfl, hr2, k2, z2⟩))
  have hz1 : w1.heap.size = w.heap.size + 1 + 1 := by simpa using z1
  have hz2 : w2.heap.size = w.heap.size + 1 + 1 + 1 := by rw [z2]; simpa using hz1
  have xA : Ext w (w1.alloc (.cells #[.slice none 0 0, .slice none 0 0] 188)) := (((Kp.refl _ _).alloc _).trans x1).alloc _
  have x2 : Ext w w2 := xA.then k2 (fun i hi e => by omega)
  have bF : Blk w2 (w.heap.size + 1 + 1) [.slice none 0 0, .slice none 0 0] 188 := by
    have := (Blk.of_alloc w1 [.slice none 0 0, .slice none 0 0] 188).kept k2 (by omega)
    rwa [hz1] at this
  have bR : Blk w2 w.heap.size [.slice none 0 0, .slice none 0 0] 188 :=
    (((Blk.of_alloc w [.slice none 0 0, .slice none 0 0] 188).kept x1 id).kept (S := fun _ => False) ((Kp.refl _ _).alloc _) id).kept k2 (by omega)
  clear hr1 x1 z1 k2 z2 xA hz1
  have hs3 : w.heap.size + 3 ≤ w2.heap.size := by omega
  clear hz2
  go_loopw [12] (fun i wr => ∃ (k : Nat) (nv : Value), i = .int .i64 k ∧ k ≤ cnt ∧ IsRdr C wr (w.heap.size + 1) (Pl.iter Pl.nameS k ([], r0)).2 ∧ Blk wr (w.heap.size + 1 + 1) [nv, .slice none 0 0] 188 ∧ Blk wr w.heap.size [.slice none 0 0, .slice none 0 0] 188 ∧ Own wr 1 nv k ((Pl.iter Pl.nameS k ([], r0)).1.map tx) ∧ (∀ g, nv.ownBlock = some g → w.heap.size + 3 ≤ g) ∧ Ext w wr) (fun i _ => cnt - (intOf i).toNat)
  case atStart => exact ⟨0, _, rfl, by omega, hr2, bF, bR, Own.nil _ _, fun g e => by simp [Value.ownBlock] at e, x2⟩
  case round =>
    obtain ⟨k, nv, rfl, hk, hr, hbF, hbR, ho, hg, kk⟩ := hrel
    have hlen := nameS_len k r0
    clear hr2 bF bR x2
    obtain ⟨ao, cap, rfl, hcap⟩ := ho.shape
    by_cases hkl : k < cnt
    · have HS : Hid (Pl.iter Pl.nameS (k + 1) ([], r0) = Pl.nameS (Pl.iter Pl.nameS k ([], r0))) := hide rfl
      generalize hst : Pl.iter Pl.nameS k ([], r0) = st at *
      obtain ⟨xs, r'⟩ := st
      simp only at *
      clear hst
      have hp := rNum_le 1 8 r' (by omega)
      have hpl := rNum_len 1 8 r'
      have HA : Hid (Pl.nameS (xs, r') = (xs ++ [(Pl.rText (Pl.rNum 1 8 r').1 (Pl.rNum 1 8 r').2).1], (Pl.rText (Pl.rNum 1 8 r').1 (Pl.rNum 1 8 r').2).2)) := hide rfl
      generalize hA : Pl.rNum 1 8 r' = A at *
      obtain ⟨n8, r8⟩ := A
      simp only at *
      go_wp2_with fail
      have c0 := hbF.cell 0
      have f0 := hbF.free 0
      simp only [List.getElem?_cons_zero] at c0
      have hS : ∀ u, Kp (fun k => k ≠ w.heap.size + 1 + 1) wr u → u.cell? ⟨w.heap.size + 1 + 1, 0, none⟩ = some (.slice ao k cap) := fun u hu => hu.cell c0 (by simp)
      have HC := hide hS
      clear hS
      have hK1 : Kp (fun k => k ≠ w.heap.size + 1 + 1) wr wr.drew := (Kp.refl _ _).drew
      have hFl := hbF.lt
      refine wp_region_late (n := 9) (Kp (fun k => k ≠ w.heap.size + 1 + 1) wr) (by kernel_rfl) ?_
      refine Late.take (i := 0) (oi := ⟨some 14, .fieldAddr 188 (.tmp 7) 0, 0, "footer.go:34", #[], none⟩) (v := ?_) [9] rfl (by kernel_rfl) (by kernel_rfl) (by decide) (by decide) (by kernel_rfl) (by kernel_rfl) (by kernel_rfl) (fun _ _ _ h => h) rfl ?_ hK1 ?_
      rotate_left
      · (intro u hu; have u1 := (unhide HC) u hu; go_simp; first | done | with_reducible rfl)
      try simp only [Act.put, List.setIfInBounds_toArray, List.set_cons_zero, List.set_cons_succ]
      refine Late.take (i := 1) (oi := ⟨some 15, .load 22 (.tmp 14), 22, "footer.go:34", #[⟨0, .data⟩], none⟩) (v := ?_) [9] rfl (by kernel_rfl) (by kernel_rfl) (by decide) (by decide) (by kernel_rfl) (by kernel_rfl) (by kernel_rfl) (fun _ _ _ h => h) rfl ?_ hK1 ?_
      rotate_left
      · (intro u hu; have u1 := (unhide HC) u hu; go_simp; first | done | with_reducible rfl)
      try simp only [Act.put, List.setIfInBounds_toArray, List.set_cons_zero, List.set_cons_succ]
      refine Late.take (i := 2) (oi := ⟨some 16, .move (.tmp 6), 225, "footer.go:34", #[], none⟩) (v := ?_) [9] rfl (by kernel_rfl) (by kernel_rfl) (by decide) (by decide) (by kernel_rfl) (by kernel_rfl) (by kernel_rfl) (fun _ _ _ h => h) rfl ?_ hK1 ?_
      rotate_left
      · (intro u hu; have u1 := (unhide HC) u hu; go_simp; first | done | with_reducible rfl)
      try simp only [Act.put, List.setIfInBounds_toArray, List.set_cons_zero, List.set_cons_succ]
      refine Late.take (i := 3) (oi := ⟨some 17, .move (.tmp 6), 225, "footer.go:34", #[], none⟩) (v := ?_) [9] rfl (by kernel_rfl) (by kernel_rfl) (by decide) (by decide) (by kernel_rfl) (by kernel_rfl) (by kernel_rfl) (fun _ _ _ h => h) rfl ?_ hK1 ?_
      rotate_left
      · (intro u hu; have u1 := (unhide HC) u hu; go_simp; first | done | with_reducible rfl)
      try simp only [Act.put, List.setIfInBounds_toArray, List.set_cons_zero, List.set_cons_succ]
      refine Late.one (i := 4) (o := ⟨some 18, .call { callee := .value (.func 142), args := #[.tmp 17, .const (.int .i64 1), .const (.int .i64 8)], argTypes := #[225, 3, 3] }, 3, "footer.go:34", #[⟨3, .data⟩], none⟩) (by kernel_rfl) rfl (fun K hK => ?_)
      refine step_call_g rfl 142 #[PtrTo (w.heap.size + 1) 0, .int .i64 1, .int .i64 8] (by go_simp) ?_
      refine (rnum_any C wr.drew (w.heap.size + 1) r' hq (hr.kept (S := fun _ => False) (Kp.refl _ _).drew id (fun _ _ => id)) (by omega) 1 8 8 (by omega) (by omega) (.inl rfl) (by omega)).mono ?_
      rw [hA]
      rintro e w3 ⟨rfl, hr3, k3, z3⟩
      have x3 : Kp (fun k => k = w.heap.size + 1) wr w3 := ((Kp.refl _ _).drew).trans k3
      have g3 : Kp (fun k => k ≠ w.heap.size + 1 + 1) wr w3 := x3.mono (fun i _ hi => by omega)
      refine ⟨_, rfl, hK _ _ (fun _ => g3) ?_⟩
      clear hK K
      try simp only [Act.put, List.setIfInBounds_toArray, List.set_cons_zero, List.set_cons_succ]
      refine Late.one (i := 5) (o := ⟨some 19, .call { callee := .value (.func 143), args := #[.tmp 16, .tmp 18], argTypes := #[225, 3] }, 9, "footer.go:34", #[⟨2, .data⟩, ⟨4, .data⟩, ⟨4, .chain⟩], none⟩) (by kernel_rfl) rfl (fun K hK => ?_)
      refine step_call_g rfl 143 #[PtrTo (w.heap.size + 1) 0, .int .i64 n8] (by go_simp) ?_
      refine (rtext_any C w3 (w.heap.size + 1) r8 hq hr3 (by omega) n8 (by omega) (by omega)).mono ?_
      rintro e w4 ⟨rfl, hr4, k4, z4⟩
      have x4 : Kp (fun k => k = w.heap.size + 1) wr w4 := x3.trans k4
      have g4 : Kp (fun k => k ≠ w.heap.size + 1 + 1) wr w4 := x4.mono (fun i _ hi => by omega)
      refine ⟨_, rfl, hK _ _ (fun _ => g4) ?_⟩
      clear hK K
      try simp only [Act.put, List.setIfInBounds_toArray, List.set_cons_zero, List.set_cons_succ]
      have hz4 : wr.heap.size = w4.heap.size := (z4.trans z3).symm
      have HZ := hide hz4
      clear z3 z4 hz4
      generalize hT : Pl.rText n8 r8 = T at *
      obtain ⟨nm, r9⟩ := T
      simp only at *
      refine Late.one (i := 6) (o := ⟨some 20, .buildSlice 22 1 #[(0, .tmp 19)], 22, "footer.go:34", #[⟨5, .data⟩], none⟩) (by kernel_rfl) rfl (fun K hK => ?_)
      go_simp
      refine hK _ _ (fun _ => g4.alloc _) ?_
      clear hK K
      try simp only [Act.put, List.setIfInBounds_toArray, List.set_cons_zero, List.set_cons_succ]
      have ho3 : Own (w4.alloc (.cells #[tx nm] 9)) 1 (.slice ao k cap) k (xs.map tx) := (ho.kept x4 (fun g e hq' => by have := hg g e; omega)).ext ((Kp.refl _ _).alloc _)
      refine Late.one (i := 7) (o := ⟨some 21, .call { callee := .builtin .append, args := #[.tmp 15, .tmp 20], argTypes := #[22, 22] }, 22, "footer.go:34", #[⟨1, .data⟩, ⟨6, .data⟩, ⟨5, .chain⟩], none⟩) (by kernel_rfl) rfl (fun K hK => ?_)
      refine step_append_g rfl _ _ 22 22 rfl 9 (.string ByteArray.empty) 1 16 Tryz.underlying22 infoStr rfl _ _ _ (by rfl) ho3 _ (by rfl) 1 _ (src_elemN' w4 w4.heap.size rfl _ _ Tryz.underlying22 _ [tx nm] rfl (by intro u hu; simp at hu; subst hu; rfl)) (by omega) (by omega) ?_
      intro v' w5 o5 k5 s5
      have hav : ∀ g, (Value.slice ao k cap).ownBlock = some g → w.heap.size + 3 ≤ g := hg
      have g5 : Kp (fun k => k ≠ w.heap.size + 1 + 1) wr w5 := (g4.alloc _).trans (k5.mono (fun i _ e => by have := hav i e; omega))
      refine hK _ _ (fun _ => g5) ?_
      clear hK K
      obtain ⟨a', c', rfl, hc'⟩ := o5.shape
      try simp only [Act.put, List.setIfInBounds_toArray, List.set_cons_zero, List.set_cons_succ]
      have c5 : w5.cell? ⟨w.heap.size + 1 + 1, 0, none⟩ = some (.slice ao k cap) := g5.cell c0 (by simp)
      have f5 : w5.frozen? ⟨w.heap.size + 1 + 1, 0, none⟩ = false := by rw [World.frozen?_of_block (w := wr) (a := ⟨w.heap.size + 1 + 1, 0, none⟩) (g5.block _ hFl (by simp))]; exact f0
      refine Late.one (i := 8) (o := ⟨some 22, .fieldAddr 188 (.tmp 7) 0, 0, "footer.go:34", #[⟨0, .phase⟩, ⟨1, .phase⟩, ⟨2, .phase⟩, ⟨3, .phase⟩, ⟨4, .phase⟩, ⟨5, .phase⟩, ⟨6, .phase⟩, ⟨7, .phase⟩], none⟩) (by kernel_rfl) rfl (fun K hK => ?_)
      go_simp
      refine hK _ _ (fun _ => g5) ?_
      clear hK K
      try simp only [Act.put, List.setIfInBounds_toArray, List.set_cons_zero, List.set_cons_succ]
      refine Late.one (i := 9) (o := ⟨none, .store 22 (.tmp 22) (.tmp 21), 0, "footer.go:34", #[⟨8, .data⟩, ⟨7, .data⟩, ⟨7, .chain⟩, ⟨0, .phase⟩, ⟨1, .phase⟩, ⟨2, .phase⟩, ⟨3, .phase⟩, ⟨4, .phase⟩, ⟨5, .phase⟩, ⟨6, .phase⟩, ⟨7, .phase⟩], none⟩) (by kernel_rfl) rfl (fun K hK => ?_)
      go_simp
      refine hK _ _ (fun h => absurd rfl h) ?_
      clear hK K
      try simp only [Act.put, List.setIfInBounds_toArray, List.set_cons_zero, List.set_cons_succ]
      refine Late.done (by kernel_rfl) ?_ _
      go_wp2_with fail
      have x5 : Kp (fun i => i = w.heap.size + 1 ∨ (Value.slice ao k cap).ownBlock = some i) wr w5 := ((x4.mono (fun _ _ e => .inl e)).alloc _).trans (k5.mono (fun _ _ e => .inr e))
      have hq5 : IsRdr C w5 (w.heap.size + 1) r9 := (hr4.kept (S := fun _ => False) ((Kp.refl _ _).alloc _) id (fun _ _ => id)).kept k5 (fun e => by have := hav _ e; omega) (fun i hi e => by have := hav i e; have := hC i hi; omega)
      have hF5 : Blk w5 (w.heap.size + 1 + 1) [.slice ao k cap, .slice none 0 0] 188 := hbF.kept x5 (fun e => e.elim (fun e => by omega) (fun e => by have := hav _ e; omega))
      have hR5 : Blk w5 w.heap.size [.slice none 0 0, .slice none 0 0] 188 := hbR.kept x5 (fun e => e.elim (fun e => by omega) (fun e => by have := hav _ e; omega))
      have kk5 : Ext w w5 := kk.then x5 (fun i hi e => e.elim (fun e => by omega) (fun e => by have := hav _ e; omega))
      have ks := kp_set' w5 (w.heap.size + 1 + 1) 0 (.slice a' (k + 1) c')
      have hsz := kk.size
      refine ⟨⟨k + 1, .slice a' (k + 1) c', by go_num, by omega, ?_, hF5.set 0 _, hR5.kept ks (by omega), ?_, ?_, kk5.then ks (fun i hi e => by omega)⟩, by simp [intOf]; omega⟩
      · rw [HS.out, HA.out]
        exact hq5.kept ks (by omega) (fun i hi e => by have := hC i hi; omega)
      · rw [HS.out, HA.out, List.map_append]
        refine o5.kept ks (fun g e => ?_)
        rcases s5 with e' | ⟨g', e1, e2⟩
        · rw [e'] at e; have := hav g e; omega
        · rw [e1] at e; simp only [Option.some.injEq] at e; subst e; simp at e2; have := HZ.out; omega
      · intro g e
        rcases s5 with e' | ⟨g', e1, e2⟩
        · rw [e'] at e; exact hav g e
        · rw [e1] at e; simp only [Option.some.injEq] at e; subst e; simp at e2; have := HZ.out; omega
    · obtain rfl : k = cnt := by omega
      rw [HNM.out] at hr ho hlen
      simp only at *
      clear HNM
      go_wp2_with (go_at_call 142; refine (rnum_any C _ (w.heap.size + 1) r1 hq hr (by omega) 0 6 6 (by omega) (by omega) (.inl rfl) (by omega)).mono ?_; rw [hg0]; rintro e w3 ⟨rfl, hr3, k3, z3⟩)
      obtain ⟨hn1, hn2⟩ := hlen
      subst hn1
      clear hnl hk hkl
      have hbF3 := hbF.kept k3 (by omega)
      have hbR3 := hbR.kept k3 (by omega)
      have hN3 : RowAt (fun b => w.heap.size + 3 ≤ b ∧ (Value.slice none 0 0).ownBlock ≠ some b) false w3 1 (.slice ao names.length cap) names.length (names.map tx) :=
        ((ho.kept k3 (fun g e hq' => by have := hg g e; omega)).rowAt _ (fun g e => ⟨hg g e, by simp [Value.ownBlock]⟩)).weak
      have kk3 : Ext w w3 := kk.then k3 (fun i hi e => by omega)
      have hs4 : w.heap.size + 3 ≤ w3.heap.size := by have := kk.size; have := k3.size; have := hbF3.lt; omega
      clear hr hbR kk hbF ho hg k3 z3 hs3
      go_loopw [26] (fun i wr => ∃ (k : Nat) (gv : Value) (pvs : List Value), i = .int .i64 k ∧ k ≤ gcnt ∧ IsRdr C wr (w.heap.size + 1) (Pl.iter (Pl.fgroupS names.length foot) k ([], r2)).2 ∧ Blk wr (w.heap.size + 1 + 1) [.slice ao names.length cap, gv] 188 ∧ Blk wr w.heap.size [.slice none 0 0, .slice none 0 0] 188 ∧ Own wr 2 gv k (fgRow pvs (Pl.iter (Pl.fgroupS names.length foot) k ([], r2)).1) ∧ (∀ g, gv.ownBlock = some g → w.heap.size + 3 ≤ g) ∧ RowAt (fun b => w.heap.size + 3 ≤ b ∧ gv.ownBlock ≠ some b) false wr 1 (.slice ao names.length cap) names.length (names.map tx) ∧ FgAt (fun b => w.heap.size + 3 ≤ b ∧ gv.ownBlock ≠ some b) wr names.length pvs (Pl.iter (Pl.fgroupS names.length foot) k ([], r2)).1 ∧ Ext w wr) (fun i _ => gcnt - (intOf i).toNat)
      case atStart => exact ⟨0, _, [], rfl, by omega, hr3, hbF3, hbR3, Own.nil _ _, fun g e => by simp [Value.ownBlock] at e, hN3, ⟨rfl, fun i pv g a => by simp at a⟩, kk3⟩
      case round =>
        obtain ⟨k, gv, pvs, rfl, hk, hr, hbF, hbR, ho, hg, hN, hFG, kk⟩ := hrel
        have hlen := fgroupS_len names.length foot k r2
        clear hr3 hbF3 hbR3 hN3 kk3
        obtain ⟨go, gc, rfl, hgcap⟩ := ho.shape
        by_cases hkl : k < gcnt
        · have HS : Hid (Pl.iter (Pl.fgroupS names.length foot) (k + 1) ([], r2) = Pl.fgroupS names.length foot (Pl.iter (Pl.fgroupS names.length foot) k ([], r2))) := hide rfl
          generalize hst : Pl.iter (Pl.fgroupS names.length foot) k ([], r2) = st at *
          obtain ⟨xs, r'⟩ := st
          simp only at *
          clear hst
          have HA : Hid (Pl.fgroupS names.length foot (xs, r') = (xs ++ [(Pl.fgroup names.length foot r').1], (Pl.fgroup names.length foot r').2)) := hide rfl
          have HL : Hid ((Pl.fgroup names.length foot r').1.pages.length = names.length) := hide (fpageS_len foot names.length _).1
          generalize hA : Pl.fgroup names.length foot r' = A at *
          obtain ⟨gg, r8⟩ := A
          simp only at *
          go_wp2_with fail
          have c0 := hbF.cell 0
          have c1 := hbF.cell 1
          have f1 := hbF.free 1
          simp only [List.getElem?_cons_zero, List.getElem?_cons_succ] at c0 c1
          have hS : ∀ u, Kp (fun k => k ≠ w.heap.size + 1 + 1) wr u → u.cell? ⟨w.heap.size + 1 + 1, 0, none⟩ = some (.slice ao names.length cap) ∧ u.cell? ⟨w.heap.size + 1 + 1, 1, none⟩ = some (.slice go k gc) := fun u hu => ⟨hu.cell c0 (by simp), hu.cell c1 (by simp)⟩
          have HC := hide hS
          clear hS
          have hK1 : Kp (fun k => k ≠ w.heap.size + 1 + 1) wr wr.drew := (Kp.refl _ _).drew
          have hFl := hbF.lt
          have hwz := kk.size
          refine wp_region_late (n := 11) (Kp (fun k => k ≠ w.heap.size + 1 + 1) wr) (by kernel_rfl) ?_
          refine Late.take (i := 0) (oi := ⟨some 28, .fieldAddr 188 (.tmp 7) 1, 0, "footer.go:37", #[], none⟩) (v := ?_) [11] rfl (by kernel_rfl) (by kernel_rfl) (by decide) (by decide) (by kernel_rfl) (by kernel_rfl) (by kernel_rfl) (fun _ _ _ h => h) rfl ?_ hK1 ?_
          rotate_left
          · (intro u hu; obtain ⟨u0, u1⟩ := (unhide HC) u hu; go_simp; first | done | with_reducible rfl)
          try simp only [Act.put, List.setIfInBounds_toArray, List.set_cons_zero, List.set_cons_succ]
          refine Late.take (i := 1) (oi := ⟨some 29, .load 186 (.tmp 28), 186, "footer.go:37", #[⟨0, .data⟩], none⟩) (v := ?_) [11] rfl (by kernel_rfl) (by kernel_rfl) (by decide) (by decide) (by kernel_rfl) (by kernel_rfl) (by kernel_rfl) (fun _ _ _ h => h) rfl ?_ hK1 ?_
          rotate_left
          · (intro u hu; obtain ⟨u0, u1⟩ := (unhide HC) u hu; go_simp; first | done | with_reducible rfl)
          try simp only [Act.put, List.setIfInBounds_toArray, List.set_cons_zero, List.set_cons_succ]
          refine Late.take (i := 2) (oi := ⟨some 30, .move (.tmp 6), 225, "footer.go:37", #[], none⟩) (v := ?_) [11] rfl (by kernel_rfl) (by kernel_rfl) (by decide) (by decide) (by kernel_rfl) (by kernel_rfl) (by kernel_rfl) (fun _ _ _ h => h) rfl ?_ hK1 ?_
          rotate_left
          · (intro u hu; obtain ⟨u0, u1⟩ := (unhide HC) u hu; go_simp; first | done | with_reducible rfl)
          try simp only [Act.put, List.setIfInBounds_toArray, List.set_cons_zero, List.set_cons_succ]
          refine Late.take (i := 3) (oi := ⟨some 31, .fieldAddr 188 (.tmp 7) 0, 0, "footer.go:37", #[], none⟩) (v := ?_) [11] rfl (by kernel_rfl) (by kernel_rfl) (by decide) (by decide) (by kernel_rfl) (by kernel_rfl) (by kernel_rfl) (fun _ _ _ h => h) rfl ?_ hK1 ?_
          rotate_left
          · (intro u hu; obtain ⟨u0, u1⟩ := (unhide HC) u hu; go_simp; first | done | with_reducible rfl)
          try simp only [Act.put, List.setIfInBounds_toArray, List.set_cons_zero, List.set_cons_succ]
          refine Late.take (i := 4) (oi := ⟨some 32, .load 22 (.tmp 31), 22, "footer.go:37", #[⟨3, .data⟩], none⟩) (v := ?_) [11] rfl (by kernel_rfl) (by kernel_rfl) (by decide) (by decide) (by kernel_rfl) (by kernel_rfl) (by kernel_rfl) (fun _ _ _ h => h) rfl ?_ hK1 ?_
          rotate_left
          · (intro u hu; obtain ⟨u0, u1⟩ := (unhide HC) u hu; go_simp; first | done | with_reducible rfl)
          try simp only [Act.put, List.setIfInBounds_toArray, List.set_cons_zero, List.set_cons_succ]
          refine Late.take (i := 5) (oi := ⟨some 33, .call { callee := .builtin .len, args := #[.tmp 32], argTypes := #[22] }, 3, "footer.go:37", #[⟨4, .data⟩], none⟩) (v := ?_) [11] rfl (by kernel_rfl) (by kernel_rfl) (by decide) (by decide) (by kernel_rfl) (by kernel_rfl) (by kernel_rfl) (fun _ _ _ h => h) rfl ?_ hK1 ?_
          rotate_left
          · (intro u hu; obtain ⟨u0, u1⟩ := (unhide HC) u hu; go_simp; first | done | with_reducible rfl)
          try simp only [Act.put, List.setIfInBounds_toArray, List.set_cons_zero, List.set_cons_succ]
          refine Late.take (i := 6) (oi := ⟨some 34, .move (.tmp 1), 3, "footer.go:37", #[], none⟩) (v := ?_) [11] rfl (by kernel_rfl) (by kernel_rfl) (by decide) (by decide) (by kernel_rfl) (by kernel_rfl) (by kernel_rfl) (fun _ _ _ h => h) rfl ?_ hK1 ?_
          rotate_left
          · (intro u hu; obtain ⟨u0, u1⟩ := (unhide HC) u hu; go_simp; first | done | with_reducible rfl)
          try simp only [Act.put, List.setIfInBounds_toArray, List.set_cons_zero, List.set_cons_succ]
          refine Late.one (i := 7) (o := ⟨some 35, .call { callee := .value (.func 144), args := #[.tmp 30, .tmp 33, .tmp 34], argTypes := #[225, 3, 3] }, 229, "footer.go:37", #[⟨2, .data⟩, ⟨5, .data⟩, ⟨6, .data⟩], none⟩) (by kernel_rfl) rfl (fun K hK => ?_)
          refine step_call_g rfl 144 #[PtrTo (w.heap.size + 1) 0, .int .i64 names.length, .int .i64 foot] (by go_simp) ?_
          refine (readGroup_any C wr.drew (w.heap.size + 1) r' (fun i hi => by have := hC i hi; show i < wr.heap.size; omega) hq (hr.kept (S := fun _ => False) (Kp.refl _ _).drew id (fun _ _ => id)) (by omega) names.length foot (by omega) hf4 hf).mono ?_
          rw [hA]
          rintro e w3 ⟨pv, rfl, o3, fr3, hr3, k3⟩
          have x3 : Kp (fun k => k = w.heap.size + 1) wr w3 := ((Kp.refl _ _).drew).trans k3
          have g3 : Kp (fun k => k ≠ w.heap.size + 1 + 1) wr w3 := x3.mono (fun i _ hi => by omega)
          refine ⟨_, rfl, hK _ _ (fun _ => g3) ?_⟩
          clear hK K
          obtain ⟨po, pc, rfl, _⟩ := o3.shape
          try simp only [Act.put, List.setIfInBounds_toArray, List.set_cons_zero, List.set_cons_succ]
          refine Late.one (i := 8) (o := ⟨some 36, .buildSlice 186 1 #[(0, .tmp 35)], 186, "footer.go:37", #[⟨7, .data⟩], none⟩) (by kernel_rfl) rfl (fun K hK => ?_)
          go_simp
          refine hK _ _ (fun _ => g3.alloc _) ?_
          clear hK K
          try simp only [Act.put, List.setIfInBounds_toArray, List.set_cons_zero, List.set_cons_succ]
          have ho4 : Own (w3.alloc (.cells #[I gg.rows, .slice po names.length pc] 229)) 2 (.slice go k gc) k (fgRow pvs xs) := (ho.kept x3 (fun g e hq' => by have := hg g e; omega)).ext ((Kp.refl _ _).alloc _)
          refine Late.one (i := 9) (o := ⟨some 37, .call { callee := .builtin .append, args := #[.tmp 29, .tmp 36], argTypes := #[186, 186] }, 186, "footer.go:37", #[⟨1, .data⟩, ⟨8, .data⟩, ⟨7, .chain⟩], none⟩) (by kernel_rfl) rfl (fun K hK => ?_)
          refine step_append_g rfl _ _ 186 186 rfl 229 zFg 2 32 Tryz.underlying186 infoFg rfl _ _ _ (by rfl) ho4 _ (by rfl) 1 _ (src_elemN' w3 w3.heap.size rfl _ _ Tryz.underlying186 _ [I gg.rows, .slice po names.length pc] rfl (by intro u hu; simp at hu; rcases hu with rfl | rfl <;> rfl)) (by omega) (by omega) ?_
          intro v' w5 o5 k5 s5
          have hav : ∀ g, (Value.slice go k gc).ownBlock = some g → w.heap.size + 3 ≤ g := hg
          have g5 : Kp (fun k => k ≠ w.heap.size + 1 + 1) wr w5 := (g3.alloc _).trans (k5.mono (fun i _ e => by have := hav i e; omega))
          refine hK _ _ (fun _ => g5) ?_
          clear hK K
          obtain ⟨a', c', rfl, hc'⟩ := o5.shape
          try simp only [Act.put, List.setIfInBounds_toArray, List.set_cons_zero, List.set_cons_succ]
          have c5 : w5.cell? ⟨w.heap.size + 1 + 1, 1, none⟩ = some (.slice go k gc) := g5.cell c1 (by simp)
          have f5 : w5.frozen? ⟨w.heap.size + 1 + 1, 1, none⟩ = false := by rw [World.frozen?_of_block (w := wr) (a := ⟨w.heap.size + 1 + 1, 1, none⟩) (g5.block _ hFl (by simp))]; exact f1
          refine Late.one (i := 10) (o := ⟨some 38, .fieldAddr 188 (.tmp 7) 1, 0, "footer.go:37", #[⟨0, .phase⟩, ⟨1, .phase⟩, ⟨2, .phase⟩, ⟨3, .phase⟩, ⟨4, .phase⟩, ⟨5, .phase⟩, ⟨6, .phase⟩, ⟨7, .phase⟩, ⟨8, .phase⟩, ⟨9, .phase⟩], none⟩) (by kernel_rfl) rfl (fun K hK => ?_)
          go_simp
          refine hK _ _ (fun _ => g5) ?_
          clear hK K
          try simp only [Act.put, List.setIfInBounds_toArray, List.set_cons_zero, List.set_cons_succ]
          refine Late.one (i := 11) (o := ⟨none, .store 186 (.tmp 38) (.tmp 37), 0, "footer.go:37", #[⟨10, .data⟩, ⟨9, .data⟩, ⟨9, .chain⟩, ⟨0, .phase⟩, ⟨1, .phase⟩, ⟨2, .phase⟩, ⟨3, .phase⟩, ⟨4, .phase⟩, ⟨5, .phase⟩, ⟨6, .phase⟩, ⟨7, .phase⟩, ⟨8, .phase⟩, ⟨9, .phase⟩], none⟩) (by kernel_rfl) rfl (fun K hK => ?_)
          go_simp
          refine hK _ _ (fun h => absurd rfl h) ?_
          clear hK K
          try simp only [Act.put, List.setIfInBounds_toArray, List.set_cons_zero, List.set_cons_succ]
          refine Late.done (by kernel_rfl) ?_ _
          go_wp2_with fail
          have xa : Kp (fun k => k = w.heap.size + 1) wr (w3.alloc (.cells #[I gg.rows, .slice po names.length pc] 229)) := x3.alloc _
          have hza := xa.size
          have hol : ∀ g, (Value.slice go k gc).ownBlock = some g → g < wr.heap.size := fun g e => ho.lt e
          have x5 : Kp (fun i => i = w.heap.size + 1 ∨ (Value.slice go k gc).ownBlock = some i) wr w5 := (xa.mono (fun _ _ e => .inl e)).trans (k5.mono (fun _ _ e => .inr e))
          have hq5 : IsRdr C w5 (w.heap.size + 1) r8 := (hr3.kept (S := fun _ => False) ((Kp.refl _ _).alloc _) id (fun _ _ => id)).kept k5 (fun e => by have := hav _ e; omega) (fun i hi e => by have := hav i e; have := hC i hi; omega)
          have hF5 : Blk w5 (w.heap.size + 1 + 1) [.slice ao names.length cap, .slice go k gc] 188 := hbF.kept x5 (fun e => e.elim (fun e => by omega) (fun e => by have := hav _ e; omega))
          have hR5 : Blk w5 w.heap.size [.slice none 0 0, .slice none 0 0] 188 := hbR.kept x5 (fun e => e.elim (fun e => by omega) (fun e => by have := hav _ e; omega))
          have kk5 : Ext w w5 := kk.then x5 (fun i hi e => e.elim (fun e => by omega) (fun e => by have := hav _ e; omega))
          have ks := kp_set' w5 (w.heap.size + 1 + 1) 1 (.slice a' (k + 1) c')
          have hnew : ∀ g, (Value.slice a' (k + 1) c').ownBlock = some g → (Value.slice go k gc).ownBlock = some g ∨ wr.heap.size ≤ g := fun g e => by
            rcases s5 with e' | ⟨g', e1, e2⟩
            · rw [e'] at e; exact .inl e
            · rw [e1] at e; simp only [Option.some.injEq] at e; subst e; exact .inr (Nat.le_trans hza e2)
          have hnew' : ∀ g, (Value.slice a' (k + 1) c').ownBlock = some g → w.heap.size + 3 ≤ g := fun g e => (hnew g e).elim (hav g) (fun e => by have := hbF.lt; omega)
          have hCx : ∀ i, i < wr.heap.size → (w.heap.size + 3 ≤ i ∧ (Value.slice go k gc).ownBlock ≠ some i) → w.heap.size + 3 ≤ i ∧ (Value.slice a' (k + 1) c').ownBlock ≠ some i := fun i hi hc => ⟨hc.1, fun e => (hnew i e).elim hc.2 (fun e => by omega)⟩
          have hpg : RowAt (fun b => w.heap.size + 3 ≤ b ∧ (Value.slice a' (k + 1) c').ownBlock ≠ some b) false w5 3 (.slice po names.length pc) names.length (gg.pages.flatMap fpCells) := by
            have h0 := ((o3.ext ((Kp.refl _ _).alloc (.cells #[I gg.rows, .slice po names.length pc] 229))).rowAt (fun b => wr.heap.size ≤ b ∧ b < w3.heap.size) (fun g e => ⟨fr3 g e, o3.lt e⟩)).weak
            refine h0.go k5 (fun i hi e => by have := hol i e; omega) (fun i hi hc => ⟨by omega, fun e => ?_⟩)
            rcases s5 with e' | ⟨g', e1, e2⟩
            · rw [e'] at e; have := hol i e; omega
            · rw [e1] at e; simp only [Option.some.injEq] at e; subst e; simp at e2; omega
          refine ⟨⟨k + 1, .slice a' (k + 1) c', pvs ++ [.slice po names.length pc], by go_num, by omega, ?_, hF5.set 1 _, hR5.kept ks (by omega), ?_, hnew', ?_, ?_, kk5.then ks (fun i hi e => by omega)⟩, by simp [intOf]; omega⟩
          · rw [HS.out, HA.out]
            exact hq5.kept ks (by omega) (fun i hi e => by have := hC i hi; omega)
          · rw [HS.out, HA.out, fgRow_snoc _ _ _ _ hFG.1]
            exact o5.kept ks (fun g e => by have := hnew' g e; omega)
          · exact (hN.go x5 (fun i hi e => e.elim (fun e => by omega) (fun e => hi.2 e)) hCx).go ks (fun i hi e => by omega) (fun _ _ e => e)
          · rw [HS.out, HA.out]
            exact ((hFG.go x5 (fun i hi e => e.elim (fun e => by omega) (fun e => hi.2 e)) hCx).snoc HL.out hpg).go ks (fun i hi e => by omega) (fun _ _ e => e)
        · obtain rfl : k = gcnt := by omega
          rw [HGR.out] at hr ho hlen hFG
          simp only at *
          clear HGR
          have hN' : RowAt (fun b => w.heap.size ≤ b) false wr 1 (.slice ao names.length cap) names.length (names.map tx) := hN.go (S := fun _ => False) (Kp.refl _ _) (fun _ _ f => f) (fun i _ h => by omega)
          have hFG' : FgAt (fun b => w.heap.size ≤ b) wr names.length pvs groups := hFG.go (S := fun _ => False) (Kp.refl _ _) (fun _ _ f => f) (fun i _ h => by omega)
          have hG' : RowAt (fun b => w.heap.size ≤ b) false wr 2 (.slice go k gc) k (fgRow pvs groups) := (ho.rowAt _ (fun g e => by have := hg g e; omega)).weak
          have c0 := hbF.cell 0
          have c1 := hbF.cell 1
          have d0 := hbR.cell 0
          have d1 := hbR.cell 1
          have f0 := hbR.free 0
          have f1 := hbR.free 1
          simp only [List.getElem?_cons_zero, List.getElem?_cons_succ] at c0 c1 d0 d1
          obtain ⟨hg1, hg2⟩ := hlen
          clear hfl hk hkl hg0 hgr
          subst hg1
          have hR1 := rright_any C wr (w.heap.size + 1) r3 hr (by omega)
          have hR2 := rightNamesR_any _ wr _ names hN (by omega)
          have HR1 := hide hR1
          have HR2 := hide hR2
          clear hR1 hR2
          cases hb1 : Pl.rRight r3 with
          | false =>
            rw [hb1] at HR1
            rw [hb1] at HP
            go_wp2_with fail
            refine (unhide HR1).mono ?_
            rintro e w4 ⟨rfl, rfl⟩
            go_wp2_with fail
            have b2 := (hbR.set 0 (.slice none 0 0)).set 1 (.slice none 0 0)
            have k2 := (kp_set' w4 w.heap.size 0 (.slice none 0 0)).trans (kp_set' (w4.setCell ⟨w.heap.size, 0, none⟩ (.slice none 0 0)) w.heap.size 1 (.slice none 0 0))
            generalize (w4.setCell ⟨w.heap.size, 0, none⟩ (.slice none 0 0)).setCell ⟨w.heap.size, 1, none⟩ (.slice none 0 0) = w5 at *
            have e0 := b2.cell 0
            have e1 := b2.cell 1
            simp only [List.set_cons_zero, List.set_cons_succ, List.getElem?_cons_zero, List.getElem?_cons_succ] at e0 e1
            refine bodyPost_ret (v := .tuple #[.agg #[.slice none 0 0, .slice none 0 0], .bool false]) (by simp [results, Tryz.results120, go_sem, e0, e1]) rfl ?_
            rw [HP.out, if_neg (by simp)]
            exact ⟨kk.then k2 (fun i hi e => by omega), .no⟩
          | true =>
            cases hb2 : Pl.okNames names with
            | false =>
              rw [hb1] at HR1
              rw [hb2] at HR2
              rw [hb1, hb2] at HP
              go_wp2_with fail
              refine (unhide HR1).mono ?_
              rintro e w4 ⟨rfl, rfl⟩
              go_wp2_with fail
              refine (unhide HR2).mono ?_
              rintro e w4 ⟨rfl, rfl⟩
              go_wp2_with fail
              have b2 := (hbR.set 0 (.slice none 0 0)).set 1 (.slice none 0 0)
              have k2 := (kp_set' w4 w.heap.size 0 (.slice none 0 0)).trans (kp_set' (w4.setCell ⟨w.heap.size, 0, none⟩ (.slice none 0 0)) w.heap.size 1 (.slice none 0 0))
              generalize (w4.setCell ⟨w.heap.size, 0, none⟩ (.slice none 0 0)).setCell ⟨w.heap.size, 1, none⟩ (.slice none 0 0) = w5 at *
              have e0 := b2.cell 0
              have e1 := b2.cell 1
              simp only [List.set_cons_zero, List.set_cons_succ, List.getElem?_cons_zero, List.getElem?_cons_succ] at e0 e1
              refine bodyPost_ret (v := .tuple #[.agg #[.slice none 0 0, .slice none 0 0], .bool false]) (by simp [results, Tryz.results120, go_sem, e0, e1]) rfl ?_
              rw [HP.out, if_neg (by simp)]
              exact ⟨kk.then k2 (fun i hi e => by omega), .no⟩
            | true =>
              rw [hb1] at HR1
              rw [hb2] at HR2
              rw [hb1, hb2] at HP
              go_wp2_with fail
              refine (unhide HR1).mono ?_
              rintro e w4 ⟨rfl, rfl⟩
              go_wp2_with fail
              refine (unhide HR2).mono ?_
              rintro e w4 ⟨rfl, rfl⟩
              go_wp2_with fail
              have b2 := (hbR.set 0 (.slice ao names.length cap)).set 1 (.slice go groups.length gc)
              have k2 := (kp_set' w4 w.heap.size 0 (.slice ao names.length cap)).trans (kp_set' (w4.setCell ⟨w.heap.size, 0, none⟩ (.slice ao names.length cap)) w.heap.size 1 (.slice go groups.length gc))
              have hN3 : RowAt (fun b => w.heap.size + 3 ≤ b) false w4 1 (.slice ao names.length cap) names.length (names.map tx) := hN.go (S := fun _ => False) (Kp.refl _ _) (fun _ _ f => f) (fun i _ h => h.1)
              have hFG3 : FgAt (fun b => w.heap.size + 3 ≤ b) w4 names.length pvs groups := hFG.go (S := fun _ => False) (Kp.refl _ _) (fun _ _ f => f) (fun i _ h => h.1)
              have hG3 : RowAt (fun b => w.heap.size + 3 ≤ b) false w4 2 (.slice go groups.length gc) groups.length (fgRow pvs groups) := (ho.rowAt _ (fun g e => hg g e)).weak
              generalize (w4.setCell ⟨w.heap.size, 0, none⟩ (.slice ao names.length cap)).setCell ⟨w.heap.size, 1, none⟩ (.slice go groups.length gc) = w5 at *
              have e0 := b2.cell 0
              have e1 := b2.cell 1
              simp only [List.set_cons_zero, List.set_cons_succ, List.getElem?_cons_zero, List.getElem?_cons_succ] at e0 e1
              refine bodyPost_ret (v := .tuple #[.agg #[.slice ao names.length cap, .slice go groups.length gc], .bool true]) (by simp [results, Tryz.results120, go_sem, e0, e1]) rfl ?_
              rw [HP.out, if_pos (by simp)]
              refine ⟨kk.then k2 (fun i hi e => by omega), .yes _ _ _ pvs ?_ ?_ ?_⟩
              · exact hN3.go k2 (fun i hi e => by omega) (fun i _ h => by omega)
              · exact hG3.go k2 (fun i hi e => by omega) (fun i _ h => by omega)
              · exact hFG3.go k2 (fun i hi e => by omega) (fun i _ h => by omega)
end Go.Proofs.YthicgffppmbamaaGreat

namespace Go.Proofs.YthicgffppmbamaaGreat
open Go.RowKit

/-- what Columns answers -/
inductive ColsSaid (C : Nat → Prop) (w' : World) : Option (List Nat) → Ending → Prop
  | no (v : Value) (hv : ∃ a n c, v = .slice a n c) : ColsSaid C w' none (.returned (.tuple #[v, .bool false]))
  | yes (v : Value) (l : List Nat) (h0 : 0 < l.length) (hr : RowAt C false w' 1 v l.length (l.map fun n : Nat => I n)) : ColsSaid C w' (some l) (.returned (.tuple #[v, .bool true]))

theorem columnsF_step (names : List (List UInt8)) (n : List UInt8) (r : List (List UInt8)) (acc : List Nat) : Pl.columnsF names (n :: r) acc = match Pl.indexOf names n with
    | none => none
    | some i => if i ∈ acc then none else Pl.columnsF names r (acc ++ [i]) := rfl
theorem infoI : (Tryz.prog.info? 3).map (fun i => (i.zero, i.size, i.bytes)) = some (some (.int .i64 0), 1, 8) := by kernel_rfl

set_option maxRecDepth 20000 in
set_option maxHeartbeats 2000000 in
theorem columns_any (C D : Nat → Prop) (w : World) (nv gv wv : Value) (names want : List (List UInt8)) (hgv : ∃ a n c, gv = .slice a n c) (hn : RowAt C false w 1 nv names.length (names.map tx)) (hw : RowAt D false w 1 wv want.length (want.map tx)) (hl : names.length ≤ 1000) (hwl : want.length ≤ 1000) :
    Calls Tryz.prog 121 #[.agg #[nv, gv], wv] w fun e w' => Ext w w' ∧ ColsSaid (fun b => w.heap.size ≤ b) w' (Pl.columns names want) e := by
  obtain ⟨ga, gn, gc, rfl⟩ := hgv
  have hn0 := hn
  have hw0 := hw
  obtain ⟨na, nc, rfl, -, -⟩ := hn0.get
  obtain ⟨wa, wc, rfl, hwc, hw3⟩ := hw0.get
  have HP : Hid (Pl.columns names want = Pl.columnsF names want []) := hide rfl
  have b0 := Blk.of_alloc w [.slice na names.length nc, .slice ga gn gc] 188
  have x0 : Ext w (w.alloc (.cells #[.slice na names.length nc, .slice ga gn gc] 188)) := (Kp.refl _ _).alloc _
  have HN := hide hn
  have HW := hide hw
  clear hn0 hw0 hn hw
  go_enter Tryz.func121, Tryz.ntmps121
  go_wp2_with fail
  generalize w.alloc (.cells #[.slice na names.length nc, .slice ga gn gc] 188) = W at *
  have hsW : w.heap.size < W.heap.size := b0.lt
  go_loopw [6, 12] (fun t i wr => ∃ (k : Nat) (acc : List Nat), i = .int .i64 k ∧ k ≤ want.length ∧ acc.length = k ∧ Pl.columnsF names (want.drop k) acc = Pl.columns names want ∧ Own wr 1 t k (acc.map fun n : Nat => I n) ∧ (∀ g, t.ownBlock = some g → W.heap.size ≤ g) ∧ Ext W wr) (fun _ i _ => want.length - (intOf i).toNat)
  case atStart => exact ⟨0, [], rfl, by omega, rfl, rfl, Own.nil _ _, fun g e => by simp [Value.ownBlock] at e, Kp.refl _ _⟩
  case round =>
    obtain ⟨k, acc, rfl, hk, hal, hcf, ho, hg, hx⟩ := hrel
    have HF := hide hcf
    clear hcf
    obtain ⟨ao, cap, rfl, hcap⟩ := ho.shape
    have c0 : wr.cell? ⟨w.heap.size, 0, none⟩ = some (.slice na names.length nc) := hx.cell (b0.cell 0) id
    by_cases hkl : k < want.length
    · obtain ⟨wb, wo, rfl, hwb, hwcell⟩ := hw3 (by omega)
      have d0 := (x0.trans hx).cell ((hwcell k (by omega)).trans (by rw [List.getElem?_map, List.getElem?_eq_getElem hkl]; rfl)) id
      have hst : Pl.columnsF names (want.drop k) acc = match Pl.indexOf names want[k] with
        | none => none
        | some i => if i ∈ acc then none else Pl.columnsF names (want.drop (k + 1)) (acc ++ [i]) := by rw [List.drop_eq_getElem_cons hkl]; rfl
      have hIx := indexS_any C wr _ names want[k] ((unhide HN).go (S := fun _ => False) (x0.trans hx) (fun _ _ f => f) (fun _ _ e => e)) hl
      have HT := hide (hst.symm.trans HF.out)
      clear hst HF hwcell hw3
      generalize want[k] = nm at *
      have HI := hide hIx
      clear hIx
      have hrng := idxV_range (l := names) (p := fun x => decide (x = nm))
      cases hix : Pl.indexOf names nm with
      | none =>
        rw [hix] at HI HT
        simp only [idxV] at HI HT
        have HT2 : Hid (Pl.columns names want = none) := hide HT.out.symm
        go_wp2_with (go_at_call 140; refine (unhide HI).mono ?_; rintro e w1 ⟨rfl, rfl⟩)
        go_ret2
        rw [HT2.out]
        exact ⟨x0.trans hx, .no _ ⟨_, _, _, rfl⟩⟩
      | some ix =>
        have hixl : ix < names.length := (List.findIdx?_eq_some_iff_getElem.1 hix).1
        rw [hix] at HI HT
        simp only [idxV] at HI HT
        have hCn := containsI_any (fun b => W.heap.size ≤ b) wr (.slice ao k cap) acc ix (by rw [hal]; exact (ho.rowAt _ hg).weak) (by omega)
        have HC := hide hCn
        clear hCn
        by_cases hin : ix ∈ acc
        · rw [decide_eq_true hin] at HC
          have HT2 : Hid (Pl.columns names want = none) := hide (by rw [← HT.out, if_pos hin])
          clear hin
          go_wp2_with (first | (go_at_call 140; refine (unhide HI).mono ?_; rintro e w1 ⟨rfl, rfl⟩) | (go_at_call 146; refine (unhide HC).mono ?_; rintro e w1 ⟨rfl, rfl⟩))
          go_ret2
          rw [HT2.out]
          exact ⟨x0.trans hx, .no _ ⟨_, _, _, rfl⟩⟩
        · rw [decide_eq_false hin] at HC
          have HT2 : Hid (Pl.columnsF names (want.drop (k + 1)) (acc ++ [ix]) = Pl.columns names want) := hide (by rw [← HT.out, if_neg hin])
          clear hin
          go_wp2_with (first | (at_builtin; go_must (refine wpList_append_g _ rfl _ _ 46 46 rfl 3 (.int .i64 0) 1 8 Tryz.underlying46 infoI rfl _ _ _ rfl (ho.ext_alloc _) _ rfl 1 _ (src_elemA _ _ _ Tryz.underlying46 _ [.int .i64 ix] rfl (by intro u hu; simp at hu; subst hu; rfl)) (by omega) (by omega) ?_); intro v3 w3 o3 k3 s3) | (go_at_call 140; refine (unhide HI).mono ?_; rintro e w1 ⟨rfl, rfl⟩) | (go_at_call 146; refine (unhide HC).mono ?_; rintro e w1 ⟨rfl, rfl⟩))
          refine ⟨⟨k + 1, acc ++ [ix], by go_num, by omega, by simp [hal], HT2.out, by simpa [I] using o3, fun g e => ?_, (hx.alloc _).then k3 (fun i hi e => by have := hg i e; omega)⟩, by simp [intOf]; omega⟩
          rcases sep_new s3 e with e' | e'
          · exact hg g e'
          · simp at e'; have := hx.size; omega
    · obtain rfl : k = want.length := by omega
      have hfin := HF.out
      rw [List.drop_length] at hfin
      simp only [Pl.columnsF] at hfin
      have HG := hide hfin.symm
      clear hfin HF
      by_cases h0 : acc.length = 0
      · go_wp2_with fail
        go_ret2
        rw [HG.out, if_neg (by omega), show decide (0 < want.length) = false from decide_eq_false (by omega)]
        exact ⟨x0.trans hx, .no _ ⟨_, _, _, rfl⟩⟩
      · go_wp2_with fail
        go_ret2
        rw [HG.out, if_pos (by omega), show decide (0 < want.length) = true from decide_eq_true (by omega)]
        refine ⟨x0.trans hx, .yes _ acc (by omega) ?_⟩
        rw [hal]
        exact (ho.rowAt _ (fun g e => by have := hg g e; omega)).weak

theorem fgRow_at (pvs : List Value) (l : List Pl.FGroup) (hl : pvs.length = l.length) (i j : Nat) (hi : i < l.length) (hj : j < 2) : (fgRow pvs l)[i * 2 + j]? = [I l[i].rows, pvs[i]'(by omega)][j]? := by
  unfold fgRow
  refine flatten_at 2 _ (fun e he => ?_) i j hj _ ?_
  · rw [List.mem_iff_getElem] at he
    obtain ⟨k, hk, rfl⟩ := he
    rw [List.getElem_zipWith]
    rfl
  · rw [List.getElem?_eq_getElem (by simp; omega), List.getElem_zipWith]

set_option maxRecDepth 20000 in
set_option maxHeartbeats 2000000 in
theorem lengths_any (C : Nat → Prop) (w : World) (gv : Value) (pvs : List Value) (gs : List Pl.FGroup) (cols : Nat) (hr : RowAt C false w 2 gv gs.length (fgRow pvs gs)) (hp : FgAt C w cols pvs gs) (hl : gs.length ≤ 1000) :
    Calls Tryz.prog 123 #[gv] w fun e w' => ∃ v, e = .returned v ∧ Ext w w' ∧ RowAt (fun b => w.heap.size ≤ b) false w' 1 v gs.length (gs.map fun g => I g.rows) := by
  obtain ⟨ga, gc, rfl, hgc, h3⟩ := hr.get
  have hpl := hp.1
  have hps : ∀ i (hi : i < pvs.length), ∃ a n c, pvs[i] = .slice a n c := fun i hi => by
    obtain ⟨-, h⟩ := hp.2 i _ _ (List.getElem?_eq_getElem hi) (List.getElem?_eq_getElem (by omega))
    obtain ⟨a, c, e, -⟩ := h.get
    exact ⟨_, _, _, e⟩
  clear hr hp
  go_enter Tryz.func123, Tryz.ntmps123
  go_wp2_with fail
  go_loopw [3, 8] (fun t i wr => ∃ (k : Nat), i = .int .i64 k ∧ k ≤ gs.length ∧ Own wr 1 t k ((gs.take k).map fun g => I g.rows) ∧ (∀ g, t.ownBlock = some g → w.heap.size ≤ g) ∧ Ext w wr) (fun _ i _ => gs.length - (intOf i).toNat)
  case atStart => exact ⟨0, rfl, by omega, by simpa using Own.nil _ _, fun g e => by simp [Value.ownBlock] at e, Kp.refl _ _⟩
  case round =>
    obtain ⟨k, rfl, hk, ho, hg, hx⟩ := hrel
    obtain ⟨ao, cap, rfl, hcap⟩ := ho.shape
    by_cases hkl : k < gs.length
    · obtain ⟨b, off, rfl, hb, hc⟩ := h3 (by omega)
      have d0 := hx.cell ((hc (k * 2 + 0) (by omega)).trans (fgRow_at pvs gs hpl k 0 hkl (by omega))) id
      have d1 := hx.cell ((hc (k * 2 + 1) (by omega)).trans (fgRow_at pvs gs hpl k 1 hkl (by omega))) id
      obtain ⟨pa, pn, pc, hpk⟩ := hps k (by omega)
      have HT : Hid ((gs.take (k + 1)).map (fun g => I g.rows) = (gs.take k).map (fun g => I g.rows) ++ [I gs[k].rows]) := by
        show _ = _
        rw [List.take_succ_eq_append_getElem hkl, List.map_append]
        rfl
      rw [hpk] at d1
      generalize gs[k].rows = rw0 at *
      clear hc h3 hpk hps
      simp only [I, Nat.add_zero, ← Nat.add_assoc] at d0 d1
      go_wp2_with (at_builtin; go_must (refine wpList_append_g _ rfl _ _ 46 46 rfl 3 (.int .i64 0) 1 8 Tryz.underlying46 infoI rfl _ _ _ rfl ((ho.ext_alloc _).ext_alloc _) _ rfl 1 _ (src_elemN' _ _ (by simp) _ _ Tryz.underlying46 _ [.int .i64 rw0] rfl (by intro u hu; simp at hu; subst hu; rfl)) (by omega) (by omega) ?_); intro v3 w3 o3 k3 s3)
      have x3 : Ext w w3 := ((hx.alloc _).alloc _).then k3 (fun i hi e => by have := hg i e; omega)
      go_roundw
      case rel => exact ⟨k + 1, by go_num, by omega, by rw [HT.out]; exact o3, fun g e => by
          rcases sep_new s3 e with e' | e'
          · exact hg g e'
          · have := hx.size; simp at e'; omega, x3⟩
      case measure => simp [intOf]; omega
    · obtain rfl : k = gs.length := by omega
      rw [List.take_length] at ho
      go_wp2_with fail
      go_ret
      exact ⟨_, rfl, hx, (ho.rowAt _ hg).weak⟩
end Go.Proofs.YthicgffppmbamaaGreat

namespace Go.Proofs.YthicgffppmbamaaGreat
open Go.RowKit

theorem Inner.rowsKept' {col : Colr} {w w' : World} {P : Nat} {m : Pl.Sc} {ps qs : List Nat} {nv av wv hv gv gv' : Value} {rw' : Pl.Rw} (h : Inner col w P m ps qs nv av wv hv gv) (k : Kp (fun k => k = P ∨ col k = .groups) w w') (hg : GroupsAt col w' rw'.gone gv' rw'.groups) : Inner col w' P { m with rows := rw' } ps qs nv av wv hv gv' := by
  have hno : ∀ (c : Col), c ≠ .groups → c ≠ .scan → ∀ i, (i = P ∨ col i = .groups) → col i ≠ c := fun c h1 h2 i hi e => by
    rcases hi with hi | hi
    · rw [hi, h.pcol] at e; exact h2 e.symm
    · rw [hi] at e; exact h1 e.symm
  have hnp : ∀ q, col q = .part → ¬ (q = P ∨ col q = .groups) := fun q hq hs => hno .part (by simp) (by simp) q hs hq
  refine ⟨h.pcol, fun i hi => h.top i (Nat.le_trans k.size hi), ?_, ?_, h.acol, ?_, ?_, h.wcol, ?_, h.nodup, ?_, hg⟩
  · exact h.names.go k (fun i hi hs => hno .ro (by simp) (by simp) i hs hi) (fun _ _ e => e)
  · exact h.asked.kept k (fun g hg hs => hno .asked (by simp) (by simp) g hs (h.acol g hg))
  · exact h.aparts.go k (fun p hp => hnp p (h.aparts.lt hp).2) (fun p _ => hno _ (by simp) (by simp)) (hno _ (by simp) (by simp)) (fun _ _ => rfl)
  · exact h.waiting.kept k (fun g hg hs => hno .wait (by simp) (by simp) g hs (h.wcol g hg))
  · exact h.wparts.go k (fun p hp => hnp p (h.wparts.lt hp).2) (fun p _ => hno _ (by simp) (by simp)) (hno _ (by simp) (by simp)) (fun _ _ => rfl)
  · exact h.ahead.go k (hno _ (by simp) (by simp)) (fun _ _ => rfl)

set_option maxRecDepth 20000 in
set_option maxHeartbeats 2000000 in
theorem dropFirst_any (col : Colr) (w : World) (P : Nat) (m : Pl.Sc) (ps qs : List Nat) (nv av wv hv gv : Value) (h : Rep col w P m ps qs nv av wv hv gv) (G : Pl.RGroup) (rest : List Pl.RGroup) (hG : m.rows.groups = G :: rest) (hgl : rest.length ≤ 1000) (hgo : m.rows.gone ≤ 1000000) :
    Calls Tryz.prog 150 #[PtrTo P 14] w fun e w' => e = .returned (.tuple #[]) ∧ ∃ gv', Rep col w' P { m with rows := { m.rows with groups := rest, gone := m.rows.gone + 1, row := 0 } } ps qs nv av wv hv gv' ∧ Kp (fun k => k = P ∨ col k = .groups) w w' := by
  have s15 := h.blk.cell 15
  have s16 := h.blk.cell 16
  have s17 := h.blk.cell 17
  have f15 := h.blk.free 15
  have f16 := h.blk.free 16
  have f17 := h.blk.free 17
  simp only [scCells, I, List.getElem?_cons_zero, List.getElem?_cons_succ] at s15 s16 s17
  have hgrp := h.inn.groups
  rw [hG] at hgrp
  obtain ⟨lvs, hlv, hrow, hlist⟩ := hgrp
  simp only [List.length_cons] at hlv hrow
  cases lvs with
  | nil => simp at hlv
  | cons lv lvs =>
  have hrow0 := hrow
  obtain ⟨ga, gc, rfl, hgc, h3⟩ := hrow0.get
  obtain ⟨gb, go, rfl, -, -⟩ := h3 (by omega)
  clear h3 hrow0
  obtain ⟨c0, f0, hgcol⟩ := hrow.cellF 0 (by omega)
  obtain ⟨c1, f1, -⟩ := hrow.cellF 1 (by omega)
  obtain ⟨c2, f2, -⟩ := hrow.cellF 2 (by omega)
  have c0' : w.cell? ⟨gb, go, none⟩ = some (I G.rows) := c0
  have c1' : w.cell? ⟨gb, go + 1, none⟩ = some lv := c1
  have c2' : w.cell? ⟨gb, go + 2, none⟩ = some (I G.missing) := c2
  have f0' : w.frozen? ⟨gb, go, none⟩ = false := f0
  have hne : P ≠ gb := fun e => by have := h.inn.pcol; rw [e, hgcol] at this; cases this
  have r3 := (((hrow.set 0 (by omega) (.int .i64 0)).set 1 (by omega) (.slice none 0 0)).set 2 (by omega) (.int .i64 0)).dropS (q := 1) (by omega)
  rw [Nat.add_sub_cancel] at r3
  have kk : Kp (fun k => k = gb) w (((w.setCell ⟨gb, go + 0, none⟩ (.int .i64 0)).setCell ⟨gb, go + 1, none⟩ (.slice none 0 0)).setCell ⟨gb, go + 2, none⟩ (.int .i64 0)) := ((kp_set' _ _ _ _).trans (kp_set' _ _ _ _)).trans (kp_set' _ _ _ _)
  have hlist' : ∀ (i : Nat) (lv : Value) (g : Pl.RGroup), lvs[i]? = some lv → rest[i]? = some g → ListsAt col w (m.rows.gone + 1 + i) lv g.lists := fun i lv g a b => by
    have := hlist (i + 1) lv g a b
    rwa [show m.rows.gone + (i + 1) = m.rows.gone + 1 + i by omega] at this
  have hlv' : lvs.length = rest.length := by simpa using hlv
  have HL := hide hlist'
  have HLV := hide hlv'
  have HR3 := hide r3
  have HKK := hide kk
  clear r3 kk hlist hlist' hrow c0 c1 c2 f0 hlv hlv'
  rw [Nat.add_zero] at HR3 HKK
  simp only [I] at c0' c2'
  have s15' : w.cell? ⟨P, 15, none⟩ = some (.slice (some ⟨gb, go, none⟩) (rest.length + 1) gc) := by rw [s15]
  clear s15
  go_enter Tryz.func150, Tryz.ntmps150
  go_upto_region 1 with fail
  have s15a := HKK.out.cell s15' (fun e => hne e)
  have s16a := HKK.out.cell s16 (fun e => hne e)
  have s17a := HKK.out.cell s17 (fun e => hne e)
  have hb1 := h.blk.kept HKK.out (fun e => hne e)
  have f15a := hb1.free 15
  have f16a := hb1.free 16
  have f17a := hb1.free 17
  clear s15' s16 s17 f15 f16 f17 c0' c1' c2' f0' f1 f2
  generalize ((w.setCell ⟨gb, go, none⟩ (.int .i64 0)).setCell ⟨gb, go + 1, none⟩ (.slice none 0 0)).setCell ⟨gb, go + 2, none⟩ (.int .i64 0) = W1 at *
  have hRep := h
  clear h
  go_wp2_with fail
  · go_end0
    have ka := (((kp_set' W1 P 15 (.slice (some ⟨gb, go, none⟩) rest.length 0)).trans (kp_set' _ P 16 (.int .i64 ((m.rows.gone : Int) + 1)))).trans (kp_set' _ P 17 (.int .i64 0)))
    have hb9 := ((hb1.set 15 (.slice (some ⟨gb, go, none⟩) rest.length 0)).set 16 (.int .i64 ((m.rows.gone : Int) + 1))).set 17 (.int .i64 0)
    have hce : (((scCells P m nv av wv hv (.slice (some ⟨gb, go, none⟩) (rest.length + 1) gc)).set 15 (.slice (some ⟨gb, go, none⟩) rest.length 0)).set 16 (.int .i64 ((m.rows.gone : Int) + 1))).set 17 (.int .i64 0) = scCells P { m with rows := { m.rows with groups := rest, gone := m.rows.gone + 1, row := 0 } } nv av wv hv (.slice (some ⟨gb, go, none⟩) rest.length 0) := by simp [scCells, I, giveV]
    rw [hce] at hb9
    have hrowN : RowAt (fun b => col b = .groups) true W1 3 (.slice (some ⟨gb, go, none⟩) rest.length 0) rest.length (groupRow lvs rest) := by
      have := HR3.out
      rw [if_pos h, h] at this
      exact this
    have kall : Kp (fun k => k = P ∨ col k = .groups) w (((W1.setCell ⟨P, 15, none⟩ (.slice (some ⟨gb, go, none⟩) rest.length 0)).setCell ⟨P, 16, none⟩ (.int .i64 ((m.rows.gone : Int) + 1))).setCell ⟨P, 17, none⟩ (.int .i64 0)) := (HKK.out.mono (fun k _ e => .inr (by rw [e]; exact hgcol))).trans (ka.mono (fun _ _ e => .inl e))
    have hPsc : ∀ i, i = P → col i = .scan := fun i e => by rw [e]; exact hRep.inn.pcol
    have hga : GroupsAt col (((W1.setCell ⟨P, 15, none⟩ (.slice (some ⟨gb, go, none⟩) rest.length 0)).setCell ⟨P, 16, none⟩ (.int .i64 ((m.rows.gone : Int) + 1))).setCell ⟨P, 17, none⟩ (.int .i64 0)) (m.rows.gone + 1) (.slice (some ⟨gb, go, none⟩) rest.length 0) rest := by
      refine ⟨lvs, HLV.out, hrowN.go (C' := fun b => col b = .groups) ka (fun k hk e => by rw [hPsc k e] at hk; cases hk) (fun _ _ e => e), fun i lv g a b => ?_⟩
      refine ((HL.out i lv g a b).go HKK.out (fun k hk => by rw [hk, hgcol]; simp) (fun k hk => by rw [hk, hgcol]; simp) (fun _ _ => rfl)).go ka (fun k hk => by rw [hPsc k hk]; simp) (fun k hk => by rw [hPsc k hk]; simp) (fun _ _ => rfl)
    exact ⟨rfl, ⟨_, hb9, hRep.inn.rowsKept' (rw' := { m.rows with groups := rest, gone := m.rows.gone + 1, row := 0 }) kall hga⟩, kall⟩
  · go_end0
    have ka := (((kp_set' W1 P 15 (.slice (some ⟨gb, go + 3, none⟩) rest.length (gc - 1))).trans (kp_set' _ P 16 (.int .i64 ((m.rows.gone : Int) + 1)))).trans (kp_set' _ P 17 (.int .i64 0)))
    have hb9 := ((hb1.set 15 (.slice (some ⟨gb, go + 3, none⟩) rest.length (gc - 1))).set 16 (.int .i64 ((m.rows.gone : Int) + 1))).set 17 (.int .i64 0)
    have hce : (((scCells P m nv av wv hv (.slice (some ⟨gb, go, none⟩) (rest.length + 1) gc)).set 15 (.slice (some ⟨gb, go + 3, none⟩) rest.length (gc - 1))).set 16 (.int .i64 ((m.rows.gone : Int) + 1))).set 17 (.int .i64 0) = scCells P { m with rows := { m.rows with groups := rest, gone := m.rows.gone + 1, row := 0 } } nv av wv hv (.slice (some ⟨gb, go + 3, none⟩) rest.length (gc - 1)) := by simp [scCells, I, giveV]
    rw [hce] at hb9
    have hrowN : RowAt (fun b => col b = .groups) true W1 3 (.slice (some ⟨gb, go + 3, none⟩) rest.length (gc - 1)) rest.length (groupRow lvs rest) := by
      have := HR3.out
      rw [if_neg h] at this
      exact this
    have kall : Kp (fun k => k = P ∨ col k = .groups) w (((W1.setCell ⟨P, 15, none⟩ (.slice (some ⟨gb, go + 3, none⟩) rest.length (gc - 1))).setCell ⟨P, 16, none⟩ (.int .i64 ((m.rows.gone : Int) + 1))).setCell ⟨P, 17, none⟩ (.int .i64 0)) := (HKK.out.mono (fun k _ e => .inr (by rw [e]; exact hgcol))).trans (ka.mono (fun _ _ e => .inl e))
    have hPsc : ∀ i, i = P → col i = .scan := fun i e => by rw [e]; exact hRep.inn.pcol
    have hga : GroupsAt col (((W1.setCell ⟨P, 15, none⟩ (.slice (some ⟨gb, go + 3, none⟩) rest.length (gc - 1))).setCell ⟨P, 16, none⟩ (.int .i64 ((m.rows.gone : Int) + 1))).setCell ⟨P, 17, none⟩ (.int .i64 0)) (m.rows.gone + 1) (.slice (some ⟨gb, go + 3, none⟩) rest.length (gc - 1)) rest := by
      refine ⟨lvs, HLV.out, hrowN.go (C' := fun b => col b = .groups) ka (fun k hk e => by rw [hPsc k e] at hk; cases hk) (fun _ _ e => e), fun i lv g a b => ?_⟩
      refine ((HL.out i lv g a b).go HKK.out (fun k hk => by rw [hk, hgcol]; simp) (fun k hk => by rw [hk, hgcol]; simp) (fun _ _ => rfl)).go ka (fun k hk => by rw [hPsc k hk]; simp) (fun k hk => by rw [hPsc k hk]; simp) (fun _ _ => rfl)
    exact ⟨rfl, ⟨_, hb9, hRep.inn.rowsKept' (rw' := { m.rows with groups := rest, gone := m.rows.gone + 1, row := 0 }) kall hga⟩, kall⟩

/-- the first group is whole: what may be taken -/
structure TakeOk (r : Pl.Rw) (G : Pl.RGroup) (rest : List Pl.RGroup) : Prop where
  groups : r.groups = G :: rest
  few : rest.length ≤ 1000
  cols : G.lists.length = r.columns
  len : ∀ l ∈ G.lists, l.length = G.rows
  row : r.row < G.rows
  rows : G.rows ≤ 1000000
  left : 1 ≤ r.left
  left2 : r.left ≤ 1000000000
  gone : r.gone ≤ 1000000
  columns : r.columns ≤ 1000

set_option maxRecDepth 20000 in
set_option maxHeartbeats 4000000 in
theorem rowsTake_any (col : Colr) (w : World) (P : Nat) (m : Pl.Sc) (ps qs : List Nat) (nv av wv hv gv : Value) (h : Rep col w P m ps qs nv av wv hv gv) (G : Pl.RGroup) (rest : List Pl.RGroup) (hok : TakeOk m.rows G rest) :
    Calls Tryz.prog 130 #[PtrTo P 14] w fun e w' => ∃ rb, e = .returned (.slice (some ⟨rb, 0, none⟩) m.rows.columns m.rows.columns) ∧ w.heap.size ≤ rb ∧ Blk w' rb ((Pl.rwTake m.rows).1.map I) 3 ∧ (∃ gv', Rep col w' P { m with rows := (Pl.rwTake m.rows).2 } ps qs nv av wv hv gv') ∧ Kp (fun k => k = P ∨ col k = .groups) w w' := by
  have s14 := h.blk.cell 14
  have s15 := h.blk.cell 15
  have s17 := h.blk.cell 17
  have s18 := h.blk.cell 18
  have f17 := h.blk.free 17
  have f18 := h.blk.free 18
  simp only [scCells, I, List.getElem?_cons_zero, List.getElem?_cons_succ] at s14 s15 s17 s18
  have hgrp := h.inn.groups
  rw [hok.groups] at hgrp
  obtain ⟨lvs, hlv, hrow, hlist⟩ := hgrp
  simp only [List.length_cons] at hlv hrow
  cases lvs with
  | nil => simp at hlv
  | cons lv lvs =>
  have hrow0 := hrow
  obtain ⟨ga, gc, rfl, hgc, h3⟩ := hrow0.get
  obtain ⟨gb, go, rfl, -, -⟩ := h3 (by omega)
  clear h3 hrow0
  have c0 : w.cell? ⟨gb, go, none⟩ = some (.int .i64 G.rows) := (hrow.cellF 0 (by omega)).1
  have c1 : w.cell? ⟨gb, go + 1, none⟩ = some lv := (hrow.cellF 1 (by omega)).1
  have c2 : w.cell? ⟨gb, go + 2, none⟩ = some (.int .i64 G.missing) := (hrow.cellF 2 (by omega)).1
  obtain ⟨vs, hvl, hlrow, hvs⟩ := hlist 0 lv G rfl rfl
  obtain ⟨la, lc, rfl, hlc, hl3⟩ := hlrow.get
  have hcols := hok.cols
  have hrw := hok.row
  have hcm := hok.columns
  have hrm := hok.rows
  have hT : Pl.rwTake m.rows = (G.lists.map (fun l => l.getD m.rows.row 0), if m.rows.row + 1 = G.rows then { m.rows with groups := rest, gone := m.rows.gone + 1, row := 0, left := m.rows.left - 1 } else { m.rows with row := m.rows.row + 1, left := m.rows.left - 1 }) := by
    simp [Pl.rwTake, hok.groups]
  have HT := hide hT
  have hPl := h.blk.lt
  clear hT
  go_enter Tryz.func130, Tryz.ntmps130
  go_upto_region 2 with fail
  rw [hcols] at hlc hl3 hlrow
  have x1 : Ext w (w.alloc (.cells #[.int .i64 G.rows, .slice la m.rows.columns lc, .int .i64 G.missing] 200)) := (Kp.refl _ _).alloc _
  have b1 := Blk.of_alloc w [.int .i64 G.rows, .slice la m.rows.columns lc, .int .i64 G.missing] 200
  have hz1 : (w.alloc (.cells #[.int .i64 G.rows, .slice la m.rows.columns lc, .int .i64 G.missing] 200)).heap.size = w.heap.size + 1 := by simp
  generalize w.alloc (.cells #[.int .i64 G.rows, .slice la m.rows.columns lc, .int .i64 G.missing] 200) = W1 at *
  have s14' := x1.cell s14 id
  have e0 := b1.cell 0
  have e1 := b1.cell 1
  simp only [List.getElem?_cons_zero, List.getElem?_cons_succ] at e0 e1
  clear s14
  have HZ1 := hide hz1
  clear hz1
  go_wp2_with (refine wpList_make_blk _ rfl _ _ _ rfl 3 (.int .i64 0) 8 Tryz.underlying46 infoI rfl m.rows.columns _ _ rfl rfl rfl rfl (by omega) (by omega) ?_; intro w3 b3 x3 z3; have e1' := x3.cell e1 id)
  have x13 : Ext w w3 := x1.trans x3
  clear s14' e1' e1
  go_loopw [21] (fun i wr => ∃ k : Nat, i = .int .i64 k ∧ k ≤ m.rows.columns ∧ Blk wr W1.heap.size ((G.lists.take k).map (fun l => I (l.getD m.rows.row 0)) ++ List.replicate (m.rows.columns - k) (.int .i64 0)) 3 ∧ Ext W1 wr) (fun i _ => m.rows.columns - (intOf i).toNat)
  case atStart => exact ⟨0, rfl, by omega, by simpa using b3, x3⟩
  case round =>
    obtain ⟨k, rfl, hk, hb, hx⟩ := hrel
    clear b3 x3 x13
    have xw : Ext w wr := x1.trans hx
    have s17' := xw.cell s17 id
    by_cases hkl : k < m.rows.columns
    · have hkg : k < G.lists.length := by omega
      obtain ⟨lb, lo, rfl, hlb, hlcc⟩ := hl3 (by omega)
      have hvk : vs[k]? = some (vs[k]'(by omega)) := List.getElem?_eq_getElem (by omega)
      have d0 := xw.cell ((hlcc k (by omega)).trans hvk) id
      have hrk := hvs k _ G.lists[k] hvk (List.getElem?_eq_getElem hkg)
      have hlk := hok.len G.lists[k] (List.getElem_mem hkg)
      obtain ⟨ua, uc, hue, huc, hu3⟩ := hrk.get
      obtain ⟨ub, uo, rfl, hub, hucc⟩ := hu3 (by omega)
      have d1 := xw.cell ((hucc m.rows.row (by omega)).trans (by rw [List.getElem?_map, List.getElem?_eq_getElem (by omega)]; rfl)) id
      rw [hue] at d0
      have HG : Hid (G.lists[k].getD m.rows.row 0 = G.lists[k][m.rows.row]'(by omega)) := hide (by rw [List.getD_eq_getElem?_getD, List.getElem?_eq_getElem (by omega)]; rfl)
      have HTK : Hid ((G.lists.take (k + 1)).map (fun l => I (l.getD m.rows.row 0)) = (G.lists.take k).map (fun l => I (l.getD m.rows.row 0)) ++ [I (G.lists[k].getD m.rows.row 0)]) := hide (by rw [List.take_succ_eq_append_getElem hkg, List.map_append]; rfl)
      have hlen : ((G.lists.take k).map (fun l => I (l.getD m.rows.row 0))).length = k := by simp; omega
      rw [HG.out] at HTK
      generalize hval : G.lists[k][m.rows.row]'(by omega) = y at *
      rw [hlk] at d0
      have cw := hb.cell k
      have fw := hb.free k
      have cw' : ∃ z, wr.cell? ⟨W1.heap.size, k, none⟩ = some z := ⟨_, cw.trans (List.getElem?_eq_getElem (by rw [List.length_append, hlen, List.length_replicate]; omega))⟩
      obtain ⟨z, cw'⟩ := cw'
      simp only [I] at d1
      clear cw hlcc hucc hu3 hl3 hval HG hlk hvk hrk hvs hue
      go_wp2_with fail
      refine ⟨⟨k + 1, by go_num, by omega, ?_, hx.setCell (p := ⟨W1.heap.size, k, none⟩) (.inr (Nat.le_refl _)) _⟩, by simp [intOf]; omega⟩
      have b2 := hb.set k (.int .i64 y)
      rw [HTK.out]
      have es : ((G.lists.take k).map (fun l : List Int => I (l.getD m.rows.row 0)) ++ List.replicate (m.rows.columns - k) (Value.int .i64 0)).set k (Value.int .i64 y) = (G.lists.take k).map (fun l : List Int => I (l.getD m.rows.row 0)) ++ [I y] ++ List.replicate (m.rows.columns - (k + 1)) (Value.int .i64 0) := by
        rw [List.set_append_right _ _ (by rw [hlen]; exact Nat.le_refl _), hlen, Nat.sub_self, show m.rows.columns - k = (m.rows.columns - (k + 1)) + 1 by omega, List.replicate_succ, List.set_cons_zero, List.append_assoc]
        rfl
      rw [es] at b2
      exact b2
    · obtain rfl : k = m.rows.columns := by omega
      rw [List.take_of_length_le (by omega), Nat.sub_self, List.replicate_zero, List.append_nil] at hb
      have hrep := h.ext xw
      have s18' := xw.cell s18 id
      have f17' := hrep.blk.free 17
      have f18' := hrep.blk.free 18
      have hPw := hrep.blk.lt
      have hWP : W1.heap.size ≠ P := by have := HZ1.out; omega
      have hbF := b1.kept hx id
      have hin : Inner col wr P { m with rows := { m.rows with row := m.rows.row + 1 } } ps qs nv av wv hv (.slice (some ⟨gb, go, none⟩) (rest.length + 1) gc) := ⟨hrep.inn.pcol, hrep.inn.top, hrep.inn.names, hrep.inn.asked, hrep.inn.acol, hrep.inn.aparts, hrep.inn.waiting, hrep.inn.wcol, hrep.inn.wparts, hrep.inn.nodup, hrep.inn.ahead, hrep.inn.groups⟩
      have r4 := hrep.cellP 17 (.int .i64 ((m.rows.row : Int) + 1)) (m' := { m with rows := { m.rows with row := m.rows.row + 1 } }) (by simp [scCells, I, giveV]) hin
      have hleft := hok.left
      have hleft2 := hok.left2
      have hli : ((m.rows.left : Int) - 1) = ((m.rows.left - 1 : Nat) : Int) := by omega
      have hin2 : Inner col (wr.setCell ⟨P, 17, none⟩ (.int .i64 ((m.rows.row : Int) + 1))) P { m with rows := { m.rows with row := m.rows.row + 1, left := m.rows.left - 1 } } ps qs nv av wv hv (.slice (some ⟨gb, go, none⟩) (rest.length + 1) gc) := ⟨r4.inn.pcol, r4.inn.top, r4.inn.names, r4.inn.asked, r4.inn.acol, r4.inn.aparts, r4.inn.waiting, r4.inn.wcol, r4.inn.wparts, r4.inn.nodup, r4.inn.ahead, r4.inn.groups⟩
      have r5 := r4.cellP 18 (.int .i64 ((m.rows.left : Int) - 1)) (m' := { m with rows := { m.rows with row := m.rows.row + 1, left := m.rows.left - 1 } }) (by simp [scCells, I, giveV, hli]) hin2
      have k5 : Kp (fun k => k = P) wr ((wr.setCell ⟨P, 17, none⟩ (.int .i64 ((m.rows.row : Int) + 1))).setCell ⟨P, 18, none⟩ (.int .i64 ((m.rows.left : Int) - 1))) := (kp_set' _ _ _ _).trans (kp_set' _ _ _ _)
      clear hin hin2 r4 hli
      go_upto_region 10 with fail
      generalize (wr.setCell ⟨P, 17, none⟩ (.int .i64 ((m.rows.row : Int) + 1))).setCell ⟨P, 18, none⟩ (.int .i64 ((m.rows.left : Int) - 1)) = W5 at *
      have t17 := r5.blk.cell 17
      simp only [scCells, I, List.getElem?_cons_zero, List.getElem?_cons_succ, Int.natCast_add, Int.natCast_one] at t17
      have tF := (hbF.kept k5 (by omega)).cell 0
      simp only [List.getElem?_cons_zero] at tF
      have hbR := hb.kept k5 hWP
      have kw5 : Kp (fun k => k = P ∨ col k = .groups) w W5 := (Kp.of_ext xw).trans (k5.mono (fun _ _ e => .inl e))
      clear s17' s18' f17' f18' e0
      by_cases he : m.rows.row + 1 = G.rows
      · have he' : ((m.rows.row : Int) + 1) = (G.rows : Int) := by omega
        have hDF := fun nq => dropFirst_any col (W5.drewN nq) P _ ps qs nv av wv hv _ (r5.ext ((Kp.refl _ _).drewN nq)) G rest hok.groups hok.few hok.gone
        have HDF := hide hDF
        clear hDF
        rw [he'] at t17
        go_quiet (fail)
        have x6 : Ext W5 (W5.drewN nq) := (Kp.refl _ _).drewN nq
        have HD := hide ((unhide HDF) nq)
        clear HDF t17 tF
        generalize W5.drewN nq = W6 at *
        go_wp2_with fail
        refine (unhide HD).mono ?_
        rintro e w7 ⟨rfl, gv7, r7, k7⟩
        go_wp2_with fail
        go_ret
        rw [HT.out, if_pos he]
        have hnc : ¬ (W1.heap.size = P ∨ col W1.heap.size = .groups) := fun e => by
          rcases e with e | e
          · exact hWP e
          · rw [h.inn.top _ (by have := HZ1.out; omega)] at e; cases e
        refine ⟨W1.heap.size, rfl, by have := HZ1.out; omega, ?_, ⟨gv7, r7⟩, (kw5.trans (Kp.of_ext x6)).trans k7⟩
        simp only [List.map_map]
        exact (hbR.kept x6 id).kept k7 hnc
      · have he' : ¬ ((m.rows.row : Int) + 1) = (G.rows : Int) := by omega
        go_quiet (fail)
        have x6 : Ext W5 (W5.drewN nq) := (Kp.refl _ _).drewN nq
        have r6 := r5.ext x6
        generalize W5.drewN nq = W6 at *
        go_wp2_with fail
        go_ret
        rw [HT.out, if_neg he]
        refine ⟨W1.heap.size, rfl, by have := HZ1.out; omega, ?_, ⟨_, r6⟩, kw5.trans (Kp.of_ext x6)⟩
        simp only [List.map_map]
        exact hbR.kept x6 id
end Go.Proofs.YthicgffppmbamaaGreat

namespace Go.Proofs.YthicgffppmbamaaGreat
open Go.RowKit

theorem kp_putObj (W : World) (l : Nat) (o : Obj) : Kp (fun k => k = l) W (W.putObj l o) := by
  have h := grownBy_putObj' W l o
  exact ⟨h.os, h.tape, h.output, h.size, fun k hk hn => h.block k hk (fun e => hn (by cases e; rfl))⟩
/-- how a round's body may be left: two blocks of the loop's book-keeping lie as they lay -/
def stPost {α : Type} (l : Nat) (Go : α → World → Prop) (Lv : Code → α → World → Prop) (x : α) (W : World) : Exit → Act → World → Prop
  | .normal, _, W' => (W'.heap[l]? = W.heap[l]? ∧ W'.heap[l - 1]? = W.heap[l - 1]?) ∧ Go x W'
  | .ret, _, W' => (W'.heap[l]? = W.heap[l]? ∧ W'.heap[l - 1]? = W.heap[l - 1]?) ∧ Lv .ret x W'
  | .exit id, _, W' => (W'.heap[l]? = W.heap[l]? ∧ W'.heap[l - 1]? = W.heap[l - 1]?) ∧ Lv (.exit id) x W'
  | .goto t, _, W' => (W'.heap[l]? = W.heap[l]? ∧ W'.heap[l - 1]? = W.heap[l - 1]?) ∧ Lv (.goto t) x W'
  | .panic _, _, _ => False
  | .outgrown, _, _ => False

variable {F : Fence} {n : Nat} {P : Program}
theorem wpIn_range_st {α : Type} {g : Operand} {ps : Array Tmp} {assign body : Code} {Q : Exit → Act → World → Prop} {a : Act} {w : World}
    (hro : F.round = none) (h1 : 1 ≤ n) {gf : Nat} {lb : Array Value} (hg : a.eval g = .func (.func gf) #[] lb) (hFg : F.fn gf) (eg : ∀ args w, (callFunc gf args).run P w = .ok (.enter gf args) w)
    (encs : α → Array Value) (hps : ∀ x, (encs x).size = ps.size) (Pre Go : α → World → Prop) (Lv : Code → α → World → Prop) (Fin : World → Prop) (FinX : Code → World → Prop)
    (hputP : ∀ x W o, Pre x W → Pre x (W.putObj (w.heap.size + 1) o)) (hputG : ∀ x W o, Go x W → Go x (W.putObj (w.heap.size + 1) o)) (hputL : ∀ c x W o, Lv c x W → Lv c x (W.putObj (w.heap.size + 1) o)) (hputF : ∀ W o, Fin W → Fin (W.putObj (w.heap.size + 1) o)) (hputX : ∀ c W o, FinX c W → FinX c (W.putObj (w.heap.size + 1) o))
    (a₁ : α → Act)
    (hassign : ∀ (x : α) (W : World) (K : Act → World → Prop), K (a₁ x) W →
      assign.wpIn (F.inRound (w.heap.size + 1)) (n - 1 - 1) P (Exit.then K (fun _ _ _ => False)) { tmps := (ps.zip (encs x)).foldl (fun t (p, v) => t.setIfInBounds p v) a.tmps, defers := [] } W)
    (hbody : ∀ (x : α) (W : World), Pre x W → body.wpIn (F.inRound (w.heap.size + 1)) (n - 1 - 1) P (stPost (w.heap.size + 1) Go Lv x W) (a₁ x) W)
    (hiter : ∀ (Rd : World → Prop) (Dn : Code → World → Prop) (W1 : World), Ext w W1 → W1.heap.size = w.heap.size + 2 → Rd W1 → (∀ (S : Nat → Prop) W W', Rd W → Kp S W W' → ¬ S w.heap.size → ¬ S (w.heap.size + 1) → Rd W') → (∀ (S : Nat → Prop) c W W', Dn c W → Kp S W W' → ¬ S w.heap.size → ¬ S (w.heap.size + 1) → Dn c W') →
      (∀ x W, Rd W → Pre x W → YieldAt F (n - 1 - 1) P (w.heap.size + 1) (encs x) W fun e W' => (e = .returned (.bool true) ∧ Rd W' ∧ Go x W') ∨ (e = .returned (.bool false) ∧ ∃ c, Dn c W' ∧ Lv c x W')) →
      CallsIn F (n - 1) P gf (#[.func (.yield (w.heap.size + 1)) #[] #[]] ++ lb) W1 fun e W' => (∃ v, e = .returned v) ∧ ((Rd W' ∧ Fin W') ∨ ∃ c, Dn c W' ∧ FinX c W'))
    (hdone : ∀ (W : World), Fin W → W.heap[w.heap.size]? = some (.deferred (some [])) → Q .normal { a with defers := { target := .collected w.heap.size, args := #[] } :: a.defers } W)
    (hstop : ∀ (c : Code) (W : World), FinX c W → W.heap[w.heap.size]? = some (.deferred (some [])) → c.wpIn F n P Q { a with defers := { target := .collected w.heap.size, args := #[] } :: a.defers } W) :
    (Code.rangeFunc g ps assign body).wpIn F n P Q a w := by
  refine wpIn_rangeFunc (fun fn hfn => ?_)
  rw [hro]
  obtain ⟨R, hR⟩ : ∃ R : LoopState → Option Code → Loop, R = fun st pe => { state := st, pending := pe, fn, tmps := a.tmps, params := ps, assign, body, defers := w.heap.size } := ⟨_, rfl⟩
  obtain ⟨W1, hW1⟩ : ∃ W1, W1 = (w.alloc (.deferred (some []))).alloc (.loop (R .ready none)) := ⟨_, rfl⟩
  have hloop : W1.heap[w.heap.size + 1]? = some (.loop (R .ready none)) := by
    have := World.alloc_heap_new (w.alloc (.deferred (some []))) (.loop (R .ready none))
    rw [World.size_alloc] at this
    rw [hW1]
    exact this
  have hdef : W1.heap[w.heap.size]? = some (.deferred (some [])) := by
    rw [hW1]
    exact (Below.heap_alloc _ _ _ (by simp)).trans (World.alloc_heap_new w _)
  have hext : Ext w W1 := by rw [hW1]; exact ((Kp.refl _ _).alloc _).alloc _
  have hsize : W1.heap.size = w.heap.size + 2 := by rw [hW1]; simp
  refine ⟨w.heap.size + 1, [{ target := .collected w.heap.size, args := #[] }], W1, { target := .fn (.func gf) lb, args := #[.func (.yield (w.heap.size + 1)) #[] #[]] }, W1, gf, #[.func (.yield (w.heap.size + 1)) #[] #[]] ++ lb, W1, ?_, ?_, ?_, ?_, fun _ => h1, ?_⟩
  · rw [hW1, hR]
    exact run_enterLoop_outer _ _ _ _ _
  · simp only [resolve, hg]
    simp [go_sem]
  · intro f' hf'
    simp [Target.leads] at hf'
    subst hf'
    exact hFg
  · simp [invoke, go_sem, eg]
  · have keep : ∀ (S : Nat → Prop) (W W' : World) (o o' : Obj), (W.heap[w.heap.size + 1]? = some o ∧ W.heap[w.heap.size]? = some o') → Kp S W W' → ¬ S w.heap.size → ¬ S (w.heap.size + 1) → W'.heap[w.heap.size + 1]? = some o ∧ W'.heap[w.heap.size]? = some o' := fun S W W' o o' hr k h1 h2 =>
      ⟨(k.block _ (Array.getElem?_eq_some_iff.1 hr.1).1 h2).trans hr.1, (k.block _ (Array.getElem?_eq_some_iff.1 hr.2).1 h1).trans hr.2⟩
    refine (hiter (fun W => W.heap[w.heap.size + 1]? = some (.loop (R .ready none)) ∧ W.heap[w.heap.size]? = some (.deferred (some []))) (fun c W => W.heap[w.heap.size + 1]? = some (.loop (R .done (some c))) ∧ W.heap[w.heap.size]? = some (.deferred (some []))) W1 hext hsize ⟨hloop, hdef⟩ (fun S W W' hr k h1 h2 => keep S W W' _ _ hr k h1 h2) (fun S c W W' hr k h1 h2 => keep S W W' _ _ hr k h1 h2) ?_).mono ?_
    · rintro x W ⟨hl, hd⟩ hpre
      have hlt : w.heap.size + 1 < W.heap.size := (Array.getElem?_eq_some_iff.1 hl).1
      have hy := run_yield (P := P) (args := encs x) hl (by rw [hR]; exact hps x)
      rw [hR] at hy
      refine ⟨fn, _, assign, body, hy, roundIn_of_wpIn hfn (hassign x W _ ⟨_, run_beginRound hl (by rw [hR]), ?_⟩)⟩
      have hl2 : (W.putObj (w.heap.size + 1) (.loop { R .ready none with state := .busy })).heap[w.heap.size + 1]? = some (.loop { R .ready none with state := .busy }) := World.putObj_heap_same hlt
      have hd2 : (W.putObj (w.heap.size + 1) (.loop { R .ready none with state := .busy })).heap[w.heap.size]? = some (.deferred (some [])) := (World.putObj_heap_other (by omega)).trans hd
      refine wpIn_mono (hbody x _ (hputP x W _ hpre)) ?_
      have fin : ∀ (jump : Option Code) (W3 : World), (W3.heap[w.heap.size + 1]? = (W.putObj (w.heap.size + 1) (.loop { R .ready none with state := .busy })).heap[w.heap.size + 1]? ∧ W3.heap[w.heap.size + 1 - 1]? = (W.putObj (w.heap.size + 1) (.loop { R .ready none with state := .busy })).heap[w.heap.size + 1 - 1]?) →
          (Instr.endRound (w.heap.size + 1) jump).run P W3 = .ok (.bool jump.isNone) (W3.putObj (w.heap.size + 1) (.loop (R (if jump.isNone then .ready else .done) jump))) ∧
          (W3.putObj (w.heap.size + 1) (.loop (R (if jump.isNone then .ready else .done) jump))).heap[w.heap.size + 1]? = some (.loop (R (if jump.isNone then .ready else .done) jump)) ∧
          (W3.putObj (w.heap.size + 1) (.loop (R (if jump.isNone then .ready else .done) jump))).heap[w.heap.size]? = some (.deferred (some [])) := fun jump W3 hs => by
        have hl3 := hs.1.trans hl2
        have hd3 := hs.2.trans hd2
        have := run_endRound (P := P) jump hl3
        rw [hR] at this ⊢
        exact ⟨this, World.putObj_heap_same (Array.getElem?_eq_some_iff.1 hl3).1, (World.putObj_heap_other (by omega)).trans hd3⟩
      rintro e a3 W3 hp
      cases e with
      | normal =>
        obtain ⟨hr, hl4, hd4⟩ := fin none W3 hp.1
        exact ⟨_, _, hr, .inl ⟨rfl, ⟨hl4, hd4⟩, hputG x W3 _ hp.2⟩⟩
      | ret =>
        obtain ⟨hr, hl4, hd4⟩ := fin (some .ret) W3 hp.1
        exact ⟨_, _, hr, .inr ⟨rfl, .ret, ⟨hl4, hd4⟩, hputL _ x W3 _ hp.2⟩⟩
      | exit id =>
        obtain ⟨hr, hl4, hd4⟩ := fin (some (.exit id)) W3 hp.1
        exact ⟨_, _, hr, .inr ⟨rfl, .exit id, ⟨hl4, hd4⟩, hputL _ x W3 _ hp.2⟩⟩
      | goto t =>
        obtain ⟨hr, hl4, hd4⟩ := fin (some (.goto t)) W3 hp.1
        exact ⟨_, _, hr, .inr ⟨rfl, .goto t, ⟨hl4, hd4⟩, hputL _ x W3 _ hp.2⟩⟩
      | panic ch => exact hp.elim
      | outgrown => exact hp.elim
    · rintro e W2 ⟨⟨v, rfl⟩, (⟨⟨hl, hd⟩, hf⟩ | ⟨c, ⟨hl, hd⟩, hf⟩)⟩
      · refine ⟨none, _, by have := run_endLoop (P := P) hl (by rw [hR]; simp); rw [hR] at this; exact this, hdone _ (hputF _ _ hf) ((World.putObj_heap_other (by omega)).trans hd)⟩
      · refine ⟨some c, _, by have := run_endLoop (P := P) hl (by rw [hR]; simp); rw [hR] at this; exact this, hstop c _ (hputX c _ _ hf) ((World.putObj_heap_other (by omega)).trans hd)⟩
end Go.Proofs.YthicgffppmbamaaGreat

namespace Go.Proofs.YthicgffppmbamaaGreat
open Go.RowKit Go.Shelf
attribute [local go_sem] Oper.semAt_some

set_option maxRecDepth 20000 in
theorem there_any (w : World) (P : Nat) : Calls Tryz.prog 108 #[PtrTo P 14] w fun e w' => e = .returned (.func (.func 129) #[] #[PtrTo w.heap.size 0]) ∧ w' = w.alloc (.cells #[PtrTo P 14] 173) := by
  go_enter Tryz.func108, Tryz.ntmps108
  go_wp2_with fail
  go_ret
  exact ⟨rfl, rfl⟩

/-- the rows when j have been taken -/
abbrev rwAt (r : Pl.Rw) (j : Nat) : Pl.Rw := (Pl.iter Pl.rwTakeS j ([], r)).2
/-- each of the next cnt rows may be taken -/
def TakesOk (r : Pl.Rw) (cnt : Nat) : Prop := ∀ j, j < cnt → RwOk (rwAt r j) ∧ 0 < Pl.rwReady (rwAt r j) ∧ Pl.rwReady (rwAt r j) ≤ 1000000000 ∧ (rwAt r j).columns = r.columns ∧ ∃ G rest, TakeOk (rwAt r j) G rest

set_option maxRecDepth 20000 in
set_option maxHeartbeats 4000000 in
theorem there1_any (col : Colr) (P : Nat) (m : Pl.Sc) (ps qs : List Nat) (nv av wv hv : Value) (Bx l cnt : Nat) (hcnt : 0 < cnt) (hok : TakesOk m.rows cnt) (J : World → Nat) (A : Nat → World → Prop) (Rd : World → Prop) (Dn : Code → World → Prop) (LvF : Code → World → Prop)
    (hbx : ∀ j W, A j W → W.cell? ⟨Bx, 0, none⟩ = some (PtrTo P 14) ∧ J W = j)
    (hRd : ∀ W W', Rd W → Kp (fun k => k = P ∨ col k = .groups) W W' → Rd W')
    (hY : ∀ j rb W0 W gv, Rd W → j < cnt → Rep col W P { m with rows := rwAt m.rows (j + 1) } ps qs nv av wv hv gv → A j W0 → Kp (fun k => k = P ∨ col k = .groups) W0 W → W0.heap.size ≤ rb → Blk W rb ((Pl.rwTake (rwAt m.rows j)).1.map I) 3 → YieldAt Fence.wide 1 Tryz.prog l #[.slice (some ⟨rb, 0, none⟩) m.rows.columns m.rows.columns] W fun e W' => (e = .returned (.bool true) ∧ Rd W' ∧ (∃ gv', Rep col W' P { m with rows := rwAt m.rows (j + 1) } ps qs nv av wv hv gv') ∧ A (j + 1) W' ∧ j + 1 < cnt) ∨ (e = .returned (.bool false) ∧ ∃ c, Dn c W' ∧ LvF c W'))
    (W : World) (hR0 : Rd W) (hrep : ∃ gv, Rep col W P m ps qs nv av wv hv gv) (hA0 : A 0 W) :
    Calls Tryz.prog 129 #[.func (.yield l) #[] #[], PtrTo Bx 0] W fun e W' => (∃ v, e = .returned v) ∧ ∃ c, Dn c W' ∧ LvF c W' := by
  go_enter Tryz.func129, Tryz.ntmps129
  go_wp2_with fail
  go_loopw [3, 4] (fun _ _ wr => ∃ (j : Nat) (gv : Value), j < cnt ∧ Rd wr ∧ Rep col wr P { m with rows := rwAt m.rows j } ps qs nv av wv hv gv ∧ A j wr) (fun _ _ wr => cnt - J wr)
  case atStart =>
    obtain ⟨gv, hr⟩ := hrep
    exact ⟨0, gv, hcnt, hR0, hr, hA0⟩
  case round =>
    obtain ⟨j, gv, hj, hRw, hrw, hAw⟩ := hrel
    obtain ⟨hRk, hrd, hrd2, hcl, G, rest, hTk⟩ := hok j hj
    obtain ⟨hb, hJ⟩ := hbx j wr hAw
    have hJw : cnt - J wr = cnt - j := by rw [hJ]
    rw [hJw]
    have HR := hide (ready_any col wr P { m with rows := rwAt m.rows j } ps qs nv av wv hv gv hrw hRk)
    have HT := fun u (hu : Ext wr u) => rowsTake_any col u P { m with rows := rwAt m.rows j } ps qs nv av wv hv gv (hrw.ext hu) G rest hTk
    have HY := hide hY
    have HJ := hide hJ
    have HJW := hide hJw
    have HCL := hide hcl
    clear hY hJ hJw hcl hrep hR0 hA0
    have hpos : (0 : Int) < (Pl.rwReady (rwAt m.rows j) : Int) := by omega
    go_upto_region 1 with (first | (go_at_call 107; refine (unhide HR).mono ?_; rintro e w1 ⟨rfl, x1⟩) | fail)
    have hb1 : w1.cell? ⟨Bx, 0, none⟩ = some (PtrTo P 14) := x1.cell hb (fun f => f)
    have HT1 : Calls Tryz.prog 130 #[PtrTo P 14] w1 fun e w' => ∃ rb, e = .returned (.slice (some ⟨rb, 0, none⟩) m.rows.columns m.rows.columns) ∧ YieldAt Fence.wide 1 Tryz.prog l #[.slice (some ⟨rb, 0, none⟩) m.rows.columns m.rows.columns] w' fun e W' => (e = .returned (.bool true) ∧ Rd W' ∧ (∃ gv', Rep col W' P { m with rows := rwAt m.rows (j + 1) } ps qs nv av wv hv gv') ∧ A (j + 1) W' ∧ j + 1 < cnt) ∨ (e = .returned (.bool false) ∧ ∃ c, Dn c W' ∧ LvF c W') := by
      refine (HT w1 x1).mono ?_
      rintro e w2 ⟨rb, rfl, hrb, hBl, ⟨gv', hR'⟩, k2⟩
      have hcl := HCL.out
      have k02 : Kp (fun k => k = P ∨ col k = .groups) wr w2 := (x1.mono (fun _ _ f => f.elim)).trans k2
      refine ⟨rb, by rw [hcl], (unhide HY) j rb wr w2 gv' (hRd _ _ hRw k02) hj hR' hAw k02 (Nat.le_trans x1.size hrb) hBl⟩
    have HT1 := hide HT1
    clear HT hrw
    refine (wpIn_wide (n := 2)).1 ?_
    gi_wp2_with (first | (refine ⟨trivial, ?_⟩; gi_at_call 130; refine (callsIn_wide.2 (unhide HT1)).mono ?_; rintro e w2 ⟨rb, rfl, fn, tmps, assign, body, hy, hRn⟩) | fail)
    refine hRn.mono ?_
    rintro e W3 (⟨rfl, hR3, ⟨gv3, hr3⟩, hA3, hlt3⟩ | ⟨rfl, c, hd, hl⟩)
    · gi_wp2
      go_wp2_with fail
      refine ⟨⟨j + 1, gv3, hlt3, hR3, hr3, hA3⟩, ?_⟩
      rw [(hbx _ _ hA3).2]
      omega
    · gi_wp2
      go_wp2_with fail
      refine bodyPost_ret (results_none rfl _ _ _) rfl ?_
      exact ⟨⟨_, rfl⟩, c, hd, hl⟩
end Go.Proofs.YthicgffppmbamaaGreat

namespace Go.Proofs.YthicgffppmbamaaGreat
open Go.RowKit
section
variable {P : Program} {ops : Array Oper} {Q : Exit → Act → World → Prop} {md : Region.Mode} {S : World → Prop}

theorem rowsIn_of {l n : Nat} {row : String} {args : Array Value} {w : World} {R : Value → World → Prop} (h : Rows P row args w R) : RowsIn (Fence.wide.inRound l) n P row args w R :=
  fun c cs _ => let ⟨v, w', r, s⟩ := h c cs; ⟨v, w', r, stepsIn_wide.2 s⟩

theorem wpOpIn_of {l n i : Nat} {K : Act → World → Prop} {a : Act} {w : World} (hnd : ∀ o c, ops[i]? = some o → o.op ≠ .defer c) (hL : ¬ LetsOut Q) (h : wpOp P ops Q i K a w) : wpOpIn (Fence.wide.inRound l) n P ops Q i K a w := by
  unfold wpOp at h
  unfold wpOpIn
  cases ho : ops[i]? with
  | none => rw [ho] at h; exact h
  | some o =>
    rw [ho] at h
    simp only at h ⊢
    split
    · rename_i hw
      rw [if_pos hw] at h
      have h := h.resolve_right (fun e => hL e.2)
      refine ⟨fun _ _ => trivial, ?_⟩
      rw [Oper.semAt_eq _ _ _ (fun c => hnd o c ho)]
      unfold Oper.wp at h
      generalize (execOp a.eval o).run P w = r at *
      cases r with
      | ok x w' =>
        cases x <;> simp only [Oper.upon, Oper.uponIn] at h ⊢ <;>
          first
            | exact h
            | exact ⟨fun e => (by simp [Fence.wide] at e), CallsIn.inRound l (callsIn_wide.2 h)⟩
            | exact ⟨fun e => (by simp [Fence.wide] at e), rowsIn_of h⟩
      | halt x w' => cases x <;> simp only [Oper.upon, Oper.uponIn] at h ⊢ <;> exact h
    · rename_i hw
      rw [if_neg hw] at h
      exact ⟨fun _ _ => trivial, h⟩

theorem wpAnyIn_of {l n : Nat} (hnd : ∀ (i : Nat) (o : Oper) c, ops[i]? = some o → o.op ≠ .defer c) (hL : ¬ LetsOut Q) : ∀ (f : Nat) (listed : Array Bool) (a : Act) (w : World), wpAny P md ops Q f listed a w → wpAnyIn (Fence.wide.inRound l) n P md ops Q f listed a w
  | 0, _, _, _, h => h
  | f + 1, _, _, _, h => ⟨h.1, fun i hi => wpOpIn_of (fun o c => hnd i o c) hL (wpOp_mono (fun _ _ h' => wpAnyIn_of hnd hL f _ _ _ h') (h.2 i hi))⟩

/-- no operation of the row defers a call -/
def undeferred (ops : Array Oper) : Bool := ops.toList.all fun o => match o.op with | .defer _ => false | _ => true
theorem undeferred.out (h : undeferred ops = true) (i : Nat) (o : Oper) (c) (hi : ops[i]? = some o) : o.op ≠ .defer c := fun e => by
  have := List.all_eq_true.1 h o (Array.mem_toList_iff.2 (Array.mem_of_getElem? hi))
  rw [e] at this
  cases this

/-- no way out but the normal one -/
def onlyQ (Q : Exit → Act → World → Prop) : Exit → Act → World → Prop
  | .normal, a, w => Q .normal a w
  | _, _, _ => False
theorem onlyQ.of {Q : Exit → Act → World → Prop} {a : Act} {w : World} (h : Q .normal a w) : onlyQ Q .normal a w := h
theorem onlyQ.out {Q : Exit → Act → World → Prop} {e : Exit} {a : Act} {w : World} (h : onlyQ Q e a w) : Q e a w := by
  cases e <;> first | exact h | exact h.elim

/-- such a region, whose last operation may write what the others read and where none panics, in a round -/
theorem wpIn_region_lateF {l n m id : Nat} {a : Act} {w : World} (S : World → Prop) (hm : P.follows .mixedOrders = true) (hnd : undeferred ops = true)
    (h : Late P .any ops (onlyQ Q) S n ops.size (Array.replicate ops.size false) a w.drew) : (Code.region id ops true).wpIn (Fence.wide.inRound l) m P Q a w :=
  Code.wpIn_mono (fun _ _ _ h => onlyQ.out h) (wpIn_region_any hm (wpAnyIn_of (undeferred.out hnd) (fun ⟨_, _, h⟩ => h) _ _ _ _ (Late.any _ _ _ _ h)))
/-- such a region where no operation of it panics -/
theorem wp_region_lateF {n id : Nat} {a : Act} {w : World} (S : World → Prop) (hm : P.follows .mixedOrders = true)
    (h : Late P .any ops (onlyQ Q) S n ops.size (Array.replicate ops.size false) a w.drew) : (Code.region id ops true).wp P Q a w :=
  wp_mono (wp_region_late S hm h) (fun _ _ _ h => onlyQ.out h)
end
end Go.Proofs.YthicgffppmbamaaGreat

namespace Go.Proofs.YthicgffppmbamaaGreat
open Go.RowKit

/-- lists of numbers, each with a block of its own, all of them new -/
structure NxAt (C : Nat → Prop) (W : World) (Lb : Nat) (vs : List Value) (ls : List (List Int)) : Prop where
  blk : Blk W Lb vs 46
  new : C Lb
  len : vs.length = ls.length
  own : ∀ (i : Nat) v l, vs[i]? = some v → ls[i]? = some l → Own W 1 v l.length (l.map I)
  blks : ∀ (i : Nat) v g, vs[i]? = some v → v.ownBlock = some g → C g ∧ g ≠ Lb
  apart : ∀ (i j : Nat) v u g, vs[i]? = some v → vs[j]? = some u → v.ownBlock = some g → u.ownBlock = some g → i = j

theorem NxAt.lt {C : Nat → Prop} {W : World} {Lb : Nat} {vs : List Value} {ls : List (List Int)} (h : NxAt C W Lb vs ls) (i : Nat) (v : Value) (g : Nat) (hv : vs[i]? = some v) (hg : v.ownBlock = some g) : g < W.heap.size := by
  have hi := (List.getElem?_eq_some_iff.1 hv).1
  exact (h.own i v _ hv (List.getElem?_eq_getElem (by rw [← h.len]; exact hi))).lt hg
theorem NxAt.kept {S : Nat → Prop} {C : Nat → Prop} {W W' : World} {Lb : Nat} {vs : List Value} {ls : List (List Int)} (h : NxAt C W Lb vs ls) (k : Kp S W W') (hS : ∀ g, C g → g < W.heap.size → ¬ S g) : NxAt C W' Lb vs ls :=
  ⟨h.blk.kept k (hS _ h.new h.blk.lt), h.new, h.len, fun i v l hv hl => (h.own i v l hv hl).kept k (fun g hg => hS g (h.blks i v g hv hg).1 (h.lt i v g hv hg)), h.blks, h.apart⟩
theorem NxAt.ext {C : Nat → Prop} {W W' : World} {Lb : Nat} {vs : List Value} {ls : List (List Int)} (h : NxAt C W Lb vs ls) (k : Ext W W') : NxAt C W' Lb vs ls := h.kept k (fun _ _ _ f => f)
theorem NxAt.recol {C C' : Nat → Prop} {W : World} {Lb : Nat} {vs : List Value} {ls : List (List Int)} (h : NxAt C W Lb vs ls) (hC : ∀ g, C g → g < W.heap.size → C' g) : NxAt C' W Lb vs ls :=
  ⟨h.blk, hC _ h.new h.blk.lt, h.len, h.own, fun i v g hv hg => ⟨hC _ (h.blks i v g hv hg).1 (h.lt i v g hv hg), (h.blks i v g hv hg).2⟩, h.apart⟩
/-- one list is another -/
theorem NxAt.put {C : Nat → Prop} {W W1 : World} {Lb : Nat} {vs : List Value} {ls : List (List Int)} (h : NxAt C W Lb vs ls) (i : Nat) (v v' : Value) (l : List Int) (hv : vs[i]? = some v) (k : Kp (Of v) W W1) (o : Own W1 1 v' l.length (l.map I)) (s : Sep W v v') (h0 : ∀ g, W.heap.size ≤ g → C g) : NxAt C (W1.setCell ⟨Lb, i, none⟩ v') Lb (vs.set i v') (ls.set i l) := by
  have hk := kp_set' W1 Lb i v'
  have hL : ¬ Of v Lb := fun e => (h.blks i v Lb hv e).2 rfl
  have hb' : ∀ g, v'.ownBlock = some g → (C g ∧ g ≠ Lb) ∧ (v.ownBlock = some g ∨ W.heap.size ≤ g) := fun g e => by
    rcases s with s | ⟨g', s1, s2⟩
    · rw [s] at e
      exact ⟨h.blks i v g hv e, .inl e⟩
    · rw [s1] at e
      simp only [Option.some.injEq] at e
      subst e
      have := h.blk.lt
      exact ⟨⟨h0 _ s2, by omega⟩, .inr s2⟩
  have hil : i < vs.length := (List.getElem?_eq_some_iff.1 hv).1
  refine ⟨(h.blk.kept k hL).set i v', h.new, by simp [h.len], fun j u q hu hq => ?_, fun j u g hu hg => ?_, fun j1 j2 u1 u2 g h1 h2 e1 e2 => ?_⟩
  · by_cases hji : j = i
    · subst hji
      rw [List.getElem?_set_self hil] at hu
      rw [List.getElem?_set_self (by rw [← h.len]; exact hil)] at hq
      cases hu
      cases hq
      exact o.kept hk (fun g hg e => (hb' g hg).1.2 e)
    · rw [List.getElem?_set_ne (Ne.symm hji)] at hu hq
      refine ((h.own j u q hu hq).kept k (fun g hg e => hji (h.apart j i u v g hu hv hg e))).kept hk (fun g hg e => (h.blks j u g hu hg).2 e)
  · by_cases hji : j = i
    · subst hji
      rw [List.getElem?_set_self hil] at hu
      cases hu
      exact (hb' g hg).1
    · rw [List.getElem?_set_ne (Ne.symm hji)] at hu
      exact h.blks j u g hu hg
  · by_cases hj1 : j1 = i
    · by_cases hj2 : j2 = i
      · omega
      · exfalso
        subst hj1
        rw [List.getElem?_set_self hil] at h1
        rw [List.getElem?_set_ne (Ne.symm hj2)] at h2
        cases h1
        have hlt := h.lt j2 u2 g h2 e2
        rcases (hb' g e1).2 with e | e
        · exact hj2 (h.apart j2 j1 u2 v g h2 hv e2 e)
        · omega
    · rw [List.getElem?_set_ne (Ne.symm hj1)] at h1
      by_cases hj2 : j2 = i
      · exfalso
        subst hj2
        rw [List.getElem?_set_self hil] at h2
        cases h2
        have hlt := h.lt j1 u1 g h1 e1
        rcases (hb' g e2).2 with e | e
        · exact hj1 (h.apart j1 j2 u1 v g h1 hv e1 e)
        · omega
      · rw [List.getElem?_set_ne (Ne.symm hj2)] at h2
        exact h.apart j1 j2 u1 u2 g h1 h2 e1 e2
/-- lists that are not there yet -/
theorem NxAt.nil {C : Nat → Prop} {W : World} {Lb cols : Nat} (h : Blk W Lb (List.replicate cols (.slice none 0 0)) 46) (hn : C Lb) : NxAt C W Lb (List.replicate cols (.slice none 0 0)) (List.replicate cols []) := by
  have hr : ∀ (i : Nat) v, (List.replicate cols (Value.slice none 0 0))[i]? = some v → v = .slice none 0 0 := fun i v hv => by
    have := List.mem_of_getElem? hv
    exact List.eq_of_mem_replicate this
  refine ⟨h, hn, by simp, fun i v l hv hl => ?_, fun i v g hv hg => ?_, fun i j v u g hv hu e1 e2 => ?_⟩
  · cases hr i v hv
    cases List.eq_of_mem_replicate (List.mem_of_getElem? hl)
    exact Own.nil _ _
  · cases hr i v hv
    cases hg
  · cases hr i v hv
    cases e1
theorem Blk.own0 {w : World} {b c : Nat} {z : Value} {e : TypeId} (h : Blk w b (List.replicate c z) e) (hc : c ≤ maxLen) : Own w 1 (.slice (some ⟨b, 0, none⟩) 0 c) 0 [] :=
  ⟨by simp, .inr ⟨b, c, rfl, Nat.zero_le _, hc, h.lt, fun j hj => by omega, fun j hj => ⟨by rw [h.cell, List.getElem?_replicate, if_pos (by omega)]; rfl, h.free j⟩⟩⟩

theorem step_make_c {ops : Array Oper} {o : Oper} {a : Act} {w : World} {K : Act → World → Prop} {Q : Exit → Act → World → Prop} {E : Prop} (hg : o.guard = none) (l c : Operand) (t : TypeId) (hop : o.op = Op.makeSlice t l c)
    (e : TypeId) (z : Value) (bytes : Nat) (h1 : Tryz.prog.underlying t = some (.slice e)) (h2 : (Tryz.prog.info? e).map (fun i => (i.zero, i.size, i.bytes)) = some (some z, 1, bytes)) (hz : z.cells = #[z])
    (n : Nat) (C : Int) (hl : a.eval l = .int .i64 0) (hc : a.eval c = .int .i64 C) (hC : C = n) (hb : bytes * n ≤ 281474976710656) (hn : n ≤ 1000000000000000)
    (hK : K (a.put o.dst (.slice (some ⟨w.heap.size, 0, none⟩) 0 n)) (w.alloc (.cells (List.replicate n z).toArray e))) :
    if Region.wanted o (yielded ops a.tmps) = true then Oper.wp Tryz.prog o a w K Q else E := by
  have hw : Region.wanted o (yielded ops a.tmps) = true := by simp [Region.wanted, hg]
  rw [if_pos hw]
  obtain ⟨i, hi, hz0, hz1, hz2⟩ := info_parts h2
  subst hC
  have hrun := run_make (P := Tryz.prog) w t e i z h1 hi hz0 .i64 .i64 (0 : Int) (n : Int) (by omega) (by omega) (by rw [hz2]; omega) (by omega)
  rw [Int.toNat_natCast, hz1, Nat.mul_one, hz] at hrun
  have hm : madeCells #[z] n = (List.replicate n z).toArray := by
    apply Array.ext'
    rw [toList_madeCells_one]
  rw [hm] at hrun
  unfold Oper.wp
  simp [execOp, hop, hl, hc, hrun, Result.andThen]
  exact hK
end Go.Proofs.YthicgffppmbamaaGreat

namespace Go.Proofs.YthicgffppmbamaaGreat
open Go.RowKit

/-- the lists when j rows have come -/
def lsAt (r : Pl.Rw) (cols j : Nat) : List (List Int) := (List.range cols).map fun i => (Pl.iter Pl.rwTakeS j ([], r)).1.map fun row => row.getD i 0
theorem lsAt_len (r : Pl.Rw) (cols j : Nat) : (lsAt r cols j).length = cols := by simp [lsAt]
theorem lsAt_zero (r : Pl.Rw) (cols : Nat) : lsAt r cols 0 = List.replicate cols [] := by
  apply List.ext_getElem?
  intro i
  simp only [lsAt, Pl.iter, List.map_nil, List.getElem?_map, List.getElem?_replicate]
  by_cases hi : i < cols
  · rw [List.getElem?_range hi, if_pos hi]; rfl
  · rw [List.getElem?_eq_none (by simp; omega), if_neg hi]; rfl
theorem iter_len (r : Pl.Rw) : ∀ j, (Pl.iter Pl.rwTakeS j ([], r)).1.length = j
  | 0 => rfl
  | j + 1 => by rw [show Pl.iter Pl.rwTakeS (j + 1) ([], r) = Pl.rwTakeS (Pl.iter Pl.rwTakeS j ([], r)) from rfl]; simp [Pl.rwTakeS, iter_len r j]
theorem lsAt_get (r : Pl.Rw) (cols j i : Nat) (hi : i < cols) : ∃ l, (lsAt r cols j)[i]? = some l ∧ l.length = j ∧ (lsAt r cols (j + 1))[i]? = some (l ++ [(Pl.rwTake (rwAt r j)).1.getD i 0]) := by
  refine ⟨(Pl.iter Pl.rwTakeS j ([], r)).1.map fun row => row.getD i 0, ?_, by simp [iter_len], ?_⟩
  · simp only [lsAt, List.getElem?_map]
    rw [List.getElem?_range hi]
    rfl
  · simp only [lsAt, List.getElem?_map]
    rw [List.getElem?_range hi, show Pl.iter Pl.rwTakeS (j + 1) ([], r) = Pl.rwTakeS (Pl.iter Pl.rwTakeS j ([], r)) from rfl]
    simp [Pl.rwTakeS]
/-- the first i of one row, the rest of the other -/
def mix {α : Type} (A B : List α) (i : Nat) : List α := A.take i ++ B.drop i
theorem mix_zero {α : Type} (A B : List α) : mix A B 0 = B := by simp [mix]
theorem mix_all {α : Type} (A B : List α) (h : A.length = B.length) : mix A B B.length = A := by simp [mix, ← h]
theorem mix_get {α : Type} (A B : List α) (h : A.length = B.length) (i : Nat) : (mix A B i)[i]? = B[i]? := by
  unfold mix
  by_cases hi : i < A.length
  · rw [List.getElem?_append_right (by simp; omega)]
    simp [Nat.min_eq_left (Nat.le_of_lt hi)]
  · rw [List.getElem?_eq_none (by simp; omega), List.getElem?_eq_none (by omega)]
theorem mix_set {α : Type} (A B : List α) (h : A.length = B.length) (i : Nat) (x : α) (hx : A[i]? = some x) : (mix A B i).set i x = mix A B (i + 1) := by
  obtain ⟨hi, rfl⟩ := List.getElem?_eq_some_iff.1 hx
  unfold mix
  rw [List.set_append_right _ _ (by simp; omega), show i - (A.take i).length = 0 by simp; omega, List.drop_eq_getElem_cons (by omega : i < B.length), List.set_cons_zero, List.take_succ_eq_append_getElem hi, List.append_assoc]
  rfl

/-- what lies still between two rounds: how many rows are left to take, the lists' box, the rows' box -/
structure NxSt (col : Colr) (w : World) (P Lb Bc Bl Bx B cols c : Nat) (W : World) : Prop where
  c : Blk W Bc [.int .i64 (c : Int)] 3
  l : Blk W Bl [.slice (some ⟨Lb, 0, none⟩) cols cols] 51
  x : Blk W Bx [PtrTo P 14] 173
  k : Kp (fun k => k = P ∨ col k = .groups) w W
  z : B + 2 ≤ W.heap.size
theorem NxSt.go {col : Colr} {w : World} {P Lb Bc Bl Bx B cols c : Nat} {S : Nat → Prop} {W W' : World} (h : NxSt col w P Lb Bc Bl Bx B cols c W) (k : Kp S W W') (h1 : ¬ S Bc) (h2 : ¬ S Bl) (h3 : ¬ S Bx) (h4 : ∀ i, i < w.heap.size → S i → i = P ∨ col i = .groups) : NxSt col w P Lb Bc Bl Bx B cols c W' :=
  ⟨h.c.kept k h1, h.l.kept k h2, h.x.kept k h3, h.k.then k h4, Nat.le_trans h.z k.size⟩
def NxC (n0 Bl Bx B g : Nat) : Prop := n0 < g ∧ g ≠ Bl ∧ g ≠ Bx ∧ g ≠ B ∧ g ≠ B + 1
section
variable (col : Colr) (w : World) (P : Nat) (m : Pl.Sc) (ps qs : List Nat) (nv av wv hv : Value) (Lb Bl Bx B cols cnt : Nat)
/-- behind j rounds -/
structure NxB (j : Nat) (W : World) : Prop where
  rep : ∃ gv, Rep col W P { m with rows := rwAt m.rows j } ps qs nv av wv hv gv
  lists : ∃ vs, NxAt (NxC w.heap.size Bl Bx B) W Lb vs (lsAt m.rows cols j)
  st : NxSt col w P Lb w.heap.size Bl Bx B cols (cnt - j) W
/-- where a round begins -/
structure NxP (j rb : Nat) (W : World) : Prop where
  lt : j < cnt
  rep : ∃ gv, Rep col W P { m with rows := rwAt m.rows (j + 1) } ps qs nv av wv hv gv
  lists : ∃ vs, NxAt (NxC w.heap.size Bl Bx B) W Lb vs (lsAt m.rows cols j) ∧ ∀ (i : Nat) v g, vs[i]? = some v → v.ownBlock = some g → g ≠ rb
  st : NxSt col w P Lb w.heap.size Bl Bx B cols (cnt - j) W
  row : Blk W rb ((Pl.rwTake (rwAt m.rows j)).1.map I) 3
  new : B + 2 ≤ rb
end
section
variable {col : Colr} {w : World} {P : Nat} {m : Pl.Sc} {ps qs : List Nat} {nv av wv hv : Value} {Lb Bl Bx B cols cnt j rb : Nat} {S : Nat → Prop} {W W' : World}
theorem NxB.kept (h : NxB col w P m ps qs nv av wv hv Lb Bl Bx B cols cnt j W) (k : Kp S W W') (hS : ∀ i, S i → i = B ∨ i = B + 1) (htop : ∀ i, w.heap.size ≤ i → col i = .out) (h1 : w.heap.size < B) (h2 : Bl < B) (h3 : Bx < B) : NxB col w P m ps qs nv av wv hv Lb Bl Bx B cols cnt j W' := by
  obtain ⟨⟨gv, hr⟩, ⟨vs, hl⟩, hs⟩ := h
  refine ⟨⟨gv, hr.kept k (fun i hi => htop i (by have := hS i hi; omega))⟩, ⟨vs, hl.kept k (fun g hg _ e => by have := hS g e; have := hg.2.2.2; omega)⟩, hs.go k (fun e => by have := hS _ e; omega) (fun e => by have := hS _ e; omega) (fun e => by have := hS _ e; omega) (fun i hi e => by have := hS _ e; omega)⟩
theorem NxP.kept (h : NxP col w P m ps qs nv av wv hv Lb Bl Bx B cols cnt j rb W) (k : Kp S W W') (hS : ∀ i, S i → i = B ∨ i = B + 1) (htop : ∀ i, w.heap.size ≤ i → col i = .out) (h1 : w.heap.size < B) (h2 : Bl < B) (h3 : Bx < B) : NxP col w P m ps qs nv av wv hv Lb Bl Bx B cols cnt j rb W' := by
  obtain ⟨h0, ⟨gv, hr⟩, ⟨vs, hl, hn⟩, hs, hrow, hnew⟩ := h
  exact ⟨h0, ⟨gv, hr.kept k (fun i hi => htop i (by have := hS i hi; omega))⟩, ⟨vs, hl.kept k (fun g hg _ e => by have := hS g e; have := hg.2.2.2; omega), hn⟩, hs.go k (fun e => by have := hS _ e; omega) (fun e => by have := hS _ e; omega) (fun e => by have := hS _ e; omega) (fun i hi e => by have := hS _ e; omega), hrow.kept k (fun e => by have := hS _ e; omega), hnew⟩
end
end Go.Proofs.YthicgffppmbamaaGreat

namespace Go.Proofs.YthicgffppmbamaaGreat
open Go.RowKit Go.Shelf
attribute [local go_sem] Oper.semAt_some

set_option maxRecDepth 20000 in
set_option maxHeartbeats 4000000 in
theorem rowsNext_any (col : Colr) (w : World) (P : Nat) (m : Pl.Sc) (ps qs : List Nat) (nv av wv hv gv : Value) (h : Rep col w P m ps qs nv av wv hv gv) (most : Nat) (hmost : most ≤ 1000000) (hr : RwOk m.rows) (hcols : m.rows.columns ≤ 1000) (_hrd : Pl.rwReady m.rows ≤ 1000000000)
    (hok : Pl.rwCount m.rows most ≤ Pl.rwReady m.rows → TakesOk m.rows (Pl.rwCount m.rows most)) :
    Calls Tryz.prog 89 #[PtrTo P 14, .int .i64 most] w fun e w' => ((Pl.rwNext m.rows most).1 = none ∧ e = .returned (.slice none 0 0) ∧ Ext w w') ∨
      ∃ ls Lb vs gv', (Pl.rwNext m.rows most).1 = some ls ∧ e = .returned (.slice (some ⟨Lb, 0, none⟩) m.rows.columns m.rows.columns) ∧ NxAt (fun g => w.heap.size ≤ g) w' Lb vs ls ∧ Rep col w' P { m with rows := (Pl.rwNext m.rows most).2 } ps qs nv av wv hv gv' ∧ Kp (fun k => k = P ∨ col k = .groups) w w' := by
  have s14 := h.blk.cell 14
  have s18 := h.blk.cell 18
  simp only [scCells, I, List.getElem?_cons_zero, List.getElem?_cons_succ] at s14 s18
  obtain ⟨cnt, hcnt⟩ : ∃ cnt, cnt = Pl.rwCount m.rows most := ⟨_, rfl⟩
  have hcl : cnt ≤ 1000000 := by rw [hcnt]; unfold Pl.rwCount; omega
  have hmin : min (most : Int) (m.rows.left : Int) = (cnt : Int) := by rw [hcnt]; unfold Pl.rwCount; omega
  have hL := hr.left
  have htop := h.inn.top
  have hPl := h.blk.lt
  rw [← hcnt] at hok
  have HC := hide hcnt
  have HOK := hide hok
  have HRE := hide (ready_any col)
  clear hok hcnt
  refine (callsIn_wide (n := 3)).1 (callsIn_of_wp_marks Tryz.func89 rfl trivial ?_ rfl)
  simp only [Tryz.ntmps89, List.size_toArray, List.length_cons, List.length_nil, Nat.reduceAdd, Nat.reduceSub, Array.replicate_succ, Array.replicate_zero, List.push_toArray, List.append_toArray, List.nil_append, List.cons_append]
  refine wpIn_wide.2 ?_
  go_upto_region 2 with fail
  have hif : (if m.rows.left < most then (m.rows.left : Int) else (most : Int)) = (cnt : Int) := by rw [← hmin]; split <;> omega
  rw [hif]
  clear hif hmin
  have x1 : Ext w (w.alloc (.cells #[.int .i64 (cnt : Int)] 3)) := (Kp.refl _ _).alloc _
  have b1 : Blk (w.alloc (.cells #[.int .i64 (cnt : Int)] 3)) w.heap.size [.int .i64 (cnt : Int)] 3 := Blk.of_alloc w [.int .i64 (cnt : Int)] 3
  generalize w.alloc (.cells #[.int .i64 (cnt : Int)] 3) = W1 at *
  have hS : ∀ u, Ext W1 u → u.cell? ⟨w.heap.size, 0, none⟩ = some (.int .i64 (cnt : Int)) := fun u hu => hu.cell (b1.cell 0) id
  have HS := hide hS
  clear hS
  have hx1 : Ext W1 W1.drew := (Kp.refl _ _).drew
  by_cases hz : cnt = 0
  · have HN : Hid ((Pl.rwNext m.rows most).1 = none) := hide (by unfold Pl.rwNext; rw [if_pos (.inl (by rw [← HC.out]; exact hz))])
    clear HOK HC
    subst hz
    refine wp_region_lateF (n := 7) (Ext W1) (by kernel_rfl) ?_
    refine Late.take (i := 0) (oi := ⟨some 17, .load 3 (.tmp 5), 3, "rows.go:46", #[], none⟩) (v := ?_) [1, 2, 7] rfl (by kernel_rfl) (by kernel_rfl) (by decide) (by decide) (by kernel_rfl) (by kernel_rfl) (by kernel_rfl) (fun _ _ _ h => h) rfl ?_ hx1 ?_
    rotate_left
    · (intro u hu; have u0 := (unhide HS) u hu; go_simp; first | done | with_reducible rfl)
    try simp only [Act.put, List.setIfInBounds_toArray, List.set_cons_zero, List.set_cons_succ]
    refine Late.take (i := 1) (oi := ⟨some 18, .binOp .eql 3 (.tmp 17) (.const (.int .i64 0)) 3, 4, "rows.go:46", #[⟨0, .data⟩], none⟩) (v := ?_) [2, 7] rfl (by kernel_rfl) (by kernel_rfl) (by decide) (by decide) (by kernel_rfl) (by kernel_rfl) (by kernel_rfl) (fun _ _ _ h => h) rfl ?_ hx1 ?_
    rotate_left
    · (intro u hu; have u0 := (unhide HS) u hu; go_simp; first | done | with_reducible rfl)
    try simp only [Act.put, List.setIfInBounds_toArray, List.set_cons_zero, List.set_cons_succ]
    refine Late.take (i := 2) (oi := ⟨some 19, .move (.tmp 18), 4, "rows.go:46", #[⟨1, .data⟩], none⟩) (v := ?_) [7] rfl (by kernel_rfl) (by kernel_rfl) (by decide) (by decide) (by kernel_rfl) (by kernel_rfl) (by kernel_rfl) (fun _ _ _ h => h) rfl ?_ hx1 ?_
    rotate_left
    · (intro u hu; have u0 := (unhide HS) u hu; go_simp; first | done | with_reducible rfl)
    try simp only [Act.put, List.setIfInBounds_toArray, List.set_cons_zero, List.set_cons_succ]
    refine Late.skip (i := 3) (oi := ⟨some 20, .load 3 (.tmp 5), 3, "rows.go:46", #[⟨2, .guard⟩], some (2, false)⟩) [6, 7] rfl (by kernel_rfl) (by kernel_rfl) (by decide) (by decide) (by kernel_rfl) (by kernel_rfl) (by kernel_rfl) (fun _ _ _ h => h) (by rfl) hx1 ?_
    try simp only [Act.put, List.setIfInBounds_toArray, List.set_cons_zero, List.set_cons_succ]
    refine Late.skip (i := 4) (oi := ⟨some 21, .move (.tmp 0), 173, "rows.go:46", #[⟨2, .guard⟩], some (2, false)⟩) [5, 6, 7] rfl (by kernel_rfl) (by kernel_rfl) (by decide) (by decide) (by kernel_rfl) (by kernel_rfl) (by kernel_rfl) (fun _ _ _ h => h) (by rfl) hx1 ?_
    try simp only [Act.put, List.setIfInBounds_toArray, List.set_cons_zero, List.set_cons_succ]
    refine Late.skip (i := 5) (oi := ⟨some 22, .call { callee := .value (.func 107), args := #[.tmp 21], argTypes := #[173] }, 3, "rows.go:46", #[⟨4, .data⟩, ⟨2, .chain⟩, ⟨2, .guard⟩], some (2, false)⟩) [6, 7] rfl (by kernel_rfl) (by kernel_rfl) (by decide) (by decide) (by kernel_rfl) (by kernel_rfl) (by kernel_rfl) (fun _ _ _ h => h) (by rfl) hx1 ?_
    try simp only [Act.put, List.setIfInBounds_toArray, List.set_cons_zero, List.set_cons_succ]
    refine Late.skip (i := 6) (oi := ⟨some 23, .binOp .gtr 3 (.tmp 20) (.tmp 22) 3, 4, "rows.go:46", #[⟨3, .data⟩, ⟨5, .data⟩, ⟨2, .guard⟩], some (2, false)⟩) [7] rfl (by kernel_rfl) (by kernel_rfl) (by decide) (by decide) (by kernel_rfl) (by kernel_rfl) (by kernel_rfl) (fun _ _ _ h => h) (by rfl) hx1 ?_
    try simp only [Act.put, List.setIfInBounds_toArray, List.set_cons_zero, List.set_cons_succ]
    refine Late.one (i := 7) (o := ⟨some 24, .pick (.tmp 19) (.const (.bool true)) (.tmp 23), 4, "rows.go:46", #[⟨2, .data⟩, ⟨6, .data⟩], none⟩) (by kernel_rfl) rfl (fun K hK => ?_)
    go_simp
    refine hK _ _ (fun h => absurd rfl h) ?_
    clear hK K
    try simp only [Act.put, List.setIfInBounds_toArray, List.set_cons_zero, List.set_cons_succ]
    refine Late.done (by kernel_rfl) (onlyQ.of ?_) _
    go_wp2_with fail
    exact ⟨_, results_tmp rfl _ _ _, .inl ⟨HN.out, rfl, x1.trans hx1⟩⟩
  · have hzd : decide (cnt = 0) = false := decide_eq_false hz
    refine wp_region_lateF (n := 7) (Ext W1) (by kernel_rfl) ?_
    refine Late.take (i := 0) (oi := ⟨some 17, .load 3 (.tmp 5), 3, "rows.go:46", #[], none⟩) (v := ?_) [1, 2, 7] rfl (by kernel_rfl) (by kernel_rfl) (by decide) (by decide) (by kernel_rfl) (by kernel_rfl) (by kernel_rfl) (fun _ _ _ h => h) rfl ?_ hx1 ?_
    rotate_left
    · (intro u hu; have u0 := (unhide HS) u hu; go_simp; first | done | with_reducible rfl)
    try simp only [Act.put, List.setIfInBounds_toArray, List.set_cons_zero, List.set_cons_succ]
    refine Late.take (i := 1) (oi := ⟨some 18, .binOp .eql 3 (.tmp 17) (.const (.int .i64 0)) 3, 4, "rows.go:46", #[⟨0, .data⟩], none⟩) (v := ?_) [2, 7] rfl (by kernel_rfl) (by kernel_rfl) (by decide) (by decide) (by kernel_rfl) (by kernel_rfl) (by kernel_rfl) (fun _ _ _ h => h) rfl ?_ hx1 ?_
    rotate_left
    · (intro u hu; have u0 := (unhide HS) u hu; go_simp; first | done | with_reducible rfl)
    try simp only [Act.put, List.setIfInBounds_toArray, List.set_cons_zero, List.set_cons_succ]
    refine Late.take (i := 2) (oi := ⟨some 19, .move (.tmp 18), 4, "rows.go:46", #[⟨1, .data⟩], none⟩) (v := ?_) [7] rfl (by kernel_rfl) (by kernel_rfl) (by decide) (by decide) (by kernel_rfl) (by kernel_rfl) (by kernel_rfl) (fun _ _ _ h => h) rfl ?_ hx1 ?_
    rotate_left
    · (intro u hu; have u0 := (unhide HS) u hu; go_simp; first | done | with_reducible rfl)
    try simp only [Act.put, List.setIfInBounds_toArray, List.set_cons_zero, List.set_cons_succ]
    rw [show ((cnt : Int) == 0) = false from by simp; omega]
    refine Late.takeW (i := 3) (oi := ⟨some 20, .load 3 (.tmp 5), 3, "rows.go:46", #[⟨2, .guard⟩], some (2, false)⟩) (v := ?_) [6, 7] rfl (by kernel_rfl) (by kernel_rfl) (by decide) (by decide) (by kernel_rfl) (by kernel_rfl) (by kernel_rfl) (fun _ _ _ h => h) (by rfl) ?_ hx1 ?_
    rotate_left
    · (intro u hu; have u0 := (unhide HS) u hu; go_simp; first | done | with_reducible rfl)
    try simp only [Act.put, List.setIfInBounds_toArray, List.set_cons_zero, List.set_cons_succ]
    refine Late.takeW (i := 4) (oi := ⟨some 21, .move (.tmp 0), 173, "rows.go:46", #[⟨2, .guard⟩], some (2, false)⟩) (v := ?_) [5, 6, 7] rfl (by kernel_rfl) (by kernel_rfl) (by decide) (by decide) (by kernel_rfl) (by kernel_rfl) (by kernel_rfl) (fun _ _ _ h => h) (by rfl) ?_ hx1 ?_
    rotate_left
    · (intro u hu; have u0 := (unhide HS) u hu; go_simp; first | done | with_reducible rfl)
    try simp only [Act.put, List.setIfInBounds_toArray, List.set_cons_zero, List.set_cons_succ]
    refine Late.one (i := 5) (o := ⟨some 22, .call { callee := .value (.func 107), args := #[.tmp 21], argTypes := #[173] }, 3, "rows.go:46", #[⟨4, .data⟩, ⟨2, .chain⟩, ⟨2, .guard⟩], some (2, false)⟩) (by kernel_rfl) rfl (fun K hK => ?_)
    refine step_call_w (by rfl) 107 #[PtrTo P 14] (by go_simp) ?_
    refine ((unhide HRE) W1.drew P m ps qs nv av wv hv gv (h.ext (x1.trans hx1)) hr).mono ?_
    rintro e w3 ⟨rfl, x3⟩
    have hx3 : Ext W1 w3 := hx1.trans x3
    refine ⟨_, rfl, hK _ _ (fun _ => hx3) ?_⟩
    clear hK K
    try simp only [Act.put, List.setIfInBounds_toArray, List.set_cons_zero, List.set_cons_succ]
    by_cases hd : cnt ≤ Pl.rwReady m.rows
    · have hdi : (cnt : Int) ≤ (Pl.rwReady m.rows : Int) := by omega
      have hdn : decide (Pl.rwReady m.rows < cnt) = false := decide_eq_false (by omega)
      refine Late.takeW (i := 6) (oi := ⟨some 23, .binOp .gtr 3 (.tmp 20) (.tmp 22) 3, 4, "rows.go:46", #[⟨3, .data⟩, ⟨5, .data⟩, ⟨2, .guard⟩], some (2, false)⟩) (v := ?_) [7] rfl (by kernel_rfl) (by kernel_rfl) (by decide) (by decide) (by kernel_rfl) (by kernel_rfl) (by kernel_rfl) (fun _ _ _ h => h) (by rfl) ?_ hx3 ?_
      rotate_left
      · (intro u hu; skip; go_simp; first | done | with_reducible rfl)
      try simp only [Act.put, List.setIfInBounds_toArray, List.set_cons_zero, List.set_cons_succ]
      refine Late.one (i := 7) (o := ⟨some 24, .pick (.tmp 19) (.const (.bool true)) (.tmp 23), 4, "rows.go:46", #[⟨2, .data⟩, ⟨6, .data⟩], none⟩) (by kernel_rfl) rfl (fun K hK => ?_)
      go_simp
      refine hK _ _ (fun h => absurd rfl h) ?_
      clear hK K
      try simp only [Act.put, List.setIfInBounds_toArray, List.set_cons_zero, List.set_cons_succ]
      refine Late.done (by kernel_rfl) (onlyQ.of ?_) _
      have hOK := HOK.out hd
      have h3 := h.ext (x1.trans hx3)
      have b3 := b1.kept hx3 (fun f => f)
      have xw := x1.trans hx3
      have s14a := h3.blk.cell 14
      simp only [scCells, I, List.getElem?_cons_zero, List.getElem?_cons_succ] at s14a
      have HN : Hid (Pl.rwNext m.rows most = (some ((List.range m.rows.columns).map fun i => (Pl.iter Pl.rwTakeS cnt ([], m.rows)).1.map fun row => row.getD i 0), (Pl.iter Pl.rwTakeS cnt ([], m.rows)).2)) := hide (by unfold Pl.rwNext; rw [if_neg (by rw [← HC.out]; omega), ← HC.out])
      have hBl : w.heap.size < w3.heap.size := b3.lt
      have c3 := b3.cell 0
      have f3 := b3.free 0
      simp only [List.getElem?_cons_zero] at c3
      clear HS HC HOK hzd hdn hdi hd HRE b1 hx1 hx3 x3 x1 s14 s18 h
      clear W1
      generalize hce : m.rows.columns = cols at *
      have HCE := hide hce
      clear hce
      go_upto_region 5 with (first | (at_make; go_must (refine wpList_make_blk _ rfl _ _ 51 rfl 46 _ 24 Tryz.underlying51 infoLi rfl cols _ _ rfl rfl (by omega) (by omega) (by omega) (by omega) ?_); intro w4 hb4 x4 z4) | fail)
      have x5 : Ext w3 (w4.alloc (.cells #[.slice (some ⟨w3.heap.size, 0, none⟩) cols cols] 51)) := x4.trans ((Kp.refl _ _).alloc _)
      have b5 : Blk (w4.alloc (.cells #[.slice (some ⟨w3.heap.size, 0, none⟩) cols cols] 51)) (w3.heap.size + 1) [.slice (some ⟨w3.heap.size, 0, none⟩) cols cols] 51 := by rw [← z4]; exact Blk.of_alloc w4 [.slice (some ⟨w3.heap.size, 0, none⟩) cols cols] 51
      have n5 : NxAt (fun g => w.heap.size < g ∧ g ≠ w3.heap.size + 1) (w4.alloc (.cells #[.slice (some ⟨w3.heap.size, 0, none⟩) cols cols] 51)) w3.heap.size (List.replicate cols (.slice none 0 0)) (List.replicate cols []) := (NxAt.nil hb4 ⟨by omega, by omega⟩).ext ((Kp.refl _ _).alloc _)
      have z5 : (w4.alloc (.cells #[.slice (some ⟨w3.heap.size, 0, none⟩) cols cols] 51)).heap.size = w3.heap.size + 2 := by simp [z4]
      generalize w4.alloc (.cells #[.slice (some ⟨w3.heap.size, 0, none⟩) cols cols] 51) = W5 at *
      have c5 := b5.cell 0
      simp only [List.getElem?_cons_zero] at c5
      have b35 := b3.kept x5 (fun f => f)
      clear hb4 x4 z4 b3 c3 f3 s14a
      clear w4
      go_wp2_with fail
      go_loopw [32] (fun i wr => ∃ (k : Nat) (vs : List Value), i = .int .i64 k ∧ k ≤ cols ∧ NxAt (fun g => w.heap.size < g ∧ g ≠ w3.heap.size + 1) wr w3.heap.size vs (List.replicate cols []) ∧ Kp (fun b => b = w3.heap.size) W5 wr) (fun i _ => cols - (intOf i).toNat)
      case atStart => exact ⟨0, _, rfl, by omega, n5, Kp.refl _ _⟩
      case round =>
        obtain ⟨k, vs, rfl, hk, hn, hkp⟩ := hrel
        by_cases hkl : k < cols
        · have cl := hkp.cell c5 (by simp)
          have cc := hkp.cell ((b35.cell 0).trans (by simp : _ = some (.int .i64 (cnt : Int)))) (by simp; omega)
          go_wp2_with fail
          have hS : ∀ u, Ext wr u → u.cell? ⟨w3.heap.size + 1, 0, none⟩ = some (.slice (some ⟨w3.heap.size, 0, none⟩) cols cols) ∧ u.cell? ⟨w.heap.size, 0, none⟩ = some (.int .i64 (cnt : Int)) := fun u hu => ⟨hu.cell cl id, hu.cell cc id⟩
          have HS := hide hS
          clear hS cl cc
          have hx1 : Ext wr wr.drew := (Kp.refl _ _).drew
          refine wp_region_lateF (n := 5) (Ext wr) (by kernel_rfl) ?_
          refine Late.take (i := 0) (oi := ⟨some 35, .load 51 (.tmp 6), 51, "rows.go:51", #[], none⟩) (v := ?_) [5] rfl (by kernel_rfl) (by kernel_rfl) (by decide) (by decide) (by kernel_rfl) (by kernel_rfl) (by kernel_rfl) (fun _ _ _ h => h) rfl ?_ hx1 ?_
          rotate_left
          · (intro u hu; obtain ⟨u0, u1⟩ := (unhide HS) u hu; go_simp; first | done | with_reducible rfl)
          try simp only [Act.put, List.setIfInBounds_toArray, List.set_cons_zero, List.set_cons_succ]
          refine Late.take (i := 1) (oi := ⟨some 36, .move (.tmp 7), 3, "rows.go:51", #[], none⟩) (v := ?_) [5] rfl (by kernel_rfl) (by kernel_rfl) (by decide) (by decide) (by kernel_rfl) (by kernel_rfl) (by kernel_rfl) (fun _ _ _ h => h) rfl ?_ hx1 ?_
          rotate_left
          · (intro u hu; obtain ⟨u0, u1⟩ := (unhide HS) u hu; go_simp; first | done | with_reducible rfl)
          try simp only [Act.put, List.setIfInBounds_toArray, List.set_cons_zero, List.set_cons_succ]
          refine Late.take (i := 2) (oi := ⟨some 37, .load 3 (.tmp 5), 3, "rows.go:51", #[], none⟩) (v := ?_) [5] rfl (by kernel_rfl) (by kernel_rfl) (by decide) (by decide) (by kernel_rfl) (by kernel_rfl) (by kernel_rfl) (fun _ _ _ h => h) rfl ?_ hx1 ?_
          rotate_left
          · (intro u hu; obtain ⟨u0, u1⟩ := (unhide HS) u hu; go_simp; first | done | with_reducible rfl)
          try simp only [Act.put, List.setIfInBounds_toArray, List.set_cons_zero, List.set_cons_succ]
          refine Late.one (i := 3) (o := ⟨some 38, .makeSlice 46 (.const (.int .i64 0)) (.tmp 37), 46, "rows.go:51", #[⟨2, .data⟩], none⟩) (by kernel_rfl) rfl (fun K hK => ?_)
          refine step_make_c rfl _ _ 46 rfl 3 (.int .i64 0) 8 Tryz.underlying46 infoI rfl cnt cnt rfl rfl rfl (by omega) (by omega) ?_
          refine hK _ _ (fun _ => hx1.alloc _) ?_
          clear hK K
          try simp only [Act.put, List.setIfInBounds_toArray, List.set_cons_zero, List.set_cons_succ]
          have xm : Ext wr (wr.drew.alloc (.cells (List.replicate cnt (.int .i64 0)).toArray 3)) := hx1.alloc _
          have bm : Blk (wr.drew.alloc (.cells (List.replicate cnt (.int .i64 0)).toArray 3)) wr.heap.size (List.replicate cnt (.int .i64 0)) 3 := Blk.of_alloc wr.drew _ _
          generalize wr.drew.alloc (.cells (List.replicate cnt (.int .i64 0)).toArray 3) = W2 at *
          have hwz : wr.drew.heap.size = wr.heap.size := rfl
          try rw [hwz]
          refine Late.one (i := 4) (o := ⟨some 39, .indexAddr 51 (.tmp 35) (.tmp 36), 0, "rows.go:51", #[⟨0, .data⟩, ⟨1, .data⟩, ⟨0, .phase⟩, ⟨1, .phase⟩, ⟨2, .phase⟩, ⟨3, .phase⟩], none⟩) (by kernel_rfl) rfl (fun K hK => ?_)
          go_simp
          refine hK _ _ (fun _ => xm) ?_
          clear hK K
          try simp only [Act.put, List.setIfInBounds_toArray, List.set_cons_zero, List.set_cons_succ]
          obtain ⟨v, hv⟩ : ∃ v, vs[k]? = some v := ⟨vs[k]'(by rw [hn.len]; simpa using hkl), List.getElem?_eq_getElem _⟩
          have cs : W2.cell? ⟨w3.heap.size, k, none⟩ = some v := ((hn.ext xm).blk.cell k).trans hv
          have fs := (hn.ext xm).blk.free k
          refine Late.one (i := 5) (o := ⟨none, .store 46 (.tmp 39) (.tmp 38), 0, "rows.go:51", #[⟨4, .data⟩, ⟨3, .data⟩, ⟨0, .phase⟩, ⟨1, .phase⟩, ⟨2, .phase⟩, ⟨3, .phase⟩], none⟩) (by kernel_rfl) rfl (fun K hK => ?_)
          go_simp
          refine hK _ _ (fun h => absurd rfl h) ?_
          clear hK K
          try simp only [Act.put, List.setIfInBounds_toArray, List.set_cons_zero, List.set_cons_succ]
          refine Late.done (by kernel_rfl) (onlyQ.of ?_) _
          have hsz := hkp.size
          have hnew := hn.put k v (.slice (some ⟨wr.heap.size, 0, none⟩) 0 cnt) [] hv (xm.mono (fun _ _ f => f.elim)) (bm.own0 (by unfold maxLen; omega)) (.inr ⟨wr.heap.size, rfl, Nat.le_refl _⟩) (fun g hg => ⟨by omega, by omega⟩)
          rw [List.set_replicate_self] at hnew
          have k6 : Kp (fun b => b = w3.heap.size) W5 (W2.setCell ⟨w3.heap.size, k, none⟩ (.slice (some ⟨wr.heap.size, 0, none⟩) 0 cnt)) := (hkp.trans (xm.mono (fun _ _ f => f.elim))).trans (kp_set' _ _ _ _)
          clear cs fs
          generalize W2.setCell ⟨w3.heap.size, k, none⟩ (.slice (some ⟨wr.heap.size, 0, none⟩) 0 cnt) = W6 at *
          go_wp2_with fail
          exact ⟨⟨k + 1, _, by go_num, by omega, hnew, k6⟩, by simp [intOf]; omega⟩
        · have hke : k = cols := by omega
          subst hke
          go_wp2_with (first | (go_at_call 108; refine (there_any _ P).mono ?_; rintro e w' ⟨rfl, rfl⟩) | fail)
          have hszr := hkp.size
          have h6 : Rep col (wr.alloc (.cells #[PtrTo P 14] 173)) P m ps qs nv av wv hv gv := ((h3.ext x5).kept hkp (fun i e => h3.inn.top i (by omega))).ext ((Kp.refl _ _).alloc _)
          have n6 : NxAt (NxC w.heap.size (w3.heap.size + 1) wr.heap.size (wr.heap.size + 1)) (wr.alloc (.cells #[PtrTo P 14] 173)) w3.heap.size vs (List.replicate k []) := (hn.recol (C' := NxC w.heap.size (w3.heap.size + 1) wr.heap.size (wr.heap.size + 1)) (fun g h1 h2 => ⟨h1.1, h1.2, by omega, by omega, by omega⟩)).ext ((Kp.refl _ _).alloc _)
          have bc6 : Blk (wr.alloc (.cells #[PtrTo P 14] 173)) w.heap.size [.int .i64 (cnt : Int)] 3 := (b35.kept hkp (by omega)).kept (S := fun _ => False) ((Kp.refl _ _).alloc _) id
          have bl6 : Blk (wr.alloc (.cells #[PtrTo P 14] 173)) (w3.heap.size + 1) [.slice (some ⟨w3.heap.size, 0, none⟩) k k] 51 := (b5.kept hkp (by omega)).kept (S := fun _ => False) ((Kp.refl _ _).alloc _) id
          have bx6 : Blk (wr.alloc (.cells #[PtrTo P 14] 173)) wr.heap.size [PtrTo P 14] 173 := Blk.of_alloc wr [PtrTo P 14] 173
          have k6 : Ext w (wr.alloc (.cells #[PtrTo P 14] 173)) := ((xw.trans x5).then hkp (fun i hi e => by omega)).alloc _
          have z6 : (wr.alloc (.cells #[PtrTo P 14] 173)).heap.size = wr.heap.size + 1 := by simp
          generalize wr.alloc (.cells #[PtrTo P 14] 173) = W6 at *
          clear hn hkp b35 b5 n5 h3 x5 c5 xw hk hkl
          have HZ5 := hide z5
          clear z5
          have hB : w.heap.size < W6.heap.size := by have := HZ5.out; omega
          have hBl6 : w3.heap.size + 1 < W6.heap.size := by have := HZ5.out; omega
          have hBx : wr.heap.size < W6.heap.size := by omega
          rw [← z6] at n6
          have HZ6 := hide z6
          clear z6
          refine wpIn_wide.1 (wpIn_range_st (F := Fence.wide) (n := 3) (α := Nat × Nat) rfl (by omega) (gf := 129) (lb := #[PtrTo wr.heap.size 0]) rfl trivial (enters_of Tryz.func129 (by kernel_rfl) rfl)
            (fun x => #[.slice (some ⟨x.2, 0, none⟩) k k]) (fun _ => rfl)
            (fun x W => NxP col w P m ps qs nv av wv hv w3.heap.size (w3.heap.size + 1) wr.heap.size W6.heap.size k cnt x.1 x.2 W)
            (fun x W => x.1 + 1 < cnt ∧ NxB col w P m ps qs nv av wv hv w3.heap.size (w3.heap.size + 1) wr.heap.size W6.heap.size k cnt (x.1 + 1) W)
            (fun c x W => c = .exit 2 ∧ x.1 + 1 = cnt ∧ NxB col w P m ps qs nv av wv hv w3.heap.size (w3.heap.size + 1) wr.heap.size W6.heap.size k cnt (x.1 + 1) W)
            (fun _ => False)
            (fun c W => c = .exit 2 ∧ NxB col w P m ps qs nv av wv hv w3.heap.size (w3.heap.size + 1) wr.heap.size W6.heap.size k cnt cnt W)
            (fun x W o hp => hp.kept (kp_putObj W _ o) (fun i e => .inr e) htop hB hBl6 hBx)
            (fun x W o hp => ⟨hp.1, hp.2.kept (kp_putObj W _ o) (fun i e => .inr e) htop hB hBl6 hBx⟩)
            (fun c x W o hp => ⟨hp.1, hp.2.1, hp.2.2.kept (kp_putObj W _ o) (fun i e => .inr e) htop hB hBl6 hBx⟩)
            (fun _ _ f => f)
            (fun c W o hp => ⟨hp.1, hp.2.kept (kp_putObj W _ o) (fun i e => .inr e) htop hB hBl6 hBx⟩)
            ?a1 ?assign ?body ?iter (fun _ f _ => f.elim) ?stop)
          case assign =>
            intro x W K hK
            gi_wp2
            exact hK
          case body =>
            generalize wr.heap.size = Bx at *
            rintro ⟨j, rb⟩ W ⟨hj, ⟨gvr, hrep⟩, ⟨vs0, hl0, hne0⟩, hst, hrow, hnew⟩
            obtain ⟨-, -, -, hcl2, G, rest, hTk⟩ := hOK j hj
            obtain ⟨row, hre⟩ : ∃ row, row = (Pl.rwTake (rwAt m.rows j)).1 := ⟨_, rfl⟩
            have hrl : row.length = k := by rw [hre, ← HCE.out, ← hcl2, ← hTk.cols]; unfold Pl.rwTake; rw [hTk.groups]; simp
            have hget := fun i (hi : i < k) => lsAt_get m.rows k j i hi
            rw [← hre] at hrow hget
            have HG := hide hget
            have HRL := hide hrl
            obtain ⟨c, hc⟩ : ∃ c, cnt - j = c + 1 := ⟨cnt - j - 1, by omega⟩
            have hc2 : cnt - (j + 1) = c := by omega
            have HC2 := hide hc2
            rw [hc] at hst
            have HC1 := hide hc
            have hAL : (lsAt m.rows k (j + 1)).length = (lsAt m.rows k j).length := by rw [lsAt_len, lsAt_len]
            have HAL := hide hAL
            obtain ⟨A, hA⟩ : ∃ A, A = lsAt m.rows k (j + 1) := ⟨_, rfl⟩
            obtain ⟨Bb, hBb⟩ : ∃ Bb, Bb = lsAt m.rows k j := ⟨_, rfl⟩
            rw [← hA, ← hBb] at HAL
            have hBbl : Hid (Bb.length = k) := hide (by rw [hBb, lsAt_len])
            rw [← hBb] at hl0
            rw [← hA, ← hBb] at HG
            clear hget hrl hc hc2 hAL hTk hcl2 hre
            have HA := hide hA
            clear hA hBb
            have hrlt := hrow.lt
            have hrB := hst.z
            dsimp only
            gi_wp2_with fail
            gi_loopw [46] (fun i wr' => ∃ (i0 : Nat) (vs : List Value), i = .int .i64 i0 ∧ i0 ≤ k ∧ NxAt (NxC w.heap.size (w3.heap.size + 1) Bx W6.heap.size) wr' w3.heap.size vs (mix A Bb i0) ∧ (∀ (i : Nat) v g, vs[i]? = some v → v.ownBlock = some g → g ≠ rb) ∧ Kp (fun g => NxC w.heap.size (w3.heap.size + 1) Bx W6.heap.size g ∧ g ≠ rb) W wr') (fun i _ => k - (intOf i).toNat)
            case atStart => exact ⟨0, vs0, rfl, Nat.zero_le _, by rw [mix_zero]; exact hl0, hne0, Kp.refl _ _⟩
            case round =>
              obtain ⟨i0, vs1, rfl, hi0, hn, hne, hkp⟩ := hrel
              have hkz := hkp.size
              by_cases hik : i0 < k
              · obtain ⟨l, hl1, hl2, hl3⟩ := HG.out i0 hik
                have hm := (mix_get A Bb HAL.out i0).trans hl1
                obtain ⟨v, hv⟩ : ∃ v, vs1[i0]? = some v := ⟨vs1[i0]'(by rw [hn.len]; exact (List.getElem?_eq_some_iff.1 hm).1), List.getElem?_eq_getElem _⟩
                have ho := hn.own i0 v l hv hm
                obtain ⟨va, vc, rfl, hvc⟩ := ho.shape
                have hll : l.length ≤ 1000000 := by omega
                have HL2 := hide hl2
                clear hl2
                have cr : wr.cell? ⟨rb, i0, none⟩ = some (.int .i64 (row.getD i0 0)) := hkp.cell ((hrow.cell i0).trans (by rw [List.getElem?_map, List.getElem?_eq_getElem (by rw [HRL.out]; exact hik)]; simp [List.getD, List.getElem?_eq_getElem (show i0 < row.length by rw [HRL.out]; exact hik)]; rfl)) (fun e => e.2 rfl)
                have cl := hkp.cell ((hst.l.cell 0).trans (by simp : _ = some (.slice (some ⟨w3.heap.size, 0, none⟩) k k))) (fun e => e.1.2.1 rfl)
                have cv := (hn.blk.cell i0).trans hv
                generalize row.getD i0 0 = xv at *
                gi_wp2_with fail
                have hS : ∀ u, Kp (fun b => b ≠ w3.heap.size + 1 ∧ b ≠ w3.heap.size) wr u → u.cell? ⟨w3.heap.size + 1, 0, none⟩ = some (.slice (some ⟨w3.heap.size, 0, none⟩) k k) ∧ u.cell? ⟨w3.heap.size, i0, none⟩ = some (.slice va l.length vc) := fun u hu => ⟨hu.cell cl (by simp), hu.cell cv (by simp)⟩
                have HS := hide hS
                clear hS cl
                have hx1 : Kp (fun b => b ≠ w3.heap.size + 1 ∧ b ≠ w3.heap.size) wr wr.drew := (Kp.refl _ _).drew
                refine wpIn_region_lateF (n := 10) (Kp (fun b => b ≠ w3.heap.size + 1 ∧ b ≠ w3.heap.size) wr) (by kernel_rfl) (by kernel_rfl) ?_
                refine Late.take (i := 0) (oi := ⟨some 51, .load 51 (.tmp 6), 51, "rows.go:55", #[], none⟩) (v := ?_) [10] rfl (by kernel_rfl) (by kernel_rfl) (by decide) (by decide) (by kernel_rfl) (by kernel_rfl) (by kernel_rfl) (fun _ _ _ h => h) rfl ?_ hx1 ?_
                rotate_left
                · (intro u hu; obtain ⟨u0, u1⟩ := (unhide HS) u hu; go_simp; first | done | with_reducible rfl)
                try simp only [Act.put, List.setIfInBounds_toArray, List.set_cons_zero, List.set_cons_succ]
                refine Late.take (i := 1) (oi := ⟨some 52, .move (.tmp 9), 3, "rows.go:55", #[], none⟩) (v := ?_) [10] rfl (by kernel_rfl) (by kernel_rfl) (by decide) (by decide) (by kernel_rfl) (by kernel_rfl) (by kernel_rfl) (fun _ _ _ h => h) rfl ?_ hx1 ?_
                rotate_left
                · (intro u hu; obtain ⟨u0, u1⟩ := (unhide HS) u hu; go_simp; first | done | with_reducible rfl)
                try simp only [Act.put, List.setIfInBounds_toArray, List.set_cons_zero, List.set_cons_succ]
                refine Late.take (i := 2) (oi := ⟨some 53, .load 51 (.tmp 6), 51, "rows.go:55", #[], none⟩) (v := ?_) [10] rfl (by kernel_rfl) (by kernel_rfl) (by decide) (by decide) (by kernel_rfl) (by kernel_rfl) (by kernel_rfl) (fun _ _ _ h => h) rfl ?_ hx1 ?_
                rotate_left
                · (intro u hu; obtain ⟨u0, u1⟩ := (unhide HS) u hu; go_simp; first | done | with_reducible rfl)
                try simp only [Act.put, List.setIfInBounds_toArray, List.set_cons_zero, List.set_cons_succ]
                refine Late.take (i := 3) (oi := ⟨some 54, .move (.tmp 9), 3, "rows.go:55", #[], none⟩) (v := ?_) [10] rfl (by kernel_rfl) (by kernel_rfl) (by decide) (by decide) (by kernel_rfl) (by kernel_rfl) (by kernel_rfl) (fun _ _ _ h => h) rfl ?_ hx1 ?_
                rotate_left
                · (intro u hu; obtain ⟨u0, u1⟩ := (unhide HS) u hu; go_simp; first | done | with_reducible rfl)
                try simp only [Act.put, List.setIfInBounds_toArray, List.set_cons_zero, List.set_cons_succ]
                refine Late.take (i := 4) (oi := ⟨some 55, .indexAddr 51 (.tmp 53) (.tmp 54), 0, "rows.go:55", #[⟨2, .data⟩, ⟨3, .data⟩], none⟩) (v := ?_) [10] rfl (by kernel_rfl) (by kernel_rfl) (by decide) (by decide) (by kernel_rfl) (by kernel_rfl) (by kernel_rfl) (fun _ _ _ h => h) rfl ?_ hx1 ?_
                rotate_left
                · (intro u hu; obtain ⟨u0, u1⟩ := (unhide HS) u hu; go_simp; first | done | with_reducible rfl)
                try simp only [Act.put, List.setIfInBounds_toArray, List.set_cons_zero, List.set_cons_succ]
                refine Late.take (i := 5) (oi := ⟨some 56, .load 46 (.tmp 55), 46, "rows.go:55", #[⟨4, .data⟩], none⟩) (v := ?_) [10] rfl (by kernel_rfl) (by kernel_rfl) (by decide) (by decide) (by kernel_rfl) (by kernel_rfl) (by kernel_rfl) (fun _ _ _ h => h) rfl ?_ hx1 ?_
                rotate_left
                · (intro u hu; obtain ⟨u0, u1⟩ := (unhide HS) u hu; go_simp; first | done | with_reducible rfl)
                try simp only [Act.put, List.setIfInBounds_toArray, List.set_cons_zero, List.set_cons_succ]
                refine Late.take (i := 6) (oi := ⟨some 57, .move (.tmp 10), 3, "rows.go:55", #[], none⟩) (v := ?_) [10] rfl (by kernel_rfl) (by kernel_rfl) (by decide) (by decide) (by kernel_rfl) (by kernel_rfl) (by kernel_rfl) (fun _ _ _ h => h) rfl ?_ hx1 ?_
                rotate_left
                · (intro u hu; obtain ⟨u0, u1⟩ := (unhide HS) u hu; go_simp; first | done | with_reducible rfl)
                try simp only [Act.put, List.setIfInBounds_toArray, List.set_cons_zero, List.set_cons_succ]
                refine Late.one (i := 7) (o := ⟨some 58, .buildSlice 46 1 #[(0, .tmp 57)], 46, "rows.go:55", #[⟨6, .data⟩], none⟩) (by kernel_rfl) rfl (fun K hK => ?_)
                go_simp
                refine hK _ _ (fun _ => hx1.alloc _) ?_
                clear hK K
                try simp only [Act.put, List.setIfInBounds_toArray, List.set_cons_zero, List.set_cons_succ]
                refine Late.one (i := 8) (o := ⟨some 59, .call { callee := .builtin .append, args := #[.tmp 56, .tmp 58], argTypes := #[46, 46] }, 46, "rows.go:55", #[⟨5, .data⟩, ⟨7, .data⟩], none⟩) (by kernel_rfl) rfl (fun K hK => ?_)
                refine step_append_g rfl _ _ 46 46 rfl 3 (.int .i64 0) 1 8 Tryz.underlying46 infoI rfl _ _ _ (by rfl) (ho.ext ((Kp.refl _ _).drew.alloc _)) _ (by rfl) 1 _ (src_elemN' wr.drew wr.drew.heap.size rfl _ _ Tryz.underlying46 _ [.int .i64 xv] rfl (by intro u hu; simp at hu; subst hu; rfl)) (by omega) (by omega) ?_
                intro v' w5 o5 k5 s5
                have g5 : Kp (fun b => b ≠ w3.heap.size + 1 ∧ b ≠ w3.heap.size) wr w5 := (hx1.alloc _).trans (k5.mono (fun i _ e => ⟨(hn.blks i0 _ i hv e).1.2.1, (hn.blks i0 _ i hv e).2⟩))
                refine hK _ _ (fun _ => g5) ?_
                clear hK K
                obtain ⟨a', c', rfl, hc'⟩ := o5.shape
                try simp only [Act.put, List.setIfInBounds_toArray, List.set_cons_zero, List.set_cons_succ]
                have cv5 := g5.cell cv (by simp)
                have fv5 := (hn.blk.kept g5 (by simp)).free i0
                refine Late.one (i := 9) (o := ⟨some 60, .indexAddr 51 (.tmp 51) (.tmp 52), 0, "rows.go:55", #[⟨0, .data⟩, ⟨1, .data⟩, ⟨0, .phase⟩, ⟨1, .phase⟩, ⟨2, .phase⟩, ⟨3, .phase⟩, ⟨4, .phase⟩, ⟨5, .phase⟩, ⟨6, .phase⟩, ⟨7, .phase⟩, ⟨8, .phase⟩], none⟩) (by kernel_rfl) rfl (fun K hK => ?_)
                go_simp
                refine hK _ _ (fun _ => g5) ?_
                clear hK K
                try simp only [Act.put, List.setIfInBounds_toArray, List.set_cons_zero, List.set_cons_succ]
                refine Late.one (i := 10) (o := ⟨none, .store 46 (.tmp 60) (.tmp 59), 0, "rows.go:55", #[⟨9, .data⟩, ⟨8, .data⟩, ⟨8, .chain⟩, ⟨0, .phase⟩, ⟨1, .phase⟩, ⟨2, .phase⟩, ⟨3, .phase⟩, ⟨4, .phase⟩, ⟨5, .phase⟩, ⟨6, .phase⟩, ⟨7, .phase⟩, ⟨8, .phase⟩], none⟩) (by kernel_rfl) rfl (fun K hK => ?_)
                go_simp
                refine hK _ _ (fun h => absurd rfl h) ?_
                clear hK K
                try simp only [Act.put, List.setIfInBounds_toArray, List.set_cons_zero, List.set_cons_succ]
                refine Late.done (by kernel_rfl) (onlyQ.of ?_) _
                have x35 : Kp (Of (.slice va l.length vc)) wr w5 := ((Kp.refl _ _).drew.alloc _).trans k5
                have s5' : Sep wr (.slice va l.length vc) (.slice a' (l.length + 1) c') := Sep.mono (by simp) s5
                have hnew2 := hn.put i0 _ (.slice a' (l.length + 1) c') (l ++ [xv]) hv x35 (by rw [List.length_append, List.map_append]; exact o5) s5' (fun g hg => ⟨by omega, by omega, by omega, by omega, by omega⟩)
                rw [mix_set A Bb HAL.out i0 _ hl3] at hnew2
                have k9 : Kp (fun g => NxC w.heap.size (w3.heap.size + 1) Bx W6.heap.size g ∧ g ≠ rb) W (w5.setCell ⟨w3.heap.size, i0, none⟩ (.slice a' (l.length + 1) c')) :=
                  (hkp.trans (x35.mono (fun i _ e => ⟨(hn.blks i0 _ i hv e).1, hne i0 _ i hv e⟩))).trans ((kp_set' _ _ _ _).mono (fun i _ e => by rw [e]; exact ⟨hn.new, by omega⟩))
                have hne9 : ∀ (i : Nat) v g, (vs1.set i0 (.slice a' (l.length + 1) c'))[i]? = some v → v.ownBlock = some g → g ≠ rb := fun i v g h1 h2 => by
                  by_cases hii : i = i0
                  · subst hii
                    rw [List.getElem?_set_self (List.getElem?_eq_some_iff.1 hv).1] at h1
                    cases h1
                    rcases s5' with e | ⟨g', e1, e2⟩
                    · rw [e] at h2; exact hne i _ g hv h2
                    · rw [e1] at h2; simp only [Option.some.injEq] at h2; omega
                  · rw [List.getElem?_set_ne (Ne.symm hii)] at h1
                    exact hne i v g h1 h2
                clear cv5 fv5 cv cr
                generalize w5.setCell ⟨w3.heap.size, i0, none⟩ (.slice a' (l.length + 1) c') = W9 at *
                gi_wp2_with fail
                exact ⟨⟨i0 + 1, _, by go_num, by omega, hnew2, hne9, k9⟩, by simp [intOf]; omega⟩
              · have hie : i0 = k := by omega
                subst hie
                have hmx : mix A Bb i0 = A := by have := mix_all A Bb HAL.out; rwa [hBbl.out] at this
                rw [hmx] at hn
                clear hmx
                have bc9 := hst.c.kept hkp (fun e => by have := e.1.1; omega)
                have cc := bc9.cell 0
                have fc := bc9.free 0
                simp only [List.getElem?_cons_zero] at cc
                have hcb : c ≤ 1000000 := by have := HC1.out; omega
                have ks := kp_set' wr w.heap.size 0 (.int .i64 (c : Int))
                have kall : Kp (fun g => w.heap.size ≤ g ∧ g ≠ w3.heap.size + 1 ∧ g ≠ Bx ∧ g ≠ W6.heap.size ∧ g ≠ W6.heap.size + 1) W (wr.setCell ⟨w.heap.size, 0, none⟩ (.int .i64 (c : Int))) :=
                  (hkp.mono (fun i _ e => ⟨Nat.le_of_lt e.1.1, e.1.2⟩)).trans (ks.mono (fun i _ e => by have := HZ5.out; omega))
                have nb : NxB col w P m ps qs nv av wv hv w3.heap.size (w3.heap.size + 1) Bx W6.heap.size i0 cnt (j + 1) (wr.setCell ⟨w.heap.size, 0, none⟩ (.int .i64 (c : Int))) := by
                  refine ⟨⟨gvr, hrep.kept kall (fun i e => htop i e.1)⟩, ⟨vs1, ?_⟩, ?_⟩
                  · rw [← HA.out]
                    exact hn.kept ks (fun g hg _ e => by have := hg.1; omega)
                  · rw [HC2.out]
                    exact ⟨by simpa using bc9.set 0 (.int .i64 (c : Int)), hst.l.kept kall (fun e => e.2.1 rfl), hst.x.kept kall (fun e => e.2.2.1 rfl), hst.k.then kall (fun i hi e => by have := e.1; omega), Nat.le_trans hst.z kall.size⟩
                have hh : (wr.setCell ⟨w.heap.size, 0, none⟩ (.int .i64 (c : Int))).heap[W6.heap.size + 1]? = W.heap[W6.heap.size + 1]? ∧ (wr.setCell ⟨w.heap.size, 0, none⟩ (.int .i64 (c : Int))).heap[W6.heap.size + 1 - 1]? = W.heap[W6.heap.size + 1 - 1]? :=
                  ⟨kall.block _ (by omega) (fun e => e.2.2.2.2 rfl), kall.block _ (by omega) (fun e => e.2.2.2.1 rfl)⟩
                have NBH := hide nb
                have HHH := hide hh
                clear nb hh kall ks
                gi_wp2_with fail
                · rename_i hb0
                  have hb0 : (c : Int) = 0 := by simpa using hb0
                  exact ⟨HHH.out, rfl, by have := HC1.out; show j + 1 = cnt; omega, NBH.out⟩
                · rename_i hb0
                  have hb0 : ¬ (c : Int) = 0 := by simpa using hb0
                  exact ⟨HHH.out, by have := HC1.out; show j + 1 < cnt; omega, NBH.out⟩
          case iter =>
            intro Rd Dn W1 x1 hz1 hRd0 hRd hDn hY
            have hPB : ∀ i, w.heap.size ≤ i → ¬ (i = P ∨ col i = .groups) := fun i hi e => by
              rcases e with e | e
              · omega
              · rw [htop i hi] at e; cases e
            have hA0 : NxB col w P m ps qs nv av wv hv w3.heap.size (w3.heap.size + 1) wr.heap.size W6.heap.size k cnt 0 W1 := by
              refine ⟨⟨gv, h6.ext x1⟩, ⟨vs, ?_⟩, bc6.kept x1 (fun f => f), bl6.kept x1 (fun f => f), bx6.kept x1 (fun f => f), Kp.of_ext (k6.trans x1), by omega⟩
              rw [lsAt_zero]
              exact n6.ext x1
            refine (callsIn_wide.2 (there1_any col P m ps qs nv av wv hv wr.heap.size (W6.heap.size + 1) cnt (by omega) hOK (fun W => match W.cell? ⟨w.heap.size, 0, none⟩ with | some v => cnt - (intOf v).toNat | none => 0) (fun j W => j ≤ cnt ∧ NxB col w P m ps qs nv av wv hv w3.heap.size (w3.heap.size + 1) wr.heap.size W6.heap.size k cnt j W) Rd Dn
              (fun c W => c = .exit 2 ∧ NxB col w P m ps qs nv av wv hv w3.heap.size (w3.heap.size + 1) wr.heap.size W6.heap.size k cnt cnt W) ?_ (fun W W' hr hk => hRd _ W W' hr hk (hPB _ (by omega)) (hPB _ (by omega))) ?_ W1 hRd0 ⟨gv, h6.ext x1⟩ ⟨Nat.zero_le _, hA0⟩)).mono ?_
            · rintro j W ⟨hj, hb⟩
              refine ⟨hb.st.x.cell 0, ?_⟩
              have := hb.st.c.cell 0
              simp only [List.getElem?_cons_zero] at this
              simp only [this, intOf, Int.toNat_natCast]
              omega
            · rintro j rb W0 W gv' hRW hj hrep ⟨hjc, hb⟩ k02 hrb hBl
              have hz := hb.st.z
              obtain ⟨vs', hl⟩ := hb.lists
              have hpre : NxP col w P m ps qs nv av wv hv w3.heap.size (w3.heap.size + 1) wr.heap.size W6.heap.size k cnt j rb W := by
                refine ⟨hj, ⟨gv', hrep⟩, ⟨vs', hl.kept k02 (fun g hg _ => hPB g (Nat.le_of_lt hg.1)), fun i v g hv hg e => ?_⟩, hb.st.go k02 (hPB _ (Nat.le_refl _)) (hPB _ (by omega)) (hPB _ (by have := HZ5.out; omega)) (fun i _ e => e), hBl, by omega⟩
                have := hl.lt i v g hv hg
                omega
              rw [HCE.out]
              refine YieldAt.mono (hY (j, rb) W hRW hpre) ?_
              rintro e W' (⟨rfl, h1, h2, h3⟩ | ⟨rfl, c, h1, h2, h3, h4⟩)
              · exact .inl ⟨rfl, h1, h3.rep, ⟨Nat.le_of_lt h2, h3⟩, h2⟩
              · refine .inr ⟨rfl, c, h1, h2, ?_⟩
                have h3 : j + 1 = cnt := h3
                have h4 := h4
                simp only at h4
                rw [h3] at h4
                exact h4
            · rintro e W' ⟨hv, c, h1, h2⟩
              exact ⟨hv, .inr ⟨c, h1, h2⟩⟩
          case stop =>
            rintro c W ⟨rfl, hb⟩ hD
            have cl := hb.st.l.cell 0
            simp only [List.getElem?_cons_zero] at cl
            gi_wp2
            go_wp2_with fail
            refine ⟨by simp, .inl ⟨_, _, rfl, run_takeDeferred hD, ?_⟩⟩
            obtain ⟨⟨gv9, r9⟩, ⟨vs9, n9⟩, s9⟩ := hb.kept (kp_putObj W W6.heap.size (.deferred none)) (fun i e => .inl e) htop hB hBl6 hBx
            exact ⟨_, results_tmp rfl _ _ _, .inr ⟨lsAt m.rows k cnt, w3.heap.size, vs9, gv9, by rw [HN.out]; rfl, by rw [HCE.out]; rfl, n9.recol (fun g h _ => Nat.le_of_lt h.1), by rw [HN.out]; exact r9, s9.k⟩⟩
    · have hdi : decide (Pl.rwReady m.rows < cnt) = true := decide_eq_true (by omega)
      refine Late.takeW (i := 6) (oi := ⟨some 23, .binOp .gtr 3 (.tmp 20) (.tmp 22) 3, 4, "rows.go:46", #[⟨3, .data⟩, ⟨5, .data⟩, ⟨2, .guard⟩], some (2, false)⟩) (v := ?_) [7] rfl (by kernel_rfl) (by kernel_rfl) (by decide) (by decide) (by kernel_rfl) (by kernel_rfl) (by kernel_rfl) (fun _ _ _ h => h) (by rfl) ?_ hx3 ?_
      rotate_left
      · (intro u hu; skip; go_simp; first | done | with_reducible rfl)
      try simp only [Act.put, List.setIfInBounds_toArray, List.set_cons_zero, List.set_cons_succ]
      refine Late.one (i := 7) (o := ⟨some 24, .pick (.tmp 19) (.const (.bool true)) (.tmp 23), 4, "rows.go:46", #[⟨2, .data⟩, ⟨6, .data⟩], none⟩) (by kernel_rfl) rfl (fun K hK => ?_)
      go_simp
      refine hK _ _ (fun h => absurd rfl h) ?_
      clear hK K
      try simp only [Act.put, List.setIfInBounds_toArray, List.set_cons_zero, List.set_cons_succ]
      refine Late.done (by kernel_rfl) (onlyQ.of ?_) _
      have HN : (Pl.rwNext m.rows most).1 = none := by unfold Pl.rwNext; rw [if_pos (.inr (by rw [← HC.out]; omega))]
      have HN := hide HN
      go_wp2_with fail
      exact ⟨_, results_tmp rfl _ _ _, .inl ⟨HN.out, rfl, x1.trans hx3⟩⟩
end Go.Proofs.YthicgffppmbamaaGreat

namespace Go.Proofs.YthicgffppmbamaaGreat
open Go.RowKit

/-- a request as a value -/
abbrev reqV (a b c : Nat) (p : Nat) : Value := .agg #[.int .i64 a, .int .i64 b, .int .i64 c, Bound 118 (PtrTo p 0), Bound 119 (PtrTo p 0)]
set_option maxRecDepth 20000 in
set_option maxHeartbeats 400000 in
theorem find1_any (w : World) (q a b c p : Nat) (id : Int) (hq : w.cell? ⟨q, 0, none⟩ = some (.int .i64 id)) :
    Calls Tryz.prog 127 #[reqV a b c p, PtrTo q 0] w fun e w' => e = .returned (.bool (decide ((a : Int) = id))) ∧ Ext w w' := by
  have hql : q < w.heap.size := World.block_lt_of_cell? w _ hq
  by_cases hd : (a : Int) = id
  · rw [decide_eq_true hd]
    go_enter Tryz.func127, Tryz.ntmps127
    go_wp2_with fail
    go_ret
    exact ⟨rfl, (Kp.refl _ _).alloc _⟩
  · have hd' : ((a : Int) == id) = false := by simpa using hd
    rw [decide_eq_false hd]
    go_enter Tryz.func127, Tryz.ntmps127
    go_wp2_with fail
    go_ret
    exact ⟨rfl, (Kp.refl _ _).alloc _⟩

set_option maxRecDepth 20000 in
set_option maxHeartbeats 1000000 in
theorem indexReq_any (w : World) (v : Value) (ps : List Nat) (l : List (Nat × Pl.Part)) (q : Nat) (id : Int) (h : Own w 5 v l.length (reqRow ps l)) (hps : ps.length = l.length) (hq : w.cell? ⟨q, 0, none⟩ = some (.int .i64 id)) (hl : l.length ≤ 1000) :
    Calls Tryz.prog 126 #[v, .func (.func 127) #[] #[PtrTo q 0]] w fun e w' => e = .returned (.int .i64 (idxV (Pl.findId l id))) ∧ Ext w w' := by
  have hown := h
  obtain ⟨aa, ac, rfl, hac⟩ := h.shape
  clear h
  generalize hP : Pl.findId l id = P0
  have HP := hide hP
  clear hP
  go_enter Tryz.func126, Tryz.ntmps126
  go_wp2_with fail
  go_loopw [8] (fun i wr => ∃ k : Nat, k ≤ l.length ∧ i = .int .i64 k ∧ Hid ((l.take k).findIdx? (fun q => decide ((q.1 : Int) = id)) = none) ∧ Ext w wr) (fun i _ => l.length - (intOf i).toNat)
  case atStart => exact ⟨0, Nat.zero_le _, rfl, by show _ = _; simp, Kp.refl _ _⟩
  case round =>
    obtain ⟨k, hk, rfl, hall, hx⟩ := hrel
    by_cases hkl : k < l.length
    · obtain ⟨ga, ca, he, _, hga, hc⟩ := hown.at (by omega)
      cases he
      have hck : ∀ j, j < 5 → wr.cell? ⟨ga, k * 5 + j, none⟩ = (reqCells (ps[k]'(by omega)) l[k])[j]? := fun j hj => by
        have e := reqRow_at ps l hps k j hkl hj
        have e2 := hc (k * 5 + j) (by omega)
        rw [e] at e2
        have : j < (reqCells (ps[k]'(by omega)) l[k]).length := hj
        rw [List.getElem?_eq_getElem this] at e2 ⊢
        exact hx.cell e2 (fun f => f)
      have d0 := hck 0 (by omega)
      have d1 := hck 1 (by omega)
      have d2 := hck 2 (by omega)
      have d3 := hck 3 (by omega)
      have d4 := hck 4 (by omega)
      simp only [reqCells, I, List.getElem?_cons_zero, List.getElem?_cons_succ, Nat.add_zero] at d0 d1 d2 d3 d4
      have HN : Hid (¬ ((l[k].1 : Nat) : Int) = id → (l.take (k + 1)).findIdx? (fun q => decide ((q.1 : Int) = id)) = none) := hide fun h => find_none_step hall.out hkl (decide_eq_false h)
      have HH : Hid (((l[k].1 : Nat) : Int) = id → P0 = some k) := hide fun h => by rw [← HP.out]; exact find_hit hall.out hkl (decide_eq_true h)
      generalize l[k] = rq at *
      generalize ps[k]'(by omega) = pk at *
      generalize rq.2.place + rq.2.data.length = pp at *
      generalize rq.2.length - rq.2.data.length = ll at *
      have hq1 := hx.cell hq (fun f => f)
      have HF := hide (find1_any wr q rq.1 pp ll pk id hq1)
      clear hck hc
      generalize rq.1 = r1 at *
      by_cases hok : (r1 : Int) = id
      · rw [decide_eq_true hok] at HF
        have HG := hide (HH.out hok)
        clear hok hq1
        go_wp2_with (go_at_call 127; refine (unhide HF).mono ?_; rintro e w1 ⟨rfl, x1⟩)
        go_ret
        rw [HG.out]
        exact ⟨rfl, hx.trans x1⟩
      · rw [decide_eq_false hok] at HF
        have HG := hide (HN.out hok)
        clear hok hq1
        go_wp2_with (go_at_call 127; refine (unhide HF).mono ?_; rintro e w1 ⟨rfl, x1⟩)
        go_roundw
        case rel => exact ⟨k + 1, by omega, by go_num, HG, hx.trans x1⟩
        case measure => simp [intOf]; omega
    · go_wp2_with fail
      go_ret
      obtain rfl : k = l.length := by omega
      rw [← HP.out]
      unfold Pl.findId
      rw [find_end hall.out]
      exact ⟨rfl, hx⟩

set_option maxRecDepth 20000 in
set_option maxHeartbeats 1000000 in
theorem find_any (col : Colr) (w : World) (P : Nat) (m : Pl.Sc) (ps qs : List Nat) (nv av wv hv gv : Value) (h : Rep col w P m ps qs nv av wv hv gv) (id : Int) (hal : m.asked.length ≤ 1000) :
    Calls Tryz.prog 105 #[PtrTo P 7, .int .i64 id] w fun e w' => e = .returned (.int .i64 (idxV (Pl.findId m.asked id))) ∧ Ext w w' := by
  have s10 := h.blk.cell 10
  simp only [scCells, List.getElem?_cons_zero, List.getElem?_cons_succ] at s10
  have hown := h.inn.asked
  have hpl := h.inn.aparts.1
  obtain ⟨aa, ac, rfl, hac⟩ := hown.shape
  have x0 : Ext w (w.alloc (.cells #[.int .i64 id] 3)) := (Kp.refl _ _).alloc _
  have b0 := Blk.of_alloc w [.int .i64 id] 3
  have hIx := indexReq_any _ _ ps m.asked w.heap.size id (hown.ext x0) hpl (b0.cell 0) hal
  have HIx := hide hIx
  have s10' := x0.cell s10 (fun f => f)
  have HX := hide x0
  clear hIx hown hpl h hac b0 x0
  go_enter Tryz.func105, Tryz.ntmps105
  go_wp2_with (go_at_call 126; refine (unhide HIx).mono ?_; rintro e w1 ⟨rfl, x1⟩)
  go_ret
  exact ⟨rfl, HX.out.trans x1⟩
end Go.Proofs.YthicgffppmbamaaGreat
