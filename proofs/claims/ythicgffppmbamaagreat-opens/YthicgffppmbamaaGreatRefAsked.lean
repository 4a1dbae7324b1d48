/- The document's Asked, State. -/
import Derived.Test.YthicgffppmbamaaGreatRefOpen
import Derived.LoopN
namespace Go.Proofs.YthicgffppmbamaaGreat
open Go.RowKit

def trCells (t : Nat × Nat × Nat) : List Value := [I t.1, I t.2.1, I t.2.2]
theorem tr_one (t : Nat × Nat × Nat) : ∀ u ∈ trCells t, u.oneCell' = true := by
  intro u hu
  simp [trCells] at hu
  rcases hu with rfl | rfl | rfl <;> rfl

set_option maxRecDepth 20000 in
set_option maxHeartbeats 4000000 in
theorem rAsked_any (col : Colr) (w : World) (Y : Nat) (r : Pl.RSc) (h : IsR col w Y r) (hm : r.made ≤ 100000000000000) (hpl : r.pieces.length ≤ 1000) (hlen : ∀ p ∈ r.pieces, p.length ≤ 1000000 ∧ p.got.length ≤ p.length ∧ p.place ≤ 1000000) :
    Calls Tryz.prog 34 #[PtrTo Y 0] w fun e w' => ∃ v, e = .returned v ∧ Own w' 3 v (Pl.rAsked r).length ((Pl.rAsked r).flatMap trCells) ∧ Ext w w' ∧ ∀ g, v.ownBlock = some g → w.heap.size ≤ g := by
  obtain ⟨pvs, nv, pv, rv, tv, h⟩ := h
  obtain ⟨pa, pc, rfl, hpc⟩ := h.inn.pieces.shape
  have HN : Hid (∀ g, (Value.slice none 0 0).ownBlock = some g → w.heap.size ≤ g) := fun g hg => by simp [Value.ownBlock] at hg
  by_cases hst : r.state = 0
  · have er : Pl.rAsked r = Pl.askedTo r.pieces r.made := by unfold Pl.rAsked; rw [if_pos hst]
    rw [er]
    clear er
    have b0 : ((r.state : Int) == 0) = true := by simp [hst]
    go_enter Tryz.func34, Tryz.ntmps34
    go_wp2_with fail
    go_loopw [3, 4] (fun t i wr => ∃ k : Nat, k ≤ r.made ∧ i = .int .i64 ((k : Int) + 1) ∧ Own wr 3 t (Pl.askedTo r.pieces k).length ((Pl.askedTo r.pieces k).flatMap trCells) ∧ Ext w wr ∧ ∀ g, t.ownBlock = some g → w.heap.size ≤ g) (fun _ i _ => r.made + 1 - (intOf i).toNat)
    case atStart => exact ⟨0, Nat.zero_le _, rfl, Own.nil _ _, Kp.refl _ _, unhide HN⟩
    case round =>
      obtain ⟨k, hk, rfl, ho, hx, hg⟩ := hrel
      have hR := h.ext hx
      have c6 := hR.blk.cell 6
      have c7 := hR.blk.cell 7
      have c8 := hR.blk.cell 8
      simp only [rcCells, I, List.getElem?_cons_zero, List.getElem?_cons_succ] at c6 c7 c8
      by_cases hkm : k < r.made
      · have hmid0 := Pl.askedMid_le r.pieces k 0
        go_wp2_with fail
        go_loopw [3, 5] (fun t i wr => ∃ q : Nat, q ≤ r.pieces.length ∧ i = .int .i64 q ∧ Own wr 3 t (Pl.askedTo r.pieces k ++ Pl.askedAt (k + 1) (r.pieces.take q)).length ((Pl.askedTo r.pieces k ++ Pl.askedAt (k + 1) (r.pieces.take q)).flatMap trCells) ∧ Ext w wr ∧ ∀ g, t.ownBlock = some g → w.heap.size ≤ g) (fun _ i _ => r.pieces.length - (intOf i).toNat)
        case atStart => exact ⟨0, Nat.zero_le _, rfl, by simpa [Pl.askedAt] using ho, hx, hg⟩
        case round =>
          obtain ⟨q, hq, rfl, ho2, hx2, hg2⟩ := hrel
          have hR2 := h.ext hx2
          clear c6 c7 c8 ho hx hg
          have c7 := hR2.blk.cell 7
          simp only [rcCells, I, List.getElem?_cons_zero, List.getElem?_cons_succ] at c7
          by_cases hql : q < r.pieces.length
          · obtain ⟨g, cap, he, -, -, -⟩ := hR2.inn.pieces.at (by omega)
            cases he
            obtain ⟨x, hx0, hcell⟩ := hR2.piece q hql
            obtain ⟨xo, xn, xc, rfl⟩ : ∃ xo xn xc, x = .slice xo xn xc := by
              obtain ⟨_, ao, cap', e, _⟩ := hR2.inn.parts q x r.pieces[q] hx0 (List.getElem?_eq_getElem hql)
              exact ⟨_, _, _, e⟩
            have hsz := hlen r.pieces[q] (List.getElem_mem hql)
            have hmid := Pl.askedMid_le r.pieces k q
            have HS : Hid (Pl.askedTo r.pieces k ++ Pl.askedAt (k + 1) (r.pieces.take (q + 1)) = (Pl.askedTo r.pieces k ++ Pl.askedAt (k + 1) (r.pieces.take q)) ++ (if r.pieces[q].id = k + 1 then [(k + 1, r.pieces[q].place + r.pieces[q].got.length, r.pieces[q].length - r.pieces[q].got.length)] else [])) := by
              show _ = _
              rw [List.take_succ_eq_append_getElem hql, Pl.askedAt_snoc, List.append_assoc]
            have d0 := hcell 0 (by omega)
            have d1 := hcell 1 (by omega)
            have d2 := hcell 2 (by omega)
            have d3 := hcell 3 (by omega)
            have d4 := hcell 4 (by omega)
            have d5 := hcell 5 (by omega)
            have d6 := hcell 6 (by omega)
            have d7 := hcell 7 (by omega)
            have d8 := hcell 8 (by omega)
            generalize r.pieces[q] = p at *
            simp only [rpCells, I, tx, List.getElem?_cons_zero, List.getElem?_cons_succ, Nat.add_zero] at d0 d1 d2 d3 d4 d5 d6 d7 d8
            have hsize : ({ data := p.got.toArray } : ByteArray).size = p.got.length := by simp [ByteArray.size]
            clear hcell hx0 hR hR2 hmid0 h hlen
            by_cases hid : p.id = k + 1
            · rw [if_pos hid] at HS
              have b1 : ((p.id : Int) == (k : Int) + 1) = true := by simp; omega
              have htr : Hid (#[Value.int .i64 ((k : Int) + 1), Value.int .i64 ((p.place : Int) + (p.got.length : Int)), Value.int .i64 ((p.length : Int) - (p.got.length : Int))] = (trCells (k + 1, p.place + p.got.length, p.length - p.got.length)).toArray) := by
                show _ = _
                simp only [trCells, I, Int.natCast_add, Int.natCast_one, Int.natCast_sub hsz.2.1]
              have hz := hx2.size
              have ho3 := ho2
              obtain ⟨ta, tc, rfl, _⟩ := ho2.shape
              generalize (Pl.askedTo r.pieces k ++ Pl.askedAt (k + 1) (r.pieces.take q)) = A at *
              go_wp2_with (at_builtin; go_must (refine wpList_append_g _ rfl _ _ 67 67 rfl 72 (.agg #[.int .i64 0, .int .i64 0, .int .i64 0]) 3 24 Tryz.underlying67 infoAsk rfl _ _ _ rfl ((ho3.ext_alloc _).ext_alloc _) _ rfl 1 _ (src_elemN _ _ (by simp) _ _ Tryz.underlying67 _ _ (unhide htr) (tr_one _)) (by omega) (by omega) ?_); intro v3 w3 o3 k3 s3)
              have x3 : Ext w w3 := ((hx2.alloc _).alloc _).then k3 (fun i hi e => by have := hg2 i e; omega)
              go_roundw
              case rel => exact ⟨q + 1, by omega, by go_num, by
                rw [HS.out]
                simpa using o3, x3, fun g e => by
                  rcases sep_new s3 e with e' | e'
                  · exact hg2 g e'
                  · simp at e'; omega⟩
              case measure => simp [intOf]; omega
            · rw [if_neg hid, List.append_nil] at HS
              have b1 : ((p.id : Int) == (k : Int) + 1) = false := by simp; omega
              go_wp2_with fail
              go_roundw
              case rel => exact ⟨q + 1, by omega, by go_num, by rw [HS.out]; exact ho2.ext_alloc _, hx2.alloc _, hg2⟩
              case measure => simp [intOf]; omega
          · obtain rfl : q = r.pieces.length := by omega
            rw [List.take_length] at ho2
            have HO : Hid (Pl.askedTo r.pieces (k + 1) = Pl.askedTo r.pieces k ++ Pl.askedAt (k + 1) r.pieces) := rfl
            clear hR hR2
            go_wp2_with fail
            go_roundw
            case rel => exact ⟨k + 1, by omega, by go_num, by rw [HO.out]; exact ho2, hx2, hg2⟩
            case measure => simp [intOf]; omega
      · obtain rfl : k = r.made := by omega
        clear hR
        go_wp2_with fail
        go_ret
        exact ⟨_, rfl, ho, hx, hg⟩
  · have er : Pl.rAsked r = [] := by unfold Pl.rAsked; rw [if_neg hst]
    rw [er]
    clear er
    have b0 : ((r.state : Int) == 0) = false := by simp; omega
    have c6 := h.blk.cell 6
    have c8 := h.blk.cell 8
    simp only [rcCells, I, List.getElem?_cons_zero, List.getElem?_cons_succ] at c6 c8
    by_cases hm0 : 1 ≤ r.made
    · go_enter Tryz.func34, Tryz.ntmps34
      go_wp2_with fail
      refine wp_loop_rounds 1 ?_
      rw [rounds_succ]
      go_wp2_with fail
      go_ret
      exact ⟨_, rfl, Own.nil _ _, Kp.refl _ _, unhide HN⟩
    · go_enter Tryz.func34, Tryz.ntmps34
      go_wp2_with fail
      refine wp_loop_rounds 1 ?_
      rw [rounds_succ]
      go_wp2_with fail
      go_ret
      exact ⟨_, rfl, Own.nil _ _, Kp.refl _ _, unhide HN⟩

set_option maxRecDepth 20000 in
set_option maxHeartbeats 1000000 in
theorem rState_any (col : Colr) (w : World) (Y : Nat) (r : Pl.RSc) (h : IsR col w Y r) :
    Calls Tryz.prog 41 #[PtrTo Y 0] w fun e w' => e = .returned (.int .i64 r.state) ∧ w' = w := by
  obtain ⟨pvs, nv, pv, rv, tv, h⟩ := h
  have c6 := h.blk.cell 6
  simp only [rcCells, I, List.getElem?_cons_zero, List.getElem?_cons_succ] at c6
  clear h
  go_enter Tryz.func41, Tryz.ntmps41
  go_wp2
  go_ret
  exact ⟨rfl, rfl⟩
end Go.Proofs.YthicgffppmbamaaGreat
