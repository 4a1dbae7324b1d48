/- The document's scan: requests are made. -/
import Derived.Test.YthicgffppmbamaaGreatRefRep
namespace Go.Proofs.YthicgffppmbamaaGreat
open Go.RowKit

/-- a cell of a piece is another one -/
theorem RRep.cellP {col : Colr} {w : World} {Y g cap : Nat} {r : Pl.RSc} {pvs : List Value} {nv rv tv : Value} (h : RRep col w Y r pvs nv (.slice (some ⟨g, 0, none⟩) r.pieces.length cap) rv tv) (i j : Nat) (hi : i < r.pieces.length) (hj : j < 9) (v : Value) (f : Pl.RPiece → Pl.RPiece) (hf : ∀ pv p, (rpCells pv p).set j v = rpCells pv (f p)) (hfp : ∀ p, (f p).parts = p.parts) :
    RRep col (w.setCell ⟨g, i * 9 + j, none⟩ v) Y { r with pieces := r.pieces.modify i f } pvs nv (.slice (some ⟨g, 0, none⟩) r.pieces.length cap) rv tv := by
  have hg : col g = .asked := h.inn.pcol g rfl
  have k := kp_set' w g (i * 9 + j) v
  have hcm : Calm col (fun k => k = g) := Calm.one .asked (fun i hi => by rw [hi]; exact hg) (by simp) (by simp) (by simp) (by simp) (by simp)
  have hgY : g ≠ Y := fun e => by rw [e, h.inn.ycol] at hg; simp at hg
  have ho := h.inn.pieces.setCell (i * 9 + j) (by omega) v
  rw [rpRow_set pvs r.pieces h.inn.plen i j v f hi hj hf] at ho
  refine ⟨?_, h.inn.ycol, fun q hq => h.inn.top q (Nat.le_trans k.size hq), ?_, by simpa using h.inn.plen, by simpa using ho, fun q hq => h.inn.pcol q hq, fun q x p a b => ?_, ?_, ?_⟩
  · have := h.blk.kept k (fun e => hgY e.symm)
    exact this
  · exact h.inn.names.go k (fun q hq hs => hcm.ro q hs hq) (fun _ _ e => e)
  · have hq : q < r.pieces.length := by
      have := (List.getElem?_eq_some_iff.1 b).1
      simpa using this
    have hb : ∃ p0, r.pieces[q]? = some p0 ∧ p.parts = p0.parts := by
      refine ⟨r.pieces[q], List.getElem?_eq_getElem hq, ?_⟩
      simp only [List.getElem?_modify, List.getElem?_eq_getElem hq, Option.map_eq_map, Option.map_some] at b
      split at b
      · cases b; exact hfp _
      · cases b; rfl
    obtain ⟨p0, e0, e1⟩ := hb
    rw [e1]
    exact (h.inn.parts q x p0 a e0).go k (fun q hq hs => hcm.ro q hs hq) (fun _ _ e => e)
  · exact h.inn.rows.go k (fun q hq hs => hcm.ro q hs hq) (fun _ _ e => e)
  · exact h.inn.there.go k hcm.groups hcm.lists hcm.ro (fun _ _ => rfl)
theorem RRep.wentY {col : Colr} {w : World} {Y : Nat} {r : Pl.RSc} {pvs : List Value} {nv pv rv tv : Value} (h : RRep col w Y r pvs nv pv rv tv) (j : Nat) (v : Value) : Kp (Mine col) w (w.setCell ⟨Y, j, none⟩ v) :=
  (kp_set' w Y j v).mono (fun i _ e => by show col i ≠ .out; rw [e, h.inn.ycol]; simp)
theorem RRep.wentP {col : Colr} {w : World} {Y : Nat} {r : Pl.RSc} {pvs : List Value} {nv pv rv tv : Value} (h : RRep col w Y r pvs nv pv rv tv) {g : Nat} (hg : pv.ownBlock = some g) (j : Nat) (v : Value) : Kp (Mine col) w (w.setCell ⟨g, j, none⟩ v) :=
  (kp_set' w g j v).mono (fun i _ e => by show col i ≠ .out; rw [e, h.inn.pcol g hg]; simp)
theorem mixed : Tryz.prog.follows .mixedOrders = true := by kernel_rfl

set_option maxRecDepth 20000 in
set_option maxHeartbeats 2000000 in
theorem make1_any (col : Colr) (w : World) (Y : Nat) (r : Pl.RSc) (i : Nat) (pvs : List Value) (nv pv rv tv : Value) (h : RRep col w Y r pvs nv pv rv tv) (hi : i < r.pieces.length) (hm : r.made ≤ 1000000000000000) (hpl : r.pieces.length ≤ 1000) :
    Calls Tryz.prog 69 #[PtrTo Y 0, .int .i64 i] w fun e w' => e = .returned (.tuple #[]) ∧ RRep col w' Y (Pl.rMake1 r i) pvs nv pv rv tv ∧ Kp (Mine col) w w' ∧ w'.heap.size = w.heap.size := by
  obtain ⟨g, cap, rfl, hcap, hg, hc⟩ := h.inn.pieces.at (by omega)
  have c7 := h.blk.cell 7
  have c8 := h.blk.cell 8
  have f8 := h.blk.free 8
  simp only [rcCells, I, List.getElem?_cons_zero, List.getElem?_cons_succ] at c7 c8
  have h1 := h.cellY 8 (.int .i64 ((r.made : Int) + 1)) (r' := { r with made := r.made + 1 }) (by simp [rcCells, I]) ⟨h.inn.ycol, h.inn.top, h.inn.names, h.inn.plen, h.inn.pieces, h.inn.pcol, h.inn.parts, h.inn.rows, h.inn.there⟩
  have k1 := h.wentY 8 (.int .i64 ((r.made : Int) + 1))
  have z1 : (w.setCell ⟨Y, 8, none⟩ (.int .i64 ((r.made : Int) + 1))).heap.size = w.heap.size := size_set _ _ _
  go_enter Tryz.func69, Tryz.ntmps69
  go_wp2_with fail
  clear c7 c8 f8 hc
  generalize w.setCell _ _ = W1 at *
  have c7 := h1.blk.cell 7
  have c8 := h1.blk.cell 8
  simp only [rcCells, I, List.getElem?_cons_zero, List.getElem?_cons_succ, Int.natCast_add, Int.natCast_one] at c7 c8
  have hwr : ∀ j, j < 9 → (W1.cell? ⟨g, i * 9 + j, none⟩).isSome = true ∧ W1.frozen? ⟨g, i * 9 + j, none⟩ = false := fun j hj => by
    rcases h1.inn.pieces.2 with ⟨e, _⟩ | ⟨g', cap', e, _, _, _, _, h5⟩
    · cases e
    · cases e
      exact h5 _ (by omega)
  obtain ⟨d5, e5⟩ := hwr 5 (by omega)
  obtain ⟨v5, d5⟩ := Option.isSome_iff_exists.1 d5
  obtain ⟨d6, e6⟩ := hwr 6 (by omega)
  obtain ⟨v6, d6⟩ := Option.isSome_iff_exists.1 d6
  clear hwr
  have i0 : (0 : Int) ≤ (i : Int) := by omega
  have i1 : (i : Int) < (r.pieces.length : Int) := by omega
  go_still_tail 9, mixed
  go_wp2_with fail
  go_end0
  have h2 := h1.cellP i 5 hi (by omega) (.int .i64 ((r.made : Int) + 1)) (fun p => { p with id := r.made + 1 }) (fun _ _ => by simp [rpCells, I]) (fun _ => rfl)
  have k2 := h1.wentP (g := g) rfl (i * 9 + 5) (.int .i64 ((r.made : Int) + 1))
  have z2 := size_set W1 ⟨g, i * 9 + 5, none⟩ (.int .i64 ((r.made : Int) + 1))
  have hl : (r.pieces.modify i fun p => { p with id := r.made + 1 }).length = r.pieces.length := by simp
  have h3 := RRep.cellP (g := g) (cap := cap) (r := { r with made := r.made + 1, pieces := r.pieces.modify i fun p => { p with id := r.made + 1 } }) (by simp only [hl]; exact h2) i 6 (by simp only [hl]; exact hi) (by omega) (.int .i64 0) (fun p => { p with due := 0 }) (fun _ _ => by simp [rpCells, I]) (fun _ => rfl)
  have k3 := h2.wentP (g := g) rfl (i * 9 + 6) (.int .i64 0)
  have z3 := size_set (W1.setCell ⟨g, i * 9 + 5, none⟩ (.int .i64 ((r.made : Int) + 1))) ⟨g, i * 9 + 6, none⟩ (.int .i64 0)
  refine ⟨rfl, ?_, (k1.trans (k2.trans k3)).drew, by show (World.setCell _ _ _).heap.size = _; omega⟩
  have e : Pl.rMake1 r i = { r with made := r.made + 1, pieces := (r.pieces.modify i fun p => { p with id := r.made + 1 }).modify i fun p => { p with due := 0 } } := by
    unfold Pl.rMake1
    rw [List.modify_modify_eq]
    rfl
  rw [e]
  simp only [hl] at h3
  exact h3.ext (ext_drew _)
/-- the cells of one piece -/
theorem RRep.piece {col : Colr} {w : World} {Y g cap n : Nat} {r : Pl.RSc} {pvs : List Value} {nv rv tv : Value} (h : RRep col w Y r pvs nv (.slice (some ⟨g, 0, none⟩) n cap) rv tv) (i : Nat) (hi : i < r.pieces.length) :
    ∃ x, pvs[i]? = some x ∧ ∀ j, j < 9 → w.cell? ⟨g, i * 9 + j, none⟩ = (rpCells x r.pieces[i])[j]? := by
  have hpl := h.inn.plen
  refine ⟨pvs[i]'(by omega), List.getElem?_eq_getElem _, fun j hj => ?_⟩
  obtain ⟨g', cap', e, _, _, hc⟩ := h.inn.pieces.at (by omega)
  cases e
  rw [hc _ (by omega), rpRow_at pvs r.pieces hpl i j hi hj]

set_option maxRecDepth 20000 in
set_option maxHeartbeats 4000000 in
theorem rask_any (col : Colr) (w : World) (Y : Nat) (r : Pl.RSc) (pvs : List Value) (nv pv rv tv : Value) (h : RRep col w Y r pvs nv pv rv tv) (hm : r.made ≤ 100000000000000) (hpl : r.pieces.length ≤ 1000) (hlen : ∀ p ∈ r.pieces, p.length ≤ 1000000 ∧ p.got.length ≤ 1000000) :
    Calls Tryz.prog 64 #[PtrTo Y 0] w fun e w' => e = .returned (.tuple #[]) ∧ RRep col w' Y (Pl.rAsk r) pvs nv pv rv tv ∧ Kp (Mine col) w w' := by
  obtain ⟨pa, pc, rfl, hpc⟩ := h.inn.pieces.shape
  generalize hL : r.pieces.length = L at *
  have HL0 := hide hL
  go_enter Tryz.func64, Tryz.ntmps64
  go_wp2_with fail
  go_loopw [2, 3] (fun t i wr => ∃ (k n : Nat) (r' : Pl.RSc), k ≤ L ∧ n ≤ k ∧ i = .int .i64 k ∧ t = .int .i64 n ∧ RRep col wr Y r' pvs nv (.slice pa L pc) rv tv ∧ Kp (Mine col) w wr ∧ Hid (Pl.rAskF (L - k) k n r' = Pl.rAsk r) ∧ Hid (r'.pieces.length = L) ∧ r'.made ≤ r.made + k ∧ Hid (∀ p ∈ r'.pieces, p.length ≤ 1000000 ∧ p.got.length ≤ 1000000)) (fun _ i _ => L - (intOf i).toNat)
  case atStart => exact ⟨0, 0, r, Nat.zero_le _, Nat.le_refl _, rfl, rfl, h, Kp.refl _ _, by show _ = _; unfold Pl.rAsk; rw [hL]; rfl, hL, by omega, hlen⟩
  case round =>
    obtain ⟨k, n, r', hk, hnk, rfl, rfl, hR, hK, HF, HL, hmd, HS⟩ := hrel
    have c2 := hR.blk.cell 2
    have c6 := hR.blk.cell 6
    have c7 := hR.blk.cell 7
    simp only [rcCells, I, List.getElem?_cons_zero, List.getElem?_cons_succ] at c2 c6 c7
    clear h hlen
    by_cases hkl : k < L
    · have hfu : L - k = (L - (k + 1)) + 1 := by omega
      rw [hfu] at HF
      clear hfu
      by_cases hnw : n < r'.win
      · by_cases hst : r'.state = 0
        · obtain ⟨g, cap, he, _, _, _⟩ := hR.inn.pieces.at (by rw [HL.out]; omega)
          simp only [Value.slice.injEq] at he
          obtain ⟨rfl, hLL, rfl⟩ := he
          clear hLL
          obtain ⟨x, hx, hcell⟩ := hR.piece k (by rw [HL.out]; exact hkl)
          have hgd : r'.pieces.getD k default = r'.pieces[k]'(by rw [HL.out]; exact hkl) := by rw [List.getD_eq_getElem?_getD, List.getElem?_eq_getElem]; rfl
          have hsz := HS.out (r'.pieces[k]'(by rw [HL.out]; exact hkl)) (List.getElem_mem _)
          have b0 : ((r'.state : Int) == 0) = true := by simp [hst]
          have hp0 : ∃ p, p = r'.pieces[k]'(by rw [HL.out]; exact hkl) := ⟨_, rfl⟩
          obtain ⟨p, hp⟩ := hp0
          rw [← hp] at hcell hgd hsz
          have HP := hide hp
          have HGD := hide hgd
          clear hp hgd
          have d0 := hcell 0 (by omega)
          have d1 := hcell 1 (by omega)
          have d2 := hcell 2 (by omega)
          have d3 := hcell 3 (by omega)
          have d4 := hcell 4 (by omega)
          have d5 := hcell 5 (by omega)
          have d6 := hcell 6 (by omega)
          have d7 := hcell 7 (by omega)
          have d8 := hcell 8 (by omega)
          simp only [rpCells, I, tx, List.getElem?_cons_zero, List.getElem?_cons_succ, Nat.add_zero] at d0 d1 d2 d3 d4 d5 d6 d7 d8
          obtain ⟨xo, xn, xc, rfl⟩ : ∃ xo xn xc, x = .slice xo xn xc := by
            obtain ⟨_, ao, cap', e, _⟩ := hR.inn.parts k x p hx (by rw [List.getElem?_eq_getElem (by rw [HL.out]; exact hkl), HP.out])
            exact ⟨_, _, _, e⟩
          have hsize : ({ data := p.got.toArray } : ByteArray).size = p.got.length := by simp [ByteArray.size]
          clear hcell hx
          have hstep : Pl.rAskF (L - (k + 1) + 1) k n r' = (if p.got.length = p.length then Pl.rAskF (L - (k + 1)) (k + 1) n r' else if p.id = 0 ∧ p.due = 0 then Pl.rAskF (L - (k + 1)) (k + 1) (n + 1) (Pl.rMake1 r' k) else Pl.rAskF (L - (k + 1)) (k + 1) (n + 1) r') := by
            simp only [Pl.rAskF]
            rw [if_pos ⟨by rw [HL.out]; exact hkl, hnw, hst⟩, HGD.out]
          rw [hstep] at HF
          clear hstep HGD
          by_cases hgl : p.got.length = p.length
          · rw [if_pos hgl] at HF
            have b1 : ((p.got.length : Int) == (p.length : Int)) = true := by simp [hgl]
            go_wp2_with fail
            go_roundw
            case rel => exact ⟨k + 1, n, r', by omega, by omega, by go_num, rfl, hR.ext ((Kp.refl _ _).alloc _), hK.alloc _, HF, HL, by omega, HS⟩
            case measure => simp [intOf]; omega
          · rw [if_neg hgl] at HF
            have b1 : ((p.got.length : Int) == (p.length : Int)) = false := by simp; omega
            by_cases hi0 : p.id = 0
            · have b2 : ((p.id : Int) == 0) = true := by simp [hi0]
              by_cases hd0 : p.due = 0
              · rw [if_pos ⟨hi0, hd0⟩] at HF
                have b3 : ((p.due : Int) == 0) = true := by simp [hd0]
                go_wp2_with fail
                refine (make1_any col _ Y r' k pvs nv _ rv tv (hR.ext ((Kp.refl _ _).alloc _)) (by rw [HL.out]; exact hkl) (by omega) (by rw [HL.out]; omega)).mono ?_
                rintro e w2 ⟨rfl, h2, k2, z2⟩
                go_wp2_with fail
                go_roundw
                case rel => exact ⟨k + 1, n + 1, Pl.rMake1 r' k, by omega, by omega, by go_num, by go_num, h2, (hK.alloc _).trans k2, HF, by show _ = _; rw [Pl.rMake1_len]; exact HL.out, by show r'.made + 1 ≤ _; omega, by
                    intro q hq
                    obtain ⟨j, hj, rfl⟩ := List.mem_iff_getElem.1 hq
                    simp only [Pl.rMake1, List.getElem_modify]
                    have := HS.out (r'.pieces[j]'(by simpa [Pl.rMake1] using hj)) (List.getElem_mem _)
                    split <;> exact this⟩
                case measure => simp [intOf]; omega
              · rw [if_neg (fun e => hd0 e.2)] at HF
                have b3 : ((p.due : Int) == 0) = false := by simp; omega
                go_wp2_with fail
                go_roundw
                case rel => exact ⟨k + 1, n + 1, r', by omega, by omega, by go_num, by go_num, hR.ext ((Kp.refl _ _).alloc _), hK.alloc _, HF, HL, by omega, HS⟩
                case measure => simp [intOf]; omega
            · rw [if_neg (fun e => hi0 e.1)] at HF
              have b2 : ((p.id : Int) == 0) = false := by simp; omega
              go_wp2_with fail
              go_roundw
              case rel => exact ⟨k + 1, n + 1, r', by omega, by omega, by go_num, by go_num, hR.ext ((Kp.refl _ _).alloc _), hK.alloc _, HF, HL, by omega, HS⟩
              case measure => simp [intOf]; omega
        · have b0 : ((r'.state : Int) == 0) = false := by simp; omega
          have HE : Hid (Pl.rAsk r = r') := by
            show _ = _
            rw [← HF.out]
            simp only [Pl.rAskF]; rw [if_neg (fun e => hst e.2.2)]
          clear HF HS
          go_wp2_with fail
          go_end0
          exact ⟨rfl, by rw [HE.out]; exact hR, hK⟩
      · have b0 : decide ((n : Int) < (r'.win : Int)) = false := by simp; omega
        have HE : Hid (Pl.rAsk r = r') := by
          show _ = _
          rw [← HF.out]
          simp only [Pl.rAskF]; rw [if_neg (fun e => hnw e.2.1)]
        clear HF HS
        go_wp2_with fail
        go_end0
        exact ⟨rfl, by rw [HE.out]; exact hR, hK⟩
    · have b0 : decide ((k : Int) < (L : Int)) = false := by simp; omega
      have HE : Hid (Pl.rAsk r = r') := by
        show _ = _
        rw [← HF.out]
        rw [show L - k = 0 by omega]; rfl
      clear HF HS
      go_wp2_with fail
      go_end0
      exact ⟨rfl, by rw [HE.out]; exact hR, hK⟩
end Go.Proofs.YthicgffppmbamaaGreat
