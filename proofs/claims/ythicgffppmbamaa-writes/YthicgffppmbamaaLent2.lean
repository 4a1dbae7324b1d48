/- lent: walked. -/
import Derived.Test.YthicgffppmbamaaLent1
namespace Go.Proofs.Ythicgffppmbamaa
open Go.RowKit

theorem ext_drew' (w : World) : Ext w w.drew := (Kp.refl _ _).drew

set_option maxRecDepth 20000 in
set_option maxHeartbeats 4000000 in
theorem lent_any (B0 : Nat) (w : World) (nv gv : Value) (ss : List ByteArray) (gs : List (List (List Int))) (hn : RdS B0 w nv ss) (hg : RdIII B0 w gv gs) (_hB : B0 ≤ w.heap.size) (hsm : Small ss gs) :
    Calls Try.prog 5 #[.agg #[nv, gv]] w fun e w' => ∃ bN bG gbs, e = .returned (.agg #[sl bN ss.length, sl bG gs.length]) ∧ Lent w' bN bG gbs ss gs ∧ (∀ b ∈ flat gbs, w.heap.size ≤ b) ∧ Ext w w' := by
  have hn0 := hn
  have hg0 := hg
  obtain ⟨an, cn, rfl, n1, n2, -⟩ := RdS.open hn
  obtain ⟨ag, cg, rfl, g1, g2, -⟩ := hg.open
  clear hn hg
  have hsn := hsm.names
  have hsg := hsm.groups
  have st0 := st_new w (.slice an ss.length cn) (.slice ag gs.length cg)
  have z0 : (((w.alloc (.cells #[.slice an ss.length cn, .slice ag gs.length cg] 27)).alloc (.cells #[nilS, nilS] 27)).alloc (.cells #[nilS, nilS] 27)).heap.size = w.heap.size + 3 := by simp
  have xw0 : Ext w (((w.alloc (.cells #[.slice an ss.length cn, .slice ag gs.length cg] 27)).alloc (.cells #[nilS, nilS] 27)).alloc (.cells #[nilS, nilS] 27)) := (((Kp.refl _ _).alloc _).alloc _).alloc _
  have ST0 := hide st0
  have Z0 := hide z0
  clear st0 z0
  go_enter Try.func5, Try.ntmps5
  go_upto_region 3 with (first | (at_make; go_must (refine wpList_make_blk _ rfl _ _ 24 rfl 9 _ 16 Try.underlying24 info9 rfl (ss.length + 2) _ _ rfl rfl (by omega) (by omega) (by omega) (by omega) ?_); intro w1 hb1 x1 z1; rw [Z0.out] at hb1 z1; have s1 := (unhide ST0).kept x1 (fun _ f => f.elim); have c10 := s1.o0; have f10 := s1.f0))
  have hb1' := hb1.kept (kp_set' w1 (w.heap.size + 2) 0 (.slice (some ⟨w.heap.size + 3, 0, none⟩) (ss.length + 2) (ss.length + 2))) (by omega)
  have s1' := s1.setN (.slice (some ⟨w.heap.size + 3, 0, none⟩) (ss.length + 2) (ss.length + 2))
  have xw1 : Ext w (w1.setCell ⟨w.heap.size + 2, 0, none⟩ (.slice (some ⟨w.heap.size + 3, 0, none⟩) (ss.length + 2) (ss.length + 2))) := (xw0.trans x1).setCell (.inr (by simp)) _
  have z1' : (w1.setCell ⟨w.heap.size + 2, 0, none⟩ (.slice (some ⟨w.heap.size + 3, 0, none⟩) (ss.length + 2) (ss.length + 2))).heap.size = w.heap.size + 4 := by rw [size_set, z1]
  clear hb1 s1 x1 z1 c10 f10
  simp only [Nat.add_assoc, Nat.reduceAdd]
  generalize w1.setCell _ _ = W1 at *
  obtain ⟨W2, nn, hrun, hb2, k2, z2⟩ := run_copy_blk B0 W1 24 9 Try.underlying24 (size_of info9) (w.heap.size + 3) (ss.length + 2) (ss.length + 2) _ hb1' an ss.length cn (ss.map Value.string) (by simp) (hn0.kept xw1 (fun _ f => f.elim)) (by simp) (by simp) (fun v hv => by obtain ⟨_, _, rfl⟩ := List.mem_map.1 hv; rfl) 3
  have s2 := s1'.kept k2 (fun i e => by have e' : i = w.heap.size + 3 := e; omega)
  have xw2 : Ext w W2 := xw1.then k2 (fun i hi e => by have e' : i = w.heap.size + 3 := e; omega)
  rw [z1'] at z2
  simp only [List.length_map, List.drop_replicate, Nat.add_sub_cancel_left] at hb2
  have hb2' : Blk W2 (w.heap.size + 3) (ss.map Value.string ++ [.string ByteArray.empty, .string ByteArray.empty]) 9 := hb2
  have c10 := s1'.b0
  have c11 := s1'.o0
  have c20 := s2.b0
  have c21 := s2.o0
  have f20 := s2.f0
  go_upto_region 5 with fail
  have hb3 := hb2'.kept (kp_set' W2 (w.heap.size + 2) 0 (sl (w.heap.size + 3) ss.length)) (by omega)
  have s3 := s2.setN (sl (w.heap.size + 3) ss.length)
  have xw3 : Ext w (W2.setCell ⟨w.heap.size + 2, 0, none⟩ (sl (w.heap.size + 3) ss.length)) := xw2.setCell (.inr (by simp)) _
  have z3 : (W2.setCell ⟨w.heap.size + 2, 0, none⟩ (sl (w.heap.size + 3) ss.length)).heap.size = w.heap.size + 4 := by rw [size_set, z2]
  clear hb2 hb2' s2 k2 z2 c10 c11 c20 c21 f20 hb1' s1' xw1 z1' hrun
  generalize W2.setCell _ _ = W3 at *
  have c30 := s3.b1
  go_upto_region 6 with (first | (at_make; go_must (refine wpList_make_blk _ rfl _ _ 25 rfl 35 _ 24 Try.underlying25 info35 rfl (gs.length + 2) _ _ rfl rfl (by omega) (by omega) (by omega) (by omega) ?_); intro w4 hb4 x4 z4; rw [z3] at hb4 z4; have s4 := s3.kept x4 (fun _ f => f.elim); have c41 := s4.o1; have f41 := s4.f1))
  have hlo : Lo (w4.setCell ⟨w.heap.size + 2, 1, none⟩ (.slice (some ⟨w.heap.size + 4, 0, none⟩) (gs.length + 2) (gs.length + 2))) w.heap.size (.slice an ss.length cn) (.slice ag gs.length cg) 0 [] ss gs := by
    have kk := kp_set' w4 (w.heap.size + 2) 1 (.slice (some ⟨w.heap.size + 4, 0, none⟩) (gs.length + 2) (gs.length + 2))
    refine ⟨s4.setG _, (hb3.kept x4 id).kept kk (by omega), ?_, rfl, fun j p g h => by simp at h, by simp [flat], fun b h => by simp [flat] at h⟩
    have := hb4.kept kk (by omega)
    simpa [zipG] using this
  have xw5 : Ext w (w4.setCell ⟨w.heap.size + 2, 1, none⟩ (.slice (some ⟨w.heap.size + 4, 0, none⟩) (gs.length + 2) (gs.length + 2))) := (xw3.trans x4).setCell (.inr (by simp)) _
  have z5 : (w4.setCell ⟨w.heap.size + 2, 1, none⟩ (.slice (some ⟨w.heap.size + 4, 0, none⟩) (gs.length + 2) (gs.length + 2))).heap.size = w.heap.size + 5 := by rw [size_set, z4]
  clear hb3 hb4 s3 s4 x4 z4 c41 f41 z3 xw3 c30
  generalize w4.setCell _ _ = W5 at *
  go_wp2_with fail
  go_loopw [4] (fun i wr => ∃ (q : Nat) (gbs : List (Nat × List Nat)), q ≤ gs.length ∧ i = .int .i64 q ∧ Lo wr w.heap.size (.slice an ss.length cn) (.slice ag gs.length cg) q gbs ss gs ∧ Ext w wr ∧ w.heap.size + 4 < wr.heap.size) (fun i _ => gs.length - (intOf i).toNat)
  case atStart => exact ⟨0, [], Nat.zero_le _, rfl, hlo, xw5, by omega⟩
  case round =>
    clear hlo xw5 z5
    obtain ⟨q, gbs, hq, rfl, lo, xw, hsz⟩ := hrel
    have b1 := lo.st.b1
    by_cases hql : q < gs.length
    · obtain ⟨_, _, he, _, _, h3⟩ := hg0.open
      cases he
      obtain ⟨b, off, rfl, hb0, hc⟩ := h3 (by omega)
      obtain ⟨ai, ci, hckw, hrk⟩ := hc q hql
      rw [getD_at gs q _ hql] at hckw hrk
      have hck := xw.cell hckw id
      have HCK := hide hckw
      have hgl := hsm.group gs[q] (List.getElem_mem hql)
      have hll := hsm.list gs[q] (List.getElem_mem hql)
      have HLO := hide (fun (w1 : World) (x : Ext wr w1) (bs : List Nat) => lo.step hql x hsz bs)
      clear hckw hc h3
      generalize gs[q] = g at *
      go_upto_region 10 with (first | (at_make; go_must (refine wpList_make_blk _ rfl _ _ 35 rfl 34 _ 24 Try.underlying35 info34 rfl (g.length + 2) _ _ rfl rfl (by omega) (by omega) (by omega) (by omega) ?_); intro w6 hb6 x6 z6))
      have hli : Li w6 wr.heap.size 0 [] g := ⟨by simpa [zipI] using hb6, rfl, fun i b' xs h => by simp at h, by simp, fun b h => by simp at h⟩
      clear hb6 hck b1
      go_wp2_with fail
      go_loopw [6] (fun i wr' => ∃ (r : Nat) (bs : List Nat), r ≤ g.length ∧ i = .int .i64 r ∧ Li wr' wr.heap.size r bs g ∧ Ext wr wr' ∧ wr.heap.size < wr'.heap.size) (fun i _ => g.length - (intOf i).toNat)
      case atStart => exact ⟨0, [], Nat.zero_le _, rfl, hli, x6, by omega⟩
      case round =>
        clear hli x6 z6
        obtain ⟨r, bs, hr, rfl, li, xg, hsz2⟩ := hrel
        have xwr := xw.trans xg
        have lo2 := lo.ext xg
        have b1 := lo2.st.b1
        have hck := xwr.cell HCK.out id
        by_cases hrl : r < g.length
        · obtain ⟨_, _, he, _, _, h3⟩ := hrk.open
          cases he
          obtain ⟨b4, off4, rfl, hb4, hc⟩ := h3 (by omega)
          obtain ⟨al, cl, hclw, hrd⟩ := hc r hrl
          rw [getD_at g r _ hrl] at hclw hrd
          have hcl := xwr.cell hclw id
          have hln := hll g[r] (List.getElem_mem hrl)
          have HST := hide (fun (w1 w2 : World) (x1 : Ext wr w1) (z1 : w1.heap.size = wr.heap.size + 1) (k2 : Kp (fun k => k = wr.heap.size) w1 w2) (z2 : w2.heap.size = w1.heap.size) (hl : LI w2 wr.heap.size g[r]) => li.step hrl hsz2 x1 z1 k2 z2 hl)
          clear hc h3
          generalize g[r] = l at *
          go_upto_region 14 with (first | (at_make; go_must (refine wpList_make_blk _ rfl _ _ 34 rfl 3 _ 8 Try.underlying34 info3 rfl (l.length + 2) _ _ rfl rfl (by omega) (by omega) (by omega) (by omega) ?_); intro w7 hb7 x7 z7))
          have xw7 := xwr.trans x7
          obtain ⟨W8, nn8, hrun, hb8, k8, z8⟩ := run_copy_blk B0 w7 34 3 Try.underlying34 (size_of info3) wr.heap.size (l.length + 2) (l.length + 2) _ hb7 al l.length cl (l.map I) (by simp) (hrd.kept xw7 (fun _ f => f.elim)) (by simp) (by simp) (fun v hv => by obtain ⟨_, _, rfl⟩ := List.mem_map.1 hv; rfl) 3
          simp only [List.length_map, List.drop_replicate, Nat.add_sub_cancel_left] at hb8
          have k78 : Kp (fun k => k = wr.heap.size) wr W8 := (Kp.of_ext x7).trans k8
          have hnew := (unhide HST) w7 W8 x7 z7 k8 z8 hb8
          have hcx := k78.cell (li.cell hrl) (by simp; omega)
          have hfx : W8.frozen? ⟨_, r, none⟩ = false := (li.blk.kept k78 (by omega)).free r
          have xw8 : Ext w W8 := xw7.then k8 (fun i hi e => by have e' : i = wr.heap.size := e; have := xwr.size; omega)
          have b17 := x7.cell b1 id
          have hck7 := x7.cell hck id
          have hcl7 := x7.cell hcl id
          have b18 := k8.cell b17 (by have := lo2.st.box.lt; simp; omega)
          have hck8 := xw8.cell HCK.out id
          have hcl8 := xw8.cell hclw id
          clear hb7 hb8 HST
          go_wp2_with fail
          refine ⟨⟨r + 1, _, by omega, by go_num, hnew, ?_, ?_⟩, by simp [intOf]; omega⟩
          · exact ((xg.trans x7).then k8 (fun i hi e => by have e' : i = wr.heap.size := e; have := xg.size; omega)).setCell (.inr (by simp)) _
          · rw [size_set, z8, z7]; omega
        · obtain rfl : r = g.length := by omega
          have ct := lo2.cell hql
          have ft : wr.frozen? ⟨w.heap.size + 4, q, none⟩ = false := lo2.top.free q
          have o1 := lo2.st.o1
          have hLi := li.ext (ext_drew' wr)
          have hfin := (unhide HLO) wr.drew (xg.trans (ext_drew' wr)) bs (by exact hsz2) hLi
          go_wp2_with fail
          go_region
          all_goals
            go_wp2_with fail
            refine ⟨⟨q + 1, _, by omega, by go_num, hfin, ?_, ?_⟩, by simp [intOf]; omega⟩
            · exact (xwr.drew).setCell (.inr (by simp)) _
            · show _ < (wr.setCell _ _).heap.size
              rw [size_set]; omega
    · obtain rfl : q = gs.length := by omega
      have o1 := lo.st.o1
      have o0 := lo.st.o0
      have f1 := lo.st.f1
      have r0 : wr.cell? ⟨w.heap.size + 1, 0, none⟩ = some nilS := lo.st.res.cell 0
      have r1 : wr.cell? ⟨w.heap.size + 1, 1, none⟩ = some nilS := lo.st.res.cell 1
      have rf0 : wr.frozen? ⟨w.heap.size + 1, 0, none⟩ = false := lo.st.res.free 0
      have rf1 : wr.frozen? ⟨w.heap.size + 1, 1, none⟩ = false := lo.st.res.free 1
      have HL := hide lo.done
      go_wp2_with fail
      have k1 := kp_set' wr (w.heap.size + 2) 1 (sl (w.heap.size + 4) gs.length)
      have k2 := kp_set' (wr.setCell ⟨w.heap.size + 2, 1, none⟩ (sl (w.heap.size + 4) gs.length)) (w.heap.size + 1) 0 (sl (w.heap.size + 3) ss.length)
      have k3 := kp_set' ((wr.setCell ⟨w.heap.size + 2, 1, none⟩ (sl (w.heap.size + 4) gs.length)).setCell ⟨w.heap.size + 1, 0, none⟩ (sl (w.heap.size + 3) ss.length)) (w.heap.size + 1) 1 (sl (w.heap.size + 4) gs.length)
      have hp : ∀ p ∈ gbs, w.heap.size + 4 < p.1 := fun p hp => by
        obtain ⟨j, hj⟩ := List.getElem?_of_mem hp
        have hjl := (List.getElem?_eq_some_iff.1 hj).1
        rw [lo.len] at hjl
        exact (lo.group j p _ hj (List.getElem?_eq_getElem hjl)).2
      have hlent := (((unhide HL).kept k1 (by omega) (by omega) (fun p hp' => by have := hp p hp'; omega) (fun b hb => by have := (lo.fl b hb).1; omega)).kept k2 (by omega) (by omega) (fun p hp' => by have := hp p hp'; omega) (fun b hb => by have := (lo.fl b hb).1; omega)).kept k3 (by omega) (by omega) (fun p hp' => by have := hp p hp'; omega) (fun b hb => by have := (lo.fl b hb).1; omega)
      have hres := ((lo.st.res.kept k1 (by omega)).set 0 (sl (w.heap.size + 3) ss.length)).set 1 (sl (w.heap.size + 4) gs.length)
      have hxt : Ext w (((wr.setCell ⟨w.heap.size + 2, 1, none⟩ (sl (w.heap.size + 4) gs.length)).setCell ⟨w.heap.size + 1, 0, none⟩ (sl (w.heap.size + 3) ss.length)).setCell ⟨w.heap.size + 1, 1, none⟩ (sl (w.heap.size + 4) gs.length)) := ((xw.setCell (.inr (by simp)) _).setCell (.inr (by simp)) _).setCell (.inr (by simp)) _
      clear k1 k2 k3
      generalize ((wr.setCell _ _).setCell _ _).setCell _ _ = WF at *
      have q0 : WF.cell? ⟨w.heap.size + 1, 0, none⟩ = some (sl (w.heap.size + 3) ss.length) := hres.cell 0
      have q1 : WF.cell? ⟨w.heap.size + 1, 1, none⟩ = some (sl (w.heap.size + 4) gs.length) := hres.cell 1
      exact bodyPost_ret (v := .agg #[sl (w.heap.size + 3) ss.length, sl (w.heap.size + 4) gs.length]) (by simp [results, Try.results5, go_sem, q0, q1]) rfl ⟨_, _, gbs, rfl, hlent, fun b hb => by have := (lo.fl b hb).1; omega, hxt⟩
end Go.Proofs.Ythicgffppmbamaa
