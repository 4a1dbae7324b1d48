/- The document's Open. -/
import Derived.Test.YthicgffppmbamaaGreatRefAsk
namespace Go.Proofs.YthicgffppmbamaaGreat
open Go.RowKit

theorem okSet_iff (size w t r g : Int) : Pl.okSet size w t r g = true ↔ (0 ≤ size ∧ size ≤ 4000) ∧ (1 ≤ w ∧ w ≤ 4) ∧ (1 ≤ t ∧ t ≤ 4) ∧ (1 ≤ r ∧ r ≤ 20) ∧ 0 ≤ g ∧ g ≤ 32 := by
  unfold Pl.okSet
  simp only [Bool.and_eq_true, decide_eq_true_eq, Pl.okS_iff]

set_option maxRecDepth 20000 in
set_option maxHeartbeats 8000000 in
theorem rOpen_bad (w : World) (v : Value) (size W T R G : Int) (hbad : Pl.okSet size W T R G = false) :
    Calls Tryz.prog 32 #[.int .i64 size, v, setV W T R G] w fun e w' => e = .returned (.tuple #[.pointer none, .int .i64 2]) ∧ Ext w w' := by
  by_cases h1 : size < 0
  · clear hbad
    go_enter Tryz.func32, Tryz.ntmps32
    go_wp2_with fail
    go_ret2
    exact ⟨rfl, (Kp.refl _ _).alloc _⟩
  by_cases h2 : 4000 < size
  · clear hbad
    go_enter Tryz.func32, Tryz.ntmps32
    go_wp2_with fail
    go_ret2
    exact ⟨rfl, (Kp.refl _ _).alloc _⟩
  by_cases h3 : W < 1
  · clear hbad
    go_enter Tryz.func32, Tryz.ntmps32
    go_wp2_with fail
    go_ret2
    exact ⟨rfl, (Kp.refl _ _).alloc _⟩
  by_cases h4 : 4 < W
  · clear hbad
    go_enter Tryz.func32, Tryz.ntmps32
    go_wp2_with fail
    go_ret2
    exact ⟨rfl, (Kp.refl _ _).alloc _⟩
  by_cases h5 : T < 1
  · clear hbad
    go_enter Tryz.func32, Tryz.ntmps32
    go_wp2_with fail
    go_ret2
    exact ⟨rfl, (Kp.refl _ _).alloc _⟩
  by_cases h6 : 4 < T
  · clear hbad
    go_enter Tryz.func32, Tryz.ntmps32
    go_wp2_with fail
    go_ret2
    exact ⟨rfl, (Kp.refl _ _).alloc _⟩
  by_cases h7 : R < 1
  · clear hbad
    go_enter Tryz.func32, Tryz.ntmps32
    go_wp2_with fail
    go_ret2
    exact ⟨rfl, (Kp.refl _ _).alloc _⟩
  by_cases h8 : 20 < R
  · clear hbad
    go_enter Tryz.func32, Tryz.ntmps32
    go_wp2_with fail
    go_ret2
    exact ⟨rfl, (Kp.refl _ _).alloc _⟩
  by_cases h9 : G < 0
  · clear hbad
    go_enter Tryz.func32, Tryz.ntmps32
    go_wp2_with fail
    go_ret2
    exact ⟨rfl, (Kp.refl _ _).alloc _⟩
  by_cases h10 : 32 < G
  · clear hbad
    go_enter Tryz.func32, Tryz.ntmps32
    go_wp2_with fail
    go_ret2
    exact ⟨rfl, (Kp.refl _ _).alloc _⟩
  have : Pl.okSet size W T R G = true := by rw [okSet_iff]; omega
  rw [this] at hbad
  cases hbad

theorem src_rdS {B0 : Nat} {w : World} {v : Value} {ss : List ByteArray} (h : RdS B0 w v ss) : Src Tryz.prog 1 22 v ss.length (ss.map Value.string) w := by
  obtain ⟨ao, cap, rfl, h1, h2, h3⟩ := h
  simp only [List.length_map] at h1 h3 ⊢
  cases ss with
  | nil =>
    cases ao with
    | none => exact Src.ofNil (P := Tryz.prog) w (e' := 9) Tryz.underlying22 _
    | some a => exact Src.ofSlice (P := Tryz.prog) w (e' := 9) Tryz.underlying22 _ _ _ _ rfl (fun j u hu => by simp at hu) (by simp)
  | cons s r =>
    obtain ⟨b, off, rfl, hb, hc⟩ := h3 (by simp)
    exact Src.ofSlice (P := Tryz.prog) w (e' := 9) Tryz.underlying22 _ _ _ _ (by simp) (fun j u hu => by
      have hj := (List.getElem?_eq_some_iff.1 hu).1
      rw [Addr.add_lit]
      simp only [List.length_map] at hj
      rw [hc j hj]; exact hu) (fun u hu => by
      obtain ⟨y, _, rfl⟩ := List.mem_map.1 hu
      rfl)
def rcol0 (Y : Nat) (nv pv : Value) : Colr := fun k => if k = Y then .scan else if nv.ownBlock = some k then .ro else if pv.ownBlock = some k then .asked else .out
theorem rrep_new {w : World} {Y : Nat} {r : Pl.RSc} {pvs : List Value} {nv pv : Value} (hb : Blk w Y (rcCells r nv pv (.slice none 0 0) (.slice none 0 0)) 118) (hn : Own w 1 nv r.want.length (r.want.map tx)) (hp : Own w 9 pv r.pieces.length (rpRow pvs r.pieces)) (hl : pvs.length = r.pieces.length) (hpp : ∀ (i : Nat) (x : Value) (p : Pl.RPiece), pvs[i]? = some x → r.pieces[i]? = some p → x = .slice none 0 0 ∧ p.parts = [])
    (h1 : nv.ownBlock ≠ some Y) (h2 : pv.ownBlock ≠ some Y) (h3 : ∀ g, nv.ownBlock = some g → pv.ownBlock ≠ some g) (hr : r.rows = []) (ht : r.there = []) : RRep (rcol0 Y nv pv) w Y r pvs nv pv (.slice none 0 0) (.slice none 0 0) := by
  have hlt := hb.lt
  refine ⟨hb, by simp [rcol0], fun k hk => ?_, (hn.rowAt _ (fun g hg => ?_)).weak, hl, hp, fun g hg => ?_, fun i x p a b => ?_, by rw [hr]; exact RowAt.nil _ _ _ _, by rw [ht]; exact ThereAt.nil _ _⟩
  · unfold rcol0
    rw [if_neg (by omega), if_neg (fun e => by have := hn.lt e; omega), if_neg (fun e => by have := hp.lt e; omega)]
  · show rcol0 Y nv pv g = .ro
    unfold rcol0
    rw [if_neg (fun e => h1 (by rw [← e]; exact hg)), if_pos hg]
  · unfold rcol0
    rw [if_neg (fun e => h2 (by rw [← e]; exact hg)), if_neg (fun e => h3 g e hg), if_pos hg]
  · obtain ⟨rfl, e⟩ := hpp i x p a b
    unfold RPartsAt
    rw [e]
    exact RowAt.nil _ _ _ _

set_option maxRecDepth 20000 in
set_option maxHeartbeats 4000000 in
theorem rOpen_ok (B0 : Nat) (w : World) (v : Value) (ss : List ByteArray) (size W T R G : Int) (hr : RdS B0 w v ss) (hss : ss.length ≤ 8796093021952) (hok : Pl.okSet size W T R G = true) :
    Calls Tryz.prog 32 #[.int .i64 size, v, setV W T R G] w fun e w' => ∃ Y col, e = .returned (.tuple #[PtrTo Y 0, .int .i64 0]) ∧ IsR col w' Y (Pl.rOpen size.toNat (ss.map bytesOf) W.toNat T.toNat R.toNat G.toNat) ∧ Ext w w' ∧ ∀ k, k < w.heap.size → col k = .out := by
  obtain ⟨⟨z1, z2⟩, ⟨w1, w2⟩, ⟨t1, t2⟩, ⟨r1, r2⟩, g1, g2⟩ := (okSet_iff _ _ _ _ _).1 hok
  clear hok
  have hs := fun u (hu : Ext w u) => src_rdS (hr.kept hu (fun _ f => f.elim))
  have HS := hide hs
  obtain ⟨ao, cap, rfl, n1, n2, -⟩ := RdS.open hr
  clear hr hs
  have hB2 : Blk ((w.alloc (.cells #[.int .i64 W, .int .i64 T, .int .i64 R, .int .i64 G] 24)).alloc (.cells #[.int .i64 size, .slice none 0 0, .int .i64 W, .int .i64 T, .int .i64 R, .int .i64 G, .int .i64 0, .slice none 0 0, .int .i64 0, .int .i64 0, .int .i64 0, .slice none 0 0, .slice none 0 0, .int .i64 0] 118)) (w.heap.size + 1) [.int .i64 size, .slice none 0 0, .int .i64 W, .int .i64 T, .int .i64 R, .int .i64 G, .int .i64 0, .slice none 0 0, .int .i64 0, .int .i64 0, .int .i64 0, .slice none 0 0, .slice none 0 0, .int .i64 0] 118 := by
    have := Blk.of_alloc (w.alloc (.cells #[.int .i64 W, .int .i64 T, .int .i64 R, .int .i64 G] 24)) [.int .i64 size, .slice none 0 0, .int .i64 W, .int .i64 T, .int .i64 R, .int .i64 G, .int .i64 0, .slice none 0 0, .int .i64 0, .int .i64 0, .int .i64 0, .slice none 0 0, .slice none 0 0, .int .i64 0] 118
    rwa [show (w.alloc (.cells #[.int .i64 W, .int .i64 T, .int .i64 R, .int .i64 G] 24)).heap.size = w.heap.size + 1 by simp] at this
  have HB2 := hide hB2
  clear hB2
  go_enter Tryz.func32, Tryz.ntmps32
  go_wp2_with (at_builtin; go_must (refine wpList_append_g _ rfl _ _ 22 22 rfl 9 (.string ByteArray.empty) 1 16 Tryz.underlying22 infoStr rfl (.slice none 0 0) 0 [] rfl (Own.nil _ 1) _ rfl ss.length _ ((unhide HS) _ (((Kp.refl _ _).alloc _).alloc _)) (by omega) (by omega) ?_); intro nv u1 o1 k1 s1; have hb1 := (unhide HB2).kept k1 (fun e => by simp [Of, Value.ownBlock] at e); have c1 := hb1.cell 1; have f1 := hb1.free 1; have c6 := hb1.cell 6; have f6 := hb1.free 6; have c7 := hb1.cell 7; have f7 := hb1.free 7; have hlt1 := hb1.lt; have hne1 : ¬ (u1.heap.size = w.heap.size + 1) := (by omega); simp only [List.getElem?_cons_zero, List.getElem?_cons_succ] at c1 c6 c7; obtain ⟨na, nc, rfl, hnc⟩ := o1.shape; by_cases hs10 : size < 10)
  all_goals
    have xw2 : Ext w ((w.alloc (.cells #[.int .i64 W, .int .i64 T, .int .i64 R, .int .i64 G] 24)).alloc (.cells #[.int .i64 size, .slice none 0 0, .int .i64 W, .int .i64 T, .int .i64 R, .int .i64 G, .int .i64 0, .slice none 0 0, .int .i64 0, .int .i64 0, .int .i64 0, .slice none 0 0, .slice none 0 0, .int .i64 0] 118)) := ((Kp.refl _ _).alloc _).alloc _
    have x1 : Ext w u1 := xw2.then k1 (fun i hi e => by simp [Of, Value.ownBlock] at e)
    have hnY : ∀ g, (Value.slice na ss.length nc).ownBlock = some g → w.heap.size + 1 < g := fun g hg => by
      rcases s1 with e | ⟨g', e1, e2⟩
      · simp only [Nat.zero_add] at e
        rw [e] at hg
        simp [Value.ownBlock] at hg
      · simp only [Nat.zero_add] at e1
        rw [e1] at hg
        simp only [Option.some.injEq] at hg
        simp at e2
        omega
    have o2 : Own u1 1 (.slice na ss.length nc) (ss.map bytesOf).length ((ss.map bytesOf).map tx) := by
      have e : (ss.map bytesOf).map tx = ss.map Value.string := by
        rw [List.map_map]
        exact List.map_congr_left (fun y _ => tx_bytes y)
      rw [e, List.length_map]
      simpa using o1
    clear s1 o1 k1 c1 f1 c6 f6 c7 f7 hne1 HS HB2 xw2
  · go_ret2
    have em : Pl.rOpen size.toNat (ss.map bytesOf) W.toNat T.toNat R.toNat G.toNat = { size := size.toNat, want := ss.map bytesOf, win := W.toNat, tries := T.toNat, nrows := R.toNat, gap := G.toNat, state := 2 } := by unfold Pl.rOpen; rw [if_pos (by omega)]
    rw [em]
    have hb3 := (hb1.set 1 (.slice na ss.length nc)).set 6 (.int .i64 2)
    have k3 : Kp (fun k => k = w.heap.size + 1) u1 ((u1.setCell ⟨w.heap.size + 1, 1, none⟩ (.slice na ss.length nc)).setCell ⟨w.heap.size + 1, 6, none⟩ (.int .i64 2)) := (kp_set' _ _ _ _).trans (kp_set' _ _ _ _)
    have o3 := o2.kept k3 (fun g hg e => by have := hnY g hg; omega)
    have hR := rrep_new (r := { size := size.toNat, want := ss.map bytesOf, win := W.toNat, tries := T.toNat, nrows := R.toNat, gap := G.toNat, state := 2 }) (pvs := []) (pv := .slice none 0 0) (by
      have ec : rcCells { size := size.toNat, want := ss.map bytesOf, win := W.toNat, tries := T.toNat, nrows := R.toNat, gap := G.toNat, state := 2 } (.slice na ss.length nc) (.slice none 0 0) (.slice none 0 0) (.slice none 0 0) = [.int .i64 size, .slice na ss.length nc, .int .i64 W, .int .i64 T, .int .i64 R, .int .i64 G, .int .i64 2, .slice none 0 0, .int .i64 0, .int .i64 0, .int .i64 0, .slice none 0 0, .slice none 0 0, .int .i64 0] := by
        simp only [rcCells, I, Int.toNat_of_nonneg z1, Int.toNat_of_nonneg (by omega : 0 ≤ W), Int.toNat_of_nonneg (by omega : 0 ≤ T), Int.toNat_of_nonneg (by omega : 0 ≤ R), Int.toNat_of_nonneg g1]
        rfl
      rw [ec]
      exact hb3) o3 (Own.nil _ _) rfl (fun i x p a => by simp at a) (fun e => by have := hnY _ e; omega) (by simp [Value.ownBlock]) (fun g _ => by simp [Value.ownBlock]) rfl rfl
    refine ⟨w.heap.size + 1, _, rfl, ⟨_, _, _, _, _, hR⟩, x1.then k3 (fun i hi e => by omega), fun k hk => ?_⟩
    unfold rcol0
    rw [if_neg (by omega), if_neg (fun e => by have := hnY k e; omega), if_neg (by simp [Value.ownBlock])]
  · have em : Pl.rOpen size.toNat (ss.map bytesOf) W.toNat T.toNat R.toNat G.toNat = Pl.rAsk { size := size.toNat, want := ss.map bytesOf, win := W.toNat, tries := T.toNat, nrows := R.toNat, gap := G.toNat, pieces := [{ kind := 0, place := size.toNat - 6, length := 6 }] } := by unfold Pl.rOpen; rw [if_neg (by omega)]
    have EM := hide em
    clear em
    have hb3 := (hb1.set 1 (.slice na ss.length nc)).set 7 (.slice (some ⟨u1.heap.size, 0, none⟩) 1 1)
    have k3 : Kp (fun k => k = w.heap.size + 1) u1 ((u1.setCell ⟨w.heap.size + 1, 1, none⟩ (.slice na ss.length nc)).setCell ⟨w.heap.size + 1, 7, none⟩ (.slice (some ⟨u1.heap.size, 0, none⟩) 1 1)) := (kp_set' _ _ _ _).trans (kp_set' _ _ _ _)
    have z3 : ((u1.setCell ⟨w.heap.size + 1, 1, none⟩ (.slice na ss.length nc)).setCell ⟨w.heap.size + 1, 7, none⟩ (.slice (some ⟨u1.heap.size, 0, none⟩) 1 1)).heap.size = u1.heap.size := by rw [size_set, size_set]
    have o3 := o2.kept k3 (fun g hg e => by have := hnY g hg; omega)
    have hnu : ∀ g, (Value.slice na ss.length nc).ownBlock = some g → g < u1.heap.size := fun g hg => o2.lt hg
    generalize (u1.setCell ⟨w.heap.size + 1, 1, none⟩ (.slice na ss.length nc)).setCell ⟨w.heap.size + 1, 7, none⟩ (.slice (some ⟨u1.heap.size, 0, none⟩) 1 1) = U3 at *
    have x34 : Ext U3 (U3.alloc (.cells #[.int .i64 0, .int .i64 (size - 6), .int .i64 6, .string { data := #[] }, .int .i64 0, .int .i64 0, .int .i64 0, .int .i64 0, .slice none 0 0] 121)) := (Kp.refl _ _).alloc _
    have hb4 := hb3.kept x34 id
    have o4 := o3.ext x34
    have hbp := Blk.of_alloc U3 [.int .i64 0, .int .i64 (size - 6), .int .i64 6, .string { data := #[] }, .int .i64 0, .int .i64 0, .int .i64 0, .int .i64 0, .slice none 0 0] 121
    have zu : (U3.alloc (.cells #[.int .i64 0, .int .i64 (size - 6), .int .i64 6, .string { data := #[] }, .int .i64 0, .int .i64 0, .int .i64 0, .int .i64 0, .slice none 0 0] 121)).heap.size = u1.heap.size + 1 := by simp [z3]
    have hU := U3.alloc (.cells #[.int .i64 0, .int .i64 (size - 6), .int .i64 6, .string { data := #[] }, .int .i64 0, .int .i64 0, .int .i64 0, .int .i64 0, .slice none 0 0] 121)
    have x4 : Ext w (U3.alloc (.cells #[.int .i64 0, .int .i64 (size - 6), .int .i64 6, .string { data := #[] }, .int .i64 0, .int .i64 0, .int .i64 0, .int .i64 0, .slice none 0 0] 121)) := (x1.then k3 (fun i hi e => by omega)).trans x34
    rw [z3] at hbp
    clear hU
    generalize U3.alloc _ = U4 at *
    have hR := rrep_new (w := U4) (Y := w.heap.size + 1) (nv := .slice na ss.length nc) (r := { size := size.toNat, want := ss.map bytesOf, win := W.toNat, tries := T.toNat, nrows := R.toNat, gap := G.toNat, pieces := [{ kind := 0, place := size.toNat - 6, length := 6 }] }) (pvs := [.slice none 0 0]) (pv := .slice (some ⟨u1.heap.size, 0, none⟩) 1 1) (by
      have ec : rcCells { size := size.toNat, want := ss.map bytesOf, win := W.toNat, tries := T.toNat, nrows := R.toNat, gap := G.toNat, pieces := [{ kind := 0, place := size.toNat - 6, length := 6 }] } (.slice na ss.length nc) (.slice (some ⟨u1.heap.size, 0, none⟩) 1 1) (.slice none 0 0) (.slice none 0 0) = [.int .i64 size, .slice na ss.length nc, .int .i64 W, .int .i64 T, .int .i64 R, .int .i64 G, .int .i64 0, .slice (some ⟨u1.heap.size, 0, none⟩) 1 1, .int .i64 0, .int .i64 0, .int .i64 0, .slice none 0 0, .slice none 0 0, .int .i64 0] := by
        simp only [rcCells, I, Int.toNat_of_nonneg z1, Int.toNat_of_nonneg (by omega : 0 ≤ W), Int.toNat_of_nonneg (by omega : 0 ≤ T), Int.toNat_of_nonneg (by omega : 0 ≤ R), Int.toNat_of_nonneg g1]
        rfl
      rw [ec]
      exact hb4) o4 (by
      refine ⟨rfl, .inr ⟨u1.heap.size, 1, rfl, Nat.le_refl _, by unfold maxLen; omega, by omega, fun j hj => ?_, fun j hj => ⟨?_, hbp.free j⟩⟩⟩
      · rw [hbp.cell j]
        have ep : rpRow [.slice none 0 0] [({ kind := 0, place := size.toNat - 6, length := 6 } : Pl.RPiece)] = [.int .i64 0, .int .i64 (size - 6), .int .i64 6, .string { data := #[] }, .int .i64 0, .int .i64 0, .int .i64 0, .int .i64 0, .slice none 0 0] := by
          simp only [rpRow, rpCells, I, tx, List.zipWith_cons_cons, List.zipWith_nil_left, List.flatten_cons, List.flatten_nil, List.append_nil, show ((size.toNat - 6 : Nat) : Int) = size - 6 by omega]
          rfl
        rw [ep]
      · rw [hbp.cell j, List.getElem?_eq_getElem (by simpa using hj)]; rfl) rfl (fun i x p a b => by
      cases i with
      | zero => simp at a b; exact ⟨a.symm, by rw [← b]⟩
      | succ i => simp at a) (fun e => by have := hnY _ e; omega) (by simp [Value.ownBlock]; omega) (fun g hg => by have := hnu g hg; simp [Value.ownBlock]; omega) rfl rfl
    refine (rask_any _ U4 (w.heap.size + 1) _ _ _ _ _ _ hR (by simp) (by simp) (by simp)).mono ?_
    rintro e u5 ⟨rfl, h5, k5⟩
    go_wp2_with fail
    go_ret2
    have hout : ∀ k, k < w.heap.size → rcol0 (w.heap.size + 1) (.slice na ss.length nc) (.slice (some ⟨u1.heap.size, 0, none⟩) 1 1) k = .out := fun k hk => by
      unfold rcol0
      rw [if_neg (by omega), if_neg (fun e => by have := hnY k e; omega), if_neg (by simp [Value.ownBlock]; omega)]
    refine ⟨w.heap.size + 1, _, rfl, by rw [EM.out]; exact ⟨_, _, _, _, _, h5⟩, x4.then k5 (fun i hi e => e (hout i hi)), hout⟩
end Go.Proofs.YthicgffppmbamaaGreat
