/- scan.Open. -/
import Derived.Test.YthicgffppmbamaaGreatSet
import Derived.Deep.RegionHeld3
namespace Go.Proofs.YthicgffppmbamaaGreat
open Go.RowKit

theorem lineNew_any (w : World) (n : Int) (f : Value) (hf : ∃ g x, f = .func g x #[]) :
    Calls Tryz.prog 80 #[.int .i64 n, f] w fun e w' => e = .returned (.agg #[.int .i64 n, f, .int .i64 0, .slice none 0 0, .slice none 0 0]) ∧ Ext w w' := by
  obtain ⟨g, x, rfl⟩ := hf
  go_enter Tryz.func80, Tryz.ntmps80
  go_wp2
  refine bodyPost_ret (v := .agg #[.int .i64 n, .func g x #[], .int .i64 0, .slice none 0 0, .slice none 0 0]) (by simp [results, Tryz.results80, go_sem]) rfl ⟨rfl, ?_⟩
  exact (Kp.refl _ _).alloc _

set_option maxRecDepth 20000 in
set_option maxHeartbeats 2000000 in
theorem scOpen_bad (w : World) (v : Value) (size W T R G : Int) (hbad : Pl.okSet size W T R G = false) :
    Calls Tryz.prog 53 #[.int .i64 size, v, setV W T R G] w fun e w' => e = .returned (.tuple #[.pointer none, .int .i64 2]) ∧ Ext w w' := by
  have hrs := fun u => rightSettings_any u W T R G
  have HS := hide hrs
  clear hrs
  by_cases h0 : size < 0
  · clear hbad
    go_enter Tryz.func53, Tryz.ntmps53
    go_wp2_with fail
    go_ret2
    exact ⟨rfl, (Kp.refl _ _).alloc _⟩
  by_cases h1 : 4000 < size
  · clear hbad
    go_enter Tryz.func53, Tryz.ntmps53
    go_wp2_with fail
    go_ret2
    exact ⟨rfl, (Kp.refl _ _).alloc _⟩
  have e : Pl.okS W T R G = false := by
    unfold Pl.okSet at hbad
    rw [decide_eq_true (by omega : (0 : Int) ≤ size), decide_eq_true (by omega : size ≤ 4000)] at hbad
    simpa using hbad
  rw [e] at HS
  clear hbad e
  go_enter Tryz.func53, Tryz.ntmps53
  go_wp2_with fail
  refine ((unhide HS) _).mono ?_
  rintro e w1 ⟨rfl, x1⟩
  go_wp2_with fail
  go_ret2
  exact ⟨rfl, ((Kp.refl _ _).alloc _).trans x1⟩

theorem RowAt.weak {C : Nat → Prop} {w : World} {size n : Nat} {v : Value} {cs : List Value} (h : RowAt C true w size v n cs) : RowAt C false w size v n cs := by
  obtain ⟨hl, ao, cap, rfl, h1, h3⟩ := h
  refine ⟨hl, ao, cap, rfl, h1, fun hp => ?_⟩
  obtain ⟨b, off, rfl, hb, hlt, hc, hf⟩ := h3 hp
  exact ⟨b, off, rfl, hb, hlt, hc, fun h => by cases h⟩
theorem infoLine : (Tryz.prog.info? 136).map (·.size) = some 5 := by kernel_rfl
/-- the colours of a new scan -/
def col0 (P : Nat) (nv : Value) : Colr := fun k => if k = P then .scan else if nv.ownBlock = some k then .ro else .out
/-- a new scan -/
theorem rep_new {w : World} {P : Nat} {m : Pl.Sc} {nv : Value} (hb : Blk w P (scCells P m nv (.slice none 0 0) (.slice none 0 0) (.slice none 0 0) (.slice none 0 0)) 142) (hn : Own w 1 nv m.want.length (m.want.map tx)) (hne : nv.ownBlock ≠ some P) (ha : m.asked = []) (hw : m.waiting = []) (hh : m.ahead = []) (hg : m.rows.groups = []) :
    Rep (col0 P nv) w P m [] [] nv (.slice none 0 0) (.slice none 0 0) (.slice none 0 0) (.slice none 0 0) := by
  have hlt := hb.lt
  refine ⟨hb, by simp [col0], fun k hk => ?_, (hn.rowAt _ (fun g hg => ?_)).weak, by rw [ha]; exact Own.nil _ _, fun g hg => by simp [Value.ownBlock] at hg, ⟨by rw [ha]; rfl, fun i p q a => by simp at a⟩, by rw [hw]; exact Own.nil _ _, fun g hg => by simp [Value.ownBlock] at hg, ⟨by rw [hw]; rfl, fun i p q a => by simp at a⟩, by simp, by rw [hh]; exact AheadAt.nil _ _, by rw [hg]; exact GroupsAt.nil _ _ _⟩
  · unfold col0
    rw [if_neg (by omega), if_neg (fun e => by have := hn.lt e; omega)]
  · show col0 P nv g = .ro
    unfold col0
    rw [if_neg (fun e => hne (by rw [← e]; exact hg)), if_pos hg]

set_option maxRecDepth 20000 in
set_option maxHeartbeats 4000000 in
theorem scOpen_ok (B0 : Nat) (w : World) (v : Value) (ss : List ByteArray) (size W T R G : Int) (hr : RdS B0 w v ss) (hok : Pl.okSet size W T R G = true) :
    Calls Tryz.prog 53 #[.int .i64 size, v, setV W T R G] w fun e w' => ∃ P col, e = .returned (.tuple #[PtrTo P 0, .int .i64 0]) ∧ IsSc col w' P (Pl.openSc size.toNat (ss.map bytesOf) W.toNat T.toNat R.toNat G.toNat) ∧ Ext w w' ∧ ∀ k, k < w.heap.size → col k = .out := by
  have hk : 0 ≤ size ∧ size ≤ 4000 ∧ Pl.okS W T R G = true := by
    unfold Pl.okSet at hok
    simp only [Bool.and_eq_true, decide_eq_true_eq] at hok
    exact ⟨hok.1.1, hok.1.2, hok.2⟩
  obtain ⟨h0, h1, h2⟩ := hk
  obtain ⟨⟨w1, w2⟩, ⟨t1, t2⟩, ⟨r1, r2⟩, g1, g2⟩ := (Pl.okS_iff _ _ _ _).1 h2
  have hrs := fun u => rightSettings_any u W T R G
  rw [h2] at hrs
  have HS := hide hrs
  have hkp := fun u (hu : Ext w u) => keep_any B0 u v ss (hr.kept hu (fun _ f => f.elim))
  have HK := hide hkp
  clear hrs hok h2 hkp
  obtain ⟨ao, cap, rfl, n1, n2, -⟩ := RdS.open hr
  clear hr
  go_enter Tryz.func53, Tryz.ntmps53
  go_wp2_with fail
  refine ((unhide HS) _).mono ?_
  rintro e u1 ⟨rfl, x1⟩
  have x01 : Ext w u1 := ((Kp.refl _ _).alloc _).trans x1
  have q0 : u1.cell? ⟨w.heap.size, 0, none⟩ = some (.int .i64 W) := x1.cell (World.cell?_alloc_new w _ _ 0) id
  have q1 : u1.cell? ⟨w.heap.size, 1, none⟩ = some (.int .i64 T) := x1.cell (World.cell?_alloc_new w _ _ 1) id
  have q2 : u1.cell? ⟨w.heap.size, 2, none⟩ = some (.int .i64 R) := x1.cell (World.cell?_alloc_new w _ _ 2) id
  have q3 : u1.cell? ⟨w.heap.size, 3, none⟩ = some (.int .i64 G) := x1.cell (World.cell?_alloc_new w _ _ 3) id
  go_wp2_with fail
  go_region_held3 (fun u => u.cell? ⟨w.heap.size, 0, none⟩ = some (.int .i64 W) ∧ u.cell? ⟨w.heap.size, 1, none⟩ = some (.int .i64 T) ∧ u.cell? ⟨w.heap.size, 2, none⟩ = some (.int .i64 R) ∧ u.cell? ⟨w.heap.size, 3, none⟩ = some (.int .i64 G)) (first | exact ⟨x2.cell q0 id, x2.cell q1 id, x2.cell q2 id, x2.cell q3 id⟩ | exact ⟨((Kp.refl (fun _ => False) u2).alloc _).cell (x2.cell q0 id) id, ((Kp.refl (fun _ => False) u2).alloc _).cell (x2.cell q1 id) id, ((Kp.refl (fun _ => False) u2).alloc _).cell (x2.cell q2 id) id, ((Kp.refl (fun _ => False) u2).alloc _).cell (x2.cell q3 id) id⟩ | go_keep) (first | (go_at_call 79; refine ((unhide HK) _ (x01.trans (ext_drew _))).mono ?_; rintro e u2 ⟨nv, rfl, o2, x2, g2'⟩; obtain ⟨na, nc, rfl, _⟩ := o2.shape) | fail)
  all_goals
    have z1 := x2.cell q1 id
    have hB3 := Blk.of_alloc u2 [.int .i64 0, .int .i64 size, .slice na (Pl.keepNames (ss.map bytesOf)).length nc, .int .i64 W, .int .i64 T, .int .i64 R, .int .i64 G, .int .i64 0, .nilFunc, .int .i64 0, .slice none 0 0, .slice none 0 0, .slice none 0 0, .int .i64 0, .int .i64 0, .slice none 0 0, .int .i64 0, .int .i64 0, .int .i64 0] 142
    have x23 : Ext u2 (u2.alloc (.cells #[.int .i64 0, .int .i64 size, .slice na (Pl.keepNames (ss.map bytesOf)).length nc, .int .i64 W, .int .i64 T, .int .i64 R, .int .i64 G, .int .i64 0, .nilFunc, .int .i64 0, .slice none 0 0, .slice none 0 0, .slice none 0 0, .int .i64 0, .int .i64 0, .slice none 0 0, .int .i64 0, .int .i64 0, .int .i64 0] 142)) := (Kp.refl _ _).alloc _
    have y1 := x23.cell z1 id
    have hPlt : ∀ g, (Value.slice na (Pl.keepNames (ss.map bytesOf)).length nc).ownBlock = some g → g < u2.heap.size := fun g hg => o2.lt hg
    have xw2 : Ext w u2 := (x01.trans (ext_drew _)).trans x2
    have o3 := o2.ext x23
    have hwP := xw2.size
    clear q0 q1 q2 q3 z1 o2
    generalize u2.heap.size = P at *
    generalize u2.alloc _ = U3 at *
    have HP := hide hPlt
    clear hPlt
    go_wp2_with fail
    refine (lineNew_any _ _ _ ⟨_, _, rfl⟩).mono ?_
    rintro e u4 ⟨rfl, x4⟩
    have hB4 := hB3.kept x4 id
    have o4 := o3.ext x4
    have hth : u4.there P 7 5 := fun j hj => ⟨by rw [hB4.cell, List.getElem?_eq_getElem (by simp; omega)]; rfl, hB4.free _⟩
    have HT := hide hth
    have hone : #[Value.int .i64 T, giveUpV P, .int .i64 0, .slice none 0 0, .slice none 0 0].all (·.oneCell') = true := by simp [Value.oneCell']
    have HO := hide hone
    have hB5 := Blk.setCells [Value.int .i64 T, giveUpV P, .int .i64 0, .slice none 0 0, .slice none 0 0] 7 u4 _ hB4 (by simp)
    have k5 := kp_setCells P [Value.int .i64 T, giveUpV P, .int .i64 0, .slice none 0 0, .slice none 0 0] 7 u4
    have o5 := o4.kept k5 (fun g hg e => by have := (unhide HP) g hg; omega)
    have x45 : Ext w (u4.setCells P 7 [Value.int .i64 T, giveUpV P, .int .i64 0, .slice none 0 0, .slice none 0 0]) := ((xw2.trans x23).trans x4).then k5 (fun i hi e => by omega)
    have hR : Rep (col0 P (.slice na (Pl.keepNames (ss.map bytesOf)).length nc)) (u4.setCells P 7 [Value.int .i64 T, giveUpV P, .int .i64 0, .slice none 0 0, .slice none 0 0]) P { size := size.toNat, want := Pl.keepNames (ss.map bytesOf), win := W.toNat, tries := T.toNat, nrows := R.toNat, gap := G.toNat } [] [] (.slice na (Pl.keepNames (ss.map bytesOf)).length nc) (.slice none 0 0) (.slice none 0 0) (.slice none 0 0) (.slice none 0 0) := by
      refine rep_new ?_ o5 (fun e => by have := (unhide HP) P e; omega) rfl rfl rfl rfl
      have ec : scCells P { size := size.toNat, want := Pl.keepNames (ss.map bytesOf), win := W.toNat, tries := T.toNat, nrows := R.toNat, gap := G.toNat } (.slice na (Pl.keepNames (ss.map bytesOf)).length nc) (.slice none 0 0) (.slice none 0 0) (.slice none 0 0) (.slice none 0 0) = [.int .i64 0, .int .i64 size, .slice na (Pl.keepNames (ss.map bytesOf)).length nc, .int .i64 W, .int .i64 T, .int .i64 R, .int .i64 G, .int .i64 T, giveUpV P, .int .i64 0, .slice none 0 0, .slice none 0 0, .slice none 0 0, .int .i64 0, .int .i64 0, .slice none 0 0, .int .i64 0, .int .i64 0, .int .i64 0] := by
        simp only [scCells, giveV, I, if_true, Int.toNat_of_nonneg h0, Int.toNat_of_nonneg (by omega : 0 ≤ W), Int.toNat_of_nonneg (by omega : 0 ≤ T), Int.toNat_of_nonneg (by omega : 0 ≤ R), Int.toNat_of_nonneg g1, Int.natCast_zero]
      rw [ec]
      exact hB5
    have hout : ∀ k, k < w.heap.size → col0 P (.slice na (Pl.keepNames (ss.map bytesOf)).length nc) k = .out := fun k hk => by
      unfold col0
      rw [if_neg (by omega), if_neg (fun e => by have := g2' k e; have := x01.size; have : u1.drew.heap.size = u1.heap.size := rfl; omega)]
    have HR := hide hR
    have HX := hide x45
    have HU := hide hout
    clear hth hone hB5 k5 o5 o4 hB4 hB3 o3 y1 x45 hR hout g2'
    by_cases hs10 : size < 10
    · have em : Pl.openSc size.toNat (ss.map bytesOf) W.toNat T.toNat R.toNat G.toNat = Pl.ended 2 := by unfold Pl.openSc; rw [if_pos (by omega)]
      have EM := hide em
      clear em
      go_wp2_with (refine wpList_store_mid rfl 136 _ _ rfl P 7 _ rfl rfl (unhide HT) infoLine (unhide HO) ?_)
      refine (end_any _ _ P _ rfl 2 (by decide) (unhide HR).blk (unhide HR).inn.pcol (unhide HR).inn.top).mono ?_
      rintro e u6 ⟨rfl, r6, k6⟩
      go_wp2_with fail
      go_ret2
      exact ⟨P, _, rfl, by rw [unhide EM]; exact r6.is, (unhide HX).then k6 (fun i hi e => by omega), unhide HU⟩
    · have em : Pl.openSc size.toNat (ss.map bytesOf) W.toNat T.toNat R.toNat G.toNat = Pl.fetch { size := size.toNat, want := Pl.keepNames (ss.map bytesOf), win := W.toNat, tries := T.toNat, nrows := R.toNat, gap := G.toNat } (size - 6).toNat (6 : Int).toNat .tail := by
        unfold Pl.openSc
        rw [if_neg (by omega), show (size - 6).toNat = size.toNat - 6 by omega]
        rfl
      have EM := hide em
      clear em
      go_wp2_with (refine wpList_store_mid rfl 136 _ _ rfl P 7 _ rfl rfl (unhide HT) infoLine (unhide HO) ?_)
      refine (fetch_any _ _ P _ _ _ .tail _ _ _ _ _ _ _ _ (unhide HR) rfl ⟨_, _, rfl⟩ (by simp) (by simp) (by omega) (by omega) (by omega)).mono ?_
      rintro e u6 ⟨rfl, c6, p6, av6, r6, g6⟩
      go_wp2_with fail
      go_ret2
      refine ⟨P, c6, rfl, by rw [unhide EM]; exact r6.is, (unhide HX).then g6.kept (fun i hi e => e ((unhide HU) i hi)), fun k hk => ?_⟩
      rw [g6.same k (Nat.lt_of_lt_of_le hk (unhide HX).size)]
      exact (unhide HU) k hk
end Go.Proofs.YthicgffppmbamaaGreat
