/- act: Asked on both sides. -/
import Derived.Test.YthicgffppmbamaaGreatLooks
import Derived.Deep.RegionHeld3
import Derived.Deep.QuietTactic
import Derived.BigQuiet
namespace Go.Proofs.YthicgffppmbamaaGreat
open Go.RowKit

theorem ask_tr (l : List (Nat × Pl.Part)) : l.flatMap askCells = (l.map Pl.reqOf).flatMap trCells := by
  induction l with
  | nil => rfl
  | cons q r ih =>
    simp only [List.flatMap_cons, List.map_cons, ih]
    rfl
theorem tr_at (l : List (Nat × Nat × Nat)) (i j : Nat) (hi : i < l.length) (hj : j < 3) : (l.flatMap trCells)[i * 3 + j]? = (trCells l[i])[j]? := flatMap_at 3 trCells (fun _ => rfl) l i j hi hj
abbrev actV (kind W A B : Int) (s : ByteArray) : Value := .agg #[.int .i64 kind, .int .i64 W, .int .i64 A, .int .i64 B, .string s]

/-- what the law knows of the scan that an act is on -/
structure On (w : World) (Wb : Nat) (tv iv av rv : Value) (nt i : Nat) (X Y : Nat) (file : ByteArray) (Wn : Int) : Prop where
  hb : Blk w Wb [tv, iv, av, rv] 32
  hi : i < nt
  row : ∃ g cap, tv = .slice (some ⟨g, 0, none⟩) nt cap ∧ nt ≤ cap ∧ g < w.heap.size ∧ w.cell? ⟨g, i * 3, none⟩ = some (PtrTo X 0) ∧ w.cell? ⟨g, i * 3 + 1, none⟩ = some (PtrTo Y 0) ∧ w.cell? ⟨g, i * 3 + 2, none⟩ = some (.string file)
  pick : ∀ u, Calls Tryz.prog 33 #[.int .i64 Wn, .int .i64 nt] u fun e u' => e = .returned (.int .i64 i) ∧ u' = u

theorem Kp.then' {S S' : Nat → Prop} {w w1 w2 : World} (h : Ext w w1) (k : Kp S' w1 w2) (hs : ∀ i, i < w.heap.size → S' i → S i) : Kp S w w2 := (Kp.of_ext (S := S) h).then k hs

set_option maxRecDepth 20000 in
set_option maxHeartbeats 8000000 in
theorem actAsked_any (w : World) (Wb : Nat) (tv iv av rv : Value) (nt i X Y P na : Nat) (file sv : ByteArray) (Wn A B : Int) (ecs : List Value) (col colr : Colr) (m : Pl.Sc) (r : Pl.RSc) (ho : On w Wb tv iv av rv nt i X Y file Wn) (_hnt : nt ≤ 1000) (ha : Own w 5 av na ecs) (d1 : av.ownBlock ≠ some Wb) (hna : na ≤ 1000000000)
    (hx : IsX col w X m P) (hy : IsR colr w Y r) (heq : m.asked.map Pl.reqOf = Pl.rAsked r) (hal : m.asked.length ≤ 1000) (hm : r.made ≤ 100000000000000) (hpl : r.pieces.length ≤ 1000) (hlen : ∀ p ∈ r.pieces, p.length ≤ 1000000 ∧ p.got.length ≤ p.length ∧ p.place ≤ 1000000) :
    Calls Tryz.prog 13 #[PtrTo Wb 0, actV 1 Wn A B sv] w fun e w' => e = .returned (.bool true) ∧ ∃ av' x, Blk w' Wb [tv, iv, av', rv] 32 ∧ Own w' 5 av' (na + 1) (ecs ++ kaCells x) ∧ KAAt (fun g => w.heap.size ≤ g ∧ av'.ownBlock ≠ some g) w' x ∧ Kp (fun k => k = Wb ∨ Of av k) w w' ∧ (∀ g, av'.ownBlock = some g → av.ownBlock = some g ∨ w.heap.size ≤ g) := by
  obtain ⟨hb, hi, ⟨g, cap, rfl, hnc, hg, t0, t1, t2⟩, hpick⟩ := ho
  have q0 := hb.cell 0
  simp only [List.getElem?_cons_zero] at q0
  have hblt := hb.lt
  have i0 : (0 : Int) ≤ (i : Int) := by omega
  have i1 : (i : Int) < (nt : Int) := by omega
  have HPK := hide hpick
  have HXA : Hid (∀ u, Ext w u → Calls Tryz.prog 23 #[PtrTo X 0] u fun e w' => ∃ v, e = .returned v ∧ Own w' 3 v m.asked.length (m.asked.flatMap askCells) ∧ Ext u w' ∧ ∀ g, v.ownBlock = some g → u.heap.size ≤ g) := fun u hu => xAsked_any col u X P m (hx.kept hu (fun _ f => f.elim)) hal
  have HYA : Hid (∀ u, Ext w u → Calls Tryz.prog 34 #[PtrTo Y 0] u fun e w' => ∃ v, e = .returned v ∧ Own w' 3 v (Pl.rAsked r).length ((Pl.rAsked r).flatMap trCells) ∧ Ext u w' ∧ ∀ g, v.ownBlock = some g → u.heap.size ≤ g) := fun u hu => rAsked_any colr u Y r (hy.kept hu (fun _ f => f.elim)) hm hpl hlen
  rw [ask_tr, heq] at HXA
  have hLl : m.asked.length = (Pl.rAsked r).length := by rw [← heq, List.length_map]
  rw [hLl] at HXA hal
  clear hx hy heq hLl hm hpl hlen hpick
  generalize Pl.rAsked r = L at *
  have n0 := World.new_ne w _ q0
  have n1 := World.new_ne w _ t0
  go_enter Tryz.func13, Tryz.ntmps13
  go_wp2_with fail
  go_region_held3 (fun u => u.cell? ⟨Wb, 0, none⟩ = some (.slice (some ⟨g, 0, none⟩) nt cap) ∧ u.cell? ⟨w.heap.size, 1, none⟩ = some (.int .i64 Wn) ∧ u.cell? ⟨g, i * 3, none⟩ = some (PtrTo X 0) ∧ u.cell? ⟨g, i * 3 + 1, none⟩ = some (PtrTo Y 0) ∧ u.cell? ⟨g, i * 3 + 2, none⟩ = some (.string file)) (go_keep) (first | (go_at_call 33; refine ((unhide HPK) _).mono ?_; rintro e w' ⟨rfl, rfl⟩) | fail)
  all_goals
    have xw2 : Ext w ((w.alloc (.cells #[.int .i64 1, .int .i64 Wn, .int .i64 A, .int .i64 B, .string sv] 36)).alloc (.cells #[PtrTo X 0, PtrTo Y 0, .string file] 85)).drew := (((Kp.refl _ _).alloc _).alloc _).drew
    have hB1 : Blk ((w.alloc (.cells #[.int .i64 1, .int .i64 Wn, .int .i64 A, .int .i64 B, .string sv] 36)).alloc (.cells #[PtrTo X 0, PtrTo Y 0, .string file] 85)).drew w.heap.size [.int .i64 1, .int .i64 Wn, .int .i64 A, .int .i64 B, .string sv] 36 := (Blk.of_alloc w [.int .i64 1, .int .i64 Wn, .int .i64 A, .int .i64 B, .string sv] 36).kept (((Kp.refl (fun _ => False) _).alloc _).drew) id
    have hB2 : Blk ((w.alloc (.cells #[.int .i64 1, .int .i64 Wn, .int .i64 A, .int .i64 B, .string sv] 36)).alloc (.cells #[PtrTo X 0, PtrTo Y 0, .string file] 85)).drew (w.heap.size + 1) [PtrTo X 0, PtrTo Y 0, .string file] 85 := by
      have := Blk.of_alloc (w.alloc (.cells #[.int .i64 1, .int .i64 Wn, .int .i64 A, .int .i64 B, .string sv] 36)) [PtrTo X 0, PtrTo Y 0, .string file] 85
      rw [show (w.alloc (.cells #[.int .i64 1, .int .i64 Wn, .int .i64 A, .int .i64 B, .string sv] 36)).heap.size = w.heap.size + 1 by simp] at this
      exact this
    have zz : w.heap.size + 2 ≤ (((w.alloc (.cells #[.int .i64 1, .int .i64 Wn, .int .i64 A, .int .i64 B, .string sv] 36)).alloc (.cells #[PtrTo X 0, PtrTo Y 0, .string file] 85)).drew).heap.size := by show _ ≤ (World.alloc _ _).heap.size; simp
    generalize ((w.alloc _).alloc _).drew = W2 at *
    have a0 := hB1.cell 0
    have c0 := hB2.cell 0
    have c1 := hB2.cell 1
    simp only [List.getElem?_cons_zero, List.getElem?_cons_succ] at a0 c0 c1
    clear n0 n1 q0 t0 t1 t2
    have ha2 := ha.ext xw2
    have hb2 := hb.kept xw2 id
    go_wp2_with fail
    refine ((unhide HXA) W2 xw2).mono ?_
    rintro e w3 ⟨lv, rfl, o3, x3, n3⟩
    have c1' := x3.cell c1 id
    obtain ⟨la, lc, rfl, hlc⟩ := o3.shape
    go_wp2_with fail
    refine ((unhide HYA) w3 (xw2.trans x3)).mono ?_
    rintro e w4 ⟨mv, rfl, o4, x4, n4⟩
    obtain ⟨ma, mc, rfl, hmc⟩ := o4.shape
    have o34 := o3.ext x4
    have hbe : ((L.length : Int) == (L.length : Int)) = true := by simp
    go_wp2_with fail
    go_loopw [8, 9] (fun t i wr => ∃ k : Nat, k ≤ L.length ∧ i = .int .i64 k ∧ t = .bool true ∧ Ext w4 wr) (fun _ i _ => L.length - (intOf i).toNat)
    case atStart => exact ⟨0, Nat.zero_le _, rfl, rfl, Kp.refl _ _⟩
    case round =>
      obtain ⟨k, hk, rfl, rfl, hx5⟩ := hrel
      have ol := o34.ext hx5
      have om := o4.ext hx5
      by_cases hkl : k < L.length
      · obtain ⟨gl, cl, hel, -, -, hcl⟩ := ol.at (by omega)
        obtain ⟨gm, cm, hem, -, -, hcm⟩ := om.at (by omega)
        cases hel
        cases hem
        have e0 := hcl (k * 3 + 0) (by omega)
        have e1 := hcl (k * 3 + 1) (by omega)
        have e2 := hcl (k * 3 + 2) (by omega)
        have f0 := hcm (k * 3 + 0) (by omega)
        have f1 := hcm (k * 3 + 1) (by omega)
        have f2 := hcm (k * 3 + 2) (by omega)
        rw [tr_at L k _ hkl (by omega)] at e0 e1 e2 f0 f1 f2
        generalize L[k] = tr at *
        simp only [trCells, I, List.getElem?_cons_zero, List.getElem?_cons_succ, Nat.add_zero] at e0 e1 e2 f0 f1 f2
        clear hcl hcm ol om
        have k0 : (0 : Int) ≤ (k : Int) := by omega
        have k1 : (k : Int) < (L.length : Int) := by omega
        go_wp2_with fail
        go_quiet (fail)
        go_wp2_with fail
        exact ⟨⟨k + 1, by omega, by go_num, by simp, hx5.drewN _⟩, by simp [intOf]; omega⟩
      · have hx25 : Ext W2 wr := (x3.trans x4).trans hx5
        have hb5 := hb2.kept hx25 id
        have ha5 := ha2.ext hx25
        have hK := keepAsks_any wr Wb _ _ _ _ _ na L.length ecs _ hb5 ha5 ol d1 (fun e => by have := n3 Wb e; omega) (fun g hg e => by have := n3 g e; have := ha.lt hg; omega) hna hal
        have HK := hide hK
        clear hK ol om o34 o4 o3 ha2 hb2
        go_wp2_with fail
        refine (unhide HK).mono ?_
        rintro e w6 ⟨rfl, av', x, r1, r2, r3, r4, r5⟩
        go_wp2_with fail
        go_ret
        have hz := (xw2.trans hx25).size
        have hz2 := (x3.trans (x4.trans hx5)).size
        refine ⟨rfl, av', x, r1, r2, r3.go (Kp.refl (fun _ => False) _) (fun _ _ f => f) (fun g hlt hg => ⟨?_, hg.2⟩), Kp.then' (xw2.trans hx25) r4 (fun i hi h => ?_), fun g hg => (r5 g hg).imp id (fun h => by omega)⟩
        · rcases hg.1 with e | e
          · have := n3 g e; omega
          · omega
        · rcases h with h | h | h
          · exact .inl h
          · exact .inr h
          · have := n3 i h; omega
end Go.Proofs.YthicgffppmbamaaGreat
