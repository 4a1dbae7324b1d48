/- file.Write and Write. -/
import Derived.Test.YthicgffppmbamaaGreatFinish
import Derived.Test.YthicgffppmbamaaGreatCheck4
import Derived.Lib.SlBytesConst
namespace Go.Proofs.YthicgffppmbamaaGreat
open Go.RowKit

/-- what of a table that may be written bounds its file -/
def Fits (gs : List (List (List Int))) : Prop := ∀ g ∈ gs, 1 ≤ g.length ∧ g.length ≤ 4 ∧ ∀ x ∈ g, x.length ≤ 20 ∧ ∀ y ∈ x, 0 ≤ y ∧ y ≤ 1099511627775

theorem addG_len (g : List (List Int)) (st : List UInt8 × List UInt8) (h : st.1.length + 141 * g.length ≤ 5000) (hx : ∀ x ∈ g, x.length ≤ 20 ∧ ∀ y ∈ x, 0 ≤ y ∧ y ≤ 1099511627775) (hg : 0 < g.length) :
    (Pl.addG st g).1.length ≤ st.1.length + 141 * g.length ∧ (Pl.addG st g).2.length ≤ st.2.length + 1 + 10 * g.length := by
  have h0 := (hx (g.getD 0 []) (by rw [getD_at g 0 [] hg]; exact List.getElem_mem hg)).1
  have h1 := Pl.vint_len 0 (g.getD 0 []).length (by show _ < 128; omega)
  have := addPs_len g (st.1, st.2 ++ Pl.vint (g.getD 0 []).length) h hx
  unfold Pl.addG
  simp only [List.length_append] at this ⊢
  omega
theorem addGs_len (gs : List (List (List Int))) : ∀ st : List UInt8 × List UInt8, st.1.length + 564 * gs.length ≤ 5000 → Fits gs → (Pl.addGs st gs).1.length ≤ st.1.length + 564 * gs.length ∧ (Pl.addGs st gs).2.length ≤ st.2.length + 41 * gs.length := by
  induction gs with
  | nil => intro st _ _; exact ⟨Nat.le_refl _, Nat.le_refl _⟩
  | cons g r ih =>
    intro st h hx
    obtain ⟨a1, a2, a3⟩ := hx g (by simp)
    have h1 := addG_len g st (by simp only [List.length_cons] at h; omega) a3 (by omega)
    have h2 := ih (Pl.addG st g) (by simp only [List.length_cons] at h; omega) (fun y hy => hx y (by simp [hy]))
    show (Pl.addGs (Pl.addG st g) r).1.length ≤ _ ∧ (Pl.addGs (Pl.addG st g) r).2.length ≤ _
    simp only [List.length_cons] at *
    omega
theorem mark_len : Pl.mark.length = 4 := rfl
theorem fits_ok {cols : Nat} {gs : List (List (List Int))} (hc : 1 ≤ cols) (hc4 : cols ≤ 4) (h : ∀ g ∈ gs, Pl.okGroup cols g = true) : Fits gs := by
  intro g hg
  obtain ⟨a, b, c, d⟩ := (Pl.okGroup_iff cols g).1 (h g hg)
  refine ⟨by omega, by omega, fun x hx => ?_⟩
  have := d x hx
  unfold Pl.okList at this
  rw [Bool.and_eq_true, decide_eq_true_eq, List.all_eq_true] at this
  exact ⟨by omega, fun y hy => (Pl.okVal_iff y).1 (this.2 y hy)⟩

theorem write_no {names : List (List UInt8)} {gs : List (List (List Int))} (h : Pl.okTable names gs = false) : Pl.write names gs = ([], 1) := by unfold Pl.write; rw [h]; rfl
theorem write_yes {names : List (List UInt8)} {gs : List (List (List Int))} (h : Pl.okTable names gs = true) : Pl.write names gs = Pl.sealed (Pl.parts names gs) := by unfold Pl.write; rw [h]; rfl

/-- bytes of a constant text, laid in a new block -/
theorem own_const (w : World) (arr : Array Value) (n : Nat) (cur : List UInt8) (hn : n = cur.length) (h : arr = (cur.map B).toArray) (hm : n ≤ 1000000) : OwnB (w.alloc (.cells arr 5 (n, n + 1))) (.slice (some ⟨w.heap.size, 0, none⟩) n n) cur := by
  subst hn
  subst h
  have hb := heap_alloc_new w (.cells (cur.map B).toArray 5 (cur.length, cur.length + 1))
  refine .inr ⟨w.heap.size, cur.length, rfl, Nat.le_refl _, by unfold maxLen; omega, by simp, fun j hj => ?_, fun j hj => ⟨?_, ?_⟩⟩
  · simp only [World.cell?, hb]; simp
  · simp only [World.cell?, hb]; simp [hj]
  · simp only [World.frozen?, hb]; simp; omega
/-- a new writer, behind a row of bytes -/
theorem wr_new (w : World) (ps : List UInt8) (arr : Array Value) (n : Nat) (hn : n = ps.length) (ha : arr = (ps.map B).toArray) (hm : n ≤ 1000000) :
    Wr w.heap.size (w.heap.size + 1) ((w.alloc (.cells arr 5 (n, n + 1))).alloc (.cells #[.slice (some ⟨w.heap.size, 0, none⟩) n n, .slice none 0 0] 156)) (.slice (some ⟨w.heap.size, 0, none⟩) n n) (.slice none 0 0) ps [] := by
  have ho := own_const w arr n ps hn ha hm
  refine ⟨by omega, ?_, ho.ext ((Kp.refl _ _).alloc _), OwnB.nil _, fun g hg => ?_, fun g hg => ?_, fun g hg => ?_⟩
  · have := heap_alloc_new (w.alloc (.cells arr 5 (n, n + 1))) (.cells #[.slice (some ⟨w.heap.size, 0, none⟩) n n, .slice none 0 0] 156)
    rw [show (w.alloc (.cells arr 5 (n, n + 1))).heap.size = w.heap.size + 1 by simp] at this
    exact this
  · simp [Value.ownBlock] at hg; omega
  · simp [Value.ownBlock] at hg
  · simp [Value.ownBlock]

set_option maxRecDepth 20000 in
set_option maxHeartbeats 2000000 in
theorem fileWrite_any (B0 : Nat) (w : World) (nv gv : Value) (ss : List ByteArray) (gs : List (List (List Int))) (hn : RdS B0 w nv ss) (hg : RdIII B0 w gv gs) (hB : B0 ≤ w.heap.size) :
    Calls Tryz.prog 77 #[.agg #[nv, gv]] w fun e w' => e = .returned (.tuple #[.string ⟨(Pl.write (ss.map bytesOf) gs).1.toArray⟩, .int .i64 (Pl.write (ss.map bytesOf) gs).2]) ∧ Ext w w' := by
  have hwr : ∀ u, Ext w u → Calls Tryz.prog 95 #[.agg #[nv, gv]] u fun e w' => e = .returned (.bool (Pl.okTable (ss.map bytesOf) gs)) ∧ Ext u w' := fun u hu => writable_any B0 u nv gv ss gs (hn.kept hu (fun _ f => f.elim)) (hg.kept hu (fun _ f => f.elim))
  have hn0 := hn
  have hg0 := hg
  obtain ⟨an, cn, rfl, n1, n2, -⟩ := RdS.open hn
  obtain ⟨ag, cg, rfl, g1, g2, -⟩ := hg.open
  have hext : ∀ o, Ext w (w.alloc o) := fun o => (Kp.refl _ _).alloc o
  have HR := hide hwr
  clear hwr
  cases hok : Pl.okTable (ss.map bytesOf) gs with
  | false =>
    rw [hok] at HR
    rw [write_no hok]
    clear hok
    go_enter Tryz.func77, Tryz.ntmps77
    go_wp2_with fail
    refine ((unhide HR) _ (hext _)).mono ?_
    rintro e w1 ⟨rfl, x1⟩
    go_wp2_with fail
    go_ret2
    exact ⟨rfl, (hext _).trans x1⟩
  | true =>
    rw [hok] at HR
    rw [write_yes hok]
    obtain ⟨t1, t2, t3⟩ := (Pl.okTable_iff _ _).1 hok
    obtain ⟨l1, l2, l3⟩ := (Pl.okNames_iff _).1 t1
    rw [List.length_map] at t3 l1 l2
    have hfits := fits_ok l1 l2 t3
    have hss : ∀ s ∈ ss, s.size ≤ 8 := fun s hs => by
      have := l3.1
      rw [List.take_length, List.all_eq_true] at this
      have := (Pl.okName_iff _).1 (this (bytesOf s) (List.mem_map.2 ⟨s, hs, rfl⟩))
      rw [bytesOf_len] at this
      exact this.2
    clear hok t1 t3 l3
    go_enter Tryz.func77, Tryz.ntmps77
    go_wp2_with fail
    refine ((unhide HR) _ (hext _)).mono ?_
    rintro e w1 ⟨rfl, x1⟩
    have hcv := fun (w : World) (C : Array Value) (n c : Nat) => Lib.run_convert_bytes_const (P := Tryz.prog) w 76 5 C n c Tryz.underlying76 Tryz.underlying5
    have hc0 : w1.cell? ⟨w.heap.size, 0, none⟩ = some (.slice an ss.length cn) := x1.cell (World.cell?_alloc_new w _ _ 0) id
    have hc1 : w1.cell? ⟨w.heap.size, 1, none⟩ = some (.slice ag gs.length cg) := x1.cell (World.cell?_alloc_new w _ _ 1) id
    have hsz : w.heap.size < w1.heap.size := by have := x1.size; simp at this; omega
    go_wp2_with fail
    have hW := wr_new w1 Pl.mark #[.int .u8 67, .int .u8 79, .int .u8 76, .int .u8 49] 4 rfl rfl (by omega)
    have x2 : Ext w1 ((w1.alloc (.cells #[.int .u8 67, .int .u8 79, .int .u8 76, .int .u8 49] 5 (4, 4 + 1))).alloc (.cells #[.slice (some ⟨w1.heap.size, 0, none⟩) 4 4, .slice none 0 0] 156)) := ((Kp.refl _ _).alloc _).alloc _
    simp only [Nat.reduceAdd] at hW x2
    clear hcv
    generalize (w1.alloc _).alloc _ = W2 at *
    have xw : Ext w W2 := ((hext _).trans x1).trans x2
    have hn2 : RdS w1.heap.size W2 (.slice an ss.length cn) ss := (hn0.kept xw (fun _ f => f.elim)).mono (by omega)
    have hg2 : RdIII w1.heap.size W2 (.slice ag gs.length cg) gs := (hg0.kept xw (fun _ f => f.elim)).mono (by omega)
    have hc0' := x2.cell hc0 id
    have hc1' := x2.cell hc1 id
    clear hc0 hc1
    refine (addNames_any _ _ _ _ _ _ _ _ ss hW hn2 (by simp) l2 hss).mono ?_
    rintro e w3 ⟨rfl, pv3, fv3, h3, k3⟩
    have hc03 := k3.cell hc0' (fun e => by have e' : w1.heap.size ≤ w.heap.size := e; omega)
    have hc13 := k3.cell hc1' (fun e => by have e' : w1.heap.size ≤ w.heap.size := e; omega)
    clear hc0' hc1'
    have f0 := h3.cell0
    have f1 := h3.cell1
    have f2 := h3.free 1
    simp only [List.nil_append] at h3
    have ln := nameBytes_len (ss.map bytesOf) (fun s hs => by
      obtain ⟨y, hy, rfl⟩ := List.mem_map.1 hs
      rw [bytesOf_len]; exact hss y hy)
    rw [List.length_map] at ln
    have lv := Pl.vint_len 0 ss.length (by show _ < 128; omega)
    have lg := Pl.vint_len 0 gs.length (by show _ < 128; omega)
    have HP : Hid (Pl.parts (ss.map bytesOf) gs = Pl.addGs (Pl.mark, Pl.vint ss.length ++ Pl.nameBytes (ss.map bytesOf) ++ Pl.vint gs.length) gs) := by
      show _ = _
      unfold Pl.parts
      rw [List.length_map]
    have lst : (Pl.vint ss.length ++ Pl.nameBytes (ss.map bytesOf)).length ≤ 37 := by simp only [List.length_append]; omega
    generalize Pl.vint ss.length ++ Pl.nameBytes (ss.map bytesOf) = nb at *
    obtain ⟨pa, np, pc, rfl, hnp⟩ := h3.op.shape'
    obtain ⟨fa, nf, fc, rfl, hnf⟩ := h3.of.shape'
    go_wp2_with fail
    refine (appendVarint_any _ _ _ _ h3.of (by omega) (by omega) (by omega)).mono ?_
    rintro e w4 ⟨v4, rfl, o4, k4, s4⟩
    simp only [Int.toNat_natCast] at o4
    obtain ⟨m0, m1, m2, m3⟩ := h3.midF k4
    obtain ⟨a4, n4, cc4, rfl, hn4⟩ := o4.shape'
    obtain ⟨h4, kk4⟩ := h3.growF k4 s4 o4
    have hc04 := kk4.cell hc03 (fun e => by have e' : w1.heap.size ≤ w.heap.size := e; omega)
    have hc14 := kk4.cell hc13 (fun e => by have e' : w1.heap.size ≤ w.heap.size := e; omega)
    clear f0 f1 f2 hc03 hc13
    go_wp2_with fail
    clear m0 m1 m2 m3
    generalize w4.setCell _ _ = W4 at *
    have kw : Kp (From w1.heap.size) W2 W4 := k3.trans kk4
    have lst2 : (nb ++ Pl.vint gs.length).length ≤ 38 := by simp only [List.length_append]; omega
    generalize nb ++ Pl.vint gs.length = nb2 at *
    go_loopw [26] (fun i wr => ∃ (k : Nat) (pv fv : Value), k ≤ gs.length ∧ i = .int .i64 k ∧ Wr w1.heap.size (w1.heap.size + 1) wr pv fv (Pl.addGs (Pl.mark, nb2) (gs.take k)).1 (Pl.addGs (Pl.mark, nb2) (gs.take k)).2 ∧ Kp (From w1.heap.size) W2 wr) (fun i _ => gs.length - (intOf i).toNat)
    case atStart => exact ⟨0, _, _, Nat.zero_le _, rfl, h4, kw⟩
    case round =>
      obtain ⟨k, pv, fv, hk, rfl, hWk, hkw⟩ := hrel
      have hlen := addGs_len (gs.take k) (Pl.mark, nb2) (by simp only [List.length_take, mark_len]; omega) (fun g hg => hfits g (List.mem_of_mem_take hg))
      simp only [List.length_take, mark_len] at hlen
      have hmin : min k gs.length = k := Nat.min_eq_left hk
      rw [hmin] at hlen
      clear hmin
      by_cases hkl : k < gs.length
      · have hgw := hg2.kept hkw (fun _ e => e)
        obtain ⟨_, _, he, _, _, g4⟩ := hgw.open
        cases he
        obtain ⟨b, off, rfl, hb0, hc⟩ := g4 (by omega)
        obtain ⟨ak, ck, hck, hrk⟩ := hc k hkl
        clear hc hgw g4
        have HT : Hid (Pl.addGs (Pl.mark, nb2) (gs.take (k + 1)) = Pl.addG (Pl.addGs (Pl.mark, nb2) (gs.take k)) gs[k]) := by
          show _ = _
          rw [List.take_succ_eq_append_getElem hkl, Pl.addGs_snoc]
        have hfk := hfits gs[k] (List.getElem_mem hkl)
        rw [getD_at gs k [] hkl] at hck hrk
        generalize gs[k] = g at *
        generalize Pl.addGs (Pl.mark, nb2) (gs.take k) = sk at *
        go_wp2_with fail
        refine (addGroup_any _ _ _ _ _ _ sk.1 sk.2 g hWk hrk (by omega) (by omega) (by omega) (by omega) hfk.2.2).mono ?_
        rintro e w5 ⟨rfl, pv5, fv5, h5, k5⟩
        go_wp2_with fail
        go_roundw
        case rel => exact ⟨k + 1, pv5, fv5, by omega, by go_num, by rw [HT.out]; exact h5, hkw.trans k5⟩
        case measure => simp [intOf]; omega
      · obtain rfl : k = gs.length := by omega
        rw [List.take_length] at hWk hlen
        go_wp2_with fail
        refine (finish_any _ _ _ _ _ _ _ hWk (by omega) (by omega)).mono ?_
        rintro e w5 ⟨rfl, k5⟩
        go_wp2_with fail
        go_ret2
        rw [HP.out]
        refine ⟨rfl, xw.then (hkw.trans k5) (fun i hi e => ?_)⟩
        have e' : w1.heap.size ≤ i := e
        omega

set_option maxRecDepth 20000 in
set_option maxHeartbeats 400000 in
theorem write_any (B0 : Nat) (w : World) (nv gv : Value) (ss : List ByteArray) (gs : List (List (List Int))) (hn : RdS B0 w nv ss) (hg : RdIII B0 w gv gs) (hB : B0 ≤ w.heap.size) :
    Calls Tryz.prog 50 #[.agg #[nv, gv]] w fun e w' => e = .returned (.tuple #[.string ⟨(Pl.write (ss.map bytesOf) gs).1.toArray⟩, .int .i64 (Pl.write (ss.map bytesOf) gs).2]) ∧ Ext w w' := by
  have hext : ∀ o, Ext w (w.alloc o) := fun o => (Kp.refl _ _).alloc o
  go_enter Tryz.func50, Tryz.ntmps50
  go_wp2_with fail
  refine (fileWrite_any B0 _ nv gv ss gs (hn.kept (hext _) (fun _ f => f.elim)) (hg.kept (hext _) (fun _ f => f.elim)) (by simp; omega)).mono ?_
  rintro e w1 ⟨rfl, x1⟩
  go_wp2_with fail
  go_ret2
  exact ⟨rfl, (hext _).trans x1⟩
end Go.Proofs.YthicgffppmbamaaGreat
