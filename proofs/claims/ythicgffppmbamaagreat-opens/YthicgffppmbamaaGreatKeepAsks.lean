/- keepAsks: a list of requests is marked and kept. -/
import Derived.Test.YthicgffppmbamaaGreatLawAsks
namespace Go.Proofs.YthicgffppmbamaaGreat
open Go.RowKit

/-- where the longer list lies -/
abbrev Lies (w w' : World) (v v' : Value) : Prop := v'.ownBlock = v.ownBlock ∨ ∃ g, v'.ownBlock = some g ∧ w.heap.size ≤ g ∧ Ext w w'
/-- a row that starts its block -/
def AtZero (C : Nat → Prop) (w : World) (v : Value) (n : Nat) (m : Int) : Prop := RowAt C false w 3 v n (pats m n) ∧ ∃ g cap, v = .slice (some ⟨g, 0, none⟩) n cap ∧ n ≤ cap
theorem AtZero.of {C : Nat → Prop} {w : World} {v : Value} {n : Nat} {m : Int} (h : Own w 3 v n (pats m n)) (hp : 0 < n) (hC : ∀ g, v.ownBlock = some g → C g) : AtZero C w v n m := by
  obtain ⟨g, cap, e, h1, _⟩ := h.at hp
  exact ⟨(h.rowAt C hC).weak, g, cap, e, h1⟩
theorem AtZero.kp {C : Nat → Prop} {S : Nat → Prop} {w w' : World} {v : Value} {n : Nat} {m : Int} (h : AtZero C w v n m) (k : Kp S w w') (hS : ∀ i, C i → ¬ S i) : AtZero C w' v n m := ⟨h.1.go k hS (fun _ _ e => e), h.2⟩
/-- an elder list stays as it is behind an append onto l of marks -/
theorem AtZero.step {C : Nat → Prop} {w w' : World} {v l v' : Value} {p q : Nat} {m : Int} (h : AtZero C w v p m) (hpq : p ≤ q) (_hp : 0 < p) (k : Kp (Of l) w w') (h' : AtZero C w' v' q m) (s : Lies w w' l v') : AtZero C w' v p m := by
  obtain ⟨hr, g, cap, rfl, hc⟩ := h
  obtain ⟨hr', g', cap', rfl, hc'⟩ := h'
  refine ⟨?_, g, cap, rfl, hc⟩
  rcases s with e | ⟨g2, e, e2, x⟩
  · by_cases hl : l.ownBlock = some g
    · have eg : g' = g := by
        rw [hl] at e
        simpa [Value.ownBlock] using e
      subst eg
      exact hr'.prefix hpq ⟨_, cap, cap', rfl, hc, rfl⟩
    · obtain ⟨h0, ao, c0, e0, h1, h3⟩ := hr
      cases e0
      refine ⟨h0, _, _, rfl, h1, fun hn => ?_⟩
      obtain ⟨b, off, e1, hC, hlt, hcell, _⟩ := h3 hn
      cases e1
      have eb := k.block g hlt (fun e => hl e)
      exact ⟨g, 0, rfl, hC, Nat.lt_of_lt_of_le hlt k.size, fun j hj => by rw [World.cell?_of_block (w := w) (a := ⟨g, 0 + j, none⟩) eb]; exact hcell j hj, fun h => by cases h⟩
  · exact hr.go x (fun _ _ f => f) (fun _ _ e => e)

theorem src_pats (w : World) (b k : Nat) (hbk : b = w.heap.size) (m : Int) (arr : Array Value) (ha : arr = (pats m k).toArray) : Src Tryz.prog 3 67 (.slice (some ⟨b, 0, none⟩) k k) k (pats m k) (w.alloc (.cells arr 72)) := by
  subst ha
  subst hbk
  exact Src.ofSlice (P := Tryz.prog) _ (e' := 72) Tryz.underlying67 _ _ _ _ (pats_len _ _) (fun j u hu => by
    rw [Addr.add_lit, Nat.zero_add, World.cell?_alloc_new]
    simpa using hu) (fun u hu => by
    unfold pats at hu
    obtain ⟨l, hl, hu⟩ := List.mem_flatten.1 hu
    rw [List.eq_of_mem_replicate hl] at hu
    simp [pat] at hu
    rcases hu with rfl | rfl | rfl <;> rfl)
/-- half way: the box of the new entry -/
structure KS (w X : World) (Wb : Nat) (tv iv av rv lv : Value) (na n : Nat) (ecs : List Value) (m : Int) (xa xb xc : Value) : Prop where
  b1 : Blk X w.heap.size (pat m) 72
  b2 : Blk X (w.heap.size + 1) [lv, xa, xb, xc, .int .i64 m] 97
  bw : Blk X Wb [tv, iv, av, rv] 32
  oa : Own X 5 av na ecs
  ol : Own X 3 lv n (pats m n)
  kp : Kp (Of lv) w X
theorem KS.app {w X u u1 : World} {Wb : Nat} {tv iv av rv lv : Value} {na n : Nat} {ecs : List Value} {m : Int} {xa xb xc xa' xb' xc' : Value} (h : KS w X Wb tv iv av rv lv na n ecs m xa xb xc) (hlt : ∀ g, lv.ownBlock = some g → g < w.heap.size) (halt : ∀ g, av.ownBlock = some g → g < w.heap.size) (hWb : Wb < w.heap.size) (d2 : lv.ownBlock ≠ some Wb) (d3 : ∀ g, av.ownBlock = some g → lv.ownBlock ≠ some g)
    (xu : Ext X u) (k1 : Kp (Of lv) u u1) (o1 : Own u1 3 lv n (pats m n)) (j : Nat) (v : Value) (e : [lv, xa, xb, xc, .int .i64 m].set j v = [lv, xa', xb', xc', .int .i64 m]) :
    KS w (u1.setCell ⟨w.heap.size + 1, j, none⟩ v) Wb tv iv av rv lv na n ecs m xa' xb' xc' := by
  have k := kp_set' u1 (w.heap.size + 1) j v
  have kk : Kp (Of lv) X u1 := (Kp.of_ext xu).trans k1
  refine ⟨(h.b1.kept kk (fun e => by have := hlt _ e; omega)).kept k (by omega), ?_, (h.bw.kept kk (fun e => d2 e)).kept k (by omega), (h.oa.kept kk (fun g hg e => d3 g hg e)).kept k (fun g hg e => by have := halt g hg; omega), o1.kept k (fun g hg e => by have := hlt g hg; omega), (h.kp.trans kk).then k (fun i hi e => by omega)⟩
  have := (h.b2.kept kk (fun e => by have := hlt _ e; omega)).set j v
  rwa [e] at this

set_option maxRecDepth 20000 in
set_option maxHeartbeats 4000000 in
theorem keepAsks_any (w : World) (Wb : Nat) (tv iv av rv lv : Value) (na n : Nat) (ecs cs : List Value) (hb : Blk w Wb [tv, iv, av, rv] 32) (ha : Own w 5 av na ecs) (hl : Own w 3 lv n cs) (d1 : av.ownBlock ≠ some Wb) (d2 : lv.ownBlock ≠ some Wb) (d3 : ∀ g, av.ownBlock = some g → lv.ownBlock ≠ some g) (hna : na ≤ 1000000000) (hn : n ≤ 1000) :
    Calls Tryz.prog 35 #[PtrTo Wb 0, lv] w fun e w' => e = .returned (.tuple #[]) ∧ ∃ av' x, Blk w' Wb [tv, iv, av', rv] 32 ∧ Own w' 5 av' (na + 1) (ecs ++ kaCells x) ∧
      KAAt (fun g => (lv.ownBlock = some g ∨ w.heap.size ≤ g) ∧ av'.ownBlock ≠ some g) w' x ∧ Kp (fun k => k = Wb ∨ Of av k ∨ Of lv k) w w' ∧ (∀ g, av'.ownBlock = some g → av.ownBlock = some g ∨ w.heap.size ≤ g) := by
  have q2 := hb.cell 2
  simp only [List.getElem?_cons_zero, List.getElem?_cons_succ] at q2
  obtain ⟨aa, ac, rfl, hac⟩ := ha.shape
  obtain ⟨la, lc, rfl, hlc⟩ := hl.shape
  have hcs := hl.1
  have hllt : ∀ g, (Value.slice la n lc).ownBlock = some g → g < w.heap.size := fun g hg => hl.lt hg
  have halt : ∀ g, (Value.slice aa na ac).ownBlock = some g → g < w.heap.size := fun g hg => ha.lt hg
  have hblt := hb.lt
  have hmb : -2000000000 ≤ -1000 - (na : Int) ∧ -1000 - (na : Int) < 0 := by omega
  go_enter Tryz.func35, Tryz.ntmps35
  go_wp2_with fail
  generalize -1000 - (na : Int) = m at *
  have hB1 : Blk (w.alloc (.cells #[.int .i64 m, .int .i64 0, .int .i64 0] 72)) w.heap.size (pat m) 72 := Blk.of_alloc w [.int .i64 m, .int .i64 0, .int .i64 0] _
  have x1 : Ext w (w.alloc (.cells #[.int .i64 m, .int .i64 0, .int .i64 0] 72)) := (Kp.refl _ _).alloc _
  have z1 : (w.alloc (.cells #[.int .i64 m, .int .i64 0, .int .i64 0] 72)).heap.size = w.heap.size + 1 := by simp
  generalize w.alloc _ = W1 at *
  have hl1 := hl.ext x1
  have ha1 := ha.ext x1
  have hb1 := hb.kept x1 id
  clear hl ha hb q2
  go_loopw [6] (fun i wr => ∃ k : Nat, k ≤ n ∧ i = .int .i64 k ∧ Own wr 3 (.slice la n lc) n (pats m k ++ cs.drop (k * 3)) ∧ Kp (Of (.slice la n lc)) W1 wr ∧ wr.heap.size = W1.heap.size) (fun i _ => n - (intOf i).toNat)
  case atStart => exact ⟨0, Nat.zero_le _, rfl, by simpa [pats] using hl1, Kp.refl _ _, rfl⟩
  case round =>
    obtain ⟨k, hk, rfl, ho, hK, hz⟩ := hrel
    have hB := hB1.kept hK (fun e => by have := hllt _ e; omega)
    by_cases hkl : k < n
    · obtain ⟨g, cap, he, -, hglt, -⟩ := ho.at (by omega)
      cases he
      have b0 := hB.cell 0
      have b1 := hB.cell 1
      have b2 := hB.cell 2
      simp only [pat, List.getElem?_cons_zero, List.getElem?_cons_succ] at b0 b1 b2
      have hwr : ∀ j, j < 3 → (wr.cell? ⟨g, k * 3 + j, none⟩).isSome = true ∧ wr.frozen? ⟨g, k * 3 + j, none⟩ = false := fun j hj => by
        rcases ho.2 with ⟨e, _⟩ | ⟨g', cap', e, _, _, _, _, h5⟩
        · cases e
        · cases e
          exact h5 _ (by omega)
      obtain ⟨e0, f0⟩ := hwr 0 (by omega)
      obtain ⟨e1, f1⟩ := hwr 1 (by omega)
      obtain ⟨e2, f2⟩ := hwr 2 (by omega)
      obtain ⟨v0, e0⟩ := Option.isSome_iff_exists.1 e0
      obtain ⟨v1, e1⟩ := Option.isSome_iff_exists.1 e1
      obtain ⟨v2, e2⟩ := Option.isSome_iff_exists.1 e2
      simp only [Nat.add_zero] at e0 f0
      clear hwr
      have hM := Own.mark k ho hkl hcs
      have HM := hide hM
      clear hM
      go_wp2_with fail
      refine ⟨⟨k + 1, by omega, by go_num, unhide HM, ?_, ?_⟩, by simp [intOf]; omega⟩
      · exact ((hK.setCell (p := ⟨g, k * 3, none⟩) (.inl rfl) _).setCell (p := ⟨g, k * 3 + 1, none⟩) (.inl rfl) _).setCell (p := ⟨g, k * 3 + 2, none⟩) (.inl rfl) _
      · rw [size_set, size_set, size_set]; exact hz
    · obtain rfl : k = n := by omega
      have ho2 : Own wr 3 (.slice la k lc) k (pats m k) := by
        have : cs.drop (k * 3) = [] := List.drop_eq_nil_of_le (by omega)
        rw [this, List.append_nil] at ho
        exact ho
      have ha2 := ha1.kept hK (fun g hg e => d3 g hg e)
      have hb2 := hb1.kept hK (fun e => d2 e)
      have kw : Kp (Of (.slice la k lc)) w wr := (Kp.of_ext x1).trans hK
      have hlt2 : w.heap.size + 1 = wr.heap.size := by omega
      have HLT := hide hlt2
      clear ho ha1 hb1 hl1 hB1 hK x1 hlc hlt2 hz z1
      go_upto_region 7 with fail
      have hlt2 := unhide HLT
      have hS0 : KS w (wr.alloc (.cells #[.slice la k lc, .slice none 0 0, .slice none 0 0, .slice none 0 0, .int .i64 m] 97)) Wb tv iv (.slice aa na ac) rv (.slice la k lc) na k ecs m (.slice none 0 0) (.slice none 0 0) (.slice none 0 0) := by
        have xx : Ext wr (wr.alloc (.cells #[.slice la k lc, .slice none 0 0, .slice none 0 0, .slice none 0 0, .int .i64 m] 97)) := (Kp.refl _ _).alloc _
        refine ⟨hB.kept xx id, ?_, hb2.kept xx id, ha2.ext xx, ho2.ext xx, kw.trans (Kp.of_ext xx)⟩
        rw [hlt2]
        exact Blk.of_alloc wr [.slice la k lc, .slice none 0 0, .slice none 0 0, .slice none 0 0, .int .i64 m] _
      rw [← hlt2]
      have zX : (wr.alloc (.cells #[.slice la k lc, .slice none 0 0, .slice none 0 0, .slice none 0 0, .int .i64 m] 97)).heap.size = w.heap.size + 2 := by simp; omega
      clear hB hb2 ha2 ho2 kw hlt2 HLT
      have ZX := hide zX
      clear zX
      generalize wr.alloc _ = X0 at *
      have ZZ0 : Hid (w.heap.size + 2 ≤ X0.heap.size) := by show _ ≤ _; rw [ZX.out]; omega
      clear ZX
      obtain ⟨C, hC⟩ : ∃ C : Nat → Prop, C = fun g => (Value.slice la k lc).ownBlock = some g ∨ w.heap.size + 2 ≤ g := ⟨_, rfl⟩
      have HC1 : Hid (∀ g, (Value.slice la k lc).ownBlock = some g ∨ w.heap.size + 2 ≤ g → C g) := fun g hg => by rw [hC]; exact hg
      have HC2 : Hid (∀ g, C g → (Value.slice la k lc).ownBlock = some g ∨ w.heap.size + 2 ≤ g) := fun g hg => by rw [hC] at hg; exact hg
      have HCn : Hid (∀ g, C g → ¬ g = w.heap.size + 1) := fun g hg => by
        rw [hC] at hg
        rcases hg with e | e
        · have := hllt g e; omega
        · omega
      clear hC
      have p0 := hS0.b1.cell 0
      have p1 := hS0.b1.cell 1
      have p2 := hS0.b1.cell 2
      simp only [pat, List.getElem?_cons_zero, List.getElem?_cons_succ] at p0 p1 p2
      have HP1 : Hid (#[Value.int .i64 m, .int .i64 0, .int .i64 0] = (pats m 1).toArray) := rfl
      go_upto_region 8 with (at_builtin; go_must (refine wpList_append_s _ rfl _ _ 67 67 rfl 72 (.agg #[.int .i64 0, .int .i64 0, .int .i64 0]) 3 24 Tryz.underlying67 infoAsk rfl (.slice la k lc) k (pats m k) rfl (hS0.ol.ext_alloc _) _ rfl 1 _ (src_pats _ _ 1 rfl m _ (unhide HP1)) (by omega) (by omega) ?_); intro va ua ova kva lva sva; have r0 := (hS0.b2.kept ((Kp.of_ext ((Kp.refl _ _).alloc _)).trans kva) (fun e => by have := hllt _ e; omega)).cell 1; have r1 := (hS0.b2.kept ((Kp.of_ext ((Kp.refl _ _).alloc _)).trans kva) (fun e => by have := hllt _ e; omega)).free 1; simp only [List.getElem?_cons_zero, List.getElem?_cons_succ] at r0; obtain ⟨aa1, ca, rfl, hca⟩ := ova.shape)
      have hS1 := hS0.app hllt halt hblt d2 d3 ((Kp.refl _ _).alloc _) kva lva 1 (.slice aa1 (k + 1) ca) rfl
      have Kva := kp_set' ua (w.heap.size + 1) 1 (.slice aa1 (k + 1) ca)
      have ZZ1 : Hid (w.heap.size + 2 ≤ (ua.setCell ⟨w.heap.size + 1, 1, none⟩ (.slice aa1 (k + 1) ca)).heap.size) := by
        show _ ≤ _
        have h1 := kva.size
        have h2 := ZZ0.out
        rw [size_set]
        simp at h1
        omega
      have Ova : Own ua 3 (.slice aa1 (k + 1) ca) (k + 1) (pats m (k + 1)) := by rw [pats_add]; exact ova
      have Aa0 : AtZero C ua (.slice aa1 (k + 1) ca) (k + 1) m := AtZero.of Ova (by omega) (fun g hg => HC1.out g (by
        rcases sva with e | ⟨g', e1, e2, _⟩
        · exact .inl (by rw [← e]; exact hg)
        · rw [e1] at hg
          simp only [Option.some.injEq] at hg
          have := ZZ0.out
          simp at e2
          exact .inr (by omega)))
      have Aa1 := Aa0.kp Kva HCn.out
      clear hS0 ZZ0 Ova Aa0 Kva ova kva lva sva p0 p1 p2 r0 r1 HP1 
      generalize ua.setCell _ _ = X1 at *
      have p0 := hS1.b1.cell 0
      have p1 := hS1.b1.cell 1
      have p2 := hS1.b1.cell 2
      simp only [pat, List.getElem?_cons_zero, List.getElem?_cons_succ] at p0 p1 p2
      have HP2 : Hid (#[Value.int .i64 m, .int .i64 0, .int .i64 0, .int .i64 m, .int .i64 0, .int .i64 0] = (pats m 2).toArray) := rfl
      go_upto_region 9 with (at_builtin; go_must (refine wpList_append_s _ rfl _ _ 67 67 rfl 72 (.agg #[.int .i64 0, .int .i64 0, .int .i64 0]) 3 24 Tryz.underlying67 infoAsk rfl (.slice la k lc) k (pats m k) rfl (hS1.ol.ext_alloc _) _ rfl 2 _ (src_pats _ _ 2 rfl m _ (unhide HP2)) (by omega) (by omega) ?_); intro vb ub ovb kvb lvb svb; have r0 := (hS1.b2.kept ((Kp.of_ext ((Kp.refl _ _).alloc _)).trans kvb) (fun e => by have := hllt _ e; omega)).cell 2; have r1 := (hS1.b2.kept ((Kp.of_ext ((Kp.refl _ _).alloc _)).trans kvb) (fun e => by have := hllt _ e; omega)).free 2; simp only [List.getElem?_cons_zero, List.getElem?_cons_succ] at r0; obtain ⟨ab, cb, rfl, hcb⟩ := ovb.shape)
      have hS2 := hS1.app hllt halt hblt d2 d3 ((Kp.refl _ _).alloc _) kvb lvb 2 (.slice ab (k + 2) cb) rfl
      have Kvb := kp_set' ub (w.heap.size + 1) 2 (.slice ab (k + 2) cb)
      have ZZ2 : Hid (w.heap.size + 2 ≤ (ub.setCell ⟨w.heap.size + 1, 2, none⟩ (.slice ab (k + 2) cb)).heap.size) := by
        show _ ≤ _
        have h1 := kvb.size
        have h2 := ZZ1.out
        rw [size_set]
        simp at h1
        omega
      have Ovb : Own ub 3 (.slice ab (k + 2) cb) (k + 2) (pats m (k + 2)) := by rw [pats_add]; exact ovb
      have Ab0 : AtZero C ub (.slice ab (k + 2) cb) (k + 2) m := AtZero.of Ovb (by omega) (fun g hg => HC1.out g (by
        rcases svb with e | ⟨g', e1, e2, _⟩
        · exact .inl (by rw [← e]; exact hg)
        · rw [e1] at hg
          simp only [Option.some.injEq] at hg
          have := ZZ1.out
          simp at e2
          exact .inr (by omega)))
      have Aa2 := (((Aa1.kp (S := fun _ => False) ((Kp.refl _ _).alloc _) (fun _ _ f => f)).step (by omega) (by omega) kvb Ab0 svb).kp Kvb HCn.out)
      have Ab2 := Ab0.kp Kvb HCn.out
      clear hS1 ZZ1 Ovb Ab0 Kvb ovb kvb lvb svb p0 p1 p2 r0 r1 HP2 Aa1
      generalize ub.setCell _ _ = X2 at *
      have p0 := hS2.b1.cell 0
      have p1 := hS2.b1.cell 1
      have p2 := hS2.b1.cell 2
      simp only [pat, List.getElem?_cons_zero, List.getElem?_cons_succ] at p0 p1 p2
      have HP3 : Hid (#[Value.int .i64 m, .int .i64 0, .int .i64 0, .int .i64 m, .int .i64 0, .int .i64 0, .int .i64 m, .int .i64 0, .int .i64 0] = (pats m 3).toArray) := rfl
      go_upto_region 10 with (at_builtin; go_must (refine wpList_append_s _ rfl _ _ 67 67 rfl 72 (.agg #[.int .i64 0, .int .i64 0, .int .i64 0]) 3 24 Tryz.underlying67 infoAsk rfl (.slice la k lc) k (pats m k) rfl (hS2.ol.ext_alloc _) _ rfl 3 _ (src_pats _ _ 3 rfl m _ (unhide HP3)) (by omega) (by omega) ?_); intro vc uc ovc kvc lvc svc; have r0 := (hS2.b2.kept ((Kp.of_ext ((Kp.refl _ _).alloc _)).trans kvc) (fun e => by have := hllt _ e; omega)).cell 3; have r1 := (hS2.b2.kept ((Kp.of_ext ((Kp.refl _ _).alloc _)).trans kvc) (fun e => by have := hllt _ e; omega)).free 3; simp only [List.getElem?_cons_zero, List.getElem?_cons_succ] at r0; obtain ⟨ac1, cc, rfl, hcc⟩ := ovc.shape)
      have hS3 := hS2.app hllt halt hblt d2 d3 ((Kp.refl _ _).alloc _) kvc lvc 3 (.slice ac1 (k + 3) cc) rfl
      have Kvc := kp_set' uc (w.heap.size + 1) 3 (.slice ac1 (k + 3) cc)
      have ZZ3 : Hid (w.heap.size + 2 ≤ (uc.setCell ⟨w.heap.size + 1, 3, none⟩ (.slice ac1 (k + 3) cc)).heap.size) := by
        show _ ≤ _
        have h1 := kvc.size
        have h2 := ZZ2.out
        rw [size_set]
        simp at h1
        omega
      have Ovc : Own uc 3 (.slice ac1 (k + 3) cc) (k + 3) (pats m (k + 3)) := by rw [pats_add]; exact ovc
      have Ac0 : AtZero C uc (.slice ac1 (k + 3) cc) (k + 3) m := AtZero.of Ovc (by omega) (fun g hg => HC1.out g (by
        rcases svc with e | ⟨g', e1, e2, _⟩
        · exact .inl (by rw [← e]; exact hg)
        · rw [e1] at hg
          simp only [Option.some.injEq] at hg
          have := ZZ2.out
          simp at e2
          exact .inr (by omega)))
      have Aa3 := (((Aa2.kp (S := fun _ => False) ((Kp.refl _ _).alloc _) (fun _ _ f => f)).step (by omega) (by omega) kvc Ac0 svc).kp Kvc HCn.out)
      have Ab3 := (((Ab2.kp (S := fun _ => False) ((Kp.refl _ _).alloc _) (fun _ _ f => f)).step (by omega) (by omega) kvc Ac0 svc).kp Kvc HCn.out)
      have Ac3 := Ac0.kp Kvc HCn.out
      clear hS2 ZZ2 Ovc Ac0 Kvc ovc kvc lvc svc p0 p1 p2 r0 r1 HP3 Aa2 Ab2
      generalize uc.setCell _ _ = X3 at *
      have q2 := hS3.bw.cell 2
      have t0 := hS3.b2.cell 0
      have t1 := hS3.b2.cell 1
      have t2 := hS3.b2.cell 2
      have t3 := hS3.b2.cell 3
      have t4 := hS3.b2.cell 4
      have f2 := hS3.bw.free 2
      simp only [List.getElem?_cons_zero, List.getElem?_cons_succ] at q2 t0 t1 t2 t3 t4
      have hWB : Wb ≠ w.heap.size + 1 := by omega
      have hS : ∀ u, Kp (fun g => g ≠ Wb ∧ g ≠ w.heap.size + 1) X3 u → u.cell? ⟨Wb, 2, none⟩ = some (.slice aa na ac) ∧ u.cell? ⟨w.heap.size + 1, 0, none⟩ = some (.slice la k lc) ∧ u.cell? ⟨w.heap.size + 1, 1, none⟩ = some (.slice aa1 (k + 1) ca) ∧ u.cell? ⟨w.heap.size + 1, 2, none⟩ = some (.slice ab (k + 2) cb) ∧ u.cell? ⟨w.heap.size + 1, 3, none⟩ = some (.slice ac1 (k + 3) cc) ∧ u.cell? ⟨w.heap.size + 1, 4, none⟩ = some (.int .i64 m) := fun u hu =>
        ⟨hu.cell q2 (by simp), hu.cell t0 (by simp), hu.cell t1 (by simp), hu.cell t2 (by simp), hu.cell t3 (by simp), hu.cell t4 (by simp)⟩
      have HS := hide hS
      have HOA : Hid (∀ u, Ext X3 u → Own u 5 (.slice aa na ac) na ecs) := fun u hu => hS3.oa.ext hu
      have HVA : Hid (∀ g, (Value.slice aa na ac).ownBlock = some g → g ≠ Wb ∧ g ≠ w.heap.size + 1) := fun g hg => ⟨fun e => d1 (by rw [← e]; exact hg), fun e => by have := halt g hg; omega⟩
      have HEL : Hid (#[Value.slice la k lc, .slice aa1 (k + 1) ca, .slice ab (k + 2) cb, .slice ac1 (k + 3) cc, .int .i64 m] = (kaCells ⟨.slice la k lc, .slice aa1 (k + 1) ca, .slice ab (k + 2) cb, .slice ac1 (k + 3) cc, k, m⟩).toArray) := rfl
      have HE1 : Hid (∀ u ∈ kaCells ⟨.slice la k lc, .slice aa1 (k + 1) ca, .slice ab (k + 2) cb, .slice ac1 (k + 3) cc, k, m⟩, u.oneCell' = true) := by
        intro u hu
        simp [kaCells] at hu
        rcases hu with rfl | rfl | rfl | rfl | rfl <;> rfl
      have hK1 : Kp (fun g => g ≠ Wb ∧ g ≠ w.heap.size + 1) X3 X3.drew := (Kp.refl _ _).drew
      clear hS
      go_wp2_with fail
      refine wp_region_late (n := 10) (Kp (fun g => g ≠ Wb ∧ g ≠ w.heap.size + 1) X3) (by kernel_rfl) ?_
      refine Late.take (i := 0) (oi := { dst := some 47, op := Go.Op.move (Go.Operand.tmp 0), type := 26, pos := "law.go:85", after := #[], guard := none }) (v := ?_) rfl (by kernel_rfl) (by kernel_rfl) (by decide) (by kernel_rfl) (by kernel_rfl) (fun _ _ _ h => h) rfl ?_ hK1 ?_
      rotate_left
      · (intro u hu; obtain ⟨y0, y1, y2, y3, y4, y5⟩ := (unhide HS) u hu; go_simp; first | done | with_reducible rfl)
      try simp only [Act.put, List.setIfInBounds_toArray, List.set_cons_zero, List.set_cons_succ]
      refine Late.take (i := 1) (oi := { dst := some 48, op := Go.Op.move (Go.Operand.tmp 0), type := 26, pos := "law.go:85", after := #[], guard := none }) (v := ?_) rfl (by kernel_rfl) (by kernel_rfl) (by decide) (by kernel_rfl) (by kernel_rfl) (fun _ _ _ h => h) rfl ?_ hK1 ?_
      rotate_left
      · (intro u hu; obtain ⟨y0, y1, y2, y3, y4, y5⟩ := (unhide HS) u hu; go_simp; first | done | with_reducible rfl)
      try simp only [Act.put, List.setIfInBounds_toArray, List.set_cons_zero, List.set_cons_succ]
      refine Late.take (i := 2) (oi := { dst := some 49, op := Go.Op.nilCheck (Go.Operand.tmp 48), type := 0, pos := "law.go:85", after := #[{ on := 1, ground := Go.Ground.data }], guard := none }) (v := ?_) rfl (by kernel_rfl) (by kernel_rfl) (by decide) (by kernel_rfl) (by kernel_rfl) (fun _ _ _ h => h) rfl ?_ hK1 ?_
      rotate_left
      · (intro u hu; obtain ⟨y0, y1, y2, y3, y4, y5⟩ := (unhide HS) u hu; go_simp; first | done | with_reducible rfl)
      try simp only [Act.put, List.setIfInBounds_toArray, List.set_cons_zero, List.set_cons_succ]
      refine Late.take (i := 3) (oi := { dst := some 50, op := Go.Op.fieldAddr 32 (Go.Operand.tmp 49) 2, type := 0, pos := "law.go:85", after := #[{ on := 2, ground := Go.Ground.data }], guard := none }) (v := ?_) rfl (by kernel_rfl) (by kernel_rfl) (by decide) (by kernel_rfl) (by kernel_rfl) (fun _ _ _ h => h) rfl ?_ hK1 ?_
      rotate_left
      · (intro u hu; obtain ⟨y0, y1, y2, y3, y4, y5⟩ := (unhide HS) u hu; go_simp; first | done | with_reducible rfl)
      try simp only [Act.put, List.setIfInBounds_toArray, List.set_cons_zero, List.set_cons_succ]
      refine Late.take (i := 4) (oi := { dst := some 51, op := Go.Op.load 29 (Go.Operand.tmp 50), type := 29, pos := "law.go:85", after := #[{ on := 3, ground := Go.Ground.data }], guard := none }) (v := ?_) rfl (by kernel_rfl) (by kernel_rfl) (by decide) (by kernel_rfl) (by kernel_rfl) (fun _ _ _ h => h) rfl ?_ hK1 ?_
      rotate_left
      · (intro u hu; obtain ⟨y0, y1, y2, y3, y4, y5⟩ := (unhide HS) u hu; go_simp; first | done | with_reducible rfl)
      try simp only [Act.put, List.setIfInBounds_toArray, List.set_cons_zero, List.set_cons_succ]
      refine Late.take (i := 5) (oi := { dst := some 52, op := Go.Op.load 97 (Go.Operand.tmp 7), type := 97, pos := "law.go:85", after := #[], guard := none }) (v := ?_) rfl (by kernel_rfl) (by kernel_rfl) (by decide) (by kernel_rfl) (by kernel_rfl) (fun _ _ _ h => h) rfl ?_ hK1 ?_
      rotate_left
      · (intro u hu; obtain ⟨y0, y1, y2, y3, y4, y5⟩ := (unhide HS) u hu; go_simp; first | done | with_reducible rfl)
      try simp only [Act.put, List.setIfInBounds_toArray, List.set_cons_zero, List.set_cons_succ]
      refine Late.one (i := 6) (o := { dst := some 53, op := Go.Op.buildSlice 29 1 #[(0, Go.Operand.tmp 52)], type := 29, pos := "law.go:85", after := #[{ on := 5, ground := Go.Ground.data }], guard := none }) (by kernel_rfl) rfl (fun K hK => ?_)
      go_simp
      refine hK _ _ (fun _ => ((Kp.refl _ _).alloc _).drew) ?_
      clear hK K
      try simp only [Act.put, List.setIfInBounds_toArray, List.set_cons_zero, List.set_cons_succ]
      refine Late.one (i := 7) (o := { dst := some 54, op := Go.Op.call { callee := Go.Callee.builtin Go.Builtin.append, args := #[Go.Operand.tmp 51, Go.Operand.tmp 53], argTypes := #[29, 29] }, type := 29, pos := "law.go:85", after := #[{ on := 4, ground := Go.Ground.data }, { on := 6, ground := Go.Ground.data }], guard := none }) (by kernel_rfl) rfl (fun K hK => ?_)
      refine step_append_g rfl _ _ 29 29 rfl 97 zKA 5 104 Tryz.underlying29 infoKA rfl (.slice aa na ac) na ecs rfl ((unhide HOA) _ ((Kp.refl _ _).alloc _).drew) _ (by rfl) 1 _ (src_elemD _ _ _ Tryz.underlying29 _ _ (unhide HEL) (unhide HE1)) (by omega) (by omega) ?_
      intro av' w1 o2 k2 s2
      have k12 : Kp (fun g => g ≠ Wb ∧ g ≠ w.heap.size + 1) X3 w1 := ((Kp.refl _ _).alloc _).drew.trans (k2.mono (fun k _ e => (unhide HVA) k e))
      refine hK _ _ (fun _ => k12) ?_
      clear hK K
      obtain ⟨a', c', rfl, hc'⟩ := o2.shape
      try simp only [Act.put, List.setIfInBounds_toArray, List.set_cons_zero, List.set_cons_succ]
      have q2' : w1.cell? ⟨Wb, 2, none⟩ = some (.slice aa na ac) := k12.cell q2 (by simp)
      have f2' : w1.frozen? ⟨Wb, 2, none⟩ = false := by rw [World.frozen?_of_block (w := X3) (a := ⟨Wb, 2, none⟩) (k12.block Wb hS3.bw.lt (by simp))]; exact f2
      refine Late.one (i := 8) (o := { dst := some 55, op := Go.Op.nilCheck (Go.Operand.tmp 47), type := 0, pos := "law.go:85", after := #[{ on := 0, ground := Go.Ground.data }, { on := 0, ground := Go.Ground.phase }, { on := 1, ground := Go.Ground.phase }, { on := 2, ground := Go.Ground.phase }, { on := 3, ground := Go.Ground.phase }, { on := 4, ground := Go.Ground.phase }, { on := 5, ground := Go.Ground.phase }, { on := 6, ground := Go.Ground.phase }, { on := 7, ground := Go.Ground.phase }], guard := none }) (by kernel_rfl) rfl (fun K hK => ?_)
      go_simp
      refine hK _ _ (fun _ => k12) ?_
      clear hK K
      try simp only [Act.put, List.setIfInBounds_toArray, List.set_cons_zero, List.set_cons_succ]
      refine Late.one (i := 9) (o := { dst := some 56, op := Go.Op.fieldAddr 32 (Go.Operand.tmp 55) 2, type := 0, pos := "law.go:85", after := #[{ on := 8, ground := Go.Ground.data }, { on := 0, ground := Go.Ground.phase }, { on := 1, ground := Go.Ground.phase }, { on := 2, ground := Go.Ground.phase }, { on := 3, ground := Go.Ground.phase }, { on := 4, ground := Go.Ground.phase }, { on := 5, ground := Go.Ground.phase }, { on := 6, ground := Go.Ground.phase }, { on := 7, ground := Go.Ground.phase }], guard := none }) (by kernel_rfl) rfl (fun K hK => ?_)
      go_simp
      refine hK _ _ (fun _ => k12) ?_
      clear hK K
      try simp only [Act.put, List.setIfInBounds_toArray, List.set_cons_zero, List.set_cons_succ]
      refine Late.one (i := 10) (o := { dst := none, op := Go.Op.store 29 (Go.Operand.tmp 56) (Go.Operand.tmp 54), type := 0, pos := "law.go:85", after := #[{ on := 9, ground := Go.Ground.data }, { on := 7, ground := Go.Ground.data }, { on := 7, ground := Go.Ground.chain }, { on := 0, ground := Go.Ground.phase }, { on := 1, ground := Go.Ground.phase }, { on := 2, ground := Go.Ground.phase }, { on := 3, ground := Go.Ground.phase }, { on := 4, ground := Go.Ground.phase }, { on := 5, ground := Go.Ground.phase }, { on := 6, ground := Go.Ground.phase }, { on := 7, ground := Go.Ground.phase }], guard := none }) (by kernel_rfl) rfl (fun K hK => ?_)
      go_simp
      refine hK _ _ (fun h => absurd rfl h) ?_
      clear hK K
      try simp only [Act.put, List.setIfInBounds_toArray, List.set_cons_zero, List.set_cons_succ]
      refine Late.done (by kernel_rfl) ?_ _
      go_end0
      have kk : Kp (Of (.slice aa na ac)) X3 w1 := ((Kp.refl _ _).alloc _).drew.trans k2
      have ks := kp_set' w1 Wb 2 (.slice a' (na + 1) c')
      have hXs := (unhide ZZ3)
      have hav' : ∀ g, (Value.slice a' (na + 1) c').ownBlock = some g → (Value.slice aa na ac).ownBlock = some g ∨ X3.heap.size ≤ g := fun g hg => by
        rcases s2 with e | ⟨g', e1, e2⟩
        · exact .inl (by rw [← e]; exact hg)
        · rw [e1] at hg
          simp only [Option.some.injEq] at hg
          subst hg
          exact .inr (by have e3 : (X3.alloc (Obj.cells #[Value.slice la k lc, Value.slice aa1 (k + 1) ca, Value.slice ab (k + 2) cb, Value.slice ac1 (k + 3) cc, Value.int .i64 m] 97)).drew.heap.size = X3.heap.size + 1 := by show (World.alloc _ _).heap.size = _; simp
                         omega)
      have hCl : ∀ g, C g → ¬ Of (.slice aa na ac) g := fun g hg e => by
        rcases HC2.out g hg with e' | e'
        · exact d3 g e e'
        · have := halt g e; omega
      have hCc : ∀ g, g < X3.heap.size → C g → ((Value.slice la k lc).ownBlock = some g ∨ w.heap.size ≤ g) ∧ (Value.slice a' (na + 1) c').ownBlock ≠ some g := fun g hlt hg => by
        refine ⟨(HC2.out g hg).imp id (fun h => by omega), fun e => ?_⟩
        rcases hav' g e with e' | e'
        · exact hCl g hg e'
        · omega
      have hCW : ∀ g, ((Value.slice la k lc).ownBlock = some g ∨ w.heap.size ≤ g) ∧ (Value.slice a' (na + 1) c').ownBlock ≠ some g → ¬ g = Wb := fun g hg e => by
        rcases hg.1 with e' | e'
        · exact d2 (by rw [← e]; exact e')
        · omega
      have hrow : ∀ (v : Value) (q : Nat), RowAt C false X3 3 v q (pats m q) → RowAt (fun g => ((Value.slice la k lc).ownBlock = some g ∨ w.heap.size ≤ g) ∧ (Value.slice a' (na + 1) c').ownBlock ≠ some g) false (w1.setCell ⟨Wb, 2, none⟩ (.slice a' (na + 1) c')) 3 v q (pats m q) := fun v q h =>
        (h.go kk hCl hCc).go ks hCW (fun _ _ e => e)
      refine ⟨rfl, .slice a' (na + 1) c', ⟨.slice la k lc, .slice aa1 (k + 1) ca, .slice ab (k + 2) cb, .slice ac1 (k + 3) cc, k, m⟩, ?_, ?_, ⟨by show k ≤ _; omega, hrow _ _ (hS3.ol.rowAt C (fun g hg => HC1.out g (.inl hg))).weak, hrow _ _ Aa3.1, hrow _ _ Ab3.1, hrow _ _ Ac3.1⟩, ?_, fun g hg => (hav' g hg).imp id (fun h => by omega)⟩
      · have := (hS3.bw.kept kk (fun e => d1 e)).set 2 (.slice a' (na + 1) c')
        simpa using this
      · exact o2.kept ks (fun g hg e => by
          rcases hav' g hg with e' | e'
          · exact d1 (by rw [← e]; exact e')
          · omega)
      · refine ((hS3.kp.mono (S' := fun k_1 => k_1 = Wb ∨ Of (.slice aa na ac) k_1 ∨ Of (.slice la k lc) k_1) (fun i _ h => .inr (.inr h))).then kk (fun i _ h => .inr (.inl h))).then ks (fun i _ h => .inl h)
end Go.Proofs.YthicgffppmbamaaGreat
