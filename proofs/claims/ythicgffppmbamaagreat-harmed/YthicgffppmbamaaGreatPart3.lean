/- KsTable, KsWant, KsOwn, Bits, Reader, Idx, Step, Fetch, Clone, Keep, Set, ScOpen. -/
import Derived.WalkKit
import Derived.Laws.BytesString
import Derived.Laws.IdiomStrings
import Derived.Lib.Strings
import Derived.Lib.BufferWrite
import Derived.Lib.UnsafeStr
import Derived.Laws.MakeOwn
import Derived.Deep.MidRow
import Derived.Deep.RegionHeld3
import Derived.Test.YthicgffppmbamaaGreatPart1
import Derived.Test.YthicgffppmbamaaGreatPart2
namespace Go.Proofs.YthicgffppmbamaaGreat
open Go.RowKit

/-- lists of lists, in blocks with C -/
def TII (C : Nat → Prop) (w : World) (v : Value) (xss : List (List Int)) : Prop :=
  ∃ vs : List Value, RdP C w v vs ∧ vs.length = xss.length ∧ ∀ (i : Nat) (x : Value) (xs : List Int), vs[i]? = some x → xss[i]? = some xs → RdP C w x (xs.map I)
def TIII (C : Nat → Prop) (w : World) (v : Value) (gs : List (List (List Int))) : Prop :=
  ∃ vs : List Value, RdP C w v vs ∧ vs.length = gs.length ∧ ∀ (i : Nat) (x : Value) (xs : List (List Int)), vs[i]? = some x → gs[i]? = some xs → TII C w x xs
theorem TII.kept {C : Nat → Prop} {S : Nat → Prop} {w w' : World} {v : Value} {xss : List (List Int)} (h : TII C w v xss) (k : Kp S w w') (hS : ∀ i, C i → ¬ S i) : TII C w' v xss := by
  obtain ⟨vs, h1, h2, h3⟩ := h
  exact ⟨vs, h1.kept k hS, h2, fun i x xs a b => (h3 i x xs a b).kept k hS⟩
theorem TIII.kept {C : Nat → Prop} {S : Nat → Prop} {w w' : World} {v : Value} {gs : List (List (List Int))} (h : TIII C w v gs) (k : Kp S w w') (hS : ∀ i, C i → ¬ S i) : TIII C w' v gs := by
  obtain ⟨vs, h1, h2, h3⟩ := h
  exact ⟨vs, h1.kept k hS, h2, fun i x xs a b => (h3 i x xs a b).kept k hS⟩
theorem TII.mono {C C' : Nat → Prop} {w : World} {v : Value} {xss : List (List Int)} (h : TII C w v xss) (hC : ∀ b, b < w.heap.size → C b → C' b) : TII C' w v xss := by
  obtain ⟨vs, h1, h2, h3⟩ := h
  exact ⟨vs, h1.mono hC, h2, fun i x xs a b => (h3 i x xs a b).mono hC⟩
theorem TIII.mono {C C' : Nat → Prop} {w : World} {v : Value} {gs : List (List (List Int))} (h : TIII C w v gs) (hC : ∀ b, b < w.heap.size → C b → C' b) : TIII C' w v gs := by
  obtain ⟨vs, h1, h2, h3⟩ := h
  exact ⟨vs, h1.mono hC, h2, fun i x xs a b => (h3 i x xs a b).mono hC⟩
theorem TII.rd {C : Nat → Prop} {w : World} {v : Value} {xss : List (List Int)} (h : TII C w v xss) : RdII w.heap.size w v xss := by
  obtain ⟨vs, h1, h2, h3⟩ := h
  exact ⟨vs, h1.rd, h2, fun i x xs a b => (h3 i x xs a b).rd⟩
theorem TIII.rd {C : Nat → Prop} {w : World} {v : Value} {gs : List (List (List Int))} (h : TIII C w v gs) : RdIII w.heap.size w v gs := by
  obtain ⟨vs, h1, h2, h3⟩ := h
  exact ⟨vs, h1.rd, h2, fun i x xs a b => (h3 i x xs a b).rd⟩
theorem Own.rdP {w : World} {n : Nat} {v : Value} {cs : List Value} (h : Own w 1 v n cs) (hn : n ≤ 1000000) (C : Nat → Prop) (hC : ∀ g, v.ownBlock = some g → C g) : RdP C w v cs := by
  have hl := h.1
  rw [Nat.mul_one] at hl
  rcases h.2 with ⟨rfl, rfl⟩ | ⟨g, cap, rfl, h1, h2, h3, h4, h5⟩
  · obtain rfl := List.eq_nil_of_length_eq_zero hl
    exact RdP.nil C w
  · exact ⟨_, cap, by rw [hl], by omega, by omega, fun _ => ⟨g, 0, rfl, hC g rfl, fun j hj => by rw [Nat.zero_add]; exact h4 j (by omega)⟩⟩
theorem snoc_all {α : Type} {Q : Value → α → Prop} {vs : List Value} {xs : List α} {v : Value} {x : α} (hl : vs.length = xs.length) (h : ∀ (i : Nat) (y : Value) (z : α), vs[i]? = some y → xs[i]? = some z → Q y z) (hx : Q v x) : ∀ (i : Nat) (y : Value) (z : α), (vs ++ [v])[i]? = some y → (xs ++ [x])[i]? = some z → Q y z := fun i y z a b => by
  by_cases hi : i < vs.length
  · rw [List.getElem?_append_left hi] at a
    rw [List.getElem?_append_left (by omega)] at b
    exact h i y z a b
  · rw [List.getElem?_append_right (by omega), List.getElem?_singleton] at a
    rw [List.getElem?_append_right (by omega), List.getElem?_singleton] at b
    split at a
    · rw [if_pos (by omega)] at b
      cases a
      cases b
      exact hx
    · cases a
def names4B : List ByteArray := [⟨#[97]⟩, ⟨#[98, 98]⟩, ⟨#[99]⟩, ⟨#[100, 100, 100, 100]⟩]
theorem names4_eq : names4B.map bytesOf = names4 := rfl
theorem kiS : (Tryz.prog.info? 9).map (fun i => (i.zero, i.size, i.bytes)) = some (some (.string ByteArray.empty), 1, 16) := by kernel_rfl
theorem kiI : (Tryz.prog.info? 3).map (fun i => (i.zero, i.size, i.bytes)) = some (some (.int .i64 0), 1, 8) := by kernel_rfl
theorem kiL : (Tryz.prog.info? 46).map (fun i => (i.zero, i.size, i.bytes)) = some (some (.slice none 0 0), 1, 24) := by kernel_rfl
theorem kiG : (Tryz.prog.info? 51).map (fun i => (i.zero, i.size, i.bytes)) = some (some (.slice none 0 0), 1, 24) := by kernel_rfl
theorem one_cell (v : Value) (h : v.oneCell' = true) : ∀ u ∈ [v], u.oneCell' = true := fun u hu => by
  simp at hu
  subst hu
  exact h

set_option maxRecDepth 20000 in
set_option maxHeartbeats 4000000 in
theorem ktable_any (w : World) (Sb B : Nat) (lv : Value) (l : List Int) (h : SrcAt w Sb B lv l 0) :
    Calls Tryz.prog 47 #[PtrTo Sb 0] w fun e w' => ∃ nv gv, e = .returned (.agg #[nv, gv]) ∧ RdP (fun b => w.heap.size ≤ b) w' nv ((names4B.take (sN l)).map Value.string) ∧ TIII (fun b => w.heap.size ≤ b) w' gv (sGs l).1 ∧ SrcAt w' Sb B lv l (sGs l).2 ∧ Kp (fun k => k = Sb) w w' := by
  have hSlt := h.blk.lt
  have h0 := h
  have xw : Ext w ((w.alloc (.cells #[.slice none 0 0, .slice none 0 0] 42)).alloc (.cells #[.slice none 0 0, .slice none 0 0] 42)) := ((Kp.refl _ _).alloc _).alloc _
  go_enter Tryz.func47, Tryz.ntmps47
  go_wp2_with fail
  generalize hW0 : (w.alloc (.cells #[.slice none 0 0, .slice none 0 0] 42)).alloc (.cells #[.slice none 0 0, .slice none 0 0] 42) = W0 at *
  have hR0 : Blk W0 w.heap.size [.slice none 0 0, .slice none 0 0] 42 := by
    rw [← hW0]
    exact (Blk.of_alloc w [.slice none 0 0, .slice none 0 0] _).kept (S := fun _ => False) ((Kp.refl _ _).alloc _) id
  have hT0 : Blk W0 (w.heap.size + 1) [.slice none 0 0, .slice none 0 0] 42 := by
    rw [← hW0]
    have := Blk.of_alloc (w.alloc (.cells #[.slice none 0 0, .slice none 0 0] 42)) [.slice none 0 0, .slice none 0 0] 42
    simpa using this
  have zW0 : Hid (W0.heap.size = w.heap.size + 2) := by show _ = _; rw [← hW0]; simp
  clear hW0
  have hN4 := sNext_lt l 0 4 (by omega)
  obtain ⟨n0, i1, e1⟩ : ∃ n0 i1, sNext l 0 4 = (n0, i1) := ⟨_, _, rfl⟩
  have HNx := hide (snext_any W0 Sb B lv l 0 4 (h0.ext xw) (by omega) (by omega))
  rw [e1] at HNx hN4
  have HSN : Hid (sN l = 1 + n0 ∧ sG l = sNext l i1 4) := by show _ ∧ _; unfold sN sG; rw [e1]; exact ⟨rfl, rfl⟩
  clear e1
  have hN4 : n0 < 4 := hN4
  refine (unhide HNx).mono ?_
  rintro e w1 ⟨rfl, h1, k1⟩
  have k01 : Kp (fun k => k = Sb) w w1 := (Kp.of_ext xw).trans k1
  have hR1 := hR0.kept k1 (by show ¬ w.heap.size = Sb; omega)
  have hT1 := hT0.kept k1 (by show ¬ w.heap.size + 1 = Sb; omega)
  have z1 : w.heap.size + 2 ≤ w1.heap.size := by have := k1.size; have := zW0.out; omega
  clear HNx h0 h hR0 hT0 k1 xw zW0
  go_wp2_with fail
  go_loopw [5] (fun i wr => ∃ (k : Nat) (nv : Value), i = .int .i64 k ∧ k ≤ 1 + n0 ∧ Blk wr (w.heap.size + 1) [nv, .slice none 0 0] 42 ∧ Own wr 1 nv k ((names4B.take k).map Value.string) ∧ (∀ g, nv.ownBlock = some g → w1.heap.size ≤ g) ∧ Kp (fun k => k = w.heap.size + 1) w1 wr) (fun i _ => 5 - (intOf i).toNat)
  case atStart => exact ⟨0, _, rfl, by omega, hT1, by simpa using Own.nil _ _, fun g e => by simp [Value.ownBlock] at e, Kp.refl _ _⟩
  case round =>
    obtain ⟨k, nv, rfl, hk, hT, ho, hg, hKw⟩ := hrel
    obtain ⟨na, nc, rfl, hnc⟩ := ho.shape
    by_cases hkl : k < 1 + n0
    · have hkl2 : (k : Int) < 1 + (n0 : Int) := by omega
      have c0 := hT.cell 0
      have f0 := hT.free 0
      simp only [List.getElem?_cons_zero] at c0
      obtain ⟨y, hy, hy2⟩ : ∃ y, (#[Value.string ⟨#[97]⟩, .string ⟨#[98, 98]⟩, .string ⟨#[99]⟩, .string ⟨#[100, 100, 100, 100]⟩] : Array Value)[k]? = some (.string y) ∧ (names4B.take (k + 1)).map Value.string = (names4B.take k).map Value.string ++ [.string y] := by
        have hk4 : k = 0 ∨ k = 1 ∨ k = 2 ∨ k = 3 := by omega
        rcases hk4 with rfl | rfl | rfl | rfl <;> exact ⟨_, rfl, rfl⟩
      have HY := hide hy2
      have kk0 : (0 : Int) ≤ (k : Int) := by omega
      have kk4 : (k : Int) < 4 := by omega
      have zr : w.heap.size + 2 ≤ wr.heap.size := by have := hKw.size; omega
      clear hy2
      go_wp2_with fail
      have hS0 : wr.drew.cell? ⟨w.heap.size + 1, 0, none⟩ = some (.slice na k nc) := c0
      refine wp_region_late (n := 9) (fun u => u.cell? ⟨w.heap.size + 1, 0, none⟩ = some (.slice na k nc)) (by kernel_rfl) ?_
      refine Late.take (i := 0) (oi := ⟨some 22, .fieldAddr 42 (.tmp 3) 0, 0, "keep.go:50", #[], none⟩) (v := ?_) [9] rfl (by kernel_rfl) (by kernel_rfl) (by decide) (by decide) (by kernel_rfl) (by kernel_rfl) (by kernel_rfl) (fun _ _ _ h => h) rfl ?_ hS0 ?_
      rotate_left
      · (intro u hu; have u0 : u.cell? ⟨w.heap.size + 1, 0, none⟩ = some (.slice na k nc) := hu; go_simp; first | done | with_reducible rfl)
      try simp only [Act.put, List.setIfInBounds_toArray, List.set_cons_zero, List.set_cons_succ]
      refine Late.take (i := 1) (oi := ⟨some 23, .load 22 (.tmp 22), 22, "keep.go:50", #[⟨0, .data⟩], none⟩) (v := ?_) [9] rfl (by kernel_rfl) (by kernel_rfl) (by decide) (by decide) (by kernel_rfl) (by kernel_rfl) (by kernel_rfl) (fun _ _ _ h => h) rfl ?_ hS0 ?_
      rotate_left
      · (intro u hu; have u0 : u.cell? ⟨w.heap.size + 1, 0, none⟩ = some (.slice na k nc) := hu; go_simp; first | done | with_reducible rfl)
      try simp only [Act.put, List.setIfInBounds_toArray, List.set_cons_zero, List.set_cons_succ]
      refine Late.take (i := 3) (oi := ⟨some 25, .move (.tmp 5), 3, "keep.go:50", #[], none⟩) (v := ?_) [9] rfl (by kernel_rfl) (by kernel_rfl) (by decide) (by decide) (by kernel_rfl) (by kernel_rfl) (by kernel_rfl) (fun _ _ _ h => h) rfl ?_ hS0 ?_
      rotate_left
      · (intro u hu; have u0 : u.cell? ⟨w.heap.size + 1, 0, none⟩ = some (.slice na k nc) := hu; go_simp; first | done | with_reducible rfl)
      try simp only [Act.put, List.setIfInBounds_toArray, List.set_cons_zero, List.set_cons_succ]
      refine Late.one (i := 2) (o := ⟨some 24, .buildSlice 22 4 #[(0, .const (.string { data := #[97] })), (1, .const (.string { data := #[98, 98] })), (2, .const (.string { data := #[99] })), (3, .const (.string { data := #[100, 100, 100, 100] }))], 22, "keep.go:50", #[], none⟩) (by kernel_rfl) rfl (fun K hK => ?_)
      go_simp
      refine hK _ _ (fun _ => (((Kp.refl (fun _ => False) wr).alloc _).drew).cell c0 id) ?_
      clear hK K
      try simp only [Act.put, List.setIfInBounds_toArray, List.set_cons_zero, List.set_cons_succ]
      have hq : (wr.alloc (.cells #[Value.string ⟨#[97]⟩, .string ⟨#[98, 98]⟩, .string ⟨#[99]⟩, .string ⟨#[100, 100, 100, 100]⟩] 9)).drew.cell? ⟨wr.heap.size, k, none⟩ = some (.string y) := by
        show (wr.alloc _).cell? _ = _
        rw [World.cell?_alloc_new]
        exact hy
      have x2 : Ext wr (wr.alloc (.cells #[Value.string ⟨#[97]⟩, .string ⟨#[98, 98]⟩, .string ⟨#[99]⟩, .string ⟨#[100, 100, 100, 100]⟩] 9)).drew := ((Kp.refl _ _).alloc _).drew
      have z2 : Hid ((wr.alloc (.cells #[Value.string ⟨#[97]⟩, .string ⟨#[98, 98]⟩, .string ⟨#[99]⟩, .string ⟨#[100, 100, 100, 100]⟩] 9)).drew.heap.size = wr.heap.size + 1) := by show (wr.alloc _).heap.size = _; simp
      clear hy
      generalize (wr.alloc (.cells #[Value.string ⟨#[97]⟩, .string ⟨#[98, 98]⟩, .string ⟨#[99]⟩, .string ⟨#[100, 100, 100, 100]⟩] 9)).drew = W2 at *
      have d0 := x2.cell c0 id
      refine Late.one (i := 4) (o := ⟨some 26, .indexAddr 22 (.tmp 24) (.tmp 25), 0, "keep.go:50", #[⟨2, .data⟩, ⟨3, .data⟩], none⟩) (by kernel_rfl) rfl (fun K hK => ?_)
      go_simp
      refine hK _ _ (fun _ => d0) ?_
      clear hK K
      try simp only [Act.put, List.setIfInBounds_toArray, List.set_cons_zero, List.set_cons_succ]
      refine Late.one (i := 5) (o := ⟨some 27, .load 9 (.tmp 26), 9, "keep.go:50", #[⟨4, .data⟩], none⟩) (by kernel_rfl) rfl (fun K hK => ?_)
      go_simp
      refine hK _ _ (fun _ => d0) ?_
      clear hK K
      try simp only [Act.put, List.setIfInBounds_toArray, List.set_cons_zero, List.set_cons_succ]
      refine Late.one (i := 6) (o := ⟨some 28, .buildSlice 22 1 #[(0, .tmp 27)], 22, "keep.go:50", #[⟨5, .data⟩], none⟩) (by kernel_rfl) rfl (fun K hK => ?_)
      go_simp
      refine hK _ _ (fun _ => ((Kp.refl (fun _ => False) W2).alloc _).cell d0 id) ?_
      clear hK K
      try simp only [Act.put, List.setIfInBounds_toArray, List.set_cons_zero, List.set_cons_succ]
      refine Late.one (i := 7) (o := ⟨some 29, .call { callee := .builtin .append, args := #[.tmp 23, .tmp 28], argTypes := #[22, 22] }, 22, "keep.go:50", #[⟨1, .data⟩, ⟨6, .data⟩], none⟩) (by kernel_rfl) rfl (fun K hK => ?_)
      refine step_append_g rfl _ _ 22 22 rfl 9 (.string ByteArray.empty) 1 16 Tryz.underlying22 kiS rfl _ _ _ (by rfl) ((ho.ext x2).ext ((Kp.refl _ _).alloc _)) _ (by rfl) 1 _ (src_elemA _ _ _ Tryz.underlying22 _ [.string y] rfl (one_cell _ rfl)) (by omega) (by omega) ?_
      intro v3 w3 o3 k3 s3
      have k3n : ∀ i, i < w1.heap.size → ¬ Of (.slice na k nc) i := fun i hi e => by have := hg i e; omega
      have xx : Ext wr (W2.alloc (.cells #[.string y] 9)) := x2.alloc _
      have kw3 : Kp (fun k => k = w.heap.size + 1) w1 w3 := (hKw.trans (Kp.of_ext xx)).then k3 (fun i hi e => (k3n i hi e).elim)
      have hT3 : Blk w3 (w.heap.size + 1) [.slice na k nc, .slice none 0 0] 42 := (hT.kept xx id).kept k3 (k3n _ (by omega))
      obtain ⟨a3, c3, rfl, hc3⟩ := o3.shape
      have d3 := hT3.cell 0
      have g3 := hT3.free 0
      simp only [List.getElem?_cons_zero] at d3
      refine hK _ _ (fun _ => d3) ?_
      clear hK K hS0 c0 f0 d0 hq
      try simp only [Act.put, List.setIfInBounds_toArray, List.set_cons_zero, List.set_cons_succ]
      refine Late.one (i := 8) (o := ⟨some 30, .fieldAddr 42 (.tmp 3) 0, 0, "keep.go:50", #[⟨0, .phase⟩, ⟨1, .phase⟩, ⟨2, .phase⟩, ⟨3, .phase⟩, ⟨4, .phase⟩, ⟨5, .phase⟩, ⟨6, .phase⟩, ⟨7, .phase⟩], none⟩) (by kernel_rfl) rfl (fun K hK => ?_)
      go_simp
      refine hK _ _ (fun _ => d3) ?_
      clear hK K
      try simp only [Act.put, List.setIfInBounds_toArray, List.set_cons_zero, List.set_cons_succ]
      refine Late.one (i := 9) (o := ⟨none, .store 22 (.tmp 30) (.tmp 29), 0, "keep.go:50", #[⟨8, .data⟩, ⟨7, .data⟩, ⟨7, .chain⟩, ⟨0, .phase⟩, ⟨1, .phase⟩, ⟨2, .phase⟩, ⟨3, .phase⟩, ⟨4, .phase⟩, ⟨5, .phase⟩, ⟨6, .phase⟩, ⟨7, .phase⟩], none⟩) (by kernel_rfl) rfl (fun K hK => ?_)
      go_simp
      refine hK _ _ (fun h => absurd rfl h) ?_
      clear hK K
      try simp only [Act.put, List.setIfInBounds_toArray, List.set_cons_zero, List.set_cons_succ]
      refine Late.done (by kernel_rfl) ?_ _
      have HO : Hid (Own w3 1 (.slice a3 (k + 1) c3) (k + 1) ((names4B.take (k + 1)).map Value.string)) := by show Own _ _ _ _ _; rw [HY.out]; exact o3
      have hg3 : ∀ g, (Value.slice a3 (k + 1) c3).ownBlock = some g → w1.heap.size ≤ g := fun g e => by
        rcases sep_new s3 e with e' | e'
        · exact hg g e'
        · have := xx.size; have := hKw.size; omega
      go_wp2_with fail
      refine ⟨⟨k + 1, .slice a3 (k + 1) c3, by go_num, by omega, hT3.set 0 _, HO.out.kept (kp_set' w3 (w.heap.size + 1) 0 _) (fun g e => by have := hg3 g e; show ¬ g = _; omega), hg3, ?_⟩, by simp [intOf]; omega⟩
      exact kw3.setCell (p := ⟨w.heap.size + 1, 0, none⟩) (.inl rfl) _
    · obtain rfl : k = 1 + n0 := by omega
      have hkl2 : ¬ (((1 + n0 : Nat) : Int) < 1 + (n0 : Int)) := by omega
      have hr := h1.kept hKw (fun i hi => by have := h1.below; have : i = w.heap.size + 1 := hi; omega)
      obtain ⟨g0, i2, e2⟩ : ∃ g0 i2, sNext l i1 4 = (g0, i2) := ⟨_, _, rfl⟩
      have hG4 := sNext_lt l i1 4 (by omega)
      have HNx := hide (snext_any wr Sb B lv l i1 4 hr (by omega) (by omega))
      have HSG : Hid (sN l = 1 + n0 ∧ sG l = (g0, i2)) := by show _ ∧ _; rw [← e2]; exact HSN.out
      rw [e2] at HNx hG4
      clear e2 HSN
      have hG4 : g0 < 4 := hG4
      have hRr := hR1.kept hKw (by show ¬ w.heap.size = w.heap.size + 1; omega)
      have zr := hKw.size
      go_wp2_with fail
      refine (unhide HNx).mono ?_
      rintro e w2 ⟨rfl, h2, k2⟩
      clear HNx
      have hT2 := hT.kept k2 (by show ¬ w.heap.size + 1 = Sb; omega)
      have hR2 := hRr.kept k2 (by show ¬ w.heap.size = Sb; omega)
      have hN2 := ho.kept k2 (fun g e => by have := hg g e; show ¬ g = Sb; omega)
      have kw2 : Kp (fun k => k = Sb) w w2 := (k01.then hKw (fun i hi e => by have : i = w.heap.size + 1 := e; omega)).trans k2
      clear hT hRr ho hR1 hT1 hr
      have z2 : w.heap.size + 2 ≤ w2.heap.size := by have := k2.size; omega
      have hSn : ∀ g, (Value.slice na (1 + n0) nc).ownBlock = some g → g ≠ Sb ∧ g ≠ w.heap.size + 1 := fun g e => by have := hg g e; omega
      have hNlt : ∀ g, (Value.slice na (1 + n0) nc).ownBlock = some g → g < w2.heap.size := fun g e => hN2.lt e
      generalize hnvE : Value.slice na (1 + n0) nc = nv at *
      go_wp2_with fail
      go_loopw [7] (fun i wq => ∃ (k : Nat) (gv : Value) (vs : List Value), i = .int .i64 k ∧ k ≤ g0 ∧ Blk wq (w.heap.size + 1) [nv, gv] 42 ∧ Own wq 1 gv k vs ∧ (∀ g, gv.ownBlock = some g → w2.heap.size ≤ g) ∧ (∀ (i : Nat) (x : Value) (xs : List (List Int)), vs[i]? = some x → (Pl.iter (sGrpS l (1 + n0)) k ([], i2)).1[i]? = some xs → TII (fun b => w2.heap.size ≤ b ∧ ¬ Of gv b) wq x xs) ∧ SrcAt wq Sb B lv l (Pl.iter (sGrpS l (1 + n0)) k ([], i2)).2 ∧ Kp (fun q => q = Sb ∨ q = w.heap.size + 1) w2 wq) (fun i _ => 5 - (intOf i).toNat)
      case atStart => exact ⟨0, _, [], rfl, by omega, hT2, Own.nil _ _, fun g e => by simp [Value.ownBlock] at e, fun i x xs a => by simp at a, h2, Kp.refl _ _⟩
      case round =>
        obtain ⟨k, gv, vs, rfl, hk, hT, ho, hgg, hin, hs, hKq⟩ := hrel
        have hvl := ho.1
        rw [Nat.mul_one] at hvl
        by_cases hkl : k < g0
        · have hkl2 : (k : Int) < (g0 : Int) := by omega
          obtain ⟨r0, i3, e3⟩ : ∃ r0 i3, sNext l (Pl.iter (sGrpS l (1 + n0)) k ([], i2)).2 12 = (r0, i3) := ⟨_, _, rfl⟩
          have hr12 := sNext_lt l (Pl.iter (sGrpS l (1 + n0)) k ([], i2)).2 12 (by omega)
          have HNx := hide (snext_any wr Sb B lv l (Pl.iter (sGrpS l (1 + n0)) k ([], i2)).2 12 hs (by omega) (by omega))
          have hgl := (sGs_ok l (1 + n0) i2 (by omega) h2.le k).1
          have hst : Pl.iter (sGrpS l (1 + n0)) (k + 1) ([], i2) = sGrpS l (1 + n0) (Pl.iter (sGrpS l (1 + n0)) k ([], i2)) := rfl
          generalize Pl.iter (sGrpS l (1 + n0)) k ([], i2) = Gk at *
          have HG : Hid (Pl.iter (sGrpS l (1 + n0)) (k + 1) ([], i2) = (Gk.1 ++ [(sCols l (1 + r0) (1 + n0) i3).1], (sCols l (1 + r0) (1 + n0) i3).2)) := by
            show _ = _
            rw [hst]
            show (Gk.1 ++ [(sGrp l (1 + n0) Gk.2).1], (sGrp l (1 + n0) Gk.2).2) = _
            unfold sGrp
            rw [e3]
          clear hst
          rw [e3] at HNx hr12
          clear e3
          have hr12 : r0 < 12 := hr12
          obtain ⟨ga, gc, rfl, hgc⟩ := ho.shape
          go_wp2_with fail
          refine (unhide HNx).mono ?_
          rintro e w3 ⟨rfl, h3, k3⟩
          clear HNx
          go_wp2_with fail
          go_loopw [9, 10] (fun x i wq => ∃ (j : Nat) (us : List Value), i = .int .i64 j ∧ j ≤ 1 + n0 ∧ Own wq 1 x j us ∧ (∀ g, x.ownBlock = some g → w3.heap.size ≤ g) ∧ (∀ (i : Nat) (y : Value) (ys : List Int), us[i]? = some y → (sCols l (1 + r0) j i3).1[i]? = some ys → RdP (fun b => w3.heap.size ≤ b ∧ ¬ Of x b) wq y (ys.map I)) ∧ SrcAt wq Sb B lv l (sCols l (1 + r0) j i3).2 ∧ Kp (fun q => q = Sb) w3 wq) (fun _ i _ => 5 - (intOf i).toNat)
          case atStart => exact ⟨0, [], rfl, by omega, Own.nil _ _, fun g e => by simp [Value.ownBlock] at e, fun i y ys a => by simp at a, h3, Kp.refl _ _⟩
          case round =>
            obtain ⟨j, us, rfl, hj, hx, hxg, hxi, hxs, hxK⟩ := hrel
            have hul := hx.1
            rw [Nat.mul_one] at hul
            obtain ⟨xa, xc, rfl, hxc⟩ := hx.shape
            by_cases hjl : j < 1 + n0
            · have hjl2 : (j : Int) < 1 + (n0 : Int) := by omega
              go_wp2_with fail
              have hcle := hxs.le
              have HC : Hid (sCols l (1 + r0) (j + 1) i3 = ((sCols l (1 + r0) j i3).1 ++ [(sRow l (1 + r0) (sCols l (1 + r0) j i3).2).1], (sRow l (1 + r0) (sCols l (1 + r0) j i3).2).2.2)) := rfl
              have hcl := (sCols_ok l (1 + r0) i3 h3.le j).1
              generalize sCols l (1 + r0) j i3 = Cj at *
              have hwlt : ∀ g, (Value.slice xa j xc).ownBlock = some g → g < wr.heap.size := fun g e => hx.lt e
              generalize wr = w4 at *
              go_loopw [11, 12, 13] (fun t v i wq => ∃ (m : Nat), i = .int .i64 m ∧ m ≤ 1 + r0 ∧ v = .int .i64 ((sRow l m Cj.2).2.1 : Nat) ∧ Own wq 1 t m ((sRow l m Cj.2).1.map I) ∧ (∀ g, t.ownBlock = some g → w4.heap.size ≤ g) ∧ SrcAt wq Sb B lv l (sRow l m Cj.2).2.2 ∧ Kp (fun q => q = Sb) w4 wq) (fun _ _ i _ => 20 - (intOf i).toNat)
              case atStart => exact ⟨0, rfl, by omega, rfl, Own.nil _ _, fun g e => by simp [Value.ownBlock] at e, hxs, Kp.refl _ _⟩
              case round =>
                obtain ⟨m, rfl, hm, rfl, hto, htg, hts, htK⟩ := hrel
                obtain ⟨ta, tc, rfl, htc⟩ := hto.shape
                have hrok := sRow_ok l Cj.2 hcle m
                have hz4 := htK.size
                by_cases hml : m < 1 + r0
                · have hml2 : (m : Int) < 1 + (r0 : Int) := by omega
                  have HV := hide (kvalue_any wr Sb B lv l (sRow l m Cj.2).2.2 (sRow l m Cj.2).2.1 hts hrok.2.2.1)
                  have HR : Hid (sRow l (m + 1) Cj.2 = ((sRow l m Cj.2).1 ++ [((sValue l (sRow l m Cj.2).2.2 (sRow l m Cj.2).2.1).1 : Int)], (sValue l (sRow l m Cj.2).2.2 (sRow l m Cj.2).2.1).1, (sValue l (sRow l m Cj.2).2.2 (sRow l m Cj.2).2.1).2)) := rfl
                  generalize sRow l m Cj.2 = Rm at *
                  generalize sValue l Rm.2.2 Rm.2.1 = V at *
                  clear hrok
                  go_wp2_with fail
                  refine (unhide HV).mono ?_
                  rintro e w5 ⟨rfl, h5, k5⟩
                  clear HV
                  have hto5 := hto.kept k5 (fun g e => by have := htg g e; show ¬ g = Sb; have := h3.blk.lt; have := hxK.size; omega)
                  go_wp2_with (at_builtin; go_must (refine wpList_append_g _ rfl _ _ 46 46 rfl 3 (.int .i64 0) 1 8 Tryz.underlying46 kiI rfl _ _ _ rfl (hto5.ext ((Kp.refl _ _).alloc _)) _ rfl 1 _ (src_elemA _ _ _ Tryz.underlying46 _ [.int .i64 (V.1 : Int)] rfl (one_cell _ rfl)) (by omega) (by omega) ?_); intro v6 w6 o6 k6 s6)
                  have x5 : Ext w5 (w5.alloc (.cells #[.int .i64 (V.1 : Int)] 3)) := (Kp.refl _ _).alloc _
                  have n6 : ∀ i, i < w4.heap.size → ¬ Of (.slice ta m tc) i := fun i hi e => by have := htg i e; omega
                  refine ⟨⟨m + 1, by go_num, by omega, by rw [HR.out], by rw [HR.out]; simpa [I] using o6, fun g e => ?_, ?_, ?_⟩, by simp [intOf]; omega⟩
                  · rcases sep_new s6 e with e' | e'
                    · exact htg g e'
                    · have := x5.size; have := k5.size; omega
                  · rw [HR.out]
                    exact (h5.ext x5).kept k6 (fun i e => by have := htg i e; have := h3.blk.lt; have := hxK.size; have := h5.below; omega)
                  · exact (htK.trans (k5.trans (Kp.of_ext x5))).then k6 (fun i hi e => (n6 i hi e).elim)
                · obtain rfl : m = 1 + r0 := by omega
                  have hml2 : ¬ (((1 + r0 : Nat) : Int) < 1 + (r0 : Int)) := by omega
                  generalize sRow l (1 + r0) Cj.2 = Rm at *
                  have hx4 := hx.kept htK (fun g e => by have := hxg g e; show ¬ g = Sb; have := h3.blk.lt; omega)
                  go_wp2_with (at_builtin; go_must (refine wpList_append_g _ rfl _ _ 51 51 rfl 46 (.slice none 0 0) 1 24 Tryz.underlying51 kiL rfl _ _ _ rfl (hx4.ext ((Kp.refl _ _).alloc _)) _ rfl 1 _ (src_elemA _ _ _ Tryz.underlying51 _ [.slice ta (1 + r0) tc] rfl (one_cell _ rfl)) (by omega) (by omega) ?_); intro v6 w6 o6 k6 s6)
                  have x6 : Ext wr (wr.alloc (.cells #[.slice ta (1 + r0) tc] 46)) := (Kp.refl _ _).alloc _
                  have z6 := x6.size
                  have hS3 := h3.blk.lt
                  have hz3 := hxK.size
                  refine ⟨⟨j + 1, us ++ [.slice ta (1 + r0) tc], by go_num, by omega, by simpa using o6, fun g e => ?_, ?_, ?_, ?_⟩, by simp [intOf]; omega⟩
                  · rcases sep_new s6 e with e' | e'
                    · exact hxg g e'
                    · omega
                  · rw [HC.out]
                    refine snoc_all (by omega) (fun i y ys a b => ?_) ?_
                    · have q1 := ((hxi i y ys a b).kept htK (fun b hb e => by have := hb.1; have : b = Sb := e; omega)).kept x6 (fun _ _ f => f)
                      have q2 := q1.mono (C' := fun b => w3.heap.size ≤ b ∧ ¬ Of (.slice xa j xc) b ∧ ¬ Of v6 b) (fun b hb hc => ⟨hc.1, hc.2, fun e => (sep_new s6 e).elim hc.2 (fun e' => by omega)⟩)
                      exact (q2.kept k6 (fun b hb => hb.2.1)).mono (fun b _ hc => ⟨hc.1, hc.2.2⟩)
                    · have q1 := (hto.rdP (by omega) (fun b => w4.heap.size ≤ b) htg).kept x6 (fun _ _ f => f)
                      have q2 := q1.mono (C' := fun b => w3.heap.size ≤ b ∧ ¬ Of (.slice xa j xc) b ∧ ¬ Of v6 b) (fun b hb hc => ⟨by omega, fun e => by have := hwlt b e; omega, fun e => (sep_new s6 e).elim (fun e' => by have := hwlt b e'; omega) (fun e' => by omega)⟩)
                      exact (q2.kept k6 (fun b hb => hb.2.1)).mono (fun b _ hc => ⟨hc.1, hc.2.2⟩)
                  · rw [HC.out]
                    exact (hts.ext x6).kept k6 (fun i e => by have := hxg i e; have := hts.below; omega)
                  · exact (hxK.trans (htK.trans (Kp.of_ext x6))).then k6 (fun i hi e => by have := hxg i e; omega)
            · obtain rfl : j = 1 + n0 := by omega
              have hjl2 : ¬ (((1 + n0 : Nat) : Int) < 1 + (n0 : Int)) := by omega
              have hS3 := h3.blk.lt
              have hz3 := hxK.size
              have hzA := k3.size
              have hS2 := h2.blk.lt
              have hzq := hKq.size
              have kA : Kp (fun q => q = Sb) _ wr := k3.trans hxK
              have hTa := hT.kept kA (by show ¬ w.heap.size + 1 = Sb; omega)
              have hoa := ho.kept kA (fun g e => by have := hgg g e; show ¬ g = Sb; omega)
              have c1 := hTa.cell 1
              have f1 := hTa.free 1
              simp only [List.getElem?_cons_zero, List.getElem?_cons_succ] at c1
              have hcl := (sCols_ok l (1 + r0) i3 h3.le (1 + n0)).1
              generalize sCols l (1 + r0) (1 + n0) i3 = Cj at *
              go_wp2_with (at_builtin; go_must (refine wpList_append_g _ rfl _ _ 40 40 rfl 51 (.slice none 0 0) 1 24 Tryz.underlying40 kiG rfl _ _ _ rfl (hoa.ext ((Kp.refl _ _).alloc _)) _ rfl 1 _ (src_elemA _ _ _ Tryz.underlying40 _ [.slice xa (1 + n0) xc] rfl (one_cell _ rfl)) (by omega) (by omega) ?_); intro v6 w6 o6 k6 s6; obtain ⟨va, vc, rfl, hvc⟩ := o6.shape; have hT6 := (hTa.kept (S := fun _ => False) ((Kp.refl _ _).alloc (.cells #[.slice xa (1 + n0) xc] 51)) id).kept k6 (fun e => by have := hgg _ e; omega); have c6 := hT6.cell 1; have f6 := hT6.free 1; simp only [List.getElem?_cons_zero, List.getElem?_cons_succ] at c6)
              have x6 : Ext wr (wr.alloc (.cells #[.slice xa (1 + n0) xc] 51)) := (Kp.refl _ _).alloc _
              have z6 := x6.size
              have hlt6 : ∀ g, (Value.slice ga k gc).ownBlock = some g → g < wr.heap.size := fun g e => hoa.lt e
              have hg6 : ∀ g, (Value.slice va (k + 1) vc).ownBlock = some g → w2.heap.size ≤ g := fun g e => by
                rcases sep_new s6 e with e' | e'
                · exact hgg g e'
                · omega
              have kset := kp_set' w6 (w.heap.size + 1) 1 (Value.slice va (k + 1) vc)
              have hKw6 : Kp (fun q => q = Sb ∨ q = w.heap.size + 1) w2 w6 := (hKq.trans ((kA.mono (fun _ _ e => .inl e)).trans (Kp.of_ext x6))).then k6 (fun i hi e => by have := hgg i e; omega)
              refine ⟨⟨k + 1, (Value.slice va (k + 1) vc), vs ++ [.slice xa (1 + n0) xc], by go_num, by omega, hT6.set 1 (Value.slice va (k + 1) vc), ?_, hg6, ?_, ?_, ?_⟩, by simp [intOf]; omega⟩
              · have o7 : Own w6 1 (Value.slice va (k + 1) vc) (k + 1) (vs ++ [.slice xa (1 + n0) xc]) := by simpa using o6
                exact o7.kept kset (fun g e => by have := hg6 g e; show ¬ g = w.heap.size + 1; omega)
              · rw [HG.out]
                refine snoc_all (by omega) (fun i y ys a b => ?_) ?_
                · have q1 := ((hin i y ys a b).kept kA (fun b hb e => by have := hb.1; have : b = Sb := e; omega)).kept x6 (fun _ _ f => f)
                  have q2 := q1.mono (C' := fun b => w2.heap.size ≤ b ∧ ¬ Of (.slice ga k gc) b ∧ ¬ Of (Value.slice va (k + 1) vc) b) (fun b hb hc => ⟨hc.1, hc.2, fun e => (sep_new s6 e).elim hc.2 (fun e' => by omega)⟩)
                  exact ((q2.kept k6 (fun b hb => hb.2.1)).mono (C' := fun b => w2.heap.size ≤ b ∧ ¬ Of (Value.slice va (k + 1) vc) b) (fun b _ hc => ⟨hc.1, hc.2.2⟩)).kept kset (fun b hb e => by have := hb.1; have : b = w.heap.size + 1 := e; omega)
                · have q0 : TII (fun b => w3.heap.size ≤ b) wr (.slice xa (1 + n0) xc) Cj.1 := ⟨us, hx.rdP (by omega) _ hxg, by omega, fun i y ys a b => (hxi i y ys a b).mono (fun b _ hc => hc.1)⟩
                  have q1 := q0.kept x6 (fun _ _ f => f)
                  have q2 := q1.mono (C' := fun b => w2.heap.size ≤ b ∧ ¬ Of (.slice ga k gc) b ∧ ¬ Of (Value.slice va (k + 1) vc) b) (fun b hb hc => ⟨by omega, fun e => by have := ho.lt e; omega, fun e => (sep_new s6 e).elim (fun e' => by have := ho.lt e'; omega) (fun e' => by omega)⟩)
                  exact ((q2.kept k6 (fun b hb => hb.2.1)).mono (C' := fun b => w2.heap.size ≤ b ∧ ¬ Of (Value.slice va (k + 1) vc) b) (fun b _ hc => ⟨hc.1, hc.2.2⟩)).kept kset (fun b hb e => by have := hb.1; have : b = w.heap.size + 1 := e; omega)
              · rw [HG.out]
                exact ((hxs.ext x6).kept k6 (fun i e => by have := hgg i e; have := hxs.below; omega)).kept kset (fun i e => by have := hxs.below; have : i = w.heap.size + 1 := e; omega)
              · exact hKw6.setCell (p := ⟨w.heap.size + 1, 1, none⟩) (.inl (.inr rfl)) _
        · obtain rfl : k = g0 := by omega
          have hkl2 : ¬ (k : Int) < (k : Int) := by omega
          obtain ⟨ga, gc, rfl, hgc⟩ := ho.shape
          subst hnvE
          have c0 := hT.cell 0
          have c1 := hT.cell 1
          have hzq := hKq.size
          simp only [List.getElem?_cons_zero, List.getElem?_cons_succ] at c0 c1
          have hRq := hR2.kept hKq (by show ¬ (w.heap.size = Sb ∨ w.heap.size = w.heap.size + 1); omega)
          have r0 := hRq.cell 0
          have r1 := hRq.cell 1
          have rf0 := hRq.free 0
          have rf1 := hRq.free 1
          simp only [List.getElem?_cons_zero, List.getElem?_cons_succ] at r0 r1
          have hgl := (sGs_ok l (1 + n0) i2 (by omega) h2.le k).1
          have HF : Hid (sGs l = Pl.iter (sGrpS l (1 + n0)) k ([], i2) ∧ sN l = 1 + n0) := by
            show _ ∧ _
            unfold sGs
            rw [HSG.out.1, HSG.out.2]
            exact ⟨rfl, rfl⟩
          go_wp2_with fail
          have b2 := (hRq.set 0 (.slice na (1 + n0) nc)).set 1 (.slice ga k gc)
          have kss : Kp (fun k => k = w.heap.size) wr ((wr.setCell ⟨w.heap.size, 0, none⟩ (.slice na (1 + n0) nc)).setCell ⟨w.heap.size, 1, none⟩ (.slice ga k gc)) := (kp_set' wr w.heap.size 0 _).trans (kp_set' _ w.heap.size 1 _)
          generalize (wr.setCell ⟨w.heap.size, 0, none⟩ (.slice na (1 + n0) nc)).setCell ⟨w.heap.size, 1, none⟩ (.slice ga k gc) = WF at *
          have q0 := b2.cell 0
          have q1 := b2.cell 1
          simp only [List.set_cons_zero, List.set_cons_succ, List.getElem?_cons_zero, List.getElem?_cons_succ] at q0 q1
          refine bodyPost_ret (v := .agg #[.slice na (1 + n0) nc, .slice ga k gc]) (by simp [results, Tryz.results47, go_sem, q0, q1]) rfl ?_
          rw [HF.out.1, HF.out.2]
          refine ⟨_, _, rfl, ?_, ?_, ?_, ?_⟩
          · have q0 : RdP (fun b => w.heap.size + 1 ≤ b) wr (.slice na (1 + n0) nc) ((names4B.take (1 + n0)).map Value.string) := (hN2.kept hKq (fun g e => by have := hSn g e; show ¬ (g = Sb ∨ g = _); omega)).rdP (by omega) (fun b => w.heap.size + 1 ≤ b) (fun g e => by have := hg g e; omega)
            have q2 := (q0.kept kss (fun b hb e => by have : b = w.heap.size := e; omega)).mono (C' := fun b => w.heap.size ≤ b) (fun b _ hb => by omega)
            first | exact q2 | (rw [← List.map_take]; exact q2)
          · have q0 : TIII (fun b => w2.heap.size ≤ b) wr (.slice ga k gc) (Pl.iter (sGrpS l (1 + n0)) k ([], i2)).1 := ⟨vs, ho.rdP (by omega) _ hgg, by omega, fun i y ys a b => (hin i y ys a b).mono (fun b _ hc => hc.1)⟩
            exact (q0.kept kss (fun b hb e => by have : b = w.heap.size := e; omega)).mono (fun b _ hb => by omega)
          · exact hs.kept kss (fun i e => by have := hs.below; have : i = w.heap.size := e; omega)
          · exact (kw2.then hKq (fun i hi e => by rcases e with e | e <;> omega)).then kss (fun i hi e => by have : i = w.heap.size := e; omega)
end Go.Proofs.YthicgffppmbamaaGreat

namespace Go.Proofs.YthicgffppmbamaaGreat
open Go.RowKit

set_option maxRecDepth 20000 in
set_option maxHeartbeats 1000000 in
theorem ksettings_any (w : World) (Sb B : Nat) (lv : Value) (l : List Int) (h : SrcAt w Sb B lv l (sW3 l).2) :
    Calls Tryz.prog 49 #[PtrTo Sb 0] w fun e w' => e = .returned (.agg #[.int .i64 ((1 + (sS1 l).1 : Nat) : Int), .int .i64 ((1 + (sS2 l).1 : Nat) : Int), .int .i64 ((1 + (sS3 l).1 : Nat) : Int), .int .i64 ((sS4 l).1 : Nat)]) ∧ Kp (fun k => k = Sb) w w' := by
  have hSlt := h.blk.lt
  have hin := sSet_in l
  obtain ⟨a1, j1, e1⟩ : ∃ a j, sS1 l = (a, j) := ⟨_, _, rfl⟩
  obtain ⟨a2, j2, e2⟩ : ∃ a j, sS2 l = (a, j) := ⟨_, _, rfl⟩
  obtain ⟨a3, j3, e3⟩ : ∃ a j, sS3 l = (a, j) := ⟨_, _, rfl⟩
  obtain ⟨a4, j4, e4⟩ : ∃ a j, sS4 l = (a, j) := ⟨_, _, rfl⟩
  have x0 : Ext w (w.alloc (.cells #[.int .i64 0, .int .i64 0, .int .i64 0, .int .i64 0] 24)) := (Kp.refl _ _).alloc _
  have n1 := snext_any _ Sb B lv l (sW3 l).2 4 (h.ext x0) (by omega) (by omega)
  have n2 := fun u hu => snext_any u Sb B lv l j1 4 hu (by omega) (by omega)
  have n3 := fun u hu => snext_any u Sb B lv l j2 20 hu (by omega) (by omega)
  have n4 := fun u hu => snext_any u Sb B lv l j3 33 hu (by omega) (by omega)
  rw [show sNext l (sW3 l).2 4 = sS1 l from rfl, e1] at n1
  rw [show sNext l j1 4 = sS2 l by unfold sS2; rw [e1], e2] at n2
  rw [show sNext l j2 20 = sS3 l by unfold sS3; rw [e2], e3] at n3
  rw [show sNext l j3 33 = sS4 l by unfold sS4; rw [e3], e4] at n4
  rw [e1, e2, e3, e4] at hin ⊢
  clear e1 e2 e3 e4
  obtain ⟨i1, i2, i3, i4⟩ : a1 < 4 ∧ a2 < 4 ∧ a3 < 20 ∧ a4 < 33 := hin
  have b0 := Blk.of_alloc w [.int .i64 0, .int .i64 0, .int .i64 0, .int .i64 0] 24
  go_enter Tryz.func49, Tryz.ntmps49
  go_wp2_with fail
  refine n1.mono ?_
  clear n1
  rintro e w1 ⟨rfl, h1, k1⟩
  go_wp2_with fail
  refine (n2 _ h1).mono ?_
  clear n2
  rintro e w2 ⟨rfl, h2, k2⟩
  go_wp2_with fail
  refine (n3 _ h2).mono ?_
  clear n3
  rintro e w3 ⟨rfl, h3, k3⟩
  go_wp2_with fail
  refine (n4 _ h3).mono ?_
  clear n4
  rintro e w4 ⟨rfl, h4, k4⟩
  have k14 := ((k1.trans k2).trans k3).trans k4
  have b4 := b0.kept k14 (by show ¬ w.heap.size = Sb; omega)
  have c0 := b4.cell 0
  have c1 := b4.cell 1
  have c2 := b4.cell 2
  have c3 := b4.cell 3
  have f0 := b4.free 0
  have f1 := b4.free 1
  have f2 := b4.free 2
  have f3 := b4.free 3
  simp only [List.getElem?_cons_zero, List.getElem?_cons_succ] at c0 c1 c2 c3
  go_wp2_with fail
  have b5 := (((b4.set 0 (.int .i64 (1 + (a1 : Int)))).set 1 (.int .i64 (1 + (a2 : Int)))).set 2 (.int .i64 (1 + (a3 : Int)))).set 3 (.int .i64 (a4 : Int))
  have k5 := (((kp_set' w4 w.heap.size 0 (.int .i64 (1 + (a1 : Int)))).trans (kp_set' _ w.heap.size 1 (.int .i64 (1 + (a2 : Int))))).trans (kp_set' _ w.heap.size 2 (.int .i64 (1 + (a3 : Int))))).trans (kp_set' _ w.heap.size 3 (.int .i64 (a4 : Int)))
  generalize (((w4.setCell ⟨w.heap.size, 0, none⟩ (.int .i64 (1 + (a1 : Int)))).setCell ⟨w.heap.size, 1, none⟩ (.int .i64 (1 + (a2 : Int)))).setCell ⟨w.heap.size, 2, none⟩ (.int .i64 (1 + (a3 : Int)))).setCell ⟨w.heap.size, 3, none⟩ (.int .i64 (a4 : Int)) = w5 at *
  have q0 := b5.cell 0
  have q1 := b5.cell 1
  have q2 := b5.cell 2
  have q3 := b5.cell 3
  simp only [List.set_cons_zero, List.set_cons_succ, List.getElem?_cons_zero, List.getElem?_cons_succ] at q0 q1 q2 q3
  refine bodyPost_ret (v := .agg #[.int .i64 (1 + (a1 : Int)), .int .i64 (1 + (a2 : Int)), .int .i64 (1 + (a3 : Int)), .int .i64 (a4 : Int)]) (by simp [results, Tryz.results49, go_sem, q0, q1, q2, q3]) rfl ⟨?_, ?_⟩
  · simp only [Int.natCast_add, Int.natCast_one]
  · exact ((Kp.of_ext x0).trans k14).then k5 (fun i hi e => by have : i = w.heap.size := e; omega)

def nmOf (ss : List ByteArray) (c : Nat) : Value := .string (ss.getD c ByteArray.empty)
set_option maxRecDepth 20000 in
set_option maxHeartbeats 4000000 in
theorem kwanted_any (w : World) (Sb B : Nat) (lv nv gv : Value) (l : List Int) (i0 n f c b i3 : Nat) (ss : List ByteArray) (C : Nat → Prop) (h : SrcAt w Sb B lv l i0) (hgv : ∃ a k c, gv = .slice a k c) (hn : RdP C w nv (ss.map Value.string)) (hC : ∀ b, C b → b ≠ Sb) (hss : ss.length = n) (hn1 : 1 ≤ n) (hn4 : n ≤ 4) (i1 i2 : Nat) (e1 : sNext l i0 n = (f, i1)) (e2 : sNext l i1 n = (c, i2)) (e3 : sNext l i2 2 = (b, i3)) :
    Calls Tryz.prog 48 #[PtrTo Sb 0, .agg #[nv, gv]] w fun e w' => ∃ cv mv, e = .returned (.tuple #[cv, mv]) ∧ Own w' 1 cv (1 + c) ((wCols n f (1 + c) (decide (b = 1))).map fun (k : Nat) => I k) ∧ Own w' 1 mv (1 + c) ((wCols n f (1 + c) (decide (b = 1))).map (nmOf ss)) ∧ (∀ g, cv.ownBlock = some g → w.heap.size < g) ∧ (∀ g, mv.ownBlock = some g → w.heap.size < g) ∧ SrcAt w' Sb B lv l i3 ∧ Kp (fun k => k = Sb) w w' := by
  have hSlt := h.blk.lt
  have hnl : (ss.map Value.string).length = n := by rw [List.length_map, hss]
  obtain ⟨ga, gk, gc, rfl⟩ := hgv
  have hn' := hn
  obtain ⟨na, nc, rfl, hnc, -, hn3⟩ := hn
  rw [hnl] at hnc hn3
  have f1 := sNext_lt l i0 n (by omega)
  have c1 := sNext_lt l i1 n (by omega)
  rw [e1] at f1
  rw [e2] at c1
  have f1 : f < n := f1
  have c1 : c < n := c1
  have x0 : Ext w (w.alloc (.cells #[.slice na (ss.map Value.string).length nc, .slice ga gk gc] 42)) := (Kp.refl _ _).alloc _
  have b0 := Blk.of_alloc w [.slice na (ss.map Value.string).length nc, .slice ga gk gc] 42
  rw [hnl] at x0 b0
  have n1 := snext_any _ Sb B lv l i0 n (h.ext x0) (by omega) (by omega)
  have n2 := fun u hu => snext_any u Sb B lv l i1 n hu (by omega) (by omega)
  have n3 := fun u hu => snext_any u Sb B lv l i2 2 hu (by omega) (by omega)
  rw [e1] at n1
  rw [e2] at n2
  rw [e3] at n3
  have b1 := sNext_lt l i2 2 (by omega)
  rw [e3] at b1
  have b1 : b < 2 := b1
  clear e1 e2 e3
  rw [hnl]
  go_enter Tryz.func48, Tryz.ntmps48
  go_wp2_with fail
  refine n1.mono ?_
  clear n1
  rintro e w1 ⟨rfl, h1, k1⟩
  have b1' := b0.kept k1 (by show ¬ w.heap.size = Sb; omega)
  have d1 := b1'.cell 0
  simp only [List.getElem?_cons_zero] at d1
  go_wp2_with fail
  refine (n2 _ h1).mono ?_
  clear n2
  rintro e w2 ⟨rfl, h2, k2⟩
  have b2' := b1'.kept k2 (by show ¬ w.heap.size = Sb; omega)
  clear d1
  go_wp2_with fail
  refine (n3 _ h2).mono ?_
  clear n3
  rintro e w3 ⟨rfl, h3, k3⟩
  have b3 := b2'.kept k3 (by show ¬ w.heap.size = Sb; omega)
  have kw3 : Kp (fun k => k = Sb) w w3 := (Kp.of_ext x0).trans ((k1.trans k2).trans k3)
  have z3 : w.heap.size < w3.heap.size := by have := b3.lt; omega
  have hn5 := hn'.kept kw3 (fun b hb e => hC b hb e)
  have HNL := hide hnl
  have HSS := hide hss
  clear b0 b1' b2' hn' hn3 h h1 h2 k1 k2 k3 x0 hnl hss
  obtain ⟨na', nc', en, -, -, hn3⟩ := hn5
  rw [HNL.out] at hn3
  simp only [Value.slice.injEq] at en
  obtain ⟨rfl, -, rfl⟩ := en
  obtain ⟨nb, no, rfl, hnC, hcell⟩ := hn3 (by omega)
  have hnlt : nb < w3.heap.size := by
    have := hcell 0 (by omega)
    rw [List.getElem?_eq_getElem (by rw [HNL.out]; omega)] at this
    simpa using World.block_lt_of_cell? _ _ this
  have hcell2 : Hid (∀ k, k < n → w3.cell? ⟨nb, no + k, none⟩ = some (nmOf ss k)) := fun k hk => by
    rw [hcell k hk, List.getElem?_map, List.getElem?_eq_getElem (by rw [HSS.out]; exact hk)]
    unfold nmOf
    rw [List.getD_eq_getElem?_getD, List.getElem?_eq_getElem (by rw [HSS.out]; exact hk)]
    rfl
  clear hn3 hcell
  go_wp2_with fail
  have hv : (((b : Int)) == 1) = decide (b = 1) := by
    obtain rfl | rfl : b = 0 ∨ b = 1 := by omega
    · rfl
    · rfl
  rw [hv]
  clear hv
  generalize hbk : decide (b = 1) = bk at *
  have HBK := hide hbk
  clear hbk
  go_loopw [9, 10, 11] (fun cv mv i wr => ∃ (k : Nat), i = .int .i64 k ∧ k ≤ 1 + c ∧ Own wr 1 cv k ((wCols n f k bk).map fun (k : Nat) => I k) ∧ Own wr 1 mv k ((wCols n f k bk).map (nmOf ss)) ∧ (∀ g, cv.ownBlock = some g → w3.heap.size ≤ g ∧ mv.ownBlock ≠ some g) ∧ (∀ g, mv.ownBlock = some g → w3.heap.size ≤ g) ∧ Ext w3 wr) (fun _ _ i _ => 5 - (intOf i).toNat)
  case atStart => exact ⟨0, rfl, by omega, Own.nil _ _, Own.nil _ _, (fun g e => by simp [Value.ownBlock] at e), (fun g e => by simp [Value.ownBlock] at e), Kp.refl _ _⟩
  case round =>
    obtain ⟨k, rfl, hk, ho, hm, hog, hmg, hx⟩ := hrel
    obtain ⟨oa, oc, rfl, hoc⟩ := ho.shape
    obtain ⟨ma, mc, rfl, hmc⟩ := hm.shape
    by_cases hkl : k < 1 + c
    · have hkl2 : (k : Int) < 1 + (c : Int) := by omega
      have b4 := b3.kept hx id
      have d0 := b4.cell 0
      simp only [List.getElem?_cons_zero] at d0
      have hwl : wCol n f bk k < n := by unfold wCol; split <;> exact Nat.mod_lt _ (by omega)
      have cn := hx.cell (hcell2.out (wCol n f bk k) hwl) id
      have HW : Hid (wCols n f (k + 1) bk = wCols n f k bk ++ [wCol n f bk k]) := by
        show _ = _
        unfold wCols
        rw [List.range_succ, List.map_append]
        rfl
      have cn3 := hcell2.out (wCol n f bk k) hwl
      clear cn
      have hX : bk = false → ((f : Int) + (k : Int)) % (n : Int) = (wCol n f bk k : Nat) ∧ ((f : Int) + (k : Int)).tmod (n : Int) = (wCol n f bk k : Nat) := fun e => by
        subst e
        unfold wCol
        rw [if_neg (by decide), Int.tmod_eq_emod_of_nonneg (by omega), Int.natCast_emod, Int.natCast_add]
        exact ⟨rfl, rfl⟩
      have hY : bk = true → ((f : Int) + (n : Int) - (k : Int)) % (n : Int) = (wCol n f bk k : Nat) ∧ ((f : Int) + (n : Int) - (k : Int)).tmod (n : Int) = (wCol n f bk k : Nat) := fun e => by
        subst e
        unfold wCol
        rw [if_pos rfl, Int.tmod_eq_emod_of_nonneg (by omega)]
        have : ((f + n - k : Nat) : Int) = (f : Int) + n - k := by omega
        rw [Int.natCast_emod, this]
        exact ⟨rfl, rfl⟩
      generalize wCol n f bk k = wc at *
      obtain ⟨y, hy⟩ : ∃ y, nmOf ss wc = .string y := ⟨_, rfl⟩
      rw [hy] at cn3
      have HY := hide hy
      clear hy
      have wc0 : (0 : Int) ≤ (wc : Int) := by omega
      have wcn : (wc : Int) < (n : Int) := by omega
      have nz : ¬ (n : Int) = 0 := by omega
      have HB3 := hide b3
      have HCN := hide hcell2
      cases bk with
      | false =>
        obtain ⟨y1, y2⟩ := hX rfl
        clear hX hY
        go_wp2_with (first | (at_builtin; refine wpList_append_g _ rfl _ _ 22 22 rfl 9 (.string ByteArray.empty) 1 16 Tryz.underlying22 kiS rfl _ _ _ rfl (hm6.ext ((Kp.refl _ _).alloc _)) _ rfl 1 _ (src_elemA _ _ _ Tryz.underlying22 _ [.string y] rfl (one_cell _ rfl)) (by omega) (by omega) ?_; intro v7 w7 o7 k7 s7) | (at_builtin; go_must (refine wpList_append_g _ rfl _ _ 46 46 rfl 3 (.int .i64 0) 1 8 Tryz.underlying46 kiI rfl _ _ _ rfl (ho.ext ((Kp.refl _ _).alloc _)) _ rfl 1 _ (src_elemA _ _ _ Tryz.underlying46 _ [.int .i64 (wc : Int)] rfl (one_cell _ rfl)) (by omega) (by omega) ?_); intro v6 w6 o6 k6 s6; have x6 : Ext wr (wr.alloc (.cells #[.int .i64 (wc : Int)] 3)) := (Kp.refl _ _).alloc _; have hx6 : Ext w3 w6 := (hx.trans x6).then k6 (fun i hi e => by have := (hog i e).1; omega); have b6 := b3.kept hx6 id; have d6 := b6.cell 0; simp only [List.getElem?_cons_zero] at d6; have cn6 := hx6.cell cn3 id; have hm6 := (hm.ext x6).kept k6 (fun g e e' => (hog g e').2 e)) | fail)
        have x7 : Ext w6 (w6.alloc (.cells #[.string y] 9)) := (Kp.refl _ _).alloc _
        have z6 := hx6.size
        refine ⟨⟨k + 1, by go_num, by omega, ?_, ?_, fun g e => ⟨?_, fun e' => ?_⟩, fun g e => ?_, (hx6.trans x7).then k7 (fun i hi e => by have := hmg i e; omega)⟩, by simp [intOf]; omega⟩
        · rw [HW.out, List.map_append]
          exact (o6.ext x7).kept k7 (fun g e e' => by
            rcases sep_new s6 e with q | q
            · exact (hog g q).2 e'
            · have := hm.lt e'; have := x6.size; omega)
        · rw [HW.out, List.map_append, List.map_cons, List.map_nil, HY.out]
          exact o7
        · rcases sep_new s6 e with q | q
          · exact (hog g q).1
          · have := x6.size; have := hx.size; omega
        · rcases sep_new s6 e with q | q
          · rcases sep_new s7 e' with q' | q'
            · exact (hog g q).2 q'
            · have := o6.lt e; have := x7.size; omega
          · rcases sep_new s7 e' with q' | q'
            · have := hm.lt q'; have := x6.size; omega
            · have := o6.lt e; have := x7.size; omega
        · rcases sep_new s7 e with q | q
          · exact hmg g q
          · have := x7.size; omega
      | true =>
        obtain ⟨y1, y2⟩ := hY rfl
        clear hX hY
        go_wp2_with (first | (at_builtin; refine wpList_append_g _ rfl _ _ 22 22 rfl 9 (.string ByteArray.empty) 1 16 Tryz.underlying22 kiS rfl _ _ _ rfl (hm6.ext ((Kp.refl _ _).alloc _)) _ rfl 1 _ (src_elemA _ _ _ Tryz.underlying22 _ [.string y] rfl (one_cell _ rfl)) (by omega) (by omega) ?_; intro v7 w7 o7 k7 s7) | (at_builtin; go_must (refine wpList_append_g _ rfl _ _ 46 46 rfl 3 (.int .i64 0) 1 8 Tryz.underlying46 kiI rfl _ _ _ rfl (ho.ext ((Kp.refl _ _).alloc _)) _ rfl 1 _ (src_elemA _ _ _ Tryz.underlying46 _ [.int .i64 (wc : Int)] rfl (one_cell _ rfl)) (by omega) (by omega) ?_); intro v6 w6 o6 k6 s6; have x6 : Ext wr (wr.alloc (.cells #[.int .i64 (wc : Int)] 3)) := (Kp.refl _ _).alloc _; have hx6 : Ext w3 w6 := (hx.trans x6).then k6 (fun i hi e => by have := (hog i e).1; omega); have b6 := b3.kept hx6 id; have d6 := b6.cell 0; simp only [List.getElem?_cons_zero] at d6; have cn6 := hx6.cell cn3 id; have hm6 := (hm.ext x6).kept k6 (fun g e e' => (hog g e').2 e)) | fail)
        have x7 : Ext w6 (w6.alloc (.cells #[.string y] 9)) := (Kp.refl _ _).alloc _
        have z6 := hx6.size
        refine ⟨⟨k + 1, by go_num, by omega, ?_, ?_, fun g e => ⟨?_, fun e' => ?_⟩, fun g e => ?_, (hx6.trans x7).then k7 (fun i hi e => by have := hmg i e; omega)⟩, by simp [intOf]; omega⟩
        · rw [HW.out, List.map_append]
          exact (o6.ext x7).kept k7 (fun g e e' => by
            rcases sep_new s6 e with q | q
            · exact (hog g q).2 e'
            · have := hm.lt e'; have := x6.size; omega)
        · rw [HW.out, List.map_append, List.map_cons, List.map_nil, HY.out]
          exact o7
        · rcases sep_new s6 e with q | q
          · exact (hog g q).1
          · have := x6.size; have := hx.size; omega
        · rcases sep_new s6 e with q | q
          · rcases sep_new s7 e' with q' | q'
            · exact (hog g q).2 q'
            · have := o6.lt e; have := x7.size; omega
          · rcases sep_new s7 e' with q' | q'
            · have := hm.lt q'; have := x6.size; omega
            · have := o6.lt e; have := x7.size; omega
        · rcases sep_new s7 e with q | q
          · exact hmg g q
          · have := x7.size; omega
    · obtain rfl : k = 1 + c := by omega
      have hkl2 : ¬ ((1 + c : Nat) : Int) < 1 + (c : Int) := by omega
      go_wp2_with fail
      go_ret2
      rw [HBK.out]
      exact ⟨_, _, rfl, ho, hm, fun g e => by have := (hog g e).1; omega, fun g e => by have := hmg g e; omega, h3.ext hx, kw3.trans (Kp.of_ext hx)⟩
end Go.Proofs.YthicgffppmbamaaGreat

namespace Go.Proofs.YthicgffppmbamaaGreat
open Go.RowKit

theorem RdP.src {C : Nat → Prop} {w : World} {v : Value} {cs : List Value} {P : Program} {t e : TypeId} (ht : P.underlying t = some (.slice e)) (h : RdP C w v cs) (h1 : ∀ u ∈ cs, u.oneCell' = true) : Src P 1 t v cs.length cs w := by
  obtain ⟨ao, cap, rfl, h2, -, h3⟩ := h
  by_cases hp : 0 < cs.length
  · obtain ⟨b, off, rfl, -, hc⟩ := h3 hp
    exact Src.ofSlice (P := P) w (e' := e) ht _ _ _ _ (Nat.mul_one cs.length).symm (fun j u hu => by
      rw [Addr.add_lit, hc j (List.getElem?_eq_some_iff.1 hu).1]
      exact hu) h1
  · obtain rfl := List.eq_nil_of_length_eq_zero (show cs.length = 0 by omega)
    cases ao with
    | none => exact Src.ofNil (P := P) w (e' := e) ht _
    | some a => exact Src.ofSlice (P := P) w (e' := e) ht _ _ _ _ rfl (fun j u hu => by simp at hu) (by simp)
theorem RdP.get {C : Nat → Prop} {w : World} {v : Value} {cs : List Value} (h : RdP C w v cs) : ∃ ao cap, v = .slice ao cs.length cap ∧ cs.length ≤ cap ∧ (0 < cs.length → ∃ b off, ao = some ⟨b, off, none⟩ ∧ C b ∧ b < w.heap.size ∧ ∀ j, j < cs.length → w.cell? ⟨b, off + j, none⟩ = cs[j]?) := by
  obtain ⟨ao, cap, rfl, h2, -, h3⟩ := h
  refine ⟨ao, cap, rfl, h2, fun hp => ?_⟩
  obtain ⟨b, off, rfl, hb, hc⟩ := h3 hp
  refine ⟨b, off, rfl, hb, ?_, hc⟩
  have := hc 0 hp
  rw [List.getElem?_eq_getElem hp] at this
  simpa using World.block_lt_of_cell? _ _ this
theorem one_ints (l : List Int) : ∀ u ∈ l.map I, u.oneCell' = true := fun u hu => by
  simp at hu
  obtain ⟨x, -, rfl⟩ := hu
  rfl
theorem one_strs (l : List ByteArray) : ∀ u ∈ l.map Value.string, u.oneCell' = true := fun u hu => by
  simp at hu
  obtain ⟨x, -, rfl⟩ := hu
  rfl

theorem TII.get {C : Nat → Prop} {w : World} {v : Value} {xss : List (List Int)} (h : TII C w v xss) : ∃ (ao : Option Addr) (cap : Nat) (vs : List Value), v = .slice ao xss.length cap ∧ xss.length ≤ cap ∧ vs.length = xss.length ∧ (∀ (j : Nat) (x : Value) (xs : List Int), vs[j]? = some x → xss[j]? = some xs → RdP C w x (xs.map I)) ∧ (0 < xss.length → ∃ b off, ao = some ⟨b, off, none⟩ ∧ C b ∧ b < w.heap.size ∧ ∀ j, j < xss.length → w.cell? ⟨b, off + j, none⟩ = vs[j]?) := by
  obtain ⟨vs, h1, h2, h3⟩ := h
  obtain ⟨ao, cap, rfl, h4, h5⟩ := h1.get
  rw [h2] at h4 h5 ⊢
  exact ⟨ao, cap, vs, rfl, h4, h2, h3, h5⟩

set_option maxRecDepth 20000 in
set_option maxHeartbeats 4000000 in
theorem kown_any (w : World) (nv gv : Value) (ss : List ByteArray) (gs : List (List (List Int))) (C : Nat → Prop) (hn : RdP C w nv (ss.map Value.string)) (hg : TIII C w gv gs) (hs : ss.length ≤ 4) (hgl : gs.length ≤ 6) (hgi : ∀ G ∈ gs, G.length ≤ 4 ∧ ∀ x ∈ G, x.length ≤ 20) :
    Calls Tryz.prog 51 #[.agg #[nv, gv]] w fun e w' => ∃ nv' gv', e = .returned (.agg #[nv', gv']) ∧ RdP (fun b => w.heap.size ≤ b) w' nv' (ss.map Value.string) ∧ TIII (fun b => w.heap.size ≤ b) w' gv' gs ∧ Ext w w' := by
  have hn0 := hn
  obtain ⟨na, nc, rfl, hnc, -⟩ := hn.get
  replace hg : TIII (fun b => b < w.heap.size) w gv gs := hg.mono (fun b hb _ => hb)
  obtain ⟨gvs, hgr, hgvl, hge⟩ := hg
  obtain ⟨ga, gc, rfl, hgc, hg3⟩ := hgr.get
  rw [List.length_map] at hnc hn0 ⊢
  rw [hgvl] at hgc hg3 ⊢
  have HGV := hide hgvl
  have x0 : Ext w (((w.alloc (.cells #[.slice na ss.length nc, .slice ga gs.length gc] 42)).alloc (.cells #[.slice none 0 0, .slice none 0 0] 42)).alloc (.cells #[.slice none 0 0, .slice none 0 0] 42)) := (((Kp.refl _ _).alloc _).alloc _).alloc _
  have b0 := (Blk.of_alloc w [.slice na ss.length nc, .slice ga gs.length gc] 42).kept (S := fun _ => False) (((Kp.refl _ _).alloc (.cells #[.slice none 0 0, .slice none 0 0] 42)).alloc (.cells #[.slice none 0 0, .slice none 0 0] 42)) id
  have b1 := (Blk.of_alloc (w.alloc (.cells #[.slice na ss.length nc, .slice ga gs.length gc] 42)) [.slice none 0 0, .slice none 0 0] 42).kept (S := fun _ => False) ((Kp.refl _ _).alloc (.cells #[.slice none 0 0, .slice none 0 0] 42)) id
  have b2 := Blk.of_alloc ((w.alloc (.cells #[.slice na ss.length nc, .slice ga gs.length gc] 42)).alloc (.cells #[.slice none 0 0, .slice none 0 0] 42)) [.slice none 0 0, .slice none 0 0] 42
  have za : ∀ (u : World) (o : Obj), (u.alloc o).heap.size = u.heap.size + 1 := fun u o => by simp
  rw [za] at b1
  rw [za, za] at b2
  have z0 : Hid ((((w.alloc (.cells #[.slice na ss.length nc, .slice ga gs.length gc] 42)).alloc (.cells #[.slice none 0 0, .slice none 0 0] 42)).alloc (.cells #[.slice none 0 0, .slice none 0 0] 42)).heap.size = w.heap.size + 3) := by show _ = _; rw [za, za, za]
  have hnr := RdP.src (P := Tryz.prog) Tryz.underlying22 (hn0.kept x0 (fun _ _ f => f)) (one_strs ss)
  rw [List.length_map] at hnr
  clear hgvl za hn hn0
  go_enter Tryz.func51, Tryz.ntmps51
  go_wp2_with (at_builtin; go_must (refine wpList_append_g _ rfl _ _ 22 22 rfl 9 (.string ByteArray.empty) 1 16 Tryz.underlying22 kiS rfl (.slice none 0 0) _ _ rfl (Own.nil _ _) _ rfl ss.length _ hnr (by omega) (by omega) ?_); intro v1 w1 o1 k1 s1; obtain ⟨va, vc, rfl, hvc⟩ := o1.shape; have x1 := k1.mono (S' := fun _ => False) (fun i _ e => by simp [Of, Value.ownBlock] at e); have b21 := b2.kept x1 id; have c21 := b21.cell 0; have f21 := b21.free 0; simp only [List.getElem?_cons_zero] at c21)
  rw [Nat.zero_add] at hvc o1
  rw [List.nil_append] at o1
  have hxw1 := x0.trans x1
  have hvg : ∀ g, (Value.slice va ss.length vc).ownBlock = some g → w.heap.size + 3 ≤ g := fun g e => by
    rcases s1 with e' | ⟨g', e1, e2⟩
    · rw [Nat.zero_add] at e'
      rw [e'] at e
      simp [Value.ownBlock] at e
    · rw [Nat.zero_add] at e1
      rw [e1] at e
      have := z0.out
      simp only [Option.some.injEq] at e
      omega
  have kset := kp_set' w1 (w.heap.size + 1 + 1) 0 (.slice va (0 + ss.length) vc)
  rw [Nat.zero_add] at kset
  have hOut := b21.set 0 (.slice va ss.length vc)
  simp only [List.set_cons_zero] at hOut
  have hRes := (b1.kept x1 id).kept kset (by show ¬ w.heap.size + 1 = w.heap.size + 1 + 1; omega)
  have hBox := (b0.kept x1 id).kept kset (by show ¬ w.heap.size = w.heap.size + 1 + 1; omega)
  have o2 := o1.kept kset (fun g e => by have := hvg g e; show ¬ g = w.heap.size + 1 + 1; omega)
  have hx2 : Ext w (w1.setCell ⟨w.heap.size + 1 + 1, 0, none⟩ (.slice va ss.length vc)) := hxw1.setCell (p := ⟨w.heap.size + 1 + 1, 0, none⟩) (.inr (by show w.heap.size ≤ w.heap.size + 1 + 1; omega)) _
  have z2 : w.heap.size + 3 ≤ (w1.setCell ⟨w.heap.size + 1 + 1, 0, none⟩ (.slice va ss.length vc)).heap.size := by rw [size_set]; exact Nat.le_trans (Nat.le_of_eq z0.out.symm) x1.size
  have hge2 := fun i x xs a b => (hge i x xs a b).kept hx2 (fun _ _ f => f)
  have hgc2 : 0 < gs.length → ∃ b off, ga = some ⟨b, off, none⟩ ∧ b < w.heap.size ∧ ∀ j, j < gs.length → (w1.setCell ⟨w.heap.size + 1 + 1, 0, none⟩ (.slice va ss.length vc)).cell? ⟨b, off + j, none⟩ = gvs[j]? := fun hp => by
    obtain ⟨b, off, e, -, hb, hc⟩ := hg3 hp
    refine ⟨b, off, e, hb, fun j hj => ?_⟩
    have := hc j hj
    have hjl : j < gvs.length := by rw [HGV.out]; exact hj
    rw [List.getElem?_eq_getElem hjl] at this ⊢
    exact hx2.cell this id
  clear b0 b1 b2 z0 hnr hge hgr hg3 x0 x1 b21 c21 f21 k1 s1 o1 kset hxw1
  generalize w1.setCell ⟨w.heap.size + 1 + 1, 0, none⟩ (.slice va ss.length vc) = W2 at *
  generalize hvE : Value.slice va ss.length vc = v1 at *
  have hOl := hOut.lt
  go_loopw [4] (fun i wr => ∃ (k : Nat) (gv : Value) (vs : List Value), i = .int .i64 k ∧ k ≤ gs.length ∧ Blk wr (w.heap.size + 1 + 1) [v1, gv] 42 ∧ Own wr 1 gv k vs ∧ (∀ g, gv.ownBlock = some g → W2.heap.size ≤ g) ∧ (∀ (i : Nat) (x : Value) (xs : List (List Int)), vs[i]? = some x → (gs.take k)[i]? = some xs → TII (fun b => W2.heap.size ≤ b ∧ ¬ Of gv b) wr x xs) ∧ Kp (fun q => q = w.heap.size + 1 + 1) W2 wr) (fun i _ => 10 - (intOf i).toNat)
  case atStart => exact ⟨0, _, [], rfl, by omega, hOut, Own.nil _ _, fun g e => by simp [Value.ownBlock] at e, fun i x xs a => by simp at a, Kp.refl _ _⟩
  case round =>
    obtain ⟨k, gv, vs, rfl, hk, hT, ho, hgg, hin, hKq⟩ := hrel
    have hvl := ho.1
    rw [Nat.mul_one] at hvl
    obtain ⟨gva, gvc, rfl, hgvc⟩ := ho.shape
    have hBr := hBox.kept hKq (by show ¬ w.heap.size = w.heap.size + 1 + 1; omega)
    have c1 := hBr.cell 1
    simp only [List.getElem?_cons_zero, List.getElem?_cons_succ] at c1
    by_cases hkl : k < gs.length
    · have hkl2 : (k : Int) < (gs.length : Int) := by omega
      have kk0 : (0 : Int) ≤ (k : Int) := by omega
      obtain ⟨gb, goff, rfl, hgb, hgcell⟩ := hgc2 (by omega)
      have hgk := hgcell k hkl
      have hkv : k < gvs.length := by rw [HGV.out]; exact hkl
      rw [List.getElem?_eq_getElem hkv] at hgk
      have hT2 := hge2 k gvs[k] gs[k] (List.getElem?_eq_getElem hkv) (List.getElem?_eq_getElem hkl)
      obtain ⟨hG4, hG20⟩ := hgi gs[k] (List.getElem_mem hkl)
      have HTK : Hid (gs.take (k + 1) = gs.take k ++ [gs[k]]) := hide (List.take_succ_eq_append_getElem hkl)
      generalize gvs[k] = gk at *
      generalize gs[k] = Gk at *
      have hgkr := hKq.cell hgk (by show ¬ gb = w.heap.size + 1 + 1; omega)
      obtain ⟨ia, ic, us0, rfl, hic, hul0, hel0, hcell0⟩ := hT2.get
      have HUL := hide hul0
      clear hul0 hgk hgcell
      go_wp2_with fail
      generalize wr = wA at *
      go_loopw [5, 6] (fun x i wq => ∃ (j : Nat) (us : List Value), i = .int .i64 j ∧ j ≤ Gk.length ∧ Own wq 1 x j us ∧ (∀ g, x.ownBlock = some g → wA.heap.size ≤ g) ∧ (∀ (i : Nat) (y : Value) (ys : List Int), us[i]? = some y → (Gk.take j)[i]? = some ys → RdP (fun b => wA.heap.size ≤ b ∧ ¬ Of x b) wq y (ys.map I)) ∧ Ext wA wq) (fun _ i _ => 5 - (intOf i).toNat)
      case atStart => exact ⟨0, [], rfl, by omega, Own.nil _ _, fun g e => by simp [Value.ownBlock] at e, fun i y ys a => by simp at a, Kp.refl _ _⟩
      case round =>
        obtain ⟨j, us, rfl, hj, hx, hxg, hxi, hxK⟩ := hrel
        have hul := hx.1
        rw [Nat.mul_one] at hul
        obtain ⟨xa, xc, rfl, hxc⟩ := hx.shape
        have d1 := hxK.cell c1 id
        have dg := hxK.cell hgkr id
        by_cases hjl : j < Gk.length
        · have hjl2 : (j : Int) < (Gk.length : Int) := by omega
          have jj0 : (0 : Int) ≤ (j : Int) := by omega
          obtain ⟨ib, ioff, rfl, hib, -, hicell⟩ := hcell0 (by omega)
          have hjc := hicell j hjl
          have hju : j < us0.length := by rw [HUL.out]; exact hjl
          rw [List.getElem?_eq_getElem hju] at hjc
          have hel := hel0 j us0[j] Gk[j] (List.getElem?_eq_getElem hju) (List.getElem?_eq_getElem hjl)
          have h20 := hG20 Gk[j] (List.getElem_mem hjl)
          have HTJ : Hid (Gk.take (j + 1) = Gk.take j ++ [Gk[j]]) := hide (List.take_succ_eq_append_getElem hjl)
          generalize us0[j] = uj at *
          generalize Gk[j] = Lj at *
          have hib2 : ib < w.heap.size := hib
          have hlr := (hel.kept hKq (fun b hb e => by have : b = w.heap.size + 1 + 1 := e; omega)).kept hxK (fun _ _ f => f)
          have hjr := hxK.cell (hKq.cell hjc (by show ¬ ib = w.heap.size + 1 + 1; omega)) id
          obtain ⟨la, lc, rfl, hlc, -⟩ := hlr.get
          have hsrc := RdP.src (P := Tryz.prog) Tryz.underlying46 hlr (one_ints Lj)
          rw [List.length_map] at hsrc hlc hjr
          have HS := hide hsrc
          clear hsrc hel hjc hicell hcell0 hel0
          go_wp2_with (first | (at_builtin; refine wpList_append_g _ rfl _ _ 51 51 rfl 46 (.slice none 0 0) 1 24 Tryz.underlying51 kiL rfl _ _ _ rfl (hx5.ext ((Kp.refl _ _).alloc _)) _ rfl 1 _ (src_elemA _ _ _ Tryz.underlying51 _ [.slice l5a Lj.length l5c] rfl (one_cell _ rfl)) (by omega) (by omega) ?_; intro v6 w6 o6 k6 s6) | (at_builtin; go_must (refine wpList_append_g _ rfl _ _ 46 46 rfl 3 (.int .i64 0) 1 8 Tryz.underlying46 kiI rfl (.slice none 0 0) _ _ rfl (Own.nil _ _) _ rfl Lj.length _ (unhide HS) (by omega) (by omega) ?_); intro v5 w5 o5 k5 s5; rw [Nat.zero_add] at o5; rw [List.nil_append] at o5; have x5 := k5.mono (S' := fun _ => False) (fun i _ e => by simp [Of, Value.ownBlock] at e); have hg5 : ∀ g, v5.ownBlock = some g → wr.heap.size ≤ g := (fun g e => (sep_new s5 e).elim (fun e' => by simp [Value.ownBlock] at e') id); obtain ⟨l5a, l5c, rfl, h5c⟩ := o5.shape; have hx5 := hx.ext x5))
          have x6 : Ext w5 (w5.alloc (.cells #[.slice l5a Lj.length l5c] 46)) := (Kp.refl _ _).alloc _
          have z5 := x5.size
          have z6 := x6.size
          have zA := hxK.size
          have hxlt : ∀ g, (Value.slice xa j xc).ownBlock = some g → g < wr.heap.size := fun g e => hx.lt e
          refine ⟨⟨j + 1, us ++ [.slice l5a Lj.length l5c], by go_num, by omega, by simpa using o6, fun g e => ?_, ?_, ?_⟩, by simp [intOf]; omega⟩
          · rcases sep_new s6 e with e' | e'
            · exact hxg g e'
            · omega
          · rw [HTJ.out]
            refine snoc_all (by rw [List.length_take]; omega) (fun i y ys a b => ?_) ?_
            · have q1 := ((hxi i y ys a b).kept x5 (fun _ _ f => f)).kept x6 (fun _ _ f => f)
              have q2 := q1.mono (C' := fun b => wA.heap.size ≤ b ∧ ¬ Of (.slice xa j xc) b ∧ ¬ Of v6 b) (fun b hb hc => ⟨hc.1, hc.2, fun e => (sep_new s6 e).elim hc.2 (fun e' => by omega)⟩)
              exact (q2.kept k6 (fun b hb => hb.2.1)).mono (fun b _ hc => ⟨hc.1, hc.2.2⟩)
            · have q1 := (o5.rdP (by omega) (fun b => wr.heap.size ≤ b) hg5).kept x6 (fun _ _ f => f)
              have q2 := q1.mono (C' := fun b => wA.heap.size ≤ b ∧ ¬ Of (.slice xa j xc) b ∧ ¬ Of v6 b) (fun b hb hc => ⟨by omega, fun e => by have := hxlt b e; omega, fun e => (sep_new s6 e).elim (fun e' => by have := hxlt b e'; omega) (fun e' => by omega)⟩)
              exact (q2.kept k6 (fun b hb => hb.2.1)).mono (fun b _ hc => ⟨hc.1, hc.2.2⟩)
          · exact ((hxK.trans x5).trans x6).then k6 (fun i hi e => by have := hxg i e; omega)
        · obtain rfl : j = Gk.length := by omega
          rw [List.take_length] at hxi
          have zA := hxK.size
          have hzq := hKq.size
          have hTa := hT.kept hxK id
          have hoa := ho.kept hxK (fun _ _ f => f)
          have c1o := hTa.cell 1
          have f1o := hTa.free 1
          simp only [List.getElem?_cons_zero, List.getElem?_cons_succ] at c1o
          go_wp2_with (at_builtin; go_must (refine wpList_append_g _ rfl _ _ 40 40 rfl 51 (.slice none 0 0) 1 24 Tryz.underlying40 kiG rfl _ _ _ rfl (hoa.ext ((Kp.refl _ _).alloc _)) _ rfl 1 _ (src_elemA _ _ _ Tryz.underlying40 _ [.slice xa Gk.length xc] rfl (one_cell _ rfl)) (by omega) (by omega) ?_); intro v6 w6 o6 k6 s6; obtain ⟨ya, yc, rfl, hyc⟩ := o6.shape; have hT6 := (hTa.kept (S := fun _ => False) ((Kp.refl _ _).alloc (.cells #[.slice xa Gk.length xc] 51)) id).kept k6 (fun e => by have := hgg _ e; omega); have c6 := hT6.cell 1; have f6 := hT6.free 1; simp only [List.getElem?_cons_zero, List.getElem?_cons_succ] at c6)
          have x6 : Ext wr (wr.alloc (.cells #[.slice xa Gk.length xc] 51)) := (Kp.refl _ _).alloc _
          have z6 := x6.size
          have hlt6 : ∀ g, (Value.slice gva k gvc).ownBlock = some g → g < wA.heap.size := fun g e => ho.lt e
          have hg6 : ∀ g, (Value.slice ya (k + 1) yc).ownBlock = some g → W2.heap.size ≤ g := fun g e => by
            rcases sep_new s6 e with e' | e'
            · exact hgg g e'
            · omega
          have kset := kp_set' w6 (w.heap.size + 1 + 1) 1 (Value.slice ya (k + 1) yc)
          have hKw6 : Kp (fun q => q = w.heap.size + 1 + 1) W2 w6 := (hKq.trans (Kp.of_ext (hxK.trans x6))).then k6 (fun i hi e => by have := hgg i e; omega)
          refine ⟨⟨k + 1, (Value.slice ya (k + 1) yc), vs ++ [.slice xa Gk.length xc], by go_num, by omega, hT6.set 1 _, ?_, hg6, ?_, ?_⟩, by simp [intOf]; omega⟩
          · have o7 : Own w6 1 (Value.slice ya (k + 1) yc) (k + 1) (vs ++ [.slice xa Gk.length xc]) := by simpa using o6
            exact o7.kept kset (fun g e => by have := hg6 g e; show ¬ g = w.heap.size + 1 + 1; omega)
          · rw [HTK.out]
            refine snoc_all (by rw [List.length_take]; omega) (fun i y ys a b => ?_) ?_
            · have q1 := ((hin i y ys a b).kept hxK (fun _ _ f => f)).kept x6 (fun _ _ f => f)
              have q2 := q1.mono (C' := fun b => W2.heap.size ≤ b ∧ ¬ Of (.slice gva k gvc) b ∧ ¬ Of (Value.slice ya (k + 1) yc) b) (fun b hb hc => ⟨hc.1, hc.2, fun e => (sep_new s6 e).elim hc.2 (fun e' => by omega)⟩)
              exact ((q2.kept k6 (fun b hb => hb.2.1)).mono (C' := fun b => W2.heap.size ≤ b ∧ ¬ Of (Value.slice ya (k + 1) yc) b) (fun b _ hc => ⟨hc.1, hc.2.2⟩)).kept kset (fun b hb e => by have := hb.1; have : b = w.heap.size + 1 + 1 := e; omega)
            · have q0 : TII (fun b => wA.heap.size ≤ b) wr (.slice xa Gk.length xc) Gk := ⟨us, hx.rdP (by omega) _ hxg, by omega, fun i y ys a b => (hxi i y ys a b).mono (fun b _ hc => hc.1)⟩
              have q1 := q0.kept x6 (fun _ _ f => f)
              have q2 := q1.mono (C' := fun b => W2.heap.size ≤ b ∧ ¬ Of (.slice gva k gvc) b ∧ ¬ Of (Value.slice ya (k + 1) yc) b) (fun b hb hc => ⟨by omega, fun e => by have := hlt6 b e; omega, fun e => (sep_new s6 e).elim (fun e' => by have := hlt6 b e'; omega) (fun e' => by omega)⟩)
              exact ((q2.kept k6 (fun b hb => hb.2.1)).mono (C' := fun b => W2.heap.size ≤ b ∧ ¬ Of (Value.slice ya (k + 1) yc) b) (fun b _ hc => ⟨hc.1, hc.2.2⟩)).kept kset (fun b hb e => by have := hb.1; have : b = w.heap.size + 1 + 1 := e; omega)
          · exact hKw6.setCell (p := ⟨w.heap.size + 1 + 1, 1, none⟩) (.inl rfl) _
    · obtain rfl : k = gs.length := by omega
      have hkl2 : ¬ (gs.length : Int) < (gs.length : Int) := by omega
      rw [List.take_length] at hin
      subst hvE
      have d0 := hT.cell 0
      have d1 := hT.cell 1
      have hzq := hKq.size
      simp only [List.getElem?_cons_zero, List.getElem?_cons_succ] at d0 d1
      have hRq := hRes.kept hKq (by show ¬ w.heap.size + 1 = w.heap.size + 1 + 1; omega)
      have r0 := hRq.cell 0
      have r1 := hRq.cell 1
      have rf0 := hRq.free 0
      have rf1 := hRq.free 1
      simp only [List.getElem?_cons_zero, List.getElem?_cons_succ] at r0 r1
      go_wp2_with fail
      have b2 := (hRq.set 0 (.slice va ss.length vc)).set 1 (.slice gva gs.length gvc)
      have kss : Kp (fun k => k = w.heap.size + 1) wr ((wr.setCell ⟨w.heap.size + 1, 0, none⟩ (.slice va ss.length vc)).setCell ⟨w.heap.size + 1, 1, none⟩ (.slice gva gs.length gvc)) := (kp_set' wr (w.heap.size + 1) 0 _).trans (kp_set' _ (w.heap.size + 1) 1 _)
      generalize (wr.setCell ⟨w.heap.size + 1, 0, none⟩ (.slice va ss.length vc)).setCell ⟨w.heap.size + 1, 1, none⟩ (.slice gva gs.length gvc) = WF at *
      have q0 := b2.cell 0
      have q1 := b2.cell 1
      simp only [List.set_cons_zero, List.set_cons_succ, List.getElem?_cons_zero, List.getElem?_cons_succ] at q0 q1
      refine bodyPost_ret (v := .agg #[.slice va ss.length vc, .slice gva gs.length gvc]) (by simp [results, Tryz.results51, go_sem, q0, q1]) rfl ?_
      refine ⟨_, _, rfl, ?_, ?_, ?_⟩
      · have q0 : RdP (fun b => w.heap.size + 3 ≤ b) wr (.slice va ss.length vc) (ss.map Value.string) := (o2.kept hKq (fun g e => by have := hvg g e; show ¬ g = _; omega)).rdP (by omega) _ hvg
        exact (q0.kept kss (fun b hb e => by have : b = w.heap.size + 1 := e; omega)).mono (C' := fun b => w.heap.size ≤ b) (fun b _ hb => by omega)
      · have q0 : TIII (fun b => W2.heap.size ≤ b) wr (.slice gva gs.length gvc) gs := ⟨vs, ho.rdP (by omega) _ hgg, by omega, fun i y ys a b => (hin i y ys a b).mono (fun b _ hc => hc.1)⟩
        exact (q0.kept kss (fun b hb e => by have : b = w.heap.size + 1 := e; omega)).mono (fun b _ hb => by omega)
      · exact (hx2.then hKq (fun i hi e => by have : i = w.heap.size + 1 + 1 := e; omega)).then kss (fun i hi e => by have : i = w.heap.size + 1 := e; omega)
end Go.Proofs.YthicgffppmbamaaGreat

namespace Go.Proofs.YthicgffppmbamaaGreat
open Go.RowKit

theorem or_parts (a b k : Nat) (h : a < 2 ^ k) : a ||| b * 2 ^ k = a + b * 2 ^ k := by
  have := Nat.shiftLeft_add_eq_or_of_lt h b
  rw [Nat.shiftLeft_eq] at this
  rw [Nat.or_comm, ← this, Nat.add_comm]
theorem or_i64_nat (a b : Nat) (ha : a < 9223372036854775808) (hb : b < 9223372036854775808) : bits .or .i64 (a : Int) (b : Int) = ((a ||| b : Nat) : Int) := by
  have ho : a ||| b < 2 ^ 63 := Nat.or_lt_two_pow (n := 63) (by omega) (by omega)
  have e : ((BitVec.ofInt 64 (a : Int)) ||| (BitVec.ofInt 64 (b : Int))).toNat = a ||| b := by
    rw [BitVec.toNat_or, BitVec.ofInt_natCast, BitVec.ofInt_natCast, BitVec.toNat_ofNat, BitVec.toNat_ofNat, Nat.mod_eq_of_lt (by omega), Nat.mod_eq_of_lt (by omega)]
  show IntKind.i64.wrap (((BitVec.ofInt 64 (a : Int)) ||| (BitVec.ofInt 64 (b : Int))).toNat : Int) = _
  rw [e]
  generalize a ||| b = c at ho
  simp only [IntKind.wrap, IntKind.bits, IntKind.signed, Bool.true_and]
  rw [if_neg (by simp; omega)]
  omega
theorem or_u32_nat (a b : Nat) (ha : a < 4294967296) (hb : b < 4294967296) : bits .or .u32 (a : Int) (b : Int) = ((a ||| b : Nat) : Int) := by
  have ho : a ||| b < 2 ^ 32 := Nat.or_lt_two_pow (n := 32) (by omega) (by omega)
  have e : ((BitVec.ofInt 32 (a : Int)) ||| (BitVec.ofInt 32 (b : Int))).toNat = a ||| b := by
    rw [BitVec.toNat_or, BitVec.ofInt_natCast, BitVec.ofInt_natCast, BitVec.toNat_ofNat, BitVec.toNat_ofNat, Nat.mod_eq_of_lt (by omega), Nat.mod_eq_of_lt (by omega)]
  show IntKind.u32.wrap (((BitVec.ofInt 32 (a : Int)) ||| (BitVec.ofInt 32 (b : Int))).toNat : Int) = _
  rw [e]
  generalize a ||| b = c at ho
  simp only [IntKind.wrap, IntKind.bits, IntKind.signed, Bool.false_and]
  rw [if_neg (by simp)]
  omega
/-- a further seven bits of a varint -/
theorem or_more (n b i : Nat) (hn : n < 128 ^ i) (hb : b < 128) (hi : i < 9) : bits .or .i64 (n : Int) ((b * 128 ^ i : Nat) : Int) = ((n + b * 128 ^ i : Nat) : Int) ∧ n + b * 128 ^ i < 128 ^ (i + 1) ∧ b * 128 ^ i < 9223372036854775808 := by
  have e : (128 : Nat) ^ i = 2 ^ (7 * i) := by rw [show (128 : Nat) = 2 ^ 7 from rfl, ← Nat.pow_mul]
  have h2 : n + b * 128 ^ i < 128 ^ (i + 1) := by
    have : b * 128 ^ i ≤ 127 * 128 ^ i := Nat.mul_le_mul_right _ (by omega)
    rw [Nat.pow_succ]; omega
  have h3 : (128 : Nat) ^ (i + 1) ≤ 128 ^ 9 := Nat.pow_le_pow_right (by omega) (by omega)
  have h4 : (128 : Nat) ^ 9 = 9223372036854775808 := by decide
  refine ⟨?_, h2, by omega⟩
  rw [or_i64_nat _ _ (by omega) (by omega), e, or_parts _ _ _ (e ▸ hn)]
/-- a further byte of a sum -/
theorem or_byte (s b : Nat) (hb : b < 256) : bits .or .u32 ((s * 256 % 4294967296 : Nat) : Int) (b : Int) = ((s * 256 % 4294967296 + b : Nat) : Int) ∧ s * 256 % 4294967296 + b < 4294967296 := by
  have hs : s * 256 % 4294967296 = s % 16777216 * 2 ^ 8 := by omega
  refine ⟨?_, by omega⟩
  rw [or_u32_nat _ _ (by omega) (by omega), hs, Nat.or_comm, or_parts _ _ _ hb, Nat.add_comm]
end Go.Proofs.YthicgffppmbamaaGreat

namespace Go.Proofs.YthicgffppmbamaaGreat
open Go.RowKit

theorem RowAt.drop1 {C : Nat → Prop} {fr : Bool} {w : World} {b off L cap q : Nat} {cs : List Value} (h : RowAt C fr w 1 (.slice (some ⟨b, off, none⟩) L cap) L cs) (hq : q ≤ L) :
    RowAt C fr w 1 (.slice (if cap = q then some ⟨b, off, none⟩ else some ⟨b, off + q, none⟩) (L - q) (cap - q)) (L - q) (cs.drop q) := by
  obtain ⟨hl, ao, cap', e, h1, h3⟩ := h
  simp only [Value.slice.injEq] at e
  obtain ⟨rfl, _, rfl⟩ := e
  refine ⟨by rw [List.length_drop]; omega, _, cap - q, rfl, by omega, fun hp => ?_⟩
  obtain ⟨b', off', e, hb, hlt, hc, hf⟩ := h3 (by omega)
  simp only [Option.some.injEq, Addr.mk.injEq] at e
  obtain ⟨rfl, rfl, _⟩ := e
  refine ⟨b, off + q, by rw [if_neg (by omega)], hb, hlt, fun j hj => ?_, fun ht j hj => ?_⟩
  · rw [Nat.add_assoc, hc (q + j) (by omega), List.getElem?_drop]
  · rw [Nat.add_assoc]; exact hf ht (q + j) (by omega)
theorem RowAt.take1 {C : Nat → Prop} {fr : Bool} {w : World} {ao : Option Addr} {L cap q : Nat} {cs : List Value} (h : RowAt C fr w 1 (.slice ao L cap) L cs) (hq : q ≤ L) : RowAt C fr w 1 (.slice ao q cap) q (cs.take q) := by
  obtain ⟨hl, ao', cap', e, h1, h3⟩ := h
  simp only [Value.slice.injEq] at e
  obtain ⟨rfl, _, rfl⟩ := e
  refine ⟨by rw [List.length_take]; omega, ao, cap, rfl, by omega, fun hp => ?_⟩
  obtain ⟨b, off, e, hb, hlt, hc, hf⟩ := h3 (by omega)
  refine ⟨b, off, e, hb, hlt, fun j hj => ?_, fun ht j hj => hf ht j (by omega)⟩
  rw [hc j (by omega), List.getElem?_take_of_lt (by omega)]

/-- a reader at block q; what it reads lies in a block with C -/
structure RdrAt (C : Nat → Prop) (w : World) (q : Nat) (r : Pl.Rdr) (v : Value) : Prop where
  blk : Blk w q [v, .bool r.2] 246
  row : RowAt C false w 1 v r.1.length (r.1.map B)
def IsRdr (C : Nat → Prop) (w : World) (q : Nat) (r : Pl.Rdr) : Prop := ∃ v, RdrAt C w q r v
theorem IsRdr.kept {C : Nat → Prop} {S : Nat → Prop} {w w' : World} {q : Nat} {r : Pl.Rdr} (h : IsRdr C w q r) (k : Kp S w w') (hq : ¬ S q) (hS : ∀ i, C i → ¬ S i) : IsRdr C w' q r := by
  obtain ⟨v, a, b⟩ := h
  exact ⟨v, a.kept k hq, b.go k hS (fun _ _ e => e)⟩

set_option maxRecDepth 20000 in
set_option maxHeartbeats 1000000 in
theorem rbyte_any (C : Nat → Prop) (w : World) (q : Nat) (r : Pl.Rdr) (hq : ¬ C q) (h : IsRdr C w q r) (hl : r.1.length ≤ 1000000) :
    Calls Tryz.prog 172 #[PtrTo q 0] w fun e w' => e = .returned (.int .u8 (Pl.rByte r).1) ∧ IsRdr C w' q (Pl.rByte r).2 ∧ Kp (fun k => k = q) w w' ∧ w'.heap.size = w.heap.size := by
  obtain ⟨v, hb, hr⟩ := h
  obtain ⟨l, bad⟩ := r
  have c0 := hb.cell 0
  have c1 := hb.cell 1
  have f0 := hb.free 0
  have f1 := hb.free 1
  simp only [List.getElem?_cons_zero, List.getElem?_cons_succ] at c0 c1
  cases l with
  | nil =>
    obtain ⟨_, ao, cap, rfl, h1, -⟩ := hr
    simp only [List.length_nil] at c0 h1 hb
    have hr2 : RowAt C false (w.setCell ⟨q, 1, none⟩ (.bool true)) 1 (.slice ao 0 cap) 0 [] := ⟨rfl, ao, cap, rfl, h1, fun h => absurd h (by omega)⟩
    have hb2 : Blk (w.setCell ⟨q, 1, none⟩ (.bool true)) q [.slice ao 0 cap, .bool true] 246 := hb.set 1 (.bool true)
    go_enter Tryz.func172, Tryz.ntmps172
    go_wp2_with fail
    go_ret
    exact ⟨rfl, ⟨.slice ao 0 cap, hb2, hr2⟩, kp_set' _ _ _ _, size_set _ _ _⟩
  | cons b t =>
    have hr0 := hr
    obtain ⟨-, ao, cap, rfl, h1, h3⟩ := hr
    obtain ⟨g, off, rfl, hC, hlt, hc, -⟩ := h3 (by simp)
    have d0 := hc 0 (by simp)
    simp only [List.map_cons, List.getElem?_cons_zero, Nat.add_zero, B] at d0
    have hgq : ¬ g = q := fun e => hq (e ▸ hC)
    simp only [List.length_cons] at *
    have hr2 := hr0.drop1 (q := 1) (by omega)
    have HR := hide hr2
    clear hc h3 hr0 hr2
    have n0 : (1 : Int) ≤ (t.length : Int) + 1 := by omega
    go_enter Tryz.func172, Tryz.ntmps172
    go_wp2_with fail
    · have hr2 := HR.out
      simp only [h, if_true, Nat.add_sub_cancel, List.map_cons, List.drop_succ_cons, List.drop_zero, Nat.sub_self] at hr2
      go_ret
      exact ⟨rfl, ⟨_, hb.set 0 _, hr2.go (S := fun k => k = q) (kp_set' _ _ _ _) (fun i hi (e : i = q) => hq (e ▸ hi)) (fun _ _ e => e)⟩, kp_set' _ _ _ _, size_set _ _ _⟩
    · have hr2 := HR.out
      simp only [h, if_false, Nat.add_sub_cancel, List.map_cons, List.drop_succ_cons, List.drop_zero] at hr2
      go_ret
      exact ⟨rfl, ⟨_, hb.set 0 _, hr2.go (S := fun k => k = q) (kp_set' _ _ _ _) (fun i hi (e : i = q) => hq (e ▸ hi)) (fun _ _ e => e)⟩, kp_set' _ _ _ _, size_set _ _ _⟩

theorem rByte_lt (r : Pl.Rdr) : (Pl.rByte r).1 < 256 := by
  obtain ⟨l, b⟩ := r
  cases l with
  | nil => exact Nat.zero_lt_succ _
  | cons b t => exact b.toNat_lt
theorem rByte_len (r : Pl.Rdr) : (Pl.rByte r).2.1.length ≤ r.1.length := by
  obtain ⟨l, b⟩ := r
  cases l with
  | nil => exact Nat.le_refl _
  | cons b t => exact Nat.le_succ _

set_option maxRecDepth 20000 in
set_option maxHeartbeats 1000000 in
theorem rsum_any (C : Nat → Prop) (w : World) (q : Nat) (r : Pl.Rdr) (hq : ¬ C q) (h : IsRdr C w q r) (hl : r.1.length ≤ 1000000) :
    Calls Tryz.prog 161 #[PtrTo q 0] w fun e w' => e = .returned (.int .u32 (Pl.rSum r).1) ∧ IsRdr C w' q (Pl.rSum r).2 ∧ Kp (fun k => k = q) w w' ∧ w'.heap.size = w.heap.size := by
  go_enter Tryz.func161, Tryz.ntmps161
  go_wp2
  go_loopw [3, 4] (fun t i wr => ∃ (k s : Nat) (r' : Pl.Rdr), i = .int .i64 k ∧ k ≤ 4 ∧ t = .int .u32 s ∧ s < 4294967296 ∧ (s, r') = Pl.iter Pl.rSumS k (0, r) ∧ IsRdr C wr q r' ∧ r'.1.length ≤ 1000000 ∧ Kp (fun k => k = q) w wr ∧ wr.heap.size = w.heap.size) (fun _ i _ => 4 - (intOf i).toNat)
  case atStart => exact ⟨0, 0, r, rfl, by omega, rfl, by omega, rfl, h, hl, Kp.refl _ _, rfl⟩
  case round =>
    obtain ⟨k, s, r', rfl, hk, rfl, hs, he, hr, hl', kk, hz⟩ := hrel
    have HE := hide he
    have HZ := hide hz
    clear he hz
    have hb := rByte_lt r'
    have hbl := rByte_len r'
    by_cases hk4 : k < 4
    · go_wp2_with (go_at_call 172; refine (rbyte_any C _ q r' hq hr hl').mono ?_; rintro e w1 ⟨rfl, hr1, k1, z1⟩)
      have ho := or_byte s (Pl.rByte r').1 hb
      have hE : Pl.rSumS (s, r') = Pl.iter Pl.rSumS (k + 1) (0, r) := by rw [HE.out]; rfl
      refine ⟨⟨k + 1, (Pl.rSumS (s, r')).1, (Pl.rSumS (s, r')).2, by go_num, by omega, ?_, ho.2, hE, hr1, by simp only [Pl.rSumS]; omega, kk.trans k1, z1.trans HZ.out⟩, by simp [intOf]; omega⟩
      have e := ho.1
      simp only [Pl.rSumS]
      rw [← e, Int.natCast_emod, Int.natCast_mul]
      rfl
    · go_wp2_with fail
      go_ret
      have e4 : k = 4 := by omega
      subst e4
      have he := HE.out
      have e1 : s = (Pl.rSum r).1 := congrArg Prod.fst he
      have e2 : r' = (Pl.rSum r).2 := congrArg Prod.snd he
      rw [← e1, ← e2]
      exact ⟨rfl, hr, kk, HZ.out⟩

theorem or_wrap (n b k : Nat) (hn : n < 128 ^ k) (hk : k < 9) : bits .or .i64 (n : Int) (wrap64 ((b : Int) % 128 * 2 ^ (7 * k))) = ((n + b % 128 * 128 ^ k : Nat) : Int) ∧ n + b % 128 * 128 ^ k < 128 ^ (k + 1) := by
  have h := or_more n (b % 128) k hn (by omega) hk
  refine ⟨?_, h.2.1⟩
  rw [← h.1]
  have e : ((b : Int) % 128 * 2 ^ (7 * k)) = ((b % 128 * 128 ^ k : Nat) : Int) := by
    rw [show (128 : Nat) ^ k = 2 ^ (7 * k) by rw [show (128 : Nat) = 2 ^ 7 from rfl, ← Nat.pow_mul]]
    push_cast
    rfl
  rw [e]
  have h3 := h.2.2
  generalize b % 128 * 128 ^ k = c at h3
  congr 1
  unfold wrap64
  omega

set_option maxRecDepth 20000 in
set_option maxHeartbeats 1000000 in
theorem rvar_any (C : Nat → Prop) (w : World) (q : Nat) (r : Pl.Rdr) (hq : ¬ C q) (h : IsRdr C w q r) (hl : r.1.length ≤ 1000000) :
    Calls Tryz.prog 160 #[PtrTo q 0] w fun e w' => e = .returned (.tuple #[.int .i64 (Pl.rVar r).1, .bool (Pl.rVar r).2.1]) ∧ IsRdr C w' q (Pl.rVar r).2.2 ∧ Kp (fun k => k = q) w w' ∧ w'.heap.size = w.heap.size := by
  go_enter Tryz.func160, Tryz.ntmps160
  go_wp2
  go_loopw [4, 5] (fun t i wr => ∃ (k n : Nat) (r' : Pl.Rdr), i = .int .i64 (7 * k) ∧ k ≤ 9 ∧ t = .int .i64 n ∧ n < 128 ^ k ∧ Pl.rVarF (9 - k) k n r' = Pl.rVar r ∧ IsRdr C wr q r' ∧ r'.1.length ≤ 1000000 ∧ Kp (fun k => k = q) w wr ∧ wr.heap.size = w.heap.size) (fun _ i _ => 63 - (intOf i).toNat)
  case atStart => exact ⟨0, 0, r, rfl, by omega, rfl, by decide, rfl, h, hl, Kp.refl _ _, rfl⟩
  case round =>
    obtain ⟨k, n, r', rfl, hk, rfl, hn, he, hr, hl', kk, hz⟩ := hrel
    have HE := hide he
    have HZ := hide hz
    have HN := hide hn
    clear he hz hn
    have hb := rByte_lt r'
    have hbl := rByte_len r'
    by_cases hk9 : k < 9
    · have n1 : (7 : Int) * (k : Int) < 63 := by omega
      have ho := hide (or_wrap n (Pl.rByte r').1 k HN.out hk9)
      have e9 : Pl.rVar r = Pl.rVarF (9 - (k + 1) + 1) k n r' := by rw [← HE.out, show 9 - k = 9 - (k + 1) + 1 by omega]
      have HE9 := hide e9
      clear e9
      by_cases h128 : (Pl.rByte r').1 < 128
      · go_wp2_with (go_at_call 172; refine (rbyte_any C _ q r' hq hr hl').mono ?_; rintro e w1 ⟨rfl, hr1, k1, z1⟩)
        · rename_i h0
          have e := HE9.out
          simp only [Pl.rVarF, h0, Nat.zero_mod, Nat.zero_mul, Nat.add_zero, show (0 : Nat) < 128 by omega, if_true, Nat.lt_irrefl, false_or] at e
          have ho1 := ho.out.1
          simp only [h0, Nat.zero_mod, Nat.zero_mul, Nat.add_zero, Int.natCast_zero, Int.zero_emod, Int.zero_mul] at ho1
          go_ret2
          rw [e]
          refine ⟨?_, hr1, kk.trans k1, z1.trans HZ.out⟩
          show Ending.returned (.tuple #[.int .i64 (bits .or .i64 (n : Int) (wrap64 0)), .bool (7 * (k : Int) == 0)]) = .returned (.tuple #[.int .i64 n, .bool (decide (k = 0))])
          rw [ho1, show (7 * (k : Int) == 0) = decide (k = 0) by rw [Bool.eq_iff_iff, beq_iff_eq, decide_eq_true_iff]; omega]
        · rename_i h0
          have e := HE9.out
          simp only [Pl.rVarF, h128, if_true] at e
          go_ret2
          rw [e]
          refine ⟨?_, hr1, kk.trans k1, z1.trans HZ.out⟩
          rw [ho.out.1, show decide (0 < (Pl.rByte r').1 ∨ k = 0) = true by simp; omega]
          rfl
      · go_wp2_with (go_at_call 172; refine (rbyte_any C _ q r' hq hr hl').mono ?_; rintro e w1 ⟨rfl, hr1, k1, z1⟩)
        have e := HE9.out
        simp only [Pl.rVarF, h128, if_false] at e
        refine ⟨⟨k + 1, _, (Pl.rByte r').2, by go_num, by omega, by rw [ho.out.1], ho.out.2, e.symm, hr1, by omega, kk.trans k1, z1.trans HZ.out⟩, by simp [intOf]; omega⟩
    · go_wp2_with fail
      go_ret2
      have e4 : 9 - k = 0 := by omega
      have he := HE.out
      rw [e4] at he
      rw [← he]
      exact ⟨rfl, hr, kk, HZ.out⟩

theorem rVarF_lt (f : Nat) : ∀ (i n : Nat) (r : Pl.Rdr), n < 128 ^ i → i + f = 9 → (Pl.rVarF f i n r).1 < 9223372036854775808 := by
  induction f with
  | zero => intro i n r _ _; exact Nat.zero_lt_succ _
  | succ f ih =>
    intro i n r hn hi
    have h := or_more n ((Pl.rByte r).1 % 128) i hn (by omega) (by omega)
    have h3 : (128 : Nat) ^ (i + 1) ≤ 128 ^ 9 := Nat.pow_le_pow_right (by omega) (by omega)
    have h4 : (128 : Nat) ^ 9 = 9223372036854775808 := by decide
    rw [Pl.rVarF]
    split
    · exact Nat.lt_of_lt_of_le h.2.1 (h4 ▸ h3)
    · exact ih _ _ _ h.2.1 (by omega)
theorem rVar_lt (r : Pl.Rdr) : (Pl.rVar r).1 < 9223372036854775808 := rVarF_lt 9 0 0 r (by decide) rfl
theorem rVarF_len (f : Nat) : ∀ (i n : Nat) (r : Pl.Rdr), (Pl.rVarF f i n r).2.2.1.length ≤ r.1.length := by
  induction f with
  | zero => intro i n r; exact Nat.le_refl _
  | succ f ih =>
    intro i n r
    rw [Pl.rVarF]
    split
    · exact rByte_len r
    · exact Nat.le_trans (ih _ _ _) (rByte_len r)
theorem rNum_len (a b : Nat) (r : Pl.Rdr) : (Pl.rNum a b r).2.1.length ≤ r.1.length := by
  unfold Pl.rNum
  split <;> exact rVarF_len 9 0 0 r
theorem rNum_le (a b : Nat) (r : Pl.Rdr) (h : a ≤ b) : a ≤ (Pl.rNum a b r).1 ∧ (Pl.rNum a b r).1 ≤ b := by
  unfold Pl.rNum
  split <;> simp only <;> omega
theorem rNum_ge (a b : Nat) (r : Pl.Rdr) : a ≤ (Pl.rNum a b r).1 ∧ ((Pl.rNum a b r).1 ≤ b ∨ (Pl.rNum a b r).1 = a) := by
  unfold Pl.rNum
  split
  · exact ⟨Nat.le_refl _, .inr rfl⟩
  · simp only; omega

/-- the reader is wrong from here on -/
theorem IsRdr.wrong {C : Nat → Prop} {w : World} {q : Nat} {r : Pl.Rdr} (hq : ¬ C q) (h : IsRdr C w q r) : IsRdr C (w.setCell ⟨q, 1, none⟩ (.bool true)) q (r.1, true) := by
  obtain ⟨v, hb, hr⟩ := h
  exact ⟨v, hb.set 1 (.bool true), hr.go (S := fun k => k = q) (kp_set' _ _ _ _) (fun i hi (e : i = q) => hq (e ▸ hi)) (fun _ _ e => e)⟩

set_option maxRecDepth 20000 in
set_option maxHeartbeats 1000000 in
theorem rnum_any (C : Nat → Prop) (w : World) (q : Nat) (r : Pl.Rdr) (hq : ¬ C q) (h : IsRdr C w q r) (hl : r.1.length ≤ 1000000) (a : Nat) (b : Int) (b' : Nat) (ha : a ≤ 1000000) (hb : b ≤ 1099511627775) (hbb : b = b' ∨ (b < 0 ∧ b' = 0 ∧ 0 < a)) (hb0 : -1099511627775 ≤ b) :
    Calls Tryz.prog 142 #[PtrTo q 0, .int .i64 a, .int .i64 b] w fun e w' => e = .returned (.int .i64 (Pl.rNum a b' r).1) ∧ IsRdr C w' q (Pl.rNum a b' r).2 ∧ Kp (fun k => k = q) w w' ∧ w'.heap.size = w.heap.size := by
  have hv := rVar_lt r
  go_enter Tryz.func142, Tryz.ntmps142
  by_cases hc : (Pl.rVar r).2.1 = false ∨ (Pl.rVar r).1 < a ∨ b' < (Pl.rVar r).1
  · have hN : Pl.rNum a b' r = (a, ((Pl.rVar r).2.2.1, true)) := by unfold Pl.rNum; rw [if_pos hc]
    have HN := hide hN
    clear hN
    have HH : ∀ w1, IsRdr C w1 q (Pl.rVar r).2.2 → w1.cell? ⟨q, 1, none⟩ = some (.bool (Pl.rVar r).2.2.2) ∧ w1.frozen? ⟨q, 1, none⟩ = false := by
      rintro w1 ⟨v, hb, -⟩
      exact ⟨hb.cell 1, hb.free 1⟩
    cases hc1 : (Pl.rVar r).2.1 with
    | false =>
      go_wp2_with (go_at_call 160; refine (rvar_any C _ q r hq h hl).mono ?_; rintro e w1 ⟨rfl, hr1, k1, z1⟩; obtain ⟨c1, f1⟩ := HH _ hr1)
      go_ret
      rw [HN.out]
      exact ⟨rfl, hr1.wrong hq, k1.trans (kp_set' _ _ _ _), (size_set _ _ _).trans z1⟩
    | true =>
      by_cases hc2 : (Pl.rVar r).1 < a
      · go_wp2_with (go_at_call 160; refine (rvar_any C _ q r hq h hl).mono ?_; rintro e w1 ⟨rfl, hr1, k1, z1⟩; obtain ⟨c1, f1⟩ := HH _ hr1)
        go_ret
        rw [HN.out]
        exact ⟨rfl, hr1.wrong hq, k1.trans (kp_set' _ _ _ _), (size_set _ _ _).trans z1⟩
      · have hc3 : b < (Pl.rVar r).1 := by
          rcases hc with hc | hc | hc
          · rw [hc1] at hc; cases hc
          · omega
          · omega
        go_wp2_with (go_at_call 160; refine (rvar_any C _ q r hq h hl).mono ?_; rintro e w1 ⟨rfl, hr1, k1, z1⟩; obtain ⟨c1, f1⟩ := HH _ hr1)
        go_ret
        rw [HN.out]
        exact ⟨rfl, hr1.wrong hq, k1.trans (kp_set' _ _ _ _), (size_set _ _ _).trans z1⟩
  · have hN : Pl.rNum a b' r = ((Pl.rVar r).1, (Pl.rVar r).2.2) := by unfold Pl.rNum; rw [if_neg hc]
    have HN := hide hN
    clear hN
    have hc1 : (Pl.rVar r).2.1 = true := by simpa using fun e => hc (.inl e)
    have hc2 : ¬ (Pl.rVar r).1 < a := fun e => hc (.inr (.inl e))
    have hc3 : ¬ b' < (Pl.rVar r).1 := fun e => hc (.inr (.inr e))
    have hbe : b = b' := by omega
    subst hbe
    clear hc hbb
    go_wp2_with (go_at_call 160; refine (rvar_any C _ q r hq h hl).mono ?_; rintro e w1 ⟨rfl, hr1, k1, z1⟩)
    go_ret
    rw [HN.out]
    exact ⟨rfl, hr1, k1, z1⟩

set_option maxRecDepth 20000 in
set_option maxHeartbeats 1000000 in
theorem rright_any (C : Nat → Prop) (w : World) (q : Nat) (r : Pl.Rdr) (h : IsRdr C w q r) (hl : r.1.length ≤ 1000000) :
    Calls Tryz.prog 145 #[PtrTo q 0] w fun e w' => e = .returned (.bool (Pl.rRight r)) ∧ w' = w := by
  obtain ⟨v, hb, hr⟩ := h
  obtain ⟨l, bad⟩ := r
  have c0 := hb.cell 0
  have c1 := hb.cell 1
  obtain ⟨-, ao, cap, rfl, h1, -⟩ := hr
  simp only [List.getElem?_cons_zero, List.getElem?_cons_succ] at c0 c1 hl
  cases bad with
  | true =>
    go_enter Tryz.func145, Tryz.ntmps145
    go_wp2_with fail
    go_ret
    exact ⟨rfl, rfl⟩
  | false =>
    go_enter Tryz.func145, Tryz.ntmps145
    go_wp2_with fail
    go_ret
    refine ⟨?_, rfl⟩
    show Ending.returned (.bool ((l.length : Int) == 0)) = .returned (.bool (!false && decide (l.length = 0)))
    rw [show ((l.length : Int) == 0) = (!false && decide (l.length = 0)) by rw [Bool.eq_iff_iff, beq_iff_eq, Bool.and_eq_true, decide_eq_true_iff]; simp]

set_option maxRecDepth 20000 in
set_option maxHeartbeats 1000000 in
theorem newReader_any (C : Nat → Prop) (w : World) (v : Value) (l : List UInt8) (h : RowAt C false w 1 v l.length (l.map B)) :
    Calls Tryz.prog 141 #[v] w fun e w' => e = .returned (PtrTo w.heap.size 0) ∧ IsRdr C w' w.heap.size (l, false) ∧ Ext w w' ∧ w'.heap.size = w.heap.size + 1 := by
  have hr0 := h
  obtain ⟨-, ao, cap, rfl, h1, -⟩ := hr0
  have HH := hide h
  clear h
  go_enter Tryz.func141, Tryz.ntmps141
  go_wp2_with fail
  go_ret
  refine ⟨rfl, ⟨_, Blk.of_alloc _ _ _, HH.out.go (S := fun _ => False) ((Kp.refl _ _).alloc _) (fun _ _ f => f) (fun _ _ e => e)⟩, (Kp.refl _ _).alloc _, by simp⟩

set_option maxRecDepth 20000 in
set_option maxHeartbeats 1000000 in
theorem rtext_any (C : Nat → Prop) (w : World) (q : Nat) (r : Pl.Rdr) (hq : ¬ C q) (h : IsRdr C w q r) (hl : r.1.length ≤ 1000000) (n : Nat) (hn : n ≤ 1000000) (hn1 : 0 < n) :
    Calls Tryz.prog 143 #[PtrTo q 0, .int .i64 n] w fun e w' => e = .returned (.string ⟨(Pl.rText n r).1.toArray⟩) ∧ IsRdr C w' q (Pl.rText n r).2 ∧ Kp (fun k => k = q) w w' ∧ w'.heap.size = w.heap.size := by
  go_enter Tryz.func143, Tryz.ntmps143
  by_cases hc : r.1.length < n
  · have hN : Pl.rText n r = ([], (r.1, true)) := by unfold Pl.rText; rw [if_pos hc]
    have h2 := hide (h.wrong hq)
    have HN := hide hN
    clear hN
    obtain ⟨v, hb, hr⟩ := h
    have c0 := hb.cell 0
    have c1 := hb.cell 1
    have f1 := hb.free 1
    obtain ⟨_, ao, cap, rfl, h1, -⟩ := hr
    simp only [List.getElem?_cons_zero, List.getElem?_cons_succ] at c0 c1
    go_wp2_with fail
    go_ret
    rw [HN.out]
    exact ⟨rfl, h2.out, kp_set' _ _ _ _, size_set _ _ _⟩
  · have hN : Pl.rText n r = (r.1.take n, (r.1.drop n, r.2)) := by unfold Pl.rText; rw [if_neg hc]
    have HN := hide hN
    clear hN
    obtain ⟨v, hb, hr⟩ := h
    have c0 := hb.cell 0
    have f0 := hb.free 0
    have hr0 := hide hr
    obtain ⟨-, ao, cap, rfl, h1, h3⟩ := hr
    obtain ⟨g, off, rfl, hC, hlt, hc', -⟩ := h3 (by omega)
    have hr2 := hide (hr0.out.drop1 (q := n) (by omega))
    have hgq : ¬ g = q := fun e => hq (e ▸ hC)
    simp only [List.getElem?_cons_zero] at c0
    clear h3
    have hcv : Sem.run Tryz.prog (convert 76 9 (.slice (some ⟨g, off, none⟩) n cap)) w = .ok (.string ⟨(r.1.take n).toArray⟩) w := by
      have e := run_convert_bytes_back (P := Tryz.prog) w 76 9 5 ⟨g, off, none⟩ cap (r.1.take n) Tryz.underlying76 Tryz.underlying5 Tryz.underlying9 (fun j hj => by
        rw [List.length_take] at hj
        have := hc' j (by omega)
        have ea : (⟨g, off, none⟩ : Addr).add j = ⟨g, off + j, none⟩ := by
          unfold Addr.add
          by_cases h0 : j = 0
          · subst h0; rfl
          · simp [h0]
        rw [ea, this, List.getElem?_map, List.getElem?_eq_getElem (by omega), List.getElem_take]
        rfl)
      rwa [List.length_take, Nat.min_eq_left (by omega)] at e
    clear hc'
    go_wp2_with fail
    all_goals (
      have hr3 := hr2.out
      simp only [h, if_true, if_false, Nat.sub_self, ← List.map_drop, ← List.length_drop] at hr3
      rw [← List.length_drop]
      have hb2 := hb.set 0 (.slice (some ⟨g, off, none⟩) (r.1.drop n).length 0)
      have hb3 := hb.set 0 (.slice (some ⟨g, off + n, none⟩) (r.1.drop n).length (cap - n))
      go_ret
      rw [HN.out]
      refine ⟨rfl, ⟨_, ?_, hr3.go (S := fun k => k = q) (kp_set' _ _ _ _) (fun i hi (e : i = q) => hq (e ▸ hi)) (fun _ _ e => e)⟩, kp_set' _ _ _ _, size_set _ _ _⟩
      first | exact hb2 | exact hb3)
end Go.Proofs.YthicgffppmbamaaGreat

namespace Go.Proofs.YthicgffppmbamaaGreat
open Go.RowKit

theorem find_none_step {α : Type} {p : α → Bool} {l : List α} {k : Nat} (h : (l.take k).findIdx? p = none) (hk : k < l.length) (hp : p l[k] = false) : (l.take (k + 1)).findIdx? p = none := by
  rw [List.take_succ_eq_append_getElem hk, List.findIdx?_append, h]
  simp [hp]
theorem find_hit {α : Type} {p : α → Bool} {l : List α} {k : Nat} (h : (l.take k).findIdx? p = none) (hk : k < l.length) (hp : p l[k] = true) : l.findIdx? p = some k := by
  have e : (l.take k ++ l.drop k).findIdx? p = some k := by
    rw [List.findIdx?_append, h, List.drop_eq_getElem_cons hk, List.findIdx?_cons, hp]
    simp [List.length_take, Nat.min_eq_left (Nat.le_of_lt hk)]
  rwa [List.take_append_drop] at e
theorem find_end {α : Type} {p : α → Bool} {l : List α} (h : (l.take l.length).findIdx? p = none) : l.findIdx? p = none := by rwa [List.take_length] at h
/-- an index as slices.Index tells it -/
def idxV : Option Nat → Int
  | none => -1
  | some i => i
theorem RowAt.get {C : Nat → Prop} {fr : Bool} {w : World} {size n : Nat} {v : Value} {cs : List Value} (h : RowAt C fr w size v n cs) : ∃ ao cap, v = .slice ao n cap ∧ n ≤ cap ∧ (0 < n → ∃ b off, ao = some ⟨b, off, none⟩ ∧ b < w.heap.size ∧ ∀ j, j < n * size → w.cell? ⟨b, off + j, none⟩ = cs[j]?) := by
  obtain ⟨_, ao, cap, rfl, h1, h3⟩ := h
  exact ⟨ao, cap, rfl, h1, fun hp => let ⟨b, off, e, _, hlt, hc, _⟩ := h3 hp; ⟨b, off, e, hlt, hc⟩⟩

theorem eq_tx (s t : List UInt8) : ((⟨s.toArray⟩ : ByteArray).toList == (⟨t.toArray⟩ : ByteArray).toList) = decide (t = s) := by
  rw [eq_bytes, decide_eq_decide]
  simp only [bytesOf]
  exact ⟨fun h => h.symm, fun h => h.symm⟩

set_option maxRecDepth 20000 in
set_option maxHeartbeats 400000 in
theorem indexS_any (C : Nat → Prop) (w : World) (v : Value) (ss : List (List UInt8)) (s : List UInt8) (hr : RowAt C false w 1 v ss.length (ss.map tx)) (hl : ss.length ≤ 1000) :
    Calls Tryz.prog 140 #[v, tx s] w fun e w' => e = .returned (.int .i64 (idxV (Pl.indexOf ss s))) ∧ w' = w := by
  obtain ⟨ao, cap, rfl, h1, h3⟩ := hr.get
  clear hr
  generalize hP : Pl.indexOf ss s = P0
  have HP := hide hP
  clear hP
  go_enter Tryz.func140, Tryz.ntmps140
  go_wp2_with fail
  go_loop [8] (fun i => ∃ k : Nat, k ≤ ss.length ∧ i = .int .i64 k ∧ Hid ((ss.take k).findIdx? (fun x => decide (x = s)) = none)) (fun i => ss.length - (intOf i).toNat)
  case atStart => exact ⟨0, Nat.zero_le _, rfl, by show _ = _; simp⟩
  case round =>
    obtain ⟨k, hk, rfl, hall⟩ := hrel
    by_cases hkl : k < ss.length
    · obtain ⟨b, off, rfl, hb, hc⟩ := h3 (by omega)
      have hck := hc k (by omega)
      clear hc h3
      rw [List.getElem?_map, List.getElem?_eq_getElem hkl, Option.map_some] at hck
      have he : (s == ss[k]) = decide (ss[k] = s) := by rw [Bool.eq_iff_iff, beq_iff_eq, decide_eq_true_iff]; exact ⟨fun h => h.symm, fun h => h.symm⟩
      have HN : Hid (ss[k] ≠ s → (ss.take (k + 1)).findIdx? (fun x => decide (x = s)) = none) := hide fun h => find_none_step hall.out hkl (decide_eq_false h)
      have HH : Hid (ss[k] = s → P0 = some k) := hide fun h => by rw [← HP.out]; exact find_hit hall.out hkl (decide_eq_true h)
      generalize ss[k] = y at *
      by_cases hok : y = s
      · rw [decide_eq_true hok] at he
        have HF := hide (HH.out hok)
        clear hok
        go_wp2_with fail
        go_ret
        rw [HF.out]
        exact ⟨rfl, rfl⟩
      · rw [decide_eq_false hok] at he
        have HF := hide (HN.out hok)
        clear hok
        go_wp2_with fail
        go_round
        case rel => exact ⟨k + 1, by omega, by go_num, HF⟩
        case measure => simp [intOf]; omega
    · go_wp2_with fail
      go_ret
      obtain rfl : k = ss.length := by omega
      rw [← HP.out]
      unfold Pl.indexOf
      rw [find_end hall.out]
      exact ⟨rfl, rfl⟩

theorem idxV_mem {α : Type} [DecidableEq α] (ss : List α) (s : α) : decide (0 ≤ idxV (ss.findIdx? (fun x => decide (x = s)))) = decide (s ∈ ss) := by
  rw [decide_eq_decide]
  cases h : ss.findIdx? (fun x => decide (x = s)) with
  | none =>
    rw [List.findIdx?_eq_none_iff] at h
    simp only [idxV]
    constructor
    · omega
    · intro hm; have := h s hm; simp at this
  | some i =>
    simp only [idxV]
    obtain ⟨hi, hp, _⟩ := List.findIdx?_eq_some_iff_getElem.1 h
    constructor
    · intro _
      rw [← of_decide_eq_true hp]
      exact List.getElem_mem hi
    · intro _; omega
theorem idxV_range {α : Type} {l : List α} {p : α → Bool} : -1 ≤ idxV (l.findIdx? p) ∧ idxV (l.findIdx? p) ≤ l.length := by
  cases h : l.findIdx? p with
  | none => simp only [idxV]; omega
  | some i =>
    obtain ⟨hi, _⟩ := List.findIdx?_eq_some_iff_getElem.1 h
    simp only [idxV]; omega

set_option maxRecDepth 20000 in
set_option maxHeartbeats 400000 in
theorem containsS_any (C : Nat → Prop) (w : World) (v : Value) (ss : List (List UInt8)) (s : List UInt8) (hr : RowAt C false w 1 v ss.length (ss.map tx)) (hl : ss.length ≤ 1000) :
    Calls Tryz.prog 116 #[v, tx s] w fun e w' => e = .returned (.bool (decide (s ∈ ss))) ∧ w' = w := by
  have hm := idxV_mem ss s
  have hrg := idxV_range (l := ss) (p := fun x => decide (x = s))
  have hI := indexS_any C w v ss s hr hl
  unfold Pl.indexOf at hI
  generalize idxV (ss.findIdx? (fun x => decide (x = s))) = r at *
  rw [show decide (s ∈ ss) = decide (0 ≤ r) by rw [decide_eq_decide] at hm ⊢; exact hm.symm]
  clear hm hr
  have HI := hide hI
  clear hI
  go_enter Tryz.func116, Tryz.ntmps116
  go_wp2_with fail
  refine (unhide HI).mono ?_
  rintro e w1 ⟨rfl, rfl⟩
  go_wp2_with fail
  go_ret
  exact ⟨rfl, rfl⟩

set_option maxRecDepth 20000 in
set_option maxHeartbeats 400000 in
theorem indexI_any (C : Nat → Prop) (w : World) (v : Value) (ss : List Nat) (s : Nat) (hr : RowAt C false w 1 v ss.length (ss.map fun n : Nat => I n)) (hl : ss.length ≤ 1000) :
    Calls Tryz.prog 162 #[v, .int .i64 s] w fun e w' => e = .returned (.int .i64 (idxV (ss.findIdx? (fun x => decide (x = s))))) ∧ w' = w := by
  obtain ⟨ao, cap, rfl, h1, h3⟩ := hr.get
  clear hr
  generalize hP : ss.findIdx? (fun x => decide (x = s)) = P0
  have HP := hide hP
  clear hP
  go_enter Tryz.func162, Tryz.ntmps162
  go_wp2_with fail
  go_loop [8] (fun i => ∃ k : Nat, k ≤ ss.length ∧ i = .int .i64 k ∧ Hid ((ss.take k).findIdx? (fun x => decide (x = s)) = none)) (fun i => ss.length - (intOf i).toNat)
  case atStart => exact ⟨0, Nat.zero_le _, rfl, by show _ = _; simp⟩
  case round =>
    obtain ⟨k, hk, rfl, hall⟩ := hrel
    by_cases hkl : k < ss.length
    · obtain ⟨b, off, rfl, hb, hc⟩ := h3 (by omega)
      have hck := hc k (by omega)
      clear hc h3
      rw [List.getElem?_map, List.getElem?_eq_getElem hkl, Option.map_some] at hck
      simp only [I] at hck
      have HN : Hid (ss[k] ≠ s → (ss.take (k + 1)).findIdx? (fun x => decide (x = s)) = none) := hide fun h => find_none_step hall.out hkl (decide_eq_false h)
      have HH : Hid (ss[k] = s → P0 = some k) := hide fun h => by rw [← HP.out]; exact find_hit hall.out hkl (decide_eq_true h)
      generalize ss[k] = y at *
      by_cases hok : y = s
      · have HF := hide (HH.out hok)
        subst hok
        go_wp2_with fail
        go_ret
        rw [HF.out]
        exact ⟨rfl, rfl⟩
      · have HF := hide (HN.out hok)
        have he : ((s : Int) == (y : Int)) = false := by simp; omega
        clear hok
        go_wp2_with fail
        go_round
        case rel => exact ⟨k + 1, by omega, by go_num, HF⟩
        case measure => simp [intOf]; omega
    · go_wp2_with fail
      go_ret
      obtain rfl : k = ss.length := by omega
      rw [← HP.out, find_end hall.out]
      exact ⟨rfl, rfl⟩

set_option maxRecDepth 20000 in
set_option maxHeartbeats 400000 in
theorem containsI_any (C : Nat → Prop) (w : World) (v : Value) (ss : List Nat) (s : Nat) (hr : RowAt C false w 1 v ss.length (ss.map fun n : Nat => I n)) (hl : ss.length ≤ 1000) :
    Calls Tryz.prog 146 #[v, .int .i64 s] w fun e w' => e = .returned (.bool (decide (s ∈ ss))) ∧ w' = w := by
  have hm := idxV_mem ss s
  have hrg := idxV_range (l := ss) (p := fun x => decide (x = s))
  have hI := indexI_any C w v ss s hr hl
  generalize idxV (ss.findIdx? (fun x => decide (x = s))) = r at *
  rw [show decide (s ∈ ss) = decide (0 ≤ r) by rw [decide_eq_decide] at hm ⊢; exact hm.symm]
  clear hm hr
  have HI := hide hI
  clear hI
  go_enter Tryz.func146, Tryz.ntmps146
  go_wp2_with fail
  refine (unhide HI).mono ?_
  rintro e w1 ⟨rfl, rfl⟩
  go_wp2_with fail
  go_ret
  exact ⟨rfl, rfl⟩

set_option maxRecDepth 20000 in
set_option maxHeartbeats 1000000 in
theorem rightNamesR_any (C : Nat → Prop) (w : World) (v : Value) (ss : List (List UInt8)) (hr : RowAt C false w 1 v ss.length (ss.map tx)) (hl : ss.length ≤ 1000) :
    Calls Tryz.prog 100 #[v] w fun e w' => e = .returned (.bool (Pl.okNames ss)) ∧ w' = w := by
  have hr0 := hr
  obtain ⟨ao, cap, rfl, h1, h3⟩ := hr.get
  clear hr
  by_cases hs : ss.length < 1
  · have e : Pl.okNames ss = false := by rw [← Bool.not_eq_true, Pl.okNames_iff]; omega
    rw [e]
    clear e
    go_enter Tryz.func100, Tryz.ntmps100
    go_wp2
    go_ret
    exact ⟨rfl, rfl⟩
  by_cases hs4 : 4 < ss.length
  · have e : Pl.okNames ss = false := by rw [← Bool.not_eq_true, Pl.okNames_iff]; omega
    rw [e]
    clear e
    go_enter Tryz.func100, Tryz.ntmps100
    go_wp2
    go_ret
    exact ⟨rfl, rfl⟩
  generalize hb : Pl.okNames ss = bb
  have HB := hide hb
  clear hb
  obtain ⟨b, off, rfl, hb0, hc⟩ := h3 (by omega)
  go_enter Tryz.func100, Tryz.ntmps100
  go_wp2_with fail
  go_loop [15] (fun i => ∃ k : Nat, k ≤ ss.length ∧ i = .int .i64 k ∧ Hid (Pl.okTo ss k)) (fun i => ss.length - (intOf i).toNat)
  case atStart => exact ⟨0, Nat.zero_le _, rfl, Pl.okTo_zero _⟩
  case round =>
    obtain ⟨k, hk, rfl, hall⟩ := hrel
    by_cases hkl : k < ss.length
    · have hck := hc k (by omega)
      clear hc h3
      rw [List.getElem?_map, List.getElem?_eq_getElem hkl, Option.map_some] at hck
      have hstep := Pl.okTo_succ ss k hkl
      rw [Pl.okName_iff] at hstep
      have hsz : (⟨ss[k].toArray⟩ : ByteArray).size = ss[k].length := by simp [ByteArray.size]
      have hcon := containsS_any C w (.slice (some ⟨b, off, none⟩) k cap) (ss.take k) ss[k] (by have := RowAt.take1 hr0 (q := k) (by omega); rw [List.length_take, Nat.min_eq_left (by omega), List.map_take]; exact this) (by simp; omega)
      have HS := hide hstep
      have HC := hide hcon
      clear hstep hcon
      generalize ss[k] = y at *
      by_cases hy1 : y.length < 1
      · go_wp2_with fail
        go_ret
        rw [← HB.out, Pl.okNames_false _ (k + 1) (by omega) (fun h => by have := (HS.out.1 h).2.1; omega)]
        exact ⟨rfl, rfl⟩
      by_cases hy8 : 8 < y.length
      · go_wp2_with fail
        go_ret
        rw [← HB.out, Pl.okNames_false _ (k + 1) (by omega) (fun h => by have := (HS.out.1 h).2.1; omega)]
        exact ⟨rfl, rfl⟩
      by_cases hin : y ∈ ss.take k
      · rw [decide_eq_true hin] at HC
        have HI := hide hin
        clear hin
        go_wp2_with fail
        refine (unhide HC).mono ?_
        rintro e w1 ⟨rfl, rfl⟩
        go_wp2_with fail
        go_ret
        rw [← HB.out, Pl.okNames_false _ (k + 1) (by omega) (fun h => (HS.out.1 h).2.2 HI.out)]
        exact ⟨rfl, rfl⟩
      · rw [decide_eq_false hin] at HC
        have HI := hide hin
        clear hin
        go_wp2_with fail
        refine (unhide HC).mono ?_
        rintro e w1 ⟨rfl, rfl⟩
        go_wp2_with fail
        go_round
        case rel => exact ⟨k + 1, by omega, by go_num, HS.out.2 ⟨hall.out, ⟨by omega, by omega⟩, HI.out⟩⟩
        case measure => simp [intOf]; omega
    · go_wp2_with fail
      go_ret
      obtain rfl : k = ss.length := by omega
      have e : Pl.okNames ss = true := by
        rw [Pl.okNames_iff]
        exact ⟨by omega, by omega, hall.out⟩
      rw [← HB.out, e]
      exact ⟨rfl, rfl⟩
end Go.Proofs.YthicgffppmbamaaGreat

namespace Go.Proofs.YthicgffppmbamaaGreat
open Go.RowKit

/-- a call among operations that are taken one by one -/
theorem step_call_g {P : Program} {ops : Array Oper} {o : Oper} {a : Act} {w : World} {K : Act → World → Prop} {Q : Exit → Act → World → Prop} {E : Prop}
    (hg : o.guard = none) (f : FuncId) (args : Array Value) (hx : (execOp a.eval o).run P w = .ok (.enter f args) w) (h : Calls P f args w fun e w' => ∃ v, e = .returned v ∧ K (a.put o.dst v) w') :
    if Region.wanted o (yielded ops a.tmps) = true then Oper.wp P o a w K Q else E := by
  have hw : Region.wanted o (yielded ops a.tmps) = true := by simp [Region.wanted, hg]
  rw [if_pos hw]
  unfold Oper.wp
  rw [hx, Oper.upon_enter]
  refine h.mono ?_
  rintro e w' ⟨v, rfl, hk⟩
  exact hk
theorem step_call_w {P : Program} {ops : Array Oper} {o : Oper} {a : Act} {w : World} {K : Act → World → Prop} {Q : Exit → Act → World → Prop} {E : Prop}
    (hg : Region.wanted o (yielded ops a.tmps) = true) (f : FuncId) (args : Array Value) (hx : (execOp a.eval o).run P w = .ok (.enter f args) w) (h : Calls P f args w fun e w' => ∃ v, e = .returned v ∧ K (a.put o.dst v) w') :
    if Region.wanted o (yielded ops a.tmps) = true then Oper.wp P o a w K Q else E := by
  rw [if_pos hg]
  unfold Oper.wp
  rw [hx, Oper.upon_enter]
  refine h.mono ?_
  rintro e w' ⟨v, rfl, hk⟩
  exact hk
section
variable {P : Program} {ops : Array Oper} {Q : Exit → Act → World → Prop} {md : Region.Mode} {S : World → Prop}
/-- a guarded operation that is wanted -/
theorem Late.takeW {n i : Nat} {oi : Oper} {v : Value} {f : Nat} {listed : Array Bool} {a : Act} {w : World} (r : List Nat) (hi : ops[i]? = some oi)
    (hs : Region.noSelect ops = true) (hw : chained md ops i r = true) (hn : n ∈ r) (hni : i ≠ n) (hl : r.all (fun x => listed.getD x true == false) = true) (hf : Region.free md ops listed i = true) (hr : (Region.ready md ops listed).contains i = true)
    (hQ : ∀ c a w, Q (.panic c) (a.put oi.dst v) w → Q (.panic c) a w) (hg : Region.wanted oi (yielded ops a.tmps) = true) (hy : ∀ u, S u → (execOp a.eval oi).run P u = .ok (.value v) u) (hS : S w)
    (h : Late P md ops Q S n f (listed.setIfInBounds i true) (a.put oi.dst v) w) : Late P md ops Q S n (f + 1) listed a w :=
  Late.first r hi (Region.noSelect_spec hs) hw hn hni hQ f listed a w (fun x hx => by have := List.all_eq_true.1 hl x hx; simpa using this) (Region.free_spec hi hf) (by simpa using hr) (.inl ⟨hg, hy⟩) hS h
/-- a guarded operation that is not wanted -/
theorem Late.skip {n i : Nat} {oi : Oper} {f : Nat} {listed : Array Bool} {a : Act} {w : World} (r : List Nat) (hi : ops[i]? = some oi)
    (hs : Region.noSelect ops = true) (hw : chained md ops i r = true) (hn : n ∈ r) (hni : i ≠ n) (hl : r.all (fun x => listed.getD x true == false) = true) (hf : Region.free md ops listed i = true) (hr : (Region.ready md ops listed).contains i = true)
    (hQ : ∀ c a w, Q (.panic c) (a.put oi.dst undef) w → Q (.panic c) a w) (hg : Region.wanted oi (yielded ops a.tmps) = false) (hS : S w)
    (h : Late P md ops Q S n f (listed.setIfInBounds i true) (a.put oi.dst undef) w) : Late P md ops Q S n (f + 1) listed a w :=
  Late.first r hi (Region.noSelect_spec hs) hw hn hni hQ f listed a w (fun x hx => by have := List.all_eq_true.1 hl x hx; simpa using this) (Region.free_spec hi hf) (by simpa using hr) (.inr ⟨hg, rfl⟩) hS h
end
/-- what end leaves -/
theorem Rep.ends {col : Colr} {w w' : World} {P why : Nat} {m : Pl.Sc} {ps qs : List Nat} {nv av wv hv gv : Value} (h : Rep col w P m ps qs nv av wv hv gv) (r : Rep col w' P (Pl.ended why) [] [] (.slice none 0 0) (.slice none 0 0) (.slice none 0 0) (.slice none 0 0) (.slice none 0 0)) (k : Kp (fun k => k = P) w w') : IsSc col w' P (Pl.ended why) ∧ Went col w w' col :=
  ⟨r.is, k.mono (fun i _ hi => by show col i ≠ .out; rw [hi, h.inn.pcol]; simp), fun _ _ => rfl⟩
theorem scCells_len (P : Nat) (m : Pl.Sc) (nv av wv hv gv : Value) : (scCells P m nv av wv hv gv).length = 19 := rfl
end Go.Proofs.YthicgffppmbamaaGreat

namespace Go.Proofs.YthicgffppmbamaaGreat
open Go.RowKit

set_option maxRecDepth 20000 in
set_option maxHeartbeats 1000000 in
theorem fetch_any (col : Colr) (w : World) (P : Nat) (m : Pl.Sc) (place length : Int) (aim : Pl.Aim) (ps qs : List Nat) (nv av wv hv gv xv : Value) (h : Rep col w P m ps qs nv av wv hv gv) (hx : AimAt col w P xv aim) (hxo : ∃ f fi, xv = .func f fi #[]) (hid : m.lastId ≤ 1000000000000) (hal : m.asked.length ≤ 1000) (h0 : 0 ≤ place) (h1 : 0 ≤ length) (hpl : place + length ≤ 1000000) :
    Calls Tryz.prog 83 #[PtrTo P 7, .int .i64 place, .int .i64 length, xv] w fun e w' => e = .returned (.tuple #[]) ∧ ∃ col' p av', Rep col' w' P (Pl.fetch m place.toNat length.toNat aim) (ps ++ [p]) qs nv av' wv hv gv ∧ Went col w w' col' := by
  obtain ⟨f, fi, rfl⟩ := hxo
  obtain ⟨pl, rfl⟩ := Int.eq_ofNat_of_zero_le h0
  obtain ⟨ln, rfl⟩ := Int.eq_ofNat_of_zero_le h1
  simp only [Int.toNat_natCast]
  obtain ⟨c1, hc1⟩ : ∃ c1, c1 = paint col w.heap.size (w.heap.size + 1) .part := ⟨_, rfl⟩
  have hlt : ∀ i, i < w.heap.size → c1 i = col i := fun i hi => by rw [hc1]; exact paint_lt _ _ _ _ _ hi
  have hat : c1 w.heap.size = .part := by rw [hc1]; exact paint_in _ _ _ _ _ (Nat.le_refl _) (by omega)
  have htop : ∀ i, w.heap.size + 1 ≤ i → c1 i = .out := fun i hi => by rw [hc1, paint_ge _ _ _ _ _ hi]; exact h.inn.top i (by omega)
  have hext : ∀ o, Ext w (w.alloc o) := fun o => (Kp.refl _ _).alloc o
  have hR : ∀ o, Rep c1 (w.alloc o) P m ps qs nv av wv hv gv := fun o => ⟨h.blk.kept (hext o) id, h.inn.go (hext o) h.blk.lt (fun _ f => f.elim) hlt (fun i hi => htop i (by simpa using hi))⟩
  have hP : PartAt c1 (w.alloc (.cells #[PtrTo P 7, .int .i64 (pl : Int), .int .i64 (ln : Int), .slice none 0 0, .int .i64 0, .func f fi #[]] 164)) P w.heap.size ⟨pl, ln, [], 0, aim⟩ (.slice none 0 0) (.func f fi #[]) :=
    ⟨Blk.of_alloc w [PtrTo P 7, .int .i64 (pl : Int), .int .i64 (ln : Int), .slice none 0 0, .int .i64 0, .func f fi #[]] _, OwnB.nil _, fun g hg => by simp [Value.ownBlock] at hg, hx.go (hext _) (fun _ f => f.elim) hlt, hat⟩
  have hn : w.heap.size ∉ ps ++ qs := fun hm => by
    rcases List.mem_append.1 hm with hm | hm
    · have := (h.inn.aparts.lt hm).1; omega
    · have := (h.inn.wparts.lt hm).1; omega
  have HR := hide hR
  have HP := hide hP
  have HE := hide hext
  have HL := hide hlt
  clear hR hP hext hlt htop hat hc1 hx
  go_enter Tryz.func83, Tryz.ntmps83
  go_wp2_with fail
  refine (ask_any c1 _ P w.heap.size m ⟨pl, ln, [], 0, aim⟩ ps qs nv av wv hv gv _ _ ((unhide HR) _) (unhide HP) hn hid hal (by show pl + ln ≤ _; omega) (by simp)).mono ?_
  rintro e w1 ⟨rfl, c2, av2, r2, g2⟩
  go_wp2_with fail
  go_end0
  exact ⟨rfl, c2, _, av2, r2, (⟨Kp.of_ext ((unhide HE) _), unhide HL⟩ : Went col w _ c1).trans g2⟩
end Go.Proofs.YthicgffppmbamaaGreat

namespace Go.Proofs.YthicgffppmbamaaGreat
open Go.RowKit

theorem below_ext {w w' : World} (h : Below w.heap.size w w') : Ext w w' := ⟨h.os, h.tape, h.output, h.size, fun k hk _ => h.block k hk⟩

set_option maxRecDepth 20000 in
set_option maxHeartbeats 1000000 in
theorem clone_any (s : ByteArray) (w : World) (hs : s.size ≤ 100000) :
    Calls Tryz.prog 117 #[.string s] w fun e w' => e = .returned (.string s) ∧ Ext w w' := by
  by_cases h0 : s.size = 0
  · obtain rfl : s = ⟨#[]⟩ := ByteArray.ext (Array.eq_empty_of_size_eq_zero h0)
    go_enter Tryz.func117, Tryz.ntmps117
    go_wp2
    go_ret
    exact ⟨rfl, Kp.refl _ _⟩
  obtain ⟨i0, hi, hz0, hz1, hz2⟩ := info_parts info5
  have hsz : (Tryz.prog.info? 5).map (·.size) = some 1 := by rw [hi]; simp [hz1]
  have hco : Tryz.prog.cellsOf 5 = 1 := by simp [Program.cellsOf, hi, hz1]
  generalize hM : madeCells (Value.int .u8 0).cells (((s.size : Nat) : Int).toNat * i0.size) = M
  have hMs : M.size = s.size := by rw [← hM, size_madeCells, hz1]; simp
  have hmk : ∀ u : World, (Instr.makeSlice 76 (.int .i64 (s.size : Int)) (.int .i64 (s.size : Int))).run Tryz.prog u = .ok (.slice (some ⟨u.heap.size, 0, none⟩) s.size s.size) (u.alloc (.cells M 5)) := fun u => by
    have h := run_make (P := Tryz.prog) u 76 5 i0 (.int .u8 0) Tryz.underlying76 hi hz0 .i64 .i64 (s.size : Int) (s.size : Int) (by omega) (by omega) (by rw [hz2]; omega) (by omega)
    rw [hM] at h
    simpa using h
  have hcp := Lib.run_copy_row_string (P := Tryz.prog) (w.alloc (.cells M 5)) 76 9 3 5 w.heap.size 0 s.size s.size s M 5 Tryz.underlying76 hsz (heap_alloc_new w _) (Nat.le_refl _) (by omega)
  generalize hY : (M.toList.take 0 ++ Lib.byteCells s.data.toList ++ M.toList.drop (0 + s.size)).toArray = Y at hcp
  have hYl : Y.toList = Lib.byteCells s.data.toList := by
    rw [← hY, List.toList_toArray, List.take_zero, List.nil_append, List.drop_of_length_le (by rw [Array.length_toList]; omega), List.append_nil]
  have hYs : Y.size = s.size := by rw [← Array.length_toList, hYl, Lib.byteCells_length, ← Lib.size_eq]
  have hgY : ((w.alloc (.cells M 5)).setRow w.heap.size Y).heap[w.heap.size]? = some (.cells Y 5 (0, 0)) := setRow_heap _ _ M _ 5 (0, 0) (heap_alloc_new w _)
  have hne : s.data.toList ≠ [] := fun e => h0 (by rw [Lib.size_eq, e]; rfl)
  have hus := Lib.run_unsafeString_row (P := Tryz.prog) ((w.alloc (.cells M 5)).setRow w.heap.size Y) 224 3 9 5 Tryz.underlying224 hco w.heap.size Y.size (by unfold World.shape?; rw [hgY]) s.data.toList hne (by rw [← Lib.size_eq]; omega) (by rw [← Lib.size_eq]; omega)
    (fun j x hx => Lib.cells_of_row hgY Y.size j _ (by rw [List.take_of_length_le (by rw [Array.length_toList]; exact Nat.le_refl _), hYl]; simp [Lib.byteCells, hx]))
  rw [← Lib.size_eq] at hus
  clear hY hM
  go_enter Tryz.func117, Tryz.ntmps117
  go_wp2
  go_ret
  have hb1 : Below w.heap.size w (w.alloc (.cells M 5)) := (Below.refl _ w).alloc (Nat.le_refl _) _
  have hb2 : Below w.heap.size (w.alloc (.cells M 5)) ((w.alloc (.cells M 5)).setRow w.heap.size Y) := ⟨rfl, rfl, rfl, by simp, fun k hk => setRow_other _ _ _ _ (by omega)⟩
  exact ⟨rfl, below_ext (Lib.below_freeze (hb1.trans hb2) (p := ⟨w.heap.size, 0, none⟩) (Nat.le_refl _) _)⟩

set_option maxRecDepth 20000 in
set_option maxHeartbeats 1000000 in
theorem stringsClone_any (s : ByteArray) (w : World) (hs : s.size ≤ 100000) :
    Calls Tryz.prog 101 #[.string s] w fun e w' => e = .returned (.string s) ∧ Ext w w' := by
  go_enter Tryz.func101, Tryz.ntmps101
  go_wp2_with fail
  refine (clone_any s w hs).mono ?_
  rintro e w1 ⟨rfl, x1⟩
  go_wp2_with fail
  go_ret
  exact ⟨rfl, x1⟩
end Go.Proofs.YthicgffppmbamaaGreat

namespace Go.Proofs.YthicgffppmbamaaGreat
open Go.RowKit

theorem tx_bytes (s : ByteArray) : tx (bytesOf s) = .string s := by simp [tx, bytesOf]
theorem infoStr : (Tryz.prog.info? 9).map (fun i => (i.zero, i.size, i.bytes)) = some (some (.string ByteArray.empty), 1, 16) := by kernel_rfl
theorem Own.ext_alloc {w : World} {size n : Nat} {v : Value} {cs : List Value} (h : Own w size v n cs) (o : Obj) : Own (w.alloc o) size v n cs := h.ext ((Kp.refl _ _).alloc o)

set_option maxRecDepth 20000 in
set_option maxHeartbeats 1000000 in
theorem keep_any (B0 : Nat) (w : World) (v : Value) (ss : List ByteArray) (hr : RdS B0 w v ss) :
    Calls Tryz.prog 79 #[v] w fun e w' => ∃ nv, e = .returned nv ∧ Own w' 1 nv (Pl.keepNames (ss.map bytesOf)).length ((Pl.keepNames (ss.map bytesOf)).map tx) ∧ Ext w w' ∧ ∀ g, nv.ownBlock = some g → w.heap.size ≤ g := by
  have hrn := rightNames_any B0 w v ss hr
  have hr0 := hr
  obtain ⟨ao, cap, rfl, h1, h2, h3⟩ := RdS.open hr
  cases hok : Pl.okNames (ss.map bytesOf) with
  | false =>
    have e : Pl.keepNames (ss.map bytesOf) = [] := by unfold Pl.keepNames; rw [if_neg (by rw [hok]; simp)]
    rw [e]
    rw [hok] at hrn
    have HN := hide hrn
    clear hrn hok e h3 hr hr0
    go_enter Tryz.func79, Tryz.ntmps79
    go_wp2_with fail
    refine (unhide HN).mono ?_
    rintro e w ⟨rfl, rfl⟩
    go_wp2_with fail
    go_ret
    exact ⟨_, rfl, Own.nil _ _, Kp.refl _ _, fun g hg => by simp [Value.ownBlock] at hg⟩
  | true =>
    have e : Pl.keepNames (ss.map bytesOf) = ss.map bytesOf := by unfold Pl.keepNames; rw [if_pos hok]
    rw [e]
    have hnm := (Pl.okNames_iff _).1 hok
    rw [List.length_map] at hnm
    have hsz : ∀ s ∈ ss, s.size ≤ 8 := fun s hs => by
      have := hnm.2.2.1
      rw [show ss.length = (ss.map bytesOf).length by simp, List.take_length, List.all_eq_true] at this
      have := (Pl.okName_iff _).1 (this (bytesOf s) (List.mem_map.2 ⟨s, hs, rfl⟩))
      rw [bytesOf_len] at this
      exact this.2
    obtain ⟨l1, l2, -⟩ := hnm
    rw [hok] at hrn
    have HN := hide hrn
    clear hrn hok e
    go_enter Tryz.func79, Tryz.ntmps79
    go_wp2_with fail
    refine (unhide HN).mono ?_
    rintro e w ⟨rfl, rfl⟩
    obtain ⟨b, off, rfl, hb, hc⟩ := h3 (by omega)
    go_wp2_with fail
    go_loopw [3, 11] (fun t i wr => ∃ k : Nat, k ≤ ss.length ∧ i = .int .i64 k ∧ Own wr 1 t k (((ss.take k).map bytesOf).map tx) ∧ Ext w wr ∧ ∀ g, t.ownBlock = some g → w.heap.size ≤ g) (fun _ i _ => ss.length - (intOf i).toNat)
    case atStart => exact ⟨0, Nat.zero_le _, rfl, Own.nil _ _, Kp.refl _ _, fun g hg => by simp [Value.ownBlock] at hg⟩
    case round =>
      obtain ⟨k, hk, rfl, ho, hx, hg⟩ := hrel
      by_cases hkl : k < ss.length
      · have hck := hx.cell (hc k hkl) id
        have hgk : ss.getD k ByteArray.empty = ss[k] := by rw [List.getD_eq_getElem?_getD, List.getElem?_eq_getElem hkl]; rfl
        rw [hgk] at hck
        have hsk := hsz ss[k] (List.getElem_mem hkl)
        have HT : Hid (((ss.take (k + 1)).map bytesOf).map tx = ((ss.take k).map bytesOf).map tx ++ [.string ss[k]]) := by
          show _ = _
          rw [List.take_succ_eq_append_getElem hkl, List.map_append, List.map_append, List.map_singleton, List.map_singleton, tx_bytes]
        have hz := hx.size
        generalize ss[k] = y at *
        clear hc h3 hgk hr hr0
        go_wp2_with fail
        refine (stringsClone_any y _ (by omega)).mono ?_
        rintro e w2 ⟨rfl, x2⟩
        have ho2 := ho.ext x2
        obtain ⟨ta, tc, rfl, _⟩ := ho.shape
        go_wp2_with (at_builtin; go_must (refine wpList_append_g _ rfl _ _ 22 22 rfl 9 (.string ByteArray.empty) 1 16 Tryz.underlying22 infoStr rfl _ _ _ rfl (ho2.ext_alloc _) _ rfl 1 [.string y] (src_elemA _ _ _ Tryz.underlying22 _ [.string y] rfl (by simp [Value.oneCell'])) (by omega) (by omega) ?_); intro v3 w3 o3 k3 s3)
        have x3 : Ext w w3 := ((hx.trans x2).alloc _).then k3 (fun i hi e => by have := hg i e; omega)
        go_roundw
        case rel => exact ⟨k + 1, by omega, by go_num, by rw [HT.out]; exact o3, x3, fun g e => by
            rcases sep_new s3 e with e' | e'
            · exact hg g e'
            · have := x2.size; simp at e'; omega⟩
        case measure => simp [intOf]; omega
      · obtain rfl : k = ss.length := by omega
        rw [List.take_length] at ho
        go_wp2_with fail
        go_ret
        exact ⟨_, rfl, by simpa using ho, hx, hg⟩
end Go.Proofs.YthicgffppmbamaaGreat

namespace Go.Proofs.YthicgffppmbamaaGreat
open Go.RowKit

abbrev setV (W T R G : Int) : Value := .agg #[.int .i64 W, .int .i64 T, .int .i64 R, .int .i64 G]

set_option maxRecDepth 20000 in
set_option maxHeartbeats 4000000 in
theorem rightSettings_any (w : World) (W T R G : Int) :
    Calls Tryz.prog 78 #[setV W T R G] w fun e w' => e = .returned (.bool (Pl.okS W T R G)) ∧ Ext w w' := by
  by_cases h1 : ¬ (1 ≤ W)
  · have e : Pl.okS W T R G = false := by rw [← Bool.not_eq_true, Pl.okS_iff]; omega
    rw [e]
    clear e
    go_enter Tryz.func78, Tryz.ntmps78
    go_wp2
    go_ret
    exact ⟨rfl, (Kp.refl _ _).alloc _⟩
  by_cases h2 : ¬ (W ≤ 4)
  · have e : Pl.okS W T R G = false := by rw [← Bool.not_eq_true, Pl.okS_iff]; omega
    rw [e]
    clear e
    go_enter Tryz.func78, Tryz.ntmps78
    go_wp2
    go_ret
    exact ⟨rfl, (Kp.refl _ _).alloc _⟩
  by_cases h3 : ¬ (1 ≤ T)
  · have e : Pl.okS W T R G = false := by rw [← Bool.not_eq_true, Pl.okS_iff]; omega
    rw [e]
    clear e
    go_enter Tryz.func78, Tryz.ntmps78
    go_wp2
    go_ret
    exact ⟨rfl, (Kp.refl _ _).alloc _⟩
  by_cases h4 : ¬ (T ≤ 4)
  · have e : Pl.okS W T R G = false := by rw [← Bool.not_eq_true, Pl.okS_iff]; omega
    rw [e]
    clear e
    go_enter Tryz.func78, Tryz.ntmps78
    go_wp2
    go_ret
    exact ⟨rfl, (Kp.refl _ _).alloc _⟩
  by_cases h5 : ¬ (1 ≤ R)
  · have e : Pl.okS W T R G = false := by rw [← Bool.not_eq_true, Pl.okS_iff]; omega
    rw [e]
    clear e
    go_enter Tryz.func78, Tryz.ntmps78
    go_wp2
    go_ret
    exact ⟨rfl, (Kp.refl _ _).alloc _⟩
  by_cases h6 : ¬ (R ≤ 20)
  · have e : Pl.okS W T R G = false := by rw [← Bool.not_eq_true, Pl.okS_iff]; omega
    rw [e]
    clear e
    go_enter Tryz.func78, Tryz.ntmps78
    go_wp2
    go_ret
    exact ⟨rfl, (Kp.refl _ _).alloc _⟩
  by_cases h7 : ¬ (0 ≤ G)
  · have e : Pl.okS W T R G = false := by rw [← Bool.not_eq_true, Pl.okS_iff]; omega
    rw [e]
    clear e
    go_enter Tryz.func78, Tryz.ntmps78
    go_wp2
    go_ret
    exact ⟨rfl, (Kp.refl _ _).alloc _⟩
  by_cases h8 : ¬ (G ≤ 32)
  · have e : Pl.okS W T R G = false := by rw [← Bool.not_eq_true, Pl.okS_iff]; omega
    rw [e]
    clear e
    go_enter Tryz.func78, Tryz.ntmps78
    go_wp2
    go_ret
    exact ⟨rfl, (Kp.refl _ _).alloc _⟩
  have e : Pl.okS W T R G = true := by rw [Pl.okS_iff]; omega
  rw [e]
  clear e
  go_enter Tryz.func78, Tryz.ntmps78
  go_wp2
  go_ret
  exact ⟨rfl, (Kp.refl _ _).alloc _⟩

theorem Blk.setCells {b : Nat} {e : TypeId} : ∀ (vs : List Value) (o : Nat) (w : World) (cs : List Value), Blk w b cs e → o + vs.length ≤ cs.length → Blk (w.setCells b o vs) b (cs.take o ++ vs ++ cs.drop (o + vs.length)) e
  | [], o, w, cs, h, _ => by simpa [World.setCells] using h
  | v :: r, o, w, cs, h, hl => by
    simp only [List.length_cons] at hl
    have h1 := h.set o v
    have := Blk.setCells r (o + 1) _ _ h1 (by rw [List.length_set]; omega)
    have e1 : (cs.set o v).take (o + 1) = cs.take o ++ [v] := by
      rw [List.take_succ_eq_append_getElem (by rw [List.length_set]; omega), List.getElem_set_self, List.take_set_of_le (Nat.le_refl _)]
    have e2 : (cs.set o v).drop (o + 1 + r.length) = cs.drop (o + (r.length + 1)) := by
      rw [List.drop_set_of_lt (by omega)]
      congr 1
      omega
    rw [e1, e2] at this
    simpa [World.setCells, List.append_assoc] using this
theorem kp_setCells (b : Nat) : ∀ (vs : List Value) (o : Nat) (w : World), Kp (fun k => k = b) w (w.setCells b o vs)
  | [], _, w => Kp.refl _ w
  | v :: r, o, w => by
    have h1 : Kp (fun k => k = b) w (w.setCell ⟨b, o, none⟩ v) := kp_set' w b o v
    exact h1.trans (kp_setCells b r (o + 1) _)
theorem Blk.there {w : World} {b : Nat} {cs : List Value} {e : TypeId} (h : Blk w b cs e) (n : Nat) (hn : n ≤ cs.length) : w.there b 0 n := fun j hj =>
  ⟨by rw [Nat.zero_add, h.cell j, List.getElem?_eq_getElem (by omega)]; rfl, by rw [Nat.zero_add]; exact h.free j⟩
theorem infoScan : (Tryz.prog.info? 142).map (·.size) = some 19 := by kernel_rfl

set_option maxRecDepth 20000 in
set_option maxHeartbeats 1000000 in
/-- the scan is ended, whatever it was -/
theorem end_any (col : Colr) (w : World) (P : Nat) (cs : List Value) (hl : cs.length = 19) (why : Nat) (hwhy : why ≠ 0) (hb : Blk w P cs 142) (hc : col P = .scan) (ht : ∀ k, w.heap.size ≤ k → col k = .out) :
    Calls Tryz.prog 82 #[PtrTo P 0, .int .i64 why] w fun e w' => e = .returned (.tuple #[]) ∧ Rep col w' P (Pl.ended why) [] [] (.slice none 0 0) (.slice none 0 0) (.slice none 0 0) (.slice none 0 0) (.slice none 0 0) ∧ Kp (fun k => k = P) w w' := by
  have hth := hb.there 19 (by omega)
  have hone : #[Value.int .i64 why, .int .i64 0, .slice none 0 0, .int .i64 0, .int .i64 0, .int .i64 0, .int .i64 0, .int .i64 0, .nilFunc, .int .i64 0, .slice none 0 0, .slice none 0 0, .slice none 0 0, .int .i64 0, .int .i64 0, .slice none 0 0, .int .i64 0, .int .i64 0, .int .i64 0].all (·.oneCell') = true := by simp [Value.oneCell']
  have HO := hide hone
  have HT := hide hth
  clear hone hth
  have hB := Blk.setCells [.int .i64 why, .int .i64 0, .slice none 0 0, .int .i64 0, .int .i64 0, .int .i64 0, .int .i64 0, .int .i64 0, .nilFunc, .int .i64 0, .slice none 0 0, .slice none 0 0, .slice none 0 0, .int .i64 0, .int .i64 0, .slice none 0 0, .int .i64 0, .int .i64 0, .int .i64 0] 0 w cs hb (by simp [hl])
  have hK := kp_setCells P [.int .i64 why, .int .i64 0, .slice none 0 0, .int .i64 0, .int .i64 0, .int .i64 0, .int .i64 0, .int .i64 0, .nilFunc, .int .i64 0, .slice none 0 0, .slice none 0 0, .slice none 0 0, .int .i64 0, .int .i64 0, .slice none 0 0, .int .i64 0, .int .i64 0, .int .i64 0] 0 w
  have hd : cs.drop 19 = [] := List.drop_eq_nil_of_le (by omega)
  simp only [List.take_zero, List.nil_append, List.length_cons, List.length_nil, Nat.zero_add, Nat.reduceAdd, hd, List.append_nil] at hB
  clear hd
  have HB := hide hB
  have HK := hide hK
  clear hB hK
  go_enter Tryz.func82, Tryz.ntmps82
  go_wp2_with (refine wpList_store_mid rfl 142 _ _ rfl P 0 _ rfl rfl (unhide HT) infoScan (unhide HO) ?_)
  go_end0
  have hB := unhide HB
  have hK := unhide HK
  clear HB HK
  generalize w.setCells P 0 _ = W1 at *
  have hg : Rep col W1 P (Pl.ended why) [] [] (.slice none 0 0) (.slice none 0 0) (.slice none 0 0) (.slice none 0 0) (.slice none 0 0) := by
    refine ⟨?_, hc, fun k hk => ht k (Nat.le_trans hK.size hk), RowAt.nil _ _ _ _, Own.nil _ _, fun g hg => by simp [Value.ownBlock] at hg, ⟨rfl, fun i p q a => by simp at a⟩, Own.nil _ _, fun g hg => by simp [Value.ownBlock] at hg, ⟨rfl, fun i p q a => by simp at a⟩, by simp, AheadAt.nil _ _, GroupsAt.nil _ _ _⟩
    have : scCells P (Pl.ended why) (.slice none 0 0) (.slice none 0 0) (.slice none 0 0) (.slice none 0 0) (.slice none 0 0) = [.int .i64 why, .int .i64 0, .slice none 0 0, .int .i64 0, .int .i64 0, .int .i64 0, .int .i64 0, .int .i64 0, .nilFunc, .int .i64 0, .slice none 0 0, .slice none 0 0, .slice none 0 0, .int .i64 0, .int .i64 0, .slice none 0 0, .int .i64 0, .int .i64 0, .int .i64 0] := by
      simp [scCells, Pl.ended, giveV, I, hwhy]
    rw [this]
    exact hB
  exact ⟨rfl, hg, hK⟩
end Go.Proofs.YthicgffppmbamaaGreat

namespace Go.Proofs.YthicgffppmbamaaGreat
open Go.RowKit

theorem lineNew_any (w : World) (n : Int) (f : Value) (hf : ∃ g x, f = .func g x #[]) :
    Calls Tryz.prog 80 #[.int .i64 n, f] w fun e w' => e = .returned (.agg #[.int .i64 n, f, .int .i64 0, .slice none 0 0, .slice none 0 0]) ∧ Ext w w' := by
  obtain ⟨g, x, rfl⟩ := hf
  go_enter Tryz.func80, Tryz.ntmps80
  go_wp2
  refine bodyPost_ret (v := .agg #[.int .i64 n, .func g x #[], .int .i64 0, .slice none 0 0, .slice none 0 0]) (by simp [results, Tryz.results80, go_sem]) rfl ⟨rfl, ?_⟩
  exact (Kp.refl _ _).alloc _

set_option maxRecDepth 20000 in
set_option maxHeartbeats 2000000 in
theorem scOpen_bad (w : World) (v : Value) (size W T R G : Int) (hbad : Pl.okSet size W T R G = false) :
    Calls Tryz.prog 53 #[.int .i64 size, v, setV W T R G] w fun e w' => e = .returned (.tuple #[.pointer none, .int .i64 2]) ∧ Ext w w' := by
  have hrs := fun u => rightSettings_any u W T R G
  have HS := hide hrs
  clear hrs
  by_cases h0 : size < 0
  · clear hbad
    go_enter Tryz.func53, Tryz.ntmps53
    go_wp2_with fail
    go_ret2
    exact ⟨rfl, (Kp.refl _ _).alloc _⟩
  by_cases h1 : 4000 < size
  · clear hbad
    go_enter Tryz.func53, Tryz.ntmps53
    go_wp2_with fail
    go_ret2
    exact ⟨rfl, (Kp.refl _ _).alloc _⟩
  have e : Pl.okS W T R G = false := by
    unfold Pl.okSet at hbad
    rw [decide_eq_true (by omega : (0 : Int) ≤ size), decide_eq_true (by omega : size ≤ 4000)] at hbad
    simpa using hbad
  rw [e] at HS
  clear hbad e
  go_enter Tryz.func53, Tryz.ntmps53
  go_wp2_with fail
  refine ((unhide HS) _).mono ?_
  rintro e w1 ⟨rfl, x1⟩
  go_wp2_with fail
  go_ret2
  exact ⟨rfl, ((Kp.refl _ _).alloc _).trans x1⟩

theorem RowAt.weak {C : Nat → Prop} {w : World} {size n : Nat} {v : Value} {cs : List Value} (h : RowAt C true w size v n cs) : RowAt C false w size v n cs := by
  obtain ⟨hl, ao, cap, rfl, h1, h3⟩ := h
  refine ⟨hl, ao, cap, rfl, h1, fun hp => ?_⟩
  obtain ⟨b, off, rfl, hb, hlt, hc, hf⟩ := h3 hp
  exact ⟨b, off, rfl, hb, hlt, hc, fun h => by cases h⟩
theorem infoLine : (Tryz.prog.info? 136).map (·.size) = some 5 := by kernel_rfl
/-- the colours of a new scan -/
def col0 (P : Nat) (nv : Value) : Colr := fun k => if k = P then .scan else if nv.ownBlock = some k then .ro else .out
/-- a new scan -/
theorem rep_new {w : World} {P : Nat} {m : Pl.Sc} {nv : Value} (hb : Blk w P (scCells P m nv (.slice none 0 0) (.slice none 0 0) (.slice none 0 0) (.slice none 0 0)) 142) (hn : Own w 1 nv m.want.length (m.want.map tx)) (hne : nv.ownBlock ≠ some P) (ha : m.asked = []) (hw : m.waiting = []) (hh : m.ahead = []) (hg : m.rows.groups = []) :
    Rep (col0 P nv) w P m [] [] nv (.slice none 0 0) (.slice none 0 0) (.slice none 0 0) (.slice none 0 0) := by
  have hlt := hb.lt
  refine ⟨hb, by simp [col0], fun k hk => ?_, (hn.rowAt _ (fun g hg => ?_)).weak, by rw [ha]; exact Own.nil _ _, fun g hg => by simp [Value.ownBlock] at hg, ⟨by rw [ha]; rfl, fun i p q a => by simp at a⟩, by rw [hw]; exact Own.nil _ _, fun g hg => by simp [Value.ownBlock] at hg, ⟨by rw [hw]; rfl, fun i p q a => by simp at a⟩, by simp, by rw [hh]; exact AheadAt.nil _ _, by rw [hg]; exact GroupsAt.nil _ _ _⟩
  · unfold col0
    rw [if_neg (by omega), if_neg (fun e => by have := hn.lt e; omega)]
  · show col0 P nv g = .ro
    unfold col0
    rw [if_neg (fun e => hne (by rw [← e]; exact hg)), if_pos hg]

set_option maxRecDepth 20000 in
set_option maxHeartbeats 4000000 in
theorem scOpen_ok (B0 : Nat) (w : World) (v : Value) (ss : List ByteArray) (size W T R G : Int) (hr : RdS B0 w v ss) (hok : Pl.okSet size W T R G = true) :
    Calls Tryz.prog 53 #[.int .i64 size, v, setV W T R G] w fun e w' => ∃ P col, e = .returned (.tuple #[PtrTo P 0, .int .i64 0]) ∧ IsSc col w' P (Pl.openSc size.toNat (ss.map bytesOf) W.toNat T.toNat R.toNat G.toNat) ∧ Ext w w' ∧ ∀ k, k < w.heap.size → col k = .out := by
  have hk : 0 ≤ size ∧ size ≤ 4000 ∧ Pl.okS W T R G = true := by
    unfold Pl.okSet at hok
    simp only [Bool.and_eq_true, decide_eq_true_eq] at hok
    exact ⟨hok.1.1, hok.1.2, hok.2⟩
  obtain ⟨h0, h1, h2⟩ := hk
  obtain ⟨⟨w1, w2⟩, ⟨t1, t2⟩, ⟨r1, r2⟩, g1, g2⟩ := (Pl.okS_iff _ _ _ _).1 h2
  have hrs := fun u => rightSettings_any u W T R G
  rw [h2] at hrs
  have HS := hide hrs
  have hkp := fun u (hu : Ext w u) => keep_any B0 u v ss (hr.kept hu (fun _ f => f.elim))
  have HK := hide hkp
  clear hrs hok h2 hkp
  obtain ⟨ao, cap, rfl, n1, n2, -⟩ := RdS.open hr
  clear hr
  go_enter Tryz.func53, Tryz.ntmps53
  go_wp2_with fail
  refine ((unhide HS) _).mono ?_
  rintro e u1 ⟨rfl, x1⟩
  have x01 : Ext w u1 := ((Kp.refl _ _).alloc _).trans x1
  have q0 : u1.cell? ⟨w.heap.size, 0, none⟩ = some (.int .i64 W) := x1.cell (World.cell?_alloc_new w _ _ 0) id
  have q1 : u1.cell? ⟨w.heap.size, 1, none⟩ = some (.int .i64 T) := x1.cell (World.cell?_alloc_new w _ _ 1) id
  have q2 : u1.cell? ⟨w.heap.size, 2, none⟩ = some (.int .i64 R) := x1.cell (World.cell?_alloc_new w _ _ 2) id
  have q3 : u1.cell? ⟨w.heap.size, 3, none⟩ = some (.int .i64 G) := x1.cell (World.cell?_alloc_new w _ _ 3) id
  go_wp2_with fail
  go_region_held3 (fun u => u.cell? ⟨w.heap.size, 0, none⟩ = some (.int .i64 W) ∧ u.cell? ⟨w.heap.size, 1, none⟩ = some (.int .i64 T) ∧ u.cell? ⟨w.heap.size, 2, none⟩ = some (.int .i64 R) ∧ u.cell? ⟨w.heap.size, 3, none⟩ = some (.int .i64 G)) (first | exact ⟨x2.cell q0 id, x2.cell q1 id, x2.cell q2 id, x2.cell q3 id⟩ | exact ⟨((Kp.refl (fun _ => False) u2).alloc _).cell (x2.cell q0 id) id, ((Kp.refl (fun _ => False) u2).alloc _).cell (x2.cell q1 id) id, ((Kp.refl (fun _ => False) u2).alloc _).cell (x2.cell q2 id) id, ((Kp.refl (fun _ => False) u2).alloc _).cell (x2.cell q3 id) id⟩ | go_keep) (first | (go_at_call 79; refine ((unhide HK) _ (x01.trans (ext_drew _))).mono ?_; rintro e u2 ⟨nv, rfl, o2, x2, g2'⟩; obtain ⟨na, nc, rfl, _⟩ := o2.shape) | fail)
  all_goals
    have z1 := x2.cell q1 id
    have hB3 := Blk.of_alloc u2 [.int .i64 0, .int .i64 size, .slice na (Pl.keepNames (ss.map bytesOf)).length nc, .int .i64 W, .int .i64 T, .int .i64 R, .int .i64 G, .int .i64 0, .nilFunc, .int .i64 0, .slice none 0 0, .slice none 0 0, .slice none 0 0, .int .i64 0, .int .i64 0, .slice none 0 0, .int .i64 0, .int .i64 0, .int .i64 0] 142
    have x23 : Ext u2 (u2.alloc (.cells #[.int .i64 0, .int .i64 size, .slice na (Pl.keepNames (ss.map bytesOf)).length nc, .int .i64 W, .int .i64 T, .int .i64 R, .int .i64 G, .int .i64 0, .nilFunc, .int .i64 0, .slice none 0 0, .slice none 0 0, .slice none 0 0, .int .i64 0, .int .i64 0, .slice none 0 0, .int .i64 0, .int .i64 0, .int .i64 0] 142)) := (Kp.refl _ _).alloc _
    have y1 := x23.cell z1 id
    have hPlt : ∀ g, (Value.slice na (Pl.keepNames (ss.map bytesOf)).length nc).ownBlock = some g → g < u2.heap.size := fun g hg => o2.lt hg
    have xw2 : Ext w u2 := (x01.trans (ext_drew _)).trans x2
    have o3 := o2.ext x23
    have hwP := xw2.size
    clear q0 q1 q2 q3 z1 o2
    generalize u2.heap.size = P at *
    generalize u2.alloc _ = U3 at *
    have HP := hide hPlt
    clear hPlt
    go_wp2_with fail
    refine (lineNew_any _ _ _ ⟨_, _, rfl⟩).mono ?_
    rintro e u4 ⟨rfl, x4⟩
    have hB4 := hB3.kept x4 id
    have o4 := o3.ext x4
    have hth : u4.there P 7 5 := fun j hj => ⟨by rw [hB4.cell, List.getElem?_eq_getElem (by simp; omega)]; rfl, hB4.free _⟩
    have HT := hide hth
    have hone : #[Value.int .i64 T, giveUpV P, .int .i64 0, .slice none 0 0, .slice none 0 0].all (·.oneCell') = true := by simp [Value.oneCell']
    have HO := hide hone
    have hB5 := Blk.setCells [Value.int .i64 T, giveUpV P, .int .i64 0, .slice none 0 0, .slice none 0 0] 7 u4 _ hB4 (by simp)
    have k5 := kp_setCells P [Value.int .i64 T, giveUpV P, .int .i64 0, .slice none 0 0, .slice none 0 0] 7 u4
    have o5 := o4.kept k5 (fun g hg e => by have := (unhide HP) g hg; omega)
    have x45 : Ext w (u4.setCells P 7 [Value.int .i64 T, giveUpV P, .int .i64 0, .slice none 0 0, .slice none 0 0]) := ((xw2.trans x23).trans x4).then k5 (fun i hi e => by omega)
    have hR : Rep (col0 P (.slice na (Pl.keepNames (ss.map bytesOf)).length nc)) (u4.setCells P 7 [Value.int .i64 T, giveUpV P, .int .i64 0, .slice none 0 0, .slice none 0 0]) P { size := size.toNat, want := Pl.keepNames (ss.map bytesOf), win := W.toNat, tries := T.toNat, nrows := R.toNat, gap := G.toNat } [] [] (.slice na (Pl.keepNames (ss.map bytesOf)).length nc) (.slice none 0 0) (.slice none 0 0) (.slice none 0 0) (.slice none 0 0) := by
      refine rep_new ?_ o5 (fun e => by have := (unhide HP) P e; omega) rfl rfl rfl rfl
      have ec : scCells P { size := size.toNat, want := Pl.keepNames (ss.map bytesOf), win := W.toNat, tries := T.toNat, nrows := R.toNat, gap := G.toNat } (.slice na (Pl.keepNames (ss.map bytesOf)).length nc) (.slice none 0 0) (.slice none 0 0) (.slice none 0 0) (.slice none 0 0) = [.int .i64 0, .int .i64 size, .slice na (Pl.keepNames (ss.map bytesOf)).length nc, .int .i64 W, .int .i64 T, .int .i64 R, .int .i64 G, .int .i64 T, giveUpV P, .int .i64 0, .slice none 0 0, .slice none 0 0, .slice none 0 0, .int .i64 0, .int .i64 0, .slice none 0 0, .int .i64 0, .int .i64 0, .int .i64 0] := by
        simp only [scCells, giveV, I, if_true, Int.toNat_of_nonneg h0, Int.toNat_of_nonneg (by omega : 0 ≤ W), Int.toNat_of_nonneg (by omega : 0 ≤ T), Int.toNat_of_nonneg (by omega : 0 ≤ R), Int.toNat_of_nonneg g1, Int.natCast_zero]
      rw [ec]
      exact hB5
    have hout : ∀ k, k < w.heap.size → col0 P (.slice na (Pl.keepNames (ss.map bytesOf)).length nc) k = .out := fun k hk => by
      unfold col0
      rw [if_neg (by omega), if_neg (fun e => by have := g2' k e; have := x01.size; have : u1.drew.heap.size = u1.heap.size := rfl; omega)]
    have HR := hide hR
    have HX := hide x45
    have HU := hide hout
    clear hth hone hB5 k5 o5 o4 hB4 hB3 o3 y1 x45 hR hout g2'
    by_cases hs10 : size < 10
    · have em : Pl.openSc size.toNat (ss.map bytesOf) W.toNat T.toNat R.toNat G.toNat = Pl.ended 2 := by unfold Pl.openSc; rw [if_pos (by omega)]
      have EM := hide em
      clear em
      go_wp2_with (refine wpList_store_mid rfl 136 _ _ rfl P 7 _ rfl rfl (unhide HT) infoLine (unhide HO) ?_)
      refine (end_any _ _ P _ rfl 2 (by decide) (unhide HR).blk (unhide HR).inn.pcol (unhide HR).inn.top).mono ?_
      rintro e u6 ⟨rfl, r6, k6⟩
      go_wp2_with fail
      go_ret2
      exact ⟨P, _, rfl, by rw [unhide EM]; exact r6.is, (unhide HX).then k6 (fun i hi e => by omega), unhide HU⟩
    · have em : Pl.openSc size.toNat (ss.map bytesOf) W.toNat T.toNat R.toNat G.toNat = Pl.fetch { size := size.toNat, want := Pl.keepNames (ss.map bytesOf), win := W.toNat, tries := T.toNat, nrows := R.toNat, gap := G.toNat } (size - 6).toNat (6 : Int).toNat .tail := by
        unfold Pl.openSc
        rw [if_neg (by omega), show (size - 6).toNat = size.toNat - 6 by omega]
        rfl
      have EM := hide em
      clear em
      go_wp2_with (refine wpList_store_mid rfl 136 _ _ rfl P 7 _ rfl rfl (unhide HT) infoLine (unhide HO) ?_)
      refine (fetch_any _ _ P _ _ _ .tail _ _ _ _ _ _ _ _ (unhide HR) rfl ⟨_, _, rfl⟩ (by simp) (by simp) (by omega) (by omega) (by omega)).mono ?_
      rintro e u6 ⟨rfl, c6, p6, av6, r6, g6⟩
      go_wp2_with fail
      go_ret2
      refine ⟨P, c6, rfl, by rw [unhide EM]; exact r6.is, (unhide HX).then g6.kept (fun i hi e => e ((unhide HU) i hi)), fun k hk => ?_⟩
      rw [g6.same k (Nat.lt_of_lt_of_le hk (unhide HX).size)]
      exact (unhide HU) k hk
end Go.Proofs.YthicgffppmbamaaGreat
