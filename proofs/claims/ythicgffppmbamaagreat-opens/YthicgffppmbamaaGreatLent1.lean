/- lent: a table of one's own. -/
import Derived.Test.YthicgffppmbamaaGreatLent0
import Derived.Deep.CutRange
import Derived.BigQuiet
import Derived.Deep.QuietTactic
namespace Go.Proofs.YthicgffppmbamaaGreat
open Go.RowKit

/-- a list of values, laid whole with two places behind -/
def LI (w : World) (b : Nat) (xs : List Int) : Prop := Blk w b (xs.map I ++ [I 0, I 0]) 3
def zipI (bs : List Nat) (g : List (List Int)) : List Value := List.zipWith (fun b xs => sl b xs.length) bs g
structure LG (w : World) (b : Nat) (bs : List Nat) (g : List (List Int)) : Prop where
  blk : Blk w b (zipI bs g ++ [nilS, nilS]) 46
  len : bs.length = g.length
  each : ∀ (i : Nat) (b' : Nat) (xs : List Int), bs[i]? = some b' → g[i]? = some xs → LI w b' xs
def zipG (gbs : List (Nat × List Nat)) (gs : List (List (List Int))) : List Value := List.zipWith (fun p g => sl p.1 g.length) gbs gs
def flat (gbs : List (Nat × List Nat)) : List Nat := gbs.flatMap (·.2)
structure Lent (w : World) (bN bG : Nat) (gbs : List (Nat × List Nat)) (ss : List ByteArray) (gs : List (List (List Int))) : Prop where
  names : Blk w bN (ss.map Value.string ++ [.string ByteArray.empty, .string ByteArray.empty]) 9
  top : Blk w bG (zipG gbs gs ++ [nilS, nilS]) 51
  len : gbs.length = gs.length
  group : ∀ (j : Nat) (p : Nat × List Nat) (g : List (List Int)), gbs[j]? = some p → gs[j]? = some g → LG w p.1 p.2 g
  nodup : (flat gbs).Nodup

/-- what the reach gives -/
structure Small (ss : List ByteArray) (gs : List (List (List Int))) : Prop where
  names : ss.length ≤ 8796093021952
  groups : gs.length ≤ 5864062014634
  group : ∀ g ∈ gs, g.length ≤ 5864062014634
  list : ∀ g ∈ gs, ∀ l ∈ g, l.length ≤ 17592186043904

/-- the three cells of the call: its box, its result, its table -/
structure St (w : World) (P : Nat) (nv gv on og : Value) : Prop where
  box : Blk w P [nv, gv] 42
  res : Blk w (P + 1) [nilS, nilS] 42
  out : Blk w (P + 2) [on, og] 42
theorem St.kept {S : Nat → Prop} {w w' : World} {P : Nat} {nv gv on og : Value} (h : St w P nv gv on og) (k : Kp S w w') (hn : ∀ i, S i → P + 2 < i) : St w' P nv gv on og :=
  ⟨h.box.kept k (fun e => by have := hn _ e; omega), h.res.kept k (fun e => by have := hn _ e; omega), h.out.kept k (fun e => by have := hn _ e; omega)⟩
theorem St.setN {w : World} {P : Nat} {nv gv on og : Value} (h : St w P nv gv on og) (v : Value) : St (w.setCell ⟨P + 2, 0, none⟩ v) P nv gv v og :=
  ⟨h.box.kept (kp_set' w (P + 2) 0 v) (by omega), h.res.kept (kp_set' w (P + 2) 0 v) (by omega), h.out.set 0 v⟩
theorem St.setG {w : World} {P : Nat} {nv gv on og : Value} (h : St w P nv gv on og) (v : Value) : St (w.setCell ⟨P + 2, 1, none⟩ v) P nv gv on v :=
  ⟨h.box.kept (kp_set' w (P + 2) 1 v) (by omega), h.res.kept (kp_set' w (P + 2) 1 v) (by omega), h.out.set 1 v⟩

theorem St.b0 {w : World} {P : Nat} {nv gv on og : Value} (h : St w P nv gv on og) : w.cell? ⟨P, 0, none⟩ = some nv := h.box.cell 0
theorem St.b1 {w : World} {P : Nat} {nv gv on og : Value} (h : St w P nv gv on og) : w.cell? ⟨P, 1, none⟩ = some gv := h.box.cell 1
theorem St.o0 {w : World} {P : Nat} {nv gv on og : Value} (h : St w P nv gv on og) : w.cell? ⟨P + 2, 0, none⟩ = some on := h.out.cell 0
theorem St.o1 {w : World} {P : Nat} {nv gv on og : Value} (h : St w P nv gv on og) : w.cell? ⟨P + 2, 1, none⟩ = some og := h.out.cell 1
theorem St.f0 {w : World} {P : Nat} {nv gv on og : Value} (h : St w P nv gv on og) : w.frozen? ⟨P + 2, 0, none⟩ = false := h.out.free 0
theorem St.f1 {w : World} {P : Nat} {nv gv on og : Value} (h : St w P nv gv on og) : w.frozen? ⟨P + 2, 1, none⟩ = false := h.out.free 1
theorem st_new (w : World) (nv gv : Value) : St (((w.alloc (.cells #[nv, gv] 42)).alloc (.cells #[nilS, nilS] 42)).alloc (.cells #[nilS, nilS] 42)) w.heap.size nv gv nilS nilS := by
  have h1 := Blk.of_alloc w [nv, gv] 42
  have h2 := Blk.of_alloc (w.alloc (.cells #[nv, gv] 42)) [nilS, nilS] 42
  have h3 := Blk.of_alloc ((w.alloc (.cells #[nv, gv] 42)).alloc (.cells #[nilS, nilS] 42)) [nilS, nilS] 42
  simp only [World.size_alloc] at h2 h3
  refine ⟨(h1.kept ((Kp.refl (fun _ => False) _).alloc _) id).kept ((Kp.refl (fun _ => False) _).alloc _) id, h2.kept ((Kp.refl (fun _ => False) _).alloc _) id, h3⟩

theorem info9 : (Tryz.prog.info? 9).map (fun i => (i.zero, i.size, i.bytes)) = some (some (.string ByteArray.empty), 1, 16) := by kernel_rfl
theorem info3 : (Tryz.prog.info? 3).map (fun i => (i.zero, i.size, i.bytes)) = some (some (.int .i64 0), 1, 8) := by kernel_rfl
theorem info34 : (Tryz.prog.info? 46).map (fun i => (i.zero, i.size, i.bytes)) = some (some nilS, 1, 24) := by kernel_rfl
theorem info35 : (Tryz.prog.info? 51).map (fun i => (i.zero, i.size, i.bytes)) = some (some nilS, 1, 24) := by kernel_rfl
theorem size_of {e : TypeId} {z : Value} {b : Nat} (h : (Tryz.prog.info? e).map (fun i => (i.zero, i.size, i.bytes)) = some (some z, 1, b)) : (Tryz.prog.info? e).map (·.size) = some 1 := by
  obtain ⟨i, hi, _, h1, _⟩ := info_parts h
  rw [hi]; simp [h1]

theorem set_mid (A : List Value) (z v : Value) (k : Nat) : (A ++ List.replicate (k + 1) z).set A.length v = A ++ [v] ++ List.replicate k z := by
  rw [List.set_append_right _ _ (Nat.le_refl _), Nat.sub_self, List.replicate_succ]
  simp
theorem zipI_len (bs : List Nat) (g : List (List Int)) (h : bs.length = g.length) : (zipI bs g).length = g.length := by unfold zipI; rw [List.length_zipWith]; omega
theorem zipI_snoc (bs : List Nat) (g : List (List Int)) (r b : Nat) (h : bs.length = r) (hr : r < g.length) : zipI (bs ++ [b]) (g.take (r + 1)) = zipI bs (g.take r) ++ [sl b g[r].length] := by
  unfold zipI
  rw [List.take_succ_eq_append_getElem hr, List.zipWith_append (by rw [List.length_take]; omega)]
  rfl
theorem zipG_len (bs : List (Nat × List Nat)) (g : List (List (List Int))) (h : bs.length = g.length) : (zipG bs g).length = g.length := by unfold zipG; rw [List.length_zipWith]; omega
theorem zipG_snoc (bs : List (Nat × List Nat)) (g : List (List (List Int))) (r : Nat) (b : Nat × List Nat) (h : bs.length = r) (hr : r < g.length) : zipG (bs ++ [b]) (g.take (r + 1)) = zipG bs (g.take r) ++ [sl b.1 g[r].length] := by
  unfold zipG
  rw [List.take_succ_eq_append_getElem hr, List.zipWith_append (by rw [List.length_take]; omega)]
  rfl

/-- a group in the making -/
structure Li (w : World) (bx r : Nat) (bs : List Nat) (g : List (List Int)) : Prop where
  blk : Blk w bx (zipI bs (g.take r) ++ List.replicate (g.length + 2 - r) nilS) 46
  len : bs.length = r
  each : ∀ (i : Nat) (b' : Nat) (xs : List Int), bs[i]? = some b' → g[i]? = some xs → LI w b' xs
  nodup : bs.Nodup
  bd : ∀ b ∈ bs, bx < b ∧ b < w.heap.size
theorem Li.step {w w1 w2 : World} {bx r : Nat} {bs : List Nat} {g : List (List Int)} (h : Li w bx r bs g) (hr : r < g.length) (hw : bx < w.heap.size) (x1 : Ext w w1) (z1 : w1.heap.size = w.heap.size + 1) (k2 : Kp (fun k => k = w.heap.size) w1 w2) (z2 : w2.heap.size = w1.heap.size) (hl : LI w2 w.heap.size g[r]) :
    Li (w2.setCell ⟨bx, r, none⟩ (sl w.heap.size g[r].length)) bx (r + 1) (bs ++ [w.heap.size]) g := by
  have k12 : Kp (fun k => k = w.heap.size) w w2 := (Kp.of_ext x1).trans k2
  have hb2 := h.blk.kept k12 (by omega)
  have hs := hb2.set r (sl w.heap.size g[r].length)
  have e1 : (zipI bs (g.take r)).length = r := by rw [zipI_len _ _ (by rw [h.len, List.length_take]; omega), List.length_take]; omega
  have e2 : (zipI bs (g.take r) ++ List.replicate (g.length + 2 - r) nilS).set r (sl w.heap.size g[r].length) = zipI (bs ++ [w.heap.size]) (g.take (r + 1)) ++ List.replicate (g.length + 2 - (r + 1)) nilS := by
    rw [zipI_snoc bs g r _ h.len hr, show g.length + 2 - r = (g.length + 2 - (r + 1)) + 1 by omega]
    have := set_mid (zipI bs (g.take r)) nilS (sl w.heap.size g[r].length) (g.length + 2 - (r + 1))
    rw [e1] at this
    exact this
  rw [e2] at hs
  refine ⟨hs, by simp [h.len], fun i b' xs hi hx => ?_, ?_, fun b hb => ?_⟩
  · by_cases hir : i < r
    · rw [List.getElem?_append_left (by rw [h.len]; exact hir)] at hi
      have hb' := h.bd b' (List.mem_of_getElem? hi)
      exact ((h.each i b' xs hi hx).kept k12 (by omega)).kept (kp_set' w2 bx r _) (by omega)
    · have hlt := (List.getElem?_eq_some_iff.1 hi).1
      simp [h.len] at hlt
      obtain rfl : i = r := by omega
      rw [List.getElem?_append_right (by rw [h.len]; exact Nat.le_refl _), h.len, Nat.sub_self] at hi
      simp at hi
      subst hi
      rw [List.getElem?_eq_getElem hr] at hx
      simp at hx
      subst hx
      exact hl.kept (kp_set' w2 bx i _) (by omega)
  · rw [List.nodup_append]
    refine ⟨h.nodup, by simp, fun a ha b hb => ?_⟩
    simp at hb
    subst hb
    have := (h.bd a ha).2
    omega
  · rw [size_set, z2, z1]
    rcases List.mem_append.1 hb with hb | hb
    · have := h.bd b hb; omega
    · simp at hb; subst hb; omega

/-- a table in the making -/
structure Lo (w : World) (P : Nat) (nv gv : Value) (q : Nat) (gbs : List (Nat × List Nat)) (ss : List ByteArray) (gs : List (List (List Int))) : Prop where
  st : St w P nv gv (sl (P + 3) ss.length) (.slice (some ⟨P + 4, 0, none⟩) (gs.length + 2) (gs.length + 2))
  names : Blk w (P + 3) (ss.map Value.string ++ [.string ByteArray.empty, .string ByteArray.empty]) 9
  top : Blk w (P + 4) (zipG gbs (gs.take q) ++ List.replicate (gs.length + 2 - q) nilS) 51
  len : gbs.length = q
  group : ∀ (j : Nat) (p : Nat × List Nat) (g : List (List Int)), gbs[j]? = some p → gs[j]? = some g → LG w p.1 p.2 g ∧ P + 4 < p.1
  nodup : (flat gbs).Nodup
  fl : ∀ b ∈ flat gbs, P + 4 < b ∧ b < w.heap.size
theorem LG.kept {S : Nat → Prop} {w w' : World} {b : Nat} {bs : List Nat} {g : List (List Int)} (h : LG w b bs g) (k : Kp S w w') (h1 : ¬ S b) (h2 : ∀ b ∈ bs, ¬ S b) : LG w' b bs g :=
  ⟨h.blk.kept k h1, h.len, fun i b' xs hi hx => (h.each i b' xs hi hx).kept k (h2 b' (List.mem_of_getElem? hi))⟩
theorem mem_flat {gbs : List (Nat × List Nat)} {j : Nat} {p : Nat × List Nat} (h : gbs[j]? = some p) : ∀ b ∈ p.2, b ∈ flat gbs := fun _ hb => List.mem_flatMap.2 ⟨p, List.mem_of_getElem? h, hb⟩
theorem Lo.ext {w w' : World} {P : Nat} {nv gv : Value} {q : Nat} {gbs : List (Nat × List Nat)} {ss : List ByteArray} {gs : List (List (List Int))} (h : Lo w P nv gv q gbs ss gs) (k : Ext w w') : Lo w' P nv gv q gbs ss gs :=
  ⟨h.st.kept k (fun _ f => f.elim), h.names.kept k id, h.top.kept k id, h.len, fun j p g a b => ⟨(h.group j p g a b).1.kept k id (fun _ _ => id), (h.group j p g a b).2⟩, h.nodup, fun b hb => ⟨(h.fl b hb).1, Nat.lt_of_lt_of_le (h.fl b hb).2 k.size⟩⟩
theorem Lo.step {w w1 : World} {P : Nat} {nv gv : Value} {q : Nat} {gbs : List (Nat × List Nat)} {ss : List ByteArray} {gs : List (List (List Int))} (h : Lo w P nv gv q gbs ss gs) (hq : q < gs.length) (x : Ext w w1) (hP : P + 4 < w.heap.size) (bs : List Nat) (_hb : w.heap.size < w1.heap.size) (hi : Li w1 w.heap.size gs[q].length bs gs[q]) :
    Lo (w1.setCell ⟨P + 4, q, none⟩ (sl w.heap.size gs[q].length)) P nv gv (q + 1) (gbs ++ [(w.heap.size, bs)]) ss gs := by
  have h1 := h.ext x
  have kk := kp_set' w1 (P + 4) q (sl w.heap.size gs[q].length)
  have hs := h1.top.set q (sl w.heap.size gs[q].length)
  have e1 : (zipG gbs (gs.take q)).length = q := by rw [zipG_len _ _ (by rw [h.len, List.length_take]; omega), List.length_take]; omega
  have e2 : (zipG gbs (gs.take q) ++ List.replicate (gs.length + 2 - q) nilS).set q (sl w.heap.size gs[q].length) = zipG (gbs ++ [(w.heap.size, bs)]) (gs.take (q + 1)) ++ List.replicate (gs.length + 2 - (q + 1)) nilS := by
    rw [zipG_snoc gbs gs q _ h.len hq, show gs.length + 2 - q = (gs.length + 2 - (q + 1)) + 1 by omega]
    have := set_mid (zipG gbs (gs.take q)) nilS (sl w.heap.size gs[q].length) (gs.length + 2 - (q + 1))
    rw [e1] at this
    exact this
  rw [e2] at hs
  have hfl : flat (gbs ++ [(w.heap.size, bs)]) = flat gbs ++ bs := by unfold flat; simp
  have hLG : LG w1 w.heap.size bs gs[q] := by
    refine ⟨?_, hi.len, hi.each⟩
    have := hi.blk
    rw [List.take_length, show gs[q].length + 2 - gs[q].length = 2 by omega] at this
    exact this
  refine ⟨⟨h1.st.box.kept kk (by omega), h1.st.res.kept kk (by omega), h1.st.out.kept kk (by omega)⟩, h1.names.kept kk (by omega), hs, by simp [h.len], fun j p g hj hg => ?_, ?_, fun b hb' => ?_⟩
  · by_cases hjq : j < q
    · rw [List.getElem?_append_left (by rw [h.len]; exact hjq)] at hj
      have hp := h1.group j p g hj hg
      exact ⟨hp.1.kept kk (by omega) (fun b hb => by have := (h1.fl b (mem_flat hj b hb)).1; omega), hp.2⟩
    · have hlt := (List.getElem?_eq_some_iff.1 hj).1
      simp [h.len] at hlt
      obtain rfl : j = q := by omega
      rw [List.getElem?_append_right (by rw [h.len]; exact Nat.le_refl _), h.len, Nat.sub_self] at hj
      simp at hj
      subst hj
      rw [List.getElem?_eq_getElem hq] at hg
      simp at hg
      subst hg
      exact ⟨hLG.kept kk (by show ¬ w.heap.size = P + 4; omega) (fun b hb => by have := (hi.bd b hb).1; omega), by show P + 4 < w.heap.size; omega⟩
  · rw [hfl, List.nodup_append]
    refine ⟨h.nodup, hi.nodup, fun a ha b hb e => ?_⟩
    have h2 := (h.fl a ha).2
    have h3 := (hi.bd b hb).1
    omega
  · rw [size_set]
    rw [hfl] at hb'
    rcases List.mem_append.1 hb' with hb' | hb'
    · exact h1.fl b hb'
    · have := hi.bd b hb'; omega
theorem Lo.done {w : World} {P : Nat} {nv gv : Value} {gbs : List (Nat × List Nat)} {ss : List ByteArray} {gs : List (List (List Int))} (h : Lo w P nv gv gs.length gbs ss gs) : Lent w (P + 3) (P + 4) gbs ss gs := by
  refine ⟨h.names, ?_, h.len, fun j p g a b => (h.group j p g a b).1, h.nodup⟩
  have := h.top
  rw [List.take_length, show gs.length + 2 - gs.length = 2 by omega] at this
  exact this

theorem Li.ext {w w' : World} {bx r : Nat} {bs : List Nat} {g : List (List Int)} (h : Li w bx r bs g) (k : Ext w w') : Li w' bx r bs g :=
  ⟨h.blk.kept k id, h.len, fun i b' xs hi hx => (h.each i b' xs hi hx).kept k id, h.nodup, fun b hb => ⟨(h.bd b hb).1, Nat.lt_of_lt_of_le (h.bd b hb).2 k.size⟩⟩
theorem Li.cell {w : World} {bx r : Nat} {bs : List Nat} {g : List (List Int)} (h : Li w bx r bs g) (hr : r < g.length) : w.cell? ⟨bx, r, none⟩ = some nilS := by
  have e1 : (zipI bs (g.take r)).length = r := by rw [zipI_len _ _ (by rw [h.len, List.length_take]; omega), List.length_take]; omega
  rw [h.blk.cell, List.getElem?_append_right (by omega), e1, Nat.sub_self, List.getElem?_replicate, if_pos (by omega)]
theorem Lo.cell {w : World} {P : Nat} {nv gv : Value} {q : Nat} {gbs : List (Nat × List Nat)} {ss : List ByteArray} {gs : List (List (List Int))} (h : Lo w P nv gv q gbs ss gs) (hr : q < gs.length) : w.cell? ⟨P + 4, q, none⟩ = some nilS := by
  have e1 : (zipG gbs (gs.take q)).length = q := by rw [zipG_len _ _ (by rw [h.len, List.length_take]; omega), List.length_take]; omega
  rw [h.top.cell, List.getElem?_append_right (by omega), e1, Nat.sub_self, List.getElem?_replicate, if_pos (by omega)]

theorem Lent.kept {S : Nat → Prop} {w w' : World} {bN bG : Nat} {gbs : List (Nat × List Nat)} {ss : List ByteArray} {gs : List (List (List Int))} (h : Lent w bN bG gbs ss gs) (k : Kp S w w') (h1 : ¬ S bN) (h2 : ¬ S bG) (h3 : ∀ p ∈ gbs, ¬ S p.1) (h4 : ∀ b ∈ flat gbs, ¬ S b) : Lent w' bN bG gbs ss gs :=
  ⟨h.names.kept k h1, h.top.kept k h2, h.len, fun j p g a b => (h.group j p g a b).kept k (h3 p (List.mem_of_getElem? a)) (fun b' hb => h4 b' (mem_flat a b' hb)), h.nodup⟩
theorem Lent.ext {w w' : World} {bN bG : Nat} {gbs : List (Nat × List Nat)} {ss : List ByteArray} {gs : List (List (List Int))} (h : Lent w bN bG gbs ss gs) (k : Ext w w') : Lent w' bN bG gbs ss gs := h.kept k id id (fun _ _ => id) (fun _ _ => id)
/-- a lent table reads as its owner's -/
theorem Lent.rdS {w : World} {bN bG : Nat} {gbs : List (Nat × List Nat)} {ss : List ByteArray} {gs : List (List (List Int))} (h : Lent w bN bG gbs ss gs) (hsm : Small ss gs) : RdS w.heap.size w (sl bN ss.length) ss := by
  have := Rd.ofBlk (B0 := w.heap.size) h.names rfl h.names.lt (by rw [List.length_map]; have := hsm.names; omega)
  rw [List.length_map] at this
  exact this
theorem LG.rd {w : World} {b : Nat} {bs : List Nat} {g : List (List Int)} (h : LG w b bs g) (h1 : g.length ≤ 5864062014634) (h2 : ∀ l ∈ g, l.length ≤ 17592186043904) : RdII w.heap.size w (sl b g.length) g := by
  have hz := zipI_len bs g h.len
  have hr := Rd.ofBlk (B0 := w.heap.size) h.blk rfl h.blk.lt (by omega)
  rw [hz] at hr
  refine ⟨_, hr, hz, fun i x xs hx hxs => ?_⟩
  have hi := (List.getElem?_eq_some_iff.1 hxs).1
  have hib : i < bs.length := by rw [h.len]; exact hi
  have hbi : bs[i]? = some bs[i] := List.getElem?_eq_getElem hib
  have e : (zipI bs g)[i]? = some (sl bs[i] xs.length) := by
    unfold zipI
    rw [List.getElem?_zipWith, hbi, hxs]
  rw [e] at hx
  simp only [Option.some.injEq] at hx
  subst hx
  have hL := h.each i _ xs hbi hxs
  have := Rd.ofBlk (B0 := w.heap.size) hL rfl hL.lt (by rw [List.length_map]; have := h2 xs (List.mem_of_getElem? hxs); omega)
  rw [List.length_map] at this
  exact this
theorem Lent.rdIII {w : World} {bN bG : Nat} {gbs : List (Nat × List Nat)} {ss : List ByteArray} {gs : List (List (List Int))} (h : Lent w bN bG gbs ss gs) (hsm : Small ss gs) : RdIII w.heap.size w (sl bG gs.length) gs := by
  have hz := zipG_len gbs gs h.len
  have hr := Rd.ofBlk (B0 := w.heap.size) h.top rfl h.top.lt (by rw [hz]; have := hsm.groups; omega)
  rw [hz] at hr
  refine ⟨_, hr, hz, fun i x g hx hg => ?_⟩
  have hi := (List.getElem?_eq_some_iff.1 hg).1
  have hib : i < gbs.length := by rw [h.len]; exact hi
  have hbi : gbs[i]? = some gbs[i] := List.getElem?_eq_getElem hib
  have e : (zipG gbs gs)[i]? = some (sl gbs[i].1 g.length) := by
    unfold zipG
    rw [List.getElem?_zipWith, hbi, hg]
  rw [e] at hx
  simp only [Option.some.injEq] at hx
  subst hx
  exact (h.group i _ g hbi hg).rd (hsm.group g (List.mem_of_getElem? hg)) (hsm.list g (List.mem_of_getElem? hg))

end Go.Proofs.YthicgffppmbamaaGreat
