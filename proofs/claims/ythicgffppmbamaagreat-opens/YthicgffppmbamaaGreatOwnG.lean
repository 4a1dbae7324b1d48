/- Rows of one's own, of whatever element: append, and where the row lies behind it. -/
import Derived.Test.YthicgffppmbamaaGreatBase
namespace Go.Proofs.YthicgffppmbamaaGreat
open Go.RowKit

/-- v is a slice of n elements of 'size' cells each, in a row of the call's own: its cells are cs, and it may be written. -/
def Own (w : World) (size : Nat) (v : Value) (n : Nat) (cs : List Value) : Prop :=
  cs.length = n * size ∧ ((v = .slice none 0 0 ∧ n = 0) ∨ ∃ g cap, v = .slice (some ⟨g, 0, none⟩) n cap ∧ n ≤ cap ∧ cap ≤ maxLen ∧ g < w.heap.size ∧
    (∀ j, j < n * size → w.cell? ⟨g, j, none⟩ = cs[j]?) ∧ (∀ j, j < cap * size → (w.cell? ⟨g, j, none⟩).isSome = true ∧ w.frozen? ⟨g, j, none⟩ = false))

theorem Own.nil (w : World) (size : Nat) : Own w size (.slice none 0 0) 0 [] := ⟨by simp, .inl ⟨rfl, rfl⟩⟩
theorem Own.kept {w w' : World} {S : Nat → Prop} {size n : Nat} {v : Value} {cs : List Value} (h : Own w size v n cs) (k : Kp S w w') (hn : ∀ g, v.ownBlock = some g → ¬ S g) : Own w' size v n cs := by
  refine ⟨h.1, ?_⟩
  rcases h.2 with h | ⟨g, cap, rfl, h1, h2, h3, h4, h5⟩
  · exact .inl h
  · have e := k.block g h3 (hn g rfl)
    refine .inr ⟨g, cap, rfl, h1, h2, Nat.lt_of_lt_of_le h3 k.size, fun j hj => ?_, fun j hj => ?_⟩
    · rw [World.cell?_of_block (w := w) (a := ⟨g, j, none⟩) e]; exact h4 j hj
    · rw [World.cell?_of_block (w := w) (a := ⟨g, j, none⟩) e, World.frozen?_of_block (w := w) (a := ⟨g, j, none⟩) e]; exact h5 j hj
theorem Own.ext {w w' : World} {size n : Nat} {v : Value} {cs : List Value} (h : Own w size v n cs) (k : Ext w w') : Own w' size v n cs := h.kept k (fun _ _ f => f)
theorem Own.lt {w : World} {size n : Nat} {v : Value} {cs : List Value} (h : Own w size v n cs) {g : Nat} (hg : v.ownBlock = some g) : g < w.heap.size := by
  rcases h.2 with ⟨rfl, _⟩ | ⟨g', cap, rfl, _, _, h3, _⟩
  · simp [Value.ownBlock] at hg
  · simp [Value.ownBlock] at hg; omega
theorem Own.shape {w : World} {size n : Nat} {v : Value} {cs : List Value} (h : Own w size v n cs) : ∃ ao cap, v = .slice ao n cap ∧ n ≤ cap := by
  rcases h.2 with ⟨rfl, rfl⟩ | ⟨g', cap, rfl, h1, _⟩
  · exact ⟨_, _, rfl, Nat.le_refl _⟩
  · exact ⟨_, _, rfl, h1⟩

/-- append: the new row, and the old one as it was; where the new one lies -/
theorem run_append_s (P : Program) (w : World) (t e tx ty : TypeId) (z : Value) (size bytes : Nat) (ht : P.underlying t = some (.slice e)) (hinfo : (P.info? e).map (fun i => (i.zero, i.size, i.bytes)) = some (some z, size, bytes)) (hzc : z.cells.size = size)
    (v : Value) (n : Nat) (cs : List Value) (hown : Own w size v n cs) (x : Value) (m : Nat) (news : List Value) (hs : Src P size tx x m news w) (hb : (n + m) * bytes ≤ 140737488355328) (hm : n + m ≤ 1000000000000000) :
    ∃ v' w', (Builtin.append_ #[t, tx] ty #[v, x]).run P w = .ok v' w' ∧ Own w' size v' (n + m) (cs ++ news) ∧ Kp (Of v) w w' ∧ Own w' size v n cs ∧ (v'.ownBlock = v.ownBlock ∨ ∃ g, v'.ownBlock = some g ∧ w.heap.size ≤ g ∧ Ext w w') := by
  obtain ⟨i0, hi, hz0, hz1, hz2⟩ := info_parts hinfo
  have hs' : Src P i0.size tx x m news w := by rw [hz1]; exact hs
  have hnl : news.length = m * size := hs.newsLen
  have hcl := hown.1
  have hlen : (cs ++ news).length = (n + m) * size := by rw [List.length_append, hcl, hnl, Nat.add_mul]
  have grow : ∀ (base : Option Addr) (cap : Nat), v = .slice base n cap → cap < n + m → (Builtin.firstCells i0.size n (.slice base n cap)).run P w.drew = .ok cs.toArray w.drew →
      ∃ v' w', (Builtin.append_ #[t, tx] ty #[v, x]).run P w = .ok v' w' ∧ Own w' size v' (n + m) (cs ++ news) ∧ Kp (Of v) w w' ∧ Own w' size v n cs ∧ (v'.ownBlock = v.ownBlock ∨ ∃ g, v'.ownBlock = some g ∧ w.heap.size ≤ g ∧ Ext w w') := by
    rintro base cap rfl hg hold
    have hrun := run_append_grow_src (P := P) w t tx ty e i0 z ht hi hz0 base n cap cs hold x m news hs' hg (by omega) (growslice_fits hg (by rw [hz2]; exact hb))
    have hge := grownCap_ge w (n + m) cap e
    have hcm := grownCap_le_maxLen w (n + m) cap e (by unfold maxLen; omega)
    have hsz : ((cs ++ news).toArray ++ Builtin.zeroCells z.cells (grownCap w (n + m) cap e - (n + m))).size = grownCap w (n + m) cap e * size := by
      rw [Array.size_append, size_zeroCells, hzc, List.size_toArray, hlen, ← Nat.add_mul]
      congr 1
      omega
    refine ⟨_, _, hrun, ⟨hlen, .inr ⟨w.heap.size, _, rfl, hge, hcm, by simp, fun j hj => ?_, fun j hj => ⟨?_, ?_⟩⟩⟩, Kp.alloc (Kp.drew (Kp.refl _ _)) _, hown.ext (Kp.alloc (Kp.drew (Kp.refl _ _)) _), .inr ⟨_, rfl, Nat.le_refl _, Kp.alloc (Kp.drew (Kp.refl _ _)) _⟩⟩
    · have e1 := World.cell?_alloc_new w.drew ((cs ++ news).toArray ++ Builtin.zeroCells z.cells (grownCap w (n + m) cap e - (n + m))) e j
      have e2 : w.drew.heap.size = w.heap.size := rfl
      rw [e2] at e1
      rw [e1, Array.getElem?_append_left (by rw [List.size_toArray, hlen]; exact hj), List.getElem?_toArray]
    · have e1 := World.cell?_alloc_new w.drew ((cs ++ news).toArray ++ Builtin.zeroCells z.cells (grownCap w (n + m) cap e - (n + m))) e j
      have e2 : w.drew.heap.size = w.heap.size := rfl
      rw [e2] at e1
      rw [e1, Array.getElem?_eq_getElem (by rw [hsz]; exact hj)]
      rfl
    · exact World.frozen?_alloc_new w.drew _ _ j
  rcases hown.2 with ⟨rfl, rfl⟩ | ⟨g, cap, rfl, h1, h2, h3, h4, h5⟩
  · obtain rfl : cs = [] := List.eq_nil_of_length_eq_zero (by simpa using hcl)
    by_cases hn : m = 0
    · subst hn
      obtain rfl : news = [] := List.eq_nil_of_length_eq_zero (by simpa using hnl)
      exact ⟨_, _, run_append_nothing (P := P) w t tx ty e i0 ht hi none 0 0 (Nat.le_refl _) x hs', ⟨by simp, .inl ⟨rfl, rfl⟩⟩, Kp.refl _ _, hown, .inl rfl⟩
    · exact grow none 0 rfl (by omega) (run_firstCells_none w.drew _ _ _ _)
  · by_cases hfit : n + m ≤ cap
    · have hcs : (n + m) * size ≤ cap * size := Nat.mul_le_mul_right _ hfit
      rw [Nat.add_mul] at hcs
      have hrun := run_append_room_src (P := P) w t tx ty e i0 ht hi g 0 n cap x m news hs' hfit
        (fun j hj => by rw [hz1, Nat.zero_add]; exact (h5 _ (by omega)).1) (fun j hj => by rw [hz1, Nat.zero_add]; exact (h5 _ (by omega)).2)
      rw [hz1] at hrun
      simp only [Nat.zero_add] at hrun
      refine ⟨_, _, hrun, ⟨hlen, .inr ⟨g, cap, rfl, hfit, h2, ?_, fun j hj => ?_, fun j hj => ⟨?_, ?_⟩⟩⟩, ?_, ⟨hcl, .inr ⟨g, cap, rfl, h1, h2, ?_, fun j hj => ?_, fun j hj => ⟨?_, ?_⟩⟩⟩, .inl rfl⟩
      · have := (World.keptBut_setCells g (may := fun _ => True) news (n * size) w (fun _ _ => trivial)).size
        omega
      · rw [Nat.add_mul] at hj
        by_cases hj1 : j < n * size
        · rw [World.cell?_setCells_out g _ _ _ _ (fun _ _ => Or.inl hj1), List.getElem?_append_left (by omega)]
          exact h4 j hj1
        · have := World.cell?_setCells_in g news (n * size) w (fun j' hj' => (h5 _ (by omega)).1) (j - n * size) (by omega)
          rw [show n * size + (j - n * size) = j by omega] at this
          rw [this, List.getElem?_append_right (by omega), hcl, List.getElem?_eq_getElem]
      · by_cases hj1 : j < n * size ∨ n * size + news.length ≤ j
        · rw [World.cell?_setCells_out g _ _ _ _ (fun _ _ => hj1)]
          exact (h5 j hj).1
        · have := World.cell?_setCells_in g news (n * size) w (fun j' hj' => (h5 _ (by omega)).1) (j - n * size) (by omega)
          rw [show n * size + (j - n * size) = j by omega] at this
          rw [this]; rfl
      · rw [World.frozen?_setCells]; exact (h5 j hj).2
      · have hkb := World.keptBut_setCells g (may := fun _ => True) news (n * size) w (fun _ _ => trivial)
        refine ⟨World.os_setCells _ _ _ _, ?_, World.output_setCells _ _ _ _, hkb.size, fun k hk hn => World.heap_setCells_other _ _ _ _ hk (fun e => hn (by subst e; rfl))⟩
        have ht : ∀ (l : List Value) (o : Nat) (u : World), (u.setCells g o l).tape = u.tape := by
          intro l
          induction l with
          | nil => intro o u; rfl
          | cons y r ih => intro o u; rw [World.setCells, ih]; rfl
        exact ht _ _ _
      · have := (World.keptBut_setCells g (may := fun _ => True) news (n * size) w (fun _ _ => trivial)).size
        omega
      · rw [World.cell?_setCells_out g _ _ _ _ (fun _ _ => Or.inl hj)]
        exact h4 j hj
      · by_cases hj1 : j < n * size ∨ n * size + news.length ≤ j
        · rw [World.cell?_setCells_out g _ _ _ _ (fun _ _ => hj1)]
          exact (h5 j hj).1
        · have := World.cell?_setCells_in g news (n * size) w (fun j' hj' => (h5 _ (by omega)).1) (j - n * size) (by omega)
          rw [show n * size + (j - n * size) = j by omega] at this
          rw [this]; rfl
      · rw [World.frozen?_setCells]; exact (h5 j hj).2
    · refine grow (some ⟨g, 0, none⟩) cap rfl (by omega) ?_
      rw [hz1]
      exact run_firstCells_some w.drew size n ⟨g, 0, none⟩ _ _ cs hcl (fun j u hu => by
        have hj := (List.getElem?_eq_some_iff.1 hu).1
        rw [Addr.add_lit, Nat.zero_add]
        exact (h4 j (by omega)).trans hu)

theorem run_append_g (P : Program) (w : World) (t e tx ty : TypeId) (z : Value) (size bytes : Nat) (ht : P.underlying t = some (.slice e)) (hinfo : (P.info? e).map (fun i => (i.zero, i.size, i.bytes)) = some (some z, size, bytes)) (hzc : z.cells.size = size)
    (v : Value) (n : Nat) (cs : List Value) (hown : Own w size v n cs) (x : Value) (m : Nat) (news : List Value) (hs : Src P size tx x m news w) (hb : (n + m) * bytes ≤ 140737488355328) (hm : n + m ≤ 1000000000000000) :
    ∃ v' w', (Builtin.append_ #[t, tx] ty #[v, x]).run P w = .ok v' w' ∧ Own w' size v' (n + m) (cs ++ news) ∧ Kp (Of v) w w' ∧ Sep w v v' := by
  obtain ⟨v', w', h1, h2, h3, _, h4⟩ := run_append_s P w t e tx ty z size bytes ht hinfo hzc v n cs hown x m news hs hb hm
  exact ⟨v', w', h1, h2, h3, h4.imp id (fun ⟨g, a, b, _⟩ => ⟨g, a, b⟩)⟩

theorem wpList_append_g {P : Program} (w : World) {ops : Array Oper} {rest : List Oper} {o : Oper} {a : Act} {Q : Exit → Act → World → Prop} (hgd : o.guard = none) (s x : Operand) (t tx : TypeId)
    (ho : o.op = .call { callee := .builtin .append, args := #[s, x], argTypes := #[t, tx] }) (e : TypeId) (z : Value) (size bytes : Nat) (ht : P.underlying t = some (.slice e)) (hinfo : (P.info? e).map (fun i => (i.zero, i.size, i.bytes)) = some (some z, size, bytes)) (hzc : z.cells.size = size)
    (v : Value) (n : Nat) (cs : List Value) (hv : a.eval s = v) (hown : Own w size v n cs) (xv : Value) (hx : a.eval x = xv) (m : Nat) (news : List Value) (hs : Src P size tx xv m news w) (hb : (n + m) * bytes ≤ 140737488355328) (hm : n + m ≤ 1000000000000000)
    (hK : ∀ v' w', Own w' size v' (n + m) (cs ++ news) → Kp (Of v) w w' → Sep w v v' → wpList P ops Q rest (a.put o.dst v') w') : wpList P ops Q (o :: rest) a w := by
  refine wpList_plain hgd fun K hK' => ?_
  obtain ⟨v', w', hrun, r1, r2, r3⟩ := run_append_g P w t e tx o.type z size bytes ht hinfo hzc v n cs hown xv m news hs hb hm
  unfold Oper.wp
  simp [execOp, ho, resolve, invoke, builtin, hv, hx, hrun, Result.andThen]
  exact hK' _ _ (hK v' w' r1 r2 r3)
theorem wpList_append_s {P : Program} (w : World) {ops : Array Oper} {rest : List Oper} {o : Oper} {a : Act} {Q : Exit → Act → World → Prop} (hgd : o.guard = none) (s x : Operand) (t tx : TypeId)
    (ho : o.op = .call { callee := .builtin .append, args := #[s, x], argTypes := #[t, tx] }) (e : TypeId) (z : Value) (size bytes : Nat) (ht : P.underlying t = some (.slice e)) (hinfo : (P.info? e).map (fun i => (i.zero, i.size, i.bytes)) = some (some z, size, bytes)) (hzc : z.cells.size = size)
    (v : Value) (n : Nat) (cs : List Value) (hv : a.eval s = v) (hown : Own w size v n cs) (xv : Value) (hx : a.eval x = xv) (m : Nat) (news : List Value) (hs : Src P size tx xv m news w) (hb : (n + m) * bytes ≤ 140737488355328) (hm : n + m ≤ 1000000000000000)
    (hK : ∀ v' w', Own w' size v' (n + m) (cs ++ news) → Kp (Of v) w w' → Own w' size v n cs → (v'.ownBlock = v.ownBlock ∨ ∃ g, v'.ownBlock = some g ∧ w.heap.size ≤ g ∧ Ext w w') → wpList P ops Q rest (a.put o.dst v') w') : wpList P ops Q (o :: rest) a w := by
  refine wpList_plain hgd fun K hK' => ?_
  obtain ⟨v', w', hrun, r1, r2, r3, r4⟩ := run_append_s P w t e tx o.type z size bytes ht hinfo hzc v n cs hown xv m news hs hb hm
  unfold Oper.wp
  simp [execOp, ho, resolve, invoke, builtin, hv, hx, hrun, Result.andThen]
  exact hK' _ _ (hK v' w' r1 r2 r3 r4)
end Go.Proofs.YthicgffppmbamaaGreat
