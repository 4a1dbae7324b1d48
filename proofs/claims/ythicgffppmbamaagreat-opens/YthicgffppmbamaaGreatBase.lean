/- Memory in the words of this proof: what a call keeps, rows of bytes that a call owns, lists that are read. -/
import Derived.Test.YthicgffppmbamaaGreatProg
import Derived.Test.YthicgffppmbamaaGreatPlain
import Derived.WalkKit
import Derived.Deep.Upon
import Derived.Deep.Draws
namespace Go.Proofs.YthicgffppmbamaaGreat
open Go.RowKit

theorem hide {p : Prop} (h : p) : Hid p := h
theorem unhide {p : Prop} (h : Hid p) : p := h

/-- Of the blocks that were there all but those of S are as they were. -/
structure Kp (S : Nat → Prop) (w w' : World) : Prop where
  os : w'.os = w.os
  tape : w'.tape = w.tape
  output : w'.output = w.output
  size : w.heap.size ≤ w'.heap.size
  block : ∀ k, k < w.heap.size → ¬ S k → w'.heap[k]? = w.heap[k]?

/-- Nothing that was there has turned. -/
abbrev Ext (w w' : World) : Prop := Kp (fun _ => False) w w'
/-- the blocks of one value -/
abbrev Of (v : Value) : Nat → Prop := fun k => v.ownBlock = some k
/-- the blocks from B on -/
abbrev From (B : Nat) : Nat → Prop := fun k => B ≤ k

theorem Kp.refl (S : Nat → Prop) (w : World) : Kp S w w := ⟨rfl, rfl, rfl, Nat.le_refl _, fun _ _ _ => rfl⟩
theorem Kp.mono {S S' : Nat → Prop} {w w' : World} (h : Kp S w w') (hs : ∀ k, k < w.heap.size → S k → S' k) : Kp S' w w' :=
  ⟨h.os, h.tape, h.output, h.size, fun k hk hn => h.block k hk (fun hS => hn (hs k hk hS))⟩
theorem Kp.trans {S : Nat → Prop} {a b c : World} (h : Kp S a b) (k : Kp S b c) : Kp S a c :=
  ⟨k.os.trans h.os, k.tape.trans h.tape, k.output.trans h.output, Nat.le_trans h.size k.size, fun i hi hn => (k.block i (Nat.lt_of_lt_of_le hi h.size) hn).trans (h.block i hi hn)⟩
theorem Kp.of_ext {S : Nat → Prop} {w w' : World} (h : Ext w w') : Kp S w w' := h.mono (fun _ _ f => f.elim)
theorem Kp.alloc {S : Nat → Prop} {a w : World} (h : Kp S a w) (o : Obj) : Kp S a (w.alloc o) :=
  h.trans ⟨rfl, rfl, rfl, by simp, fun k hk _ => Below.heap_alloc _ _ _ hk⟩
theorem Kp.drew {S : Nat → Prop} {a w : World} (h : Kp S a w) : Kp S a w.drew := ⟨h.os, h.tape, h.output, h.size, h.block⟩
theorem Kp.drewN {S : Nat → Prop} {a w : World} (h : Kp S a w) (n : Nat) : Kp S a (w.drewN n) := ⟨h.os, h.tape, h.output, h.size, h.block⟩
theorem Kp.setCell {S : Nat → Prop} {a w : World} (h : Kp S a w) {p : Addr} (hp : S p.block ∨ a.heap.size ≤ p.block) (u : Value) : Kp S a (w.setCell p u) := by
  refine ⟨h.os, h.tape, h.output, by simp [World.setCell]; exact h.size, fun k hk hn => ?_⟩
  rw [Below.heap_setCell _ _ _ _ (fun e => by subst e; rcases hp with hp | hp; exact hn hp; omega)]
  exact h.block k hk hn
theorem Kp.cell {S : Nat → Prop} {w w' : World} (h : Kp S w w') {a : Addr} {v : Value} (hc : w.cell? a = some v) (hn : ¬ S a.block) : w'.cell? a = some v :=
  (World.cell?_of_block (h.block a.block (World.block_lt_of_cell? w a hc) hn)).trans hc
theorem Kp.ext_after {S : Nat → Prop} {w w1 w2 : World} (h : Ext w w1) (k : Kp S w1 w2) : Kp S w w2 := (Kp.of_ext h).trans k
/-- what is written behind is new, or one of S -/
theorem Kp.then {S S' : Nat → Prop} {w w1 w2 : World} (h : Kp S w w1) (k : Kp S' w1 w2) (hs : ∀ i, i < w.heap.size → S' i → S i) : Kp S w w2 :=
  ⟨k.os.trans h.os, k.tape.trans h.tape, k.output.trans h.output, Nat.le_trans h.size k.size, fun i hi hn => (k.block i (Nat.lt_of_lt_of_le hi h.size) (fun e => hn (hs i hi e))).trans (h.block i hi hn)⟩
theorem Ext.below {w w' : World} (h : Ext w w') : Below w.heap.size w w' := ⟨h.os, h.tape, h.output, h.size, fun k hk => h.block k hk id⟩

/-- a byte as a cell -/
def B (b : UInt8) : Value := .int .u8 b.toNat
theorem B_one (bs : List UInt8) : ∀ u ∈ bs.map B, u.oneCell' = true := by
  intro u hu
  obtain ⟨_, _, rfl⟩ := List.mem_map.1 hu
  rfl

/-- v is a row of bytes of the call's own: it holds bs, and may be written. -/
def OwnB (w : World) (v : Value) (bs : List UInt8) : Prop :=
  (v = .slice none 0 0 ∧ bs = []) ∨ ∃ g cap, v = .slice (some ⟨g, 0, none⟩) bs.length cap ∧ bs.length ≤ cap ∧ cap ≤ maxLen ∧ g < w.heap.size ∧
    (∀ j, j < bs.length → w.cell? ⟨g, j, none⟩ = (bs.map B)[j]?) ∧ (∀ j, j < cap → (w.cell? ⟨g, j, none⟩).isSome = true ∧ w.frozen? ⟨g, j, none⟩ = false)

/-- where the value lies behind an append: where it lay, or in a new block -/
def Sep (w : World) (v v' : Value) : Prop := v'.ownBlock = v.ownBlock ∨ ∃ g, v'.ownBlock = some g ∧ w.heap.size ≤ g

theorem Sep.refl (w : World) (v : Value) : Sep w v v := .inl rfl
theorem Sep.trans {w w1 : World} {v v1 v2 : Value} (hz : w.heap.size ≤ w1.heap.size) (h : Sep w v v1) (k : Sep w1 v1 v2) : Sep w v v2 := by
  rcases k with k | ⟨g, k1, k2⟩
  · rcases h with h | ⟨g, h1, h2⟩
    · exact .inl (k.trans h)
    · exact .inr ⟨g, k.trans h1, h2⟩
  · exact .inr ⟨g, k1, by omega⟩
theorem Sep.mono {w w1 : World} {v v1 : Value} (hz : w.heap.size ≤ w1.heap.size) (k : Sep w1 v v1) : Sep w v v1 := Sep.trans hz (Sep.refl w v) k

theorem OwnB.kept {w w' : World} {S : Nat → Prop} {v : Value} {bs : List UInt8} (h : OwnB w v bs) (k : Kp S w w') (hn : ∀ g, v.ownBlock = some g → ¬ S g) : OwnB w' v bs := by
  rcases h with h | ⟨g, cap, rfl, h1, h2, h3, h4, h5⟩
  · exact .inl h
  · have e := k.block g h3 (hn g rfl)
    refine .inr ⟨g, cap, rfl, h1, h2, Nat.lt_of_lt_of_le h3 k.size, fun j hj => ?_, fun j hj => ?_⟩
    · rw [World.cell?_of_block (w := w) (a := ⟨g, j, none⟩) e]; exact h4 j hj
    · rw [World.cell?_of_block (w := w) (a := ⟨g, j, none⟩) e, World.frozen?_of_block (w := w) (a := ⟨g, j, none⟩) e]; exact h5 j hj
theorem OwnB.ext {w w' : World} {v : Value} {bs : List UInt8} (h : OwnB w v bs) (k : Ext w w') : OwnB w' v bs := h.kept k (fun _ _ f => f)
theorem OwnB.lt {w : World} {v : Value} {bs : List UInt8} (h : OwnB w v bs) {g : Nat} (hg : v.ownBlock = some g) : g < w.heap.size := by
  rcases h with ⟨rfl, _⟩ | ⟨g', cap, rfl, _, _, h3, _⟩
  · simp [Value.ownBlock] at hg
  · simp [Value.ownBlock] at hg; omega
theorem OwnB.shape {w : World} {v : Value} {bs : List UInt8} (h : OwnB w v bs) : ∃ ao cap, v = .slice ao bs.length cap := by
  rcases h with ⟨rfl, rfl⟩ | ⟨g', cap, rfl, _⟩
  · exact ⟨_, _, rfl⟩
  · exact ⟨_, _, rfl⟩
theorem OwnB.shape' {w : World} {v : Value} {bs : List UInt8} (h : OwnB w v bs) : ∃ ao n cap, v = .slice ao n cap ∧ Hid (n = bs.length) := by
  obtain ⟨ao, cap, rfl⟩ := h.shape
  exact ⟨_, _, _, rfl, rfl⟩
theorem OwnB.nil (w : World) : OwnB w (.slice none 0 0) [] := .inl ⟨rfl, rfl⟩

theorem info5 : (Tryz.prog.info? 5).map (fun i => (i.zero, i.size, i.bytes)) = some (some (.int .u8 0), 1, 1) := by kernel_rfl

/-- append onto a row of one's own, out of whatever source -/
theorem run_append_b (w : World) (v : Value) (bs : List UInt8) (hown : OwnB w v bs) (tx ty : TypeId) (x : Value) (n : Nat) (news : List UInt8) (hs : Src Tryz.prog 1 tx x n (news.map B) w) (hb : bs.length + n ≤ 1000000) :
    ∃ v' w', (Builtin.append_ #[76, tx] ty #[v, x]).run Tryz.prog w = .ok v' w' ∧ OwnB w' v' (bs ++ news) ∧ Kp (Of v) w w' ∧ Sep w v v' := by
  obtain ⟨i0, hi, hz0, hz1, hz2⟩ := info_parts info5
  have hs' : Src Tryz.prog i0.size tx x n (news.map B) w := by rw [hz1]; exact hs
  have hnl : news.length = n := by simpa using hs.newsLen
  have grow : ∀ (base : Option Addr) (cap : Nat), v = .slice base bs.length cap → cap < bs.length + n → (Builtin.firstCells i0.size bs.length (.slice base bs.length cap)).run Tryz.prog w.drew = .ok (bs.map B).toArray w.drew →
      ∃ v' w', (Builtin.append_ #[76, tx] ty #[v, x]).run Tryz.prog w = .ok v' w' ∧ OwnB w' v' (bs ++ news) ∧ Kp (Of v) w w' ∧ Sep w v v' := by
    rintro base cap rfl hg hold
    have hrun := run_append_grow_src (P := Tryz.prog) w 76 tx ty 5 i0 (.int .u8 0) Tryz.underlying76 hi hz0 base bs.length cap (bs.map B) hold x n (news.map B) hs' hg (by omega) (growslice_fits hg (by rw [hz2]; omega))
    have hge := grownCap_ge w (bs.length + n) cap 5
    have hcm := grownCap_le_maxLen w (bs.length + n) cap 5 (by unfold maxLen; omega)
    have hsz : ((bs.map B ++ news.map B).toArray ++ Builtin.zeroCells (Value.int .u8 0).cells (grownCap w (bs.length + n) cap 5 - (bs.length + n))).size = grownCap w (bs.length + n) cap 5 := by
      rw [Array.size_append, size_zeroCells]
      simp only [List.size_toArray, List.length_append, List.length_map, hnl]
      have : (Value.int .u8 0).cells.size = 1 := rfl
      rw [this]; omega
    refine ⟨_, _, hrun, .inr ⟨w.heap.size, _, by rw [List.length_append, hnl], by rw [List.length_append, hnl]; exact hge, hcm, by simp, fun j hj => ?_, fun j hj => ⟨?_, ?_⟩⟩, Kp.alloc (Kp.drew (Kp.refl _ _)) _, .inr ⟨_, rfl, Nat.le_refl _⟩⟩
    · have e1 := World.cell?_alloc_new w.drew ((bs.map B ++ news.map B).toArray ++ Builtin.zeroCells (Value.int .u8 0).cells (grownCap w (bs.length + n) cap 5 - (bs.length + n))) 5 j
      have e2 : w.drew.heap.size = w.heap.size := rfl
      rw [e2] at e1
      rw [e1, Array.getElem?_append_left (by simpa using hj), List.getElem?_toArray, List.map_append]
    · have e1 := World.cell?_alloc_new w.drew ((bs.map B ++ news.map B).toArray ++ Builtin.zeroCells (Value.int .u8 0).cells (grownCap w (bs.length + n) cap 5 - (bs.length + n))) 5 j
      have e2 : w.drew.heap.size = w.heap.size := rfl
      rw [e2] at e1
      rw [e1, Array.getElem?_eq_getElem (by rw [hsz]; exact hj)]
      rfl
    · exact World.frozen?_alloc_new w.drew _ _ j
  rcases hown with ⟨rfl, rfl⟩ | ⟨g, cap, rfl, h1, h2, h3, h4, h5⟩
  · by_cases hn : n = 0
    · subst hn
      obtain rfl : news = [] := List.eq_nil_of_length_eq_zero hnl
      exact ⟨_, _, run_append_nothing (P := Tryz.prog) w 76 tx ty 5 i0 Tryz.underlying76 hi none 0 0 (Nat.le_refl _) x hs', .inl ⟨rfl, rfl⟩, Kp.refl _ _, Sep.refl _ _⟩
    · exact grow none 0 rfl (by simp; omega) (run_firstCells_none w.drew _ _ _ _)
  · by_cases hfit : bs.length + n ≤ cap
    · have hrun := run_append_room_src (P := Tryz.prog) w 76 tx ty 5 i0 Tryz.underlying76 hi g 0 bs.length cap x n (news.map B) hs' hfit
        (fun j hj => by rw [hz1]; simp at hj ⊢; exact (h5 _ (by omega)).1) (fun j hj => by rw [hz1]; simp at hj ⊢; exact (h5 _ (by omega)).2)
      rw [hz1] at hrun
      simp only [Nat.zero_add, Nat.mul_one] at hrun
      refine ⟨_, _, hrun, .inr ⟨g, cap, by rw [List.length_append, hnl], by rw [List.length_append, hnl]; exact hfit, h2, ?_, fun j hj => ?_, fun j hj => ⟨?_, ?_⟩⟩, ?_, .inl rfl⟩
      · have := (World.keptBut_setCells g (may := fun _ => True) (news.map B) bs.length w (fun _ _ => trivial)).size
        omega
      · by_cases hj1 : j < bs.length
        · rw [World.cell?_setCells_out g _ _ _ _ (fun _ _ => Or.inl hj1), List.map_append, List.getElem?_append_left (by simpa using hj1)]
          exact h4 j hj1
        · have := World.cell?_setCells_in g (news.map B) bs.length w (fun j' hj' => (h5 _ (by simp at hj'; omega)).1) (j - bs.length) (by simp at hj ⊢; omega)
          rw [show bs.length + (j - bs.length) = j by omega] at this
          rw [this, List.map_append, List.getElem?_append_right (by simp; omega), List.getElem?_eq_getElem (by simp at hj ⊢; omega)]
          simp
      · by_cases hj1 : j < bs.length ∨ bs.length + n ≤ j
        · rw [World.cell?_setCells_out g _ _ _ _ (fun _ _ => by simp [hnl]; omega)]
          exact (h5 j hj).1
        · have := World.cell?_setCells_in g (news.map B) bs.length w (fun j' hj' => (h5 _ (by simp at hj'; omega)).1) (j - bs.length) (by simp at hj ⊢; omega)
          rw [show bs.length + (j - bs.length) = j by omega] at this
          rw [this]; rfl
      · rw [World.frozen?_setCells]; exact (h5 j hj).2
      · have hkb := World.keptBut_setCells g (may := fun _ => True) (news.map B) bs.length w (fun _ _ => trivial)
        refine ⟨World.os_setCells _ _ _ _, ?_, World.output_setCells _ _ _ _, hkb.size, fun k hk hn => World.heap_setCells_other _ _ _ _ hk (fun e => hn (by subst e; rfl))⟩
        have ht : ∀ (l : List Value) (o : Nat) (u : World), (u.setCells g o l).tape = u.tape := by
          intro l
          induction l with
          | nil => intro o u; rfl
          | cons y r ih => intro o u; rw [World.setCells, ih]; rfl
        exact ht _ _ _
    · refine grow (some ⟨g, 0, none⟩) cap rfl (by omega) ?_
      rw [hz1]
      exact run_firstCells_some w.drew 1 bs.length ⟨g, 0, none⟩ _ _ (bs.map B) (by simp) (fun j u hu => by
        have hj := (List.getElem?_eq_some_iff.1 hu).1
        simp at hj
        have := h4 j hj
        rw [hu] at this
        rw [Addr.add_lit, Nat.zero_add]; exact this)

theorem wpList_append_b (w : World) {ops : Array Oper} {rest : List Oper} {o : Oper} {a : Act} {Q : Exit → Act → World → Prop} (hgd : o.guard = none) (s x : Operand) (tx : TypeId)
    (ho : o.op = .call { callee := .builtin .append, args := #[s, x], argTypes := #[76, tx] })
    (v : Value) (bs : List UInt8) (hv : a.eval s = v) (hown : OwnB w v bs) (xv : Value) (hx : a.eval x = xv) (n : Nat) (news : List UInt8) (hs : Src Tryz.prog 1 tx xv n (news.map B) w) (hb : bs.length + n ≤ 1000000)
    (hK : ∀ v' w', OwnB w' v' (bs ++ news) → Kp (Of v) w w' → Sep w v v' → wpList Tryz.prog ops Q rest (a.put o.dst v') w') : wpList Tryz.prog ops Q (o :: rest) a w := by
  refine wpList_plain hgd fun K hK' => ?_
  obtain ⟨v', w', hrun, r1, r2, r3⟩ := run_append_b w v bs hown tx o.type xv n news hs hb
  unfold Oper.wp
  simp [execOp, ho, resolve, invoke, builtin, hv, hx, hrun, Result.andThen]
  exact hK' _ _ (hK v' w' r1 r2 r3)

end Go.Proofs.YthicgffppmbamaaGreat
