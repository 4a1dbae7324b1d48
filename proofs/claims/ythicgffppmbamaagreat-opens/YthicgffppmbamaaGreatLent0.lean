/- Blocks that are known whole: make, copy, stores. -/
import Derived.Test.YthicgffppmbamaaGreatCheck4
import Derived.Laws.CopyOwn
namespace Go.Proofs.YthicgffppmbamaaGreat
open Go.RowKit

/-- block b holds the cells cs, and may be written -/
def Blk (w : World) (b : Nat) (cs : List Value) (e : TypeId) : Prop := w.heap[b]? = some (.cells cs.toArray e (0, 0))

theorem Blk.cell {w : World} {b : Nat} {cs : List Value} {e : TypeId} (h : Blk w b cs e) (j : Nat) : w.cell? ⟨b, j, none⟩ = cs[j]? := by
  unfold Blk at h
  simp [World.cell?, h]
theorem Blk.free {w : World} {b : Nat} {cs : List Value} {e : TypeId} (h : Blk w b cs e) (j : Nat) : w.frozen? ⟨b, j, none⟩ = false := by
  unfold Blk at h
  simp [World.frozen?, h]
theorem Blk.lt {w : World} {b : Nat} {cs : List Value} {e : TypeId} (h : Blk w b cs e) : b < w.heap.size := lt_of_block h
theorem Blk.kept {S : Nat → Prop} {w w' : World} {b : Nat} {cs : List Value} {e : TypeId} (h : Blk w b cs e) (k : Kp S w w') (hn : ¬ S b) : Blk w' b cs e := by
  unfold Blk at *
  rw [k.block b (lt_of_block h) hn]
  exact h
theorem Blk.ne {w : World} {b b' : Nat} {cs cs' : List Value} {e e' : TypeId} (h : Blk w b cs e) (h' : Blk w b' cs' e') (he : e ≠ e') : b ≠ b' := by
  intro hb
  subst hb
  unfold Blk at *
  rw [h] at h'
  simp at h'
  exact he h'.2
theorem Blk.set {w : World} {b : Nat} {cs : List Value} {e : TypeId} (h : Blk w b cs e) (j : Nat) (v : Value) : Blk (w.setCell ⟨b, j, none⟩ v) b (cs.set j v) e := by
  unfold Blk at *
  simp only [World.setCell, Array.getElem?_modify, h]
  simp
theorem kp_set' (w : World) (b j : Nat) (v : Value) : Kp (fun k => k = b) w (w.setCell ⟨b, j, none⟩ v) := Kp.setCell (S := fun k => k = b) (p := ⟨b, j, none⟩) (Kp.refl _ _) (.inl rfl) v
theorem size_set (w : World) (a : Addr) (v : Value) : (w.setCell a v).heap.size = w.heap.size := by simp [World.setCell]
theorem Blk.of_alloc (w : World) (cs : List Value) (e : TypeId) : Blk (w.alloc (.cells cs.toArray e)) w.heap.size cs e := heap_alloc_new w _

/-- make([]T, n) -/
theorem wpList_make_blk (w : World) {ops : Array Oper} {rest : List Oper} {o : Oper} {a : Act} {Q : Exit → Act → World → Prop} (hg : o.guard = none) (l c : Operand) (t : TypeId) (hop : o.op = Op.makeSlice t l c)
    (e : TypeId) (z : Value) (bytes : Nat) (h1 : Tryz.prog.underlying t = some (.slice e)) (h2 : (Tryz.prog.info? e).map (fun i => (i.zero, i.size, i.bytes)) = some (some z, 1, bytes)) (hz : z.cells = #[z])
    (n : Nat) (L C : Int) (hl : a.eval l = .int .i64 L) (hc : a.eval c = .int .i64 C) (hL : L = n) (hC : C = n) (hb : bytes * n ≤ 281474976710656) (hn : n ≤ 1000000000000000)
    (hK : ∀ w', Blk w' w.heap.size (List.replicate n z) e → Ext w w' → w'.heap.size = w.heap.size + 1 → wpList Tryz.prog ops Q rest (a.put o.dst (.slice (some ⟨w.heap.size, 0, none⟩) n n)) w') : wpList Tryz.prog ops Q (o :: rest) a w := by
  refine wpList_plain hg fun K hK' => ?_
  obtain ⟨i, hi, hz0, hz1, hz2⟩ := info_parts h2
  subst hL
  subst hC
  have hrun := run_make (P := Tryz.prog) w t e i z h1 hi hz0 .i64 .i64 (n : Int) (n : Int) (by omega) (Int.le_refl _) (by rw [hz2]; omega) (by omega)
  rw [Int.toNat_natCast, hz1, Nat.mul_one, hz] at hrun
  have hm : madeCells #[z] n = (List.replicate n z).toArray := by
    apply Array.ext'
    rw [toList_madeCells_one]
  rw [hm] at hrun
  unfold Oper.wp
  simp [execOp, hop, hl, hc, hrun, Result.andThen]
  exact hK' _ _ (hK _ (Blk.of_alloc _ _ _) ((Kp.refl _ _).alloc _) (by simp))

/-- copy into a block that is known whole -/
theorem run_copy_blk (B0 : Nat) (w : World) (dT elem : TypeId) (hu : Tryz.prog.underlying dT = some (.slice elem)) (hs : (Tryz.prog.info? elem).map (·.size) = some 1) (b dLen dCap : Nat) (cur : List Value) (hb : Blk w b cur elem)
    (ao : Option Addr) (sLen sCap : Nat) (cs : List Value) (hl : cs.length = sLen) (hr : Rd B0 w (.slice ao sLen sCap) cs) (hle : cs.length ≤ dLen) (hfit : cs.length ≤ cur.length) (h1 : ∀ v ∈ cs, v.oneCell' = true) (ty : TypeId) :
    ∃ w' n, (Builtin.copy_ #[dT, dT] ty #[.slice (some ⟨b, 0, none⟩) dLen dCap, .slice ao sLen sCap]).run Tryz.prog w = .ok n w' ∧ Blk w' b (cs ++ cur.drop cs.length) elem ∧ Kp (fun k => k = b) w w' ∧ w'.heap.size = w.heap.size := by
  obtain ⟨ao', cap', e, c1, c2, c3⟩ := hr
  simp only [Value.slice.injEq] at e
  obtain ⟨rfl, _, rfl⟩ := e
  by_cases hp : 0 < cs.length
  · obtain ⟨b', off, rfl, hb', hc⟩ := c3 hp
    have hrun := run_copy_row Tryz.prog w dT dT ty elem b 0 dLen dCap ⟨b', off, none⟩ sLen sCap cur.toArray elem cs hu hs hb (by rw [hl]; exact (Nat.min_eq_left (by omega)).symm) (fun j v hv => by
      rw [Addr.add_lit, hc j (List.getElem?_eq_some_iff.1 hv).1]; exact hv) (by simpa using hfit) h1
    refine ⟨_, _, hrun, ?_, ?_, by simp⟩
    · unfold Blk at *
      simp only [World.setRow, Array.getElem?_modify, hb]
      simp
    · refine ⟨rfl, rfl, rfl, by simp, fun k hk hn => ?_⟩
      simp only [World.setRow, Array.getElem?_modify]
      rw [if_neg (fun e => hn e.symm)]
  · have h0 : cs = [] := List.eq_nil_of_length_eq_zero (by omega)
    subst h0
    have hrun := run_copy_none (P := Tryz.prog) w dT dT ty elem (some ⟨b, 0, none⟩) ao dLen dCap sLen sCap hu hs (by simp at hl; subst hl; exact Nat.zero_min _)
    exact ⟨_, _, hrun, by simpa using hb, Kp.refl _ _, rfl⟩

/-- a slice over a block of one's own, two places longer -/
abbrev sl (b n : Nat) : Value := .slice (some ⟨b, 0, none⟩) n (n + 2)
abbrev nilS : Value := .slice none 0 0
theorem Rd.ofBlk {B0 : Nat} {w : World} {b : Nat} {cs rest : List Value} {e : TypeId} (h : Blk w b (cs ++ rest) e) (_hr : rest.length = 2) (hb : b < B0) (hm : cs.length ≤ 17592186044000) : Rd B0 w (sl b cs.length) cs := by
  refine ⟨_, _, rfl, by omega, by omega, fun _ => ⟨b, 0, rfl, hb, fun j hj => ?_⟩⟩
  rw [Nat.zero_add, h.cell, List.getElem?_append_left hj]

end Go.Proofs.YthicgffppmbamaaGreat
