/- Asked, State. -/
import Derived.Test.YthicgffppmbamaaGreatScOpen
namespace Go.Proofs.YthicgffppmbamaaGreat
open Go.RowKit

/-- a row of rows, each of s cells -/
theorem flatten_at (s : Nat) : ∀ (L : List (List Value)), (∀ e ∈ L, e.length = s) → ∀ (i j : Nat), j < s → ∀ (e : List Value), L[i]? = some e → L.flatten[i * s + j]? = e[j]?
  | [], _, i, j, _, e, he => by simp at he
  | x :: r, h, 0, j, hj, e, he => by
    simp at he
    subst he
    rw [List.flatten_cons, List.getElem?_append_left (by rw [h x (by simp)]; omega)]
    simp
  | x :: r, h, i + 1, j, hj, e, he => by
    simp at he
    have hx := h x (by simp)
    rw [List.flatten_cons, List.getElem?_append_right (by rw [hx, Nat.add_mul]; omega), hx]
    rw [show (i + 1) * s + j - s = i * s + j by rw [Nat.add_mul]; omega]
    exact flatten_at s r (fun e he => h e (by simp [he])) i j hj e he
theorem reqRow_at (ps : List Nat) (l : List (Nat × Pl.Part)) (hl : ps.length = l.length) (i j : Nat) (hi : i < l.length) (hj : j < 5) : (reqRow ps l)[i * 5 + j]? = (reqCells (ps[i]'(by omega)) l[i])[j]? := by
  unfold reqRow
  refine flatten_at 5 _ (fun e he => ?_) i j hj _ ?_
  · rw [List.mem_iff_getElem] at he
    obtain ⟨k, hk, rfl⟩ := he
    rw [List.getElem_zipWith]
    rfl
  · rw [List.getElem?_eq_getElem (by simp; omega), List.getElem_zipWith]
/-- what Asked tells -/
def askCells (q : Nat × Pl.Part) : List Value := [I q.1, I (q.2.place + q.2.data.length : Nat), I (q.2.length - q.2.data.length : Nat)]
theorem infoAsk : (Tryz.prog.info? 72).map (fun i => (i.zero, i.size, i.bytes)) = some (some (.agg #[.int .i64 0, .int .i64 0, .int .i64 0]), 3, 24) := by kernel_rfl
/-- a row of cells at an address of a row of one's own -/
theorem Own.at {w : World} {size n : Nat} {v : Value} {cs : List Value} (h : Own w size v n cs) (hp : 0 < n) : ∃ g cap, v = .slice (some ⟨g, 0, none⟩) n cap ∧ n ≤ cap ∧ g < w.heap.size ∧ ∀ j, j < n * size → w.cell? ⟨g, j, none⟩ = cs[j]? := by
  rcases h.2 with ⟨rfl, rfl⟩ | ⟨g, cap, rfl, h1, h2, h3, h4, h5⟩
  · omega
  · exact ⟨g, cap, rfl, h1, h3, h4⟩

/-- one element in a new block, whose number is told otherwise -/
theorem src_elemN {P : Program} (w : World) (b : Nat) (hb : b = w.heap.size) (t e : TypeId) (ht : P.underlying t = some (.slice e)) (arr : Array Value) (cs : List Value) (ha : arr = cs.toArray) (h1 : ∀ u ∈ cs, u.oneCell' = true) : Src P cs.length t (.slice (some ⟨b, 0, none⟩) 1 1) 1 cs (w.alloc (.cells arr e)) := by
  subst hb
  exact src_elemA w t e ht arr cs ha h1
/-- make([]T, 0, n) -/
theorem wpList_make_own0 (w : World) {ops : Array Oper} {rest : List Oper} {o : Oper} {a : Act} {Q : Exit → Act → World → Prop} (hg : o.guard = none) (l c : Operand) (t : TypeId) (hop : o.op = Op.makeSlice t l c)
    (e : TypeId) (z : Value) (size bytes : Nat) (h1 : Tryz.prog.underlying t = some (.slice e)) (h2 : (Tryz.prog.info? e).map (fun i => (i.zero, i.size, i.bytes)) = some (some z, size, bytes))
    (n : Nat) (L C : Int) (hl : a.eval l = .int .i64 L) (hc : a.eval c = .int .i64 C) (hL : L = 0) (hC : C = n) (hb : bytes * n ≤ 281474976710656) (hn : n ≤ 1000000000000000)
    (hK : ∀ w', Own w' size (.slice (some ⟨w.heap.size, 0, none⟩) 0 n) 0 [] → Ext w w' → wpList Tryz.prog ops Q rest (a.put o.dst (.slice (some ⟨w.heap.size, 0, none⟩) 0 n)) w') : wpList Tryz.prog ops Q (o :: rest) a w := by
  refine wpList_plain hg fun K hK' => ?_
  obtain ⟨i, hi, hz0, hz1, hz2⟩ := info_parts h2
  subst hL
  subst hC
  have hrun := run_make (P := Tryz.prog) w t e i z h1 hi hz0 .i64 .i64 0 (n : Int) (by omega) (by omega) (by rw [hz2]; omega) (by omega)
  rw [Int.toNat_natCast, hz1] at hrun
  have hms : (madeCells z.cells (n * size)).size = n * size := size_madeCells _ _
  unfold Oper.wp
  simp [execOp, hop, hl, hc, hrun, Result.andThen]
  refine hK' _ _ (hK _ ⟨by simp, .inr ⟨w.heap.size, n, rfl, Nat.zero_le _, by unfold maxLen; omega, by simp, fun j hj => by omega, fun j hj => ⟨?_, ?_⟩⟩⟩ ((Kp.refl _ _).alloc _))
  · rw [World.cell?_alloc_new, Array.getElem?_eq_getElem (by rw [hms]; exact hj)]; rfl
  · exact World.frozen?_alloc_new w _ _ j

set_option maxRecDepth 20000 in
set_option maxHeartbeats 2000000 in
theorem lineAsked_any (col : Colr) (w : World) (P : Nat) (m : Pl.Sc) (ps qs : List Nat) (nv av wv hv gv : Value) (h : Rep col w P m ps qs nv av wv hv gv) (hal : m.asked.length ≤ 1000) :
    Calls Tryz.prog 85 #[PtrTo P 7] w fun e w' => ∃ v, e = .returned v ∧ Own w' 3 v m.asked.length (m.asked.flatMap askCells) ∧ Ext w w' ∧ ∀ g, v.ownBlock = some g → w.heap.size ≤ g := by
  have s10 := h.blk.cell 10
  simp only [scCells, List.getElem?_cons_zero, List.getElem?_cons_succ] at s10
  have hown := h.inn.asked
  have hpl := h.inn.aparts.1
  obtain ⟨aa, ac, rfl, hac⟩ := hown.shape
  clear h
  go_enter Tryz.func85, Tryz.ntmps85
  go_wp2_with (refine wpList_make_own0 w rfl _ _ 67 rfl 72 (.agg #[.int .i64 0, .int .i64 0, .int .i64 0]) 3 24 Tryz.underlying67 infoAsk m.asked.length 0 m.asked.length rfl rfl rfl rfl (by omega) (by omega) ?_; intro w1 o1 x1; have s11 := x1.cell s10 id)
  go_loopw [3, 17] (fun t i wr => ∃ k : Nat, k ≤ m.asked.length ∧ i = .int .i64 k ∧ Own wr 3 t k ((m.asked.take k).flatMap askCells) ∧ Ext w wr ∧ ∀ g, t.ownBlock = some g → w.heap.size ≤ g) (fun _ i _ => m.asked.length - (intOf i).toNat)
  case atStart => exact ⟨0, Nat.zero_le _, rfl, by simpa using o1, x1, fun g hg => by simp [Value.ownBlock] at hg; omega⟩
  case round =>
    obtain ⟨k, hk, rfl, ho, hx, hg⟩ := hrel
    by_cases hkl : k < m.asked.length
    · obtain ⟨ga, ca, he, _, hga, hc⟩ := hown.at (by omega)
      cases he
      have hck : ∀ j, j < 5 → wr.cell? ⟨ga, k * 5 + j, none⟩ = (reqCells (ps[k]'(by omega)) m.asked[k])[j]? := fun j hj => by
        have e := reqRow_at ps m.asked hpl k j hkl hj
        have e2 := hc (k * 5 + j) (by omega)
        rw [e] at e2
        have : j < (reqCells (ps[k]'(by omega)) m.asked[k]).length := hj
        rw [List.getElem?_eq_getElem this] at e2 ⊢
        exact hx.cell e2 id
      have d0 := hck 0 (by omega)
      have d1 := hck 1 (by omega)
      have d2 := hck 2 (by omega)
      have d3 := hck 3 (by omega)
      have d4 := hck 4 (by omega)
      simp only [reqCells, I, List.getElem?_cons_zero, List.getElem?_cons_succ, Nat.add_zero] at d0 d1 d2 d3 d4
      have HT : Hid ((m.asked.take (k + 1)).flatMap askCells = (m.asked.take k).flatMap askCells ++ askCells m.asked[k]) := by
        show _ = _
        rw [List.take_succ_eq_append_getElem hkl, List.flatMap_append]
        simp only [List.flatMap_cons, List.flatMap_nil, List.append_nil]
      have hask : Hid (#[Value.int .i64 (m.asked[k].1 : Int), Value.int .i64 ((m.asked[k].2.place + m.asked[k].2.data.length : Nat) : Int), Value.int .i64 ((m.asked[k].2.length - m.asked[k].2.data.length : Nat) : Int)] = (askCells m.asked[k]).toArray) := rfl
      generalize m.asked[k] = q at *
      generalize ps[k]'(by omega) = pk at *
      generalize q.2.place + q.2.data.length = pp at *
      generalize q.2.length - q.2.data.length = ll at *
      clear hck hc
      have hone : Hid (∀ u ∈ askCells q, u.oneCell' = true) := by
        intro u hu
        simp [askCells] at hu
        rcases hu with rfl | rfl | rfl <;> rfl
      have hz := hx.size
      obtain ⟨ta, tc, rfl, _⟩ := ho.shape
      go_wp2_with (at_builtin; go_must (refine wpList_append_g _ rfl _ _ 67 67 rfl 72 (.agg #[.int .i64 0, .int .i64 0, .int .i64 0]) 3 24 Tryz.underlying67 infoAsk rfl _ _ _ rfl ((ho.ext_alloc _).ext_alloc _) _ rfl 1 _ (src_elemN _ _ (by simp) _ _ Tryz.underlying67 _ _ (unhide hask) (unhide hone)) (by omega) (by omega) ?_); intro v3 w3 o3 k3 s3)
      have x3 : Ext w w3 := ((hx.alloc _).alloc _).then k3 (fun i hi e => by have := hg i e; omega)
      go_roundw
      case rel => exact ⟨k + 1, by omega, by go_num, by rw [HT.out]; exact o3, x3, fun g e => by
          rcases sep_new s3 e with e' | e'
          · exact hg g e'
          · simp at e'; omega⟩
      case measure => simp [intOf]; omega
    · obtain rfl : k = m.asked.length := by omega
      rw [List.take_length] at ho
      go_wp2_with fail
      go_ret
      exact ⟨_, rfl, ho, hx, hg⟩
set_option maxRecDepth 20000 in
set_option maxHeartbeats 1000000 in
theorem scAsked_any (col : Colr) (w : World) (P : Nat) (m : Pl.Sc) (h : IsSc col w P m) (hal : m.asked.length ≤ 1000) :
    Calls Tryz.prog 54 #[PtrTo P 0] w fun e w' => ∃ v, e = .returned v ∧ Own w' 3 v m.asked.length (m.asked.flatMap askCells) ∧ Ext w w' ∧ ∀ g, v.ownBlock = some g → w.heap.size ≤ g := by
  obtain ⟨ps, qs, nv, av, wv, hv, gv, r⟩ := h
  have HC := hide (lineAsked_any col w P m ps qs nv av wv hv gv r hal)
  clear r
  go_enter Tryz.func54, Tryz.ntmps54
  go_wp2_with fail
  refine (unhide HC).mono ?_
  rintro e w1 ⟨v, rfl, a, b, c⟩
  go_wp2_with fail
  go_ret
  exact ⟨_, rfl, a, b, c⟩

/-- the scan as it is handed out: a box at X that holds where it is -/
structure IsX (col : Colr) (w : World) (X : Nat) (m : Pl.Sc) (P : Nat) : Prop where
  blk : Blk w X [PtrTo P 0] 111
  xcol : col X = .box
  sc : IsSc col w P m
theorem IsX.kept {col : Colr} {S : Nat → Prop} {w w' : World} {X : Nat} {m : Pl.Sc} {P : Nat} (h : IsX col w X m P) (k : Kp S w w') (hS : ∀ i, S i → col i = .out) : IsX col w' X m P :=
  ⟨h.blk.kept k (fun e => by have := hS X e; rw [h.xcol] at this; simp at this), h.xcol, h.sc.kept k hS⟩

set_option maxRecDepth 20000 in
set_option maxHeartbeats 1000000 in
theorem xAsked_any (col : Colr) (w : World) (X P : Nat) (m : Pl.Sc) (h : IsX col w X m P) (hal : m.asked.length ≤ 1000) :
    Calls Tryz.prog 23 #[PtrTo X 0] w fun e w' => ∃ v, e = .returned v ∧ Own w' 3 v m.asked.length (m.asked.flatMap askCells) ∧ Ext w w' ∧ ∀ g, v.ownBlock = some g → w.heap.size ≤ g := by
  have c0 := h.blk.cell 0
  simp only [List.getElem?_cons_zero] at c0
  have HC := hide (scAsked_any col w P m h.sc hal)
  clear h
  go_enter Tryz.func23, Tryz.ntmps23
  go_wp2_with fail
  refine (unhide HC).mono ?_
  rintro e w1 ⟨v, rfl, a, b, c⟩
  go_wp2_with fail
  go_ret
  exact ⟨_, rfl, a, b, c⟩

set_option maxRecDepth 20000 in
set_option maxHeartbeats 1000000 in
theorem xState_any (col : Colr) (w : World) (X P : Nat) (m : Pl.Sc) (h : IsX col w X m P) :
    Calls Tryz.prog 18 #[PtrTo X 0] w fun e w' => e = .returned (.int .i64 m.state) ∧ w' = w := by
  have c0 := h.blk.cell 0
  simp only [List.getElem?_cons_zero] at c0
  obtain ⟨ps, qs, nv, av, wv, hv, gv, r⟩ := h.sc
  have s0 := r.blk.cell 0
  simp only [scCells, I, List.getElem?_cons_zero] at s0
  have hst : Calls Tryz.prog 52 #[PtrTo P 0] w fun e w' => e = .returned (.int .i64 m.state) ∧ w' = w := by
    clear h r c0
    go_enter Tryz.func52, Tryz.ntmps52
    go_wp2
    go_ret
    exact ⟨rfl, rfl⟩
  have HC := hide hst
  clear hst h r s0
  go_enter Tryz.func18, Tryz.ntmps18
  go_wp2_with fail
  refine (unhide HC).mono ?_
  rintro e w1 ⟨rfl, rfl⟩
  go_wp2_with fail
  go_ret
  exact ⟨rfl, rfl⟩

set_option maxRecDepth 20000 in
set_option maxHeartbeats 1000000 in
theorem xOpen_any (B0 : Nat) (w : World) (v : Value) (ss : List ByteArray) (size W T R G : Int) (hr : RdS B0 w v ss) :
    Calls Tryz.prog 22 #[.int .i64 size, v, setV W T R G] w fun e w' => Ext w w' ∧ ((Pl.okSet size W T R G = false ∧ e = .returned (.tuple #[.pointer none, .int .i64 2])) ∨
      (Pl.okSet size W T R G = true ∧ ∃ X P col, e = .returned (.tuple #[PtrTo X 0, .int .i64 0]) ∧ IsX col w' X (Pl.openSc size.toNat (ss.map bytesOf) W.toNat T.toNat R.toNat G.toNat) P ∧ ∀ k, k < w.heap.size → col k = .out)) := by
  have hext : ∀ o, Ext w (w.alloc o) := fun o => (Kp.refl _ _).alloc o
  cases hok : Pl.okSet size W T R G with
  | false =>
    have HC := hide (fun u => scOpen_bad u v size W T R G hok)
    clear hok hr
    go_enter Tryz.func22, Tryz.ntmps22
    go_wp2_with fail
    refine ((unhide HC) _).mono ?_
    rintro e w1 ⟨rfl, x1⟩
    go_wp2_with fail
    go_ret2
    exact ⟨((Kp.refl _ _).alloc _).trans x1, .inl ⟨trivial, rfl⟩⟩
  | true =>
    have HC := hide (fun u (hu : Ext w u) => scOpen_ok B0 u v ss size W T R G (hr.kept hu (fun _ f => f.elim)) hok)
    clear hok hr
    go_enter Tryz.func22, Tryz.ntmps22
    go_wp2_with fail
    refine ((unhide HC) _ (hext _)).mono ?_
    rintro e w1 ⟨P, col, rfl, r1, x1, hc1⟩
    go_wp2_with fail
    go_ret2
    have x2 : Ext w1 (w1.alloc (.cells #[PtrTo P 0] 111)) := (Kp.refl _ _).alloc _
    have xw : Ext w w1 := (hext _).trans x1
    obtain ⟨ps, qs, nv, av, wv, hv, gv, r⟩ := r1
    refine ⟨xw.trans x2, .inr ⟨trivial, w1.heap.size, P, paint col w1.heap.size (w1.heap.size + 1) .box, rfl, ⟨Blk.of_alloc w1 [PtrTo P 0] _, paint_in _ _ _ _ _ (Nat.le_refl _) (by omega), ?_⟩, fun k hk => ?_⟩⟩
    · refine (⟨r.blk.kept x2 id, r.inn.go x2 r.blk.lt (fun _ f => f.elim) (fun i hi => paint_lt _ _ _ _ _ hi) (fun i hi => ?_)⟩ : Rep _ _ P _ ps qs nv av wv hv gv).is
      rw [paint_ge _ _ _ _ _ (by simpa using hi)]
      exact r.inn.top i (by simp at hi; omega)
    · rw [paint_lt _ _ _ _ _ (by have := xw.size; omega)]
      exact hc1 k (by simp; omega)
end Go.Proofs.YthicgffppmbamaaGreat
