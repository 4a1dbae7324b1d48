/- ScAsked, Put, AskAhead, Ready, PageRead, FPageRead, ReadGroup, RowsNew. -/
import Derived.BigQuiet
import Derived.Test.YthicgffppmbamaaGreatPart1
import Derived.Test.YthicgffppmbamaaGreatPart2
import Derived.Test.YthicgffppmbamaaGreatPart3
namespace Go.Proofs.YthicgffppmbamaaGreat
open Go.RowKit

/-- a row of rows, each of s cells -/
theorem flatten_at (s : Nat) : ∀ (L : List (List Value)), (∀ e ∈ L, e.length = s) → ∀ (i j : Nat), j < s → ∀ (e : List Value), L[i]? = some e → L.flatten[i * s + j]? = e[j]?
  | [], _, i, j, _, e, he => by simp at he
  | x :: r, h, 0, j, hj, e, he => by
    simp at he
    subst he
    rw [List.flatten_cons, List.getElem?_append_left (by rw [h x (by simp)]; omega)]
    simp
  | x :: r, h, i + 1, j, hj, e, he => by
    simp at he
    have hx := h x (by simp)
    rw [List.flatten_cons, List.getElem?_append_right (by rw [hx, Nat.add_mul]; omega), hx]
    rw [show (i + 1) * s + j - s = i * s + j by rw [Nat.add_mul]; omega]
    exact flatten_at s r (fun e he => h e (by simp [he])) i j hj e he
theorem reqRow_at (ps : List Nat) (l : List (Nat × Pl.Part)) (hl : ps.length = l.length) (i j : Nat) (hi : i < l.length) (hj : j < 5) : (reqRow ps l)[i * 5 + j]? = (reqCells (ps[i]'(by omega)) l[i])[j]? := by
  unfold reqRow
  refine flatten_at 5 _ (fun e he => ?_) i j hj _ ?_
  · rw [List.mem_iff_getElem] at he
    obtain ⟨k, hk, rfl⟩ := he
    rw [List.getElem_zipWith]
    rfl
  · rw [List.getElem?_eq_getElem (by simp; omega), List.getElem_zipWith]
/-- what Asked tells -/
def askCells (q : Nat × Pl.Part) : List Value := [I q.1, I (q.2.place + q.2.data.length : Nat), I (q.2.length - q.2.data.length : Nat)]
theorem infoAsk : (Tryz.prog.info? 72).map (fun i => (i.zero, i.size, i.bytes)) = some (some (.agg #[.int .i64 0, .int .i64 0, .int .i64 0]), 3, 24) := by kernel_rfl
/-- a row of cells at an address of a row of one's own -/
theorem Own.at {w : World} {size n : Nat} {v : Value} {cs : List Value} (h : Own w size v n cs) (hp : 0 < n) : ∃ g cap, v = .slice (some ⟨g, 0, none⟩) n cap ∧ n ≤ cap ∧ g < w.heap.size ∧ ∀ j, j < n * size → w.cell? ⟨g, j, none⟩ = cs[j]? := by
  rcases h.2 with ⟨rfl, rfl⟩ | ⟨g, cap, rfl, h1, h2, h3, h4, h5⟩
  · omega
  · exact ⟨g, cap, rfl, h1, h3, h4⟩

/-- one element in a new block, whose number is told otherwise -/
theorem src_elemN {P : Program} (w : World) (b : Nat) (hb : b = w.heap.size) (t e : TypeId) (ht : P.underlying t = some (.slice e)) (arr : Array Value) (cs : List Value) (ha : arr = cs.toArray) (h1 : ∀ u ∈ cs, u.oneCell' = true) : Src P cs.length t (.slice (some ⟨b, 0, none⟩) 1 1) 1 cs (w.alloc (.cells arr e)) := by
  subst hb
  exact src_elemA w t e ht arr cs ha h1
/-- make([]T, 0, n) -/
theorem wpList_make_own0 (w : World) {ops : Array Oper} {rest : List Oper} {o : Oper} {a : Act} {Q : Exit → Act → World → Prop} (hg : o.guard = none) (l c : Operand) (t : TypeId) (hop : o.op = Op.makeSlice t l c)
    (e : TypeId) (z : Value) (size bytes : Nat) (h1 : Tryz.prog.underlying t = some (.slice e)) (h2 : (Tryz.prog.info? e).map (fun i => (i.zero, i.size, i.bytes)) = some (some z, size, bytes))
    (n : Nat) (L C : Int) (hl : a.eval l = .int .i64 L) (hc : a.eval c = .int .i64 C) (hL : L = 0) (hC : C = n) (hb : bytes * n ≤ 281474976710656) (hn : n ≤ 1000000000000000)
    (hK : ∀ w', Own w' size (.slice (some ⟨w.heap.size, 0, none⟩) 0 n) 0 [] → Ext w w' → wpList Tryz.prog ops Q rest (a.put o.dst (.slice (some ⟨w.heap.size, 0, none⟩) 0 n)) w') : wpList Tryz.prog ops Q (o :: rest) a w := by
  refine wpList_plain hg fun K hK' => ?_
  obtain ⟨i, hi, hz0, hz1, hz2⟩ := info_parts h2
  subst hL
  subst hC
  have hrun := run_make (P := Tryz.prog) w t e i z h1 hi hz0 .i64 .i64 0 (n : Int) (by omega) (by omega) (by rw [hz2]; omega) (by omega)
  rw [Int.toNat_natCast, hz1] at hrun
  have hms : (madeCells z.cells (n * size)).size = n * size := size_madeCells _ _
  unfold Oper.wp
  simp [execOp, hop, hl, hc, hrun, Result.andThen]
  refine hK' _ _ (hK _ ⟨by simp, .inr ⟨w.heap.size, n, rfl, Nat.zero_le _, by unfold maxLen; omega, by simp, fun j hj => by omega, fun j hj => ⟨?_, ?_⟩⟩⟩ ((Kp.refl _ _).alloc _))
  · rw [World.cell?_alloc_new, Array.getElem?_eq_getElem (by rw [hms]; exact hj)]; rfl
  · exact World.frozen?_alloc_new w _ _ j

set_option maxRecDepth 20000 in
set_option maxHeartbeats 2000000 in
theorem lineAsked_any (col : Colr) (w : World) (P : Nat) (m : Pl.Sc) (ps qs : List Nat) (nv av wv hv gv : Value) (h : Rep col w P m ps qs nv av wv hv gv) (hal : m.asked.length ≤ 1000) :
    Calls Tryz.prog 85 #[PtrTo P 7] w fun e w' => ∃ v, e = .returned v ∧ Own w' 3 v m.asked.length (m.asked.flatMap askCells) ∧ Ext w w' ∧ ∀ g, v.ownBlock = some g → w.heap.size ≤ g := by
  have s10 := h.blk.cell 10
  simp only [scCells, List.getElem?_cons_zero, List.getElem?_cons_succ] at s10
  have hown := h.inn.asked
  have hpl := h.inn.aparts.1
  obtain ⟨aa, ac, rfl, hac⟩ := hown.shape
  clear h
  go_enter Tryz.func85, Tryz.ntmps85
  go_wp2_with (refine wpList_make_own0 w rfl _ _ 67 rfl 72 (.agg #[.int .i64 0, .int .i64 0, .int .i64 0]) 3 24 Tryz.underlying67 infoAsk m.asked.length 0 m.asked.length rfl rfl rfl rfl (by omega) (by omega) ?_; intro w1 o1 x1; have s11 := x1.cell s10 id)
  go_loopw [3, 17] (fun t i wr => ∃ k : Nat, k ≤ m.asked.length ∧ i = .int .i64 k ∧ Own wr 3 t k ((m.asked.take k).flatMap askCells) ∧ Ext w wr ∧ ∀ g, t.ownBlock = some g → w.heap.size ≤ g) (fun _ i _ => m.asked.length - (intOf i).toNat)
  case atStart => exact ⟨0, Nat.zero_le _, rfl, by simpa using o1, x1, fun g hg => by simp [Value.ownBlock] at hg; omega⟩
  case round =>
    obtain ⟨k, hk, rfl, ho, hx, hg⟩ := hrel
    by_cases hkl : k < m.asked.length
    · obtain ⟨ga, ca, he, _, hga, hc⟩ := hown.at (by omega)
      cases he
      have hck : ∀ j, j < 5 → wr.cell? ⟨ga, k * 5 + j, none⟩ = (reqCells (ps[k]'(by omega)) m.asked[k])[j]? := fun j hj => by
        have e := reqRow_at ps m.asked hpl k j hkl hj
        have e2 := hc (k * 5 + j) (by omega)
        rw [e] at e2
        have : j < (reqCells (ps[k]'(by omega)) m.asked[k]).length := hj
        rw [List.getElem?_eq_getElem this] at e2 ⊢
        exact hx.cell e2 id
      have d0 := hck 0 (by omega)
      have d1 := hck 1 (by omega)
      have d2 := hck 2 (by omega)
      have d3 := hck 3 (by omega)
      have d4 := hck 4 (by omega)
      simp only [reqCells, I, List.getElem?_cons_zero, List.getElem?_cons_succ, Nat.add_zero] at d0 d1 d2 d3 d4
      have HT : Hid ((m.asked.take (k + 1)).flatMap askCells = (m.asked.take k).flatMap askCells ++ askCells m.asked[k]) := by
        show _ = _
        rw [List.take_succ_eq_append_getElem hkl, List.flatMap_append]
        simp only [List.flatMap_cons, List.flatMap_nil, List.append_nil]
      have hask : Hid (#[Value.int .i64 (m.asked[k].1 : Int), Value.int .i64 ((m.asked[k].2.place + m.asked[k].2.data.length : Nat) : Int), Value.int .i64 ((m.asked[k].2.length - m.asked[k].2.data.length : Nat) : Int)] = (askCells m.asked[k]).toArray) := rfl
      generalize m.asked[k] = q at *
      generalize ps[k]'(by omega) = pk at *
      generalize q.2.place + q.2.data.length = pp at *
      generalize q.2.length - q.2.data.length = ll at *
      clear hck hc
      have hone : Hid (∀ u ∈ askCells q, u.oneCell' = true) := by
        intro u hu
        simp [askCells] at hu
        rcases hu with rfl | rfl | rfl <;> rfl
      have hz := hx.size
      obtain ⟨ta, tc, rfl, _⟩ := ho.shape
      go_wp2_with (at_builtin; go_must (refine wpList_append_g _ rfl _ _ 67 67 rfl 72 (.agg #[.int .i64 0, .int .i64 0, .int .i64 0]) 3 24 Tryz.underlying67 infoAsk rfl _ _ _ rfl ((ho.ext_alloc _).ext_alloc _) _ rfl 1 _ (src_elemN _ _ (by simp) _ _ Tryz.underlying67 _ _ (unhide hask) (unhide hone)) (by omega) (by omega) ?_); intro v3 w3 o3 k3 s3)
      have x3 : Ext w w3 := ((hx.alloc _).alloc _).then k3 (fun i hi e => by have := hg i e; omega)
      go_roundw
      case rel => exact ⟨k + 1, by omega, by go_num, by rw [HT.out]; exact o3, x3, fun g e => by
          rcases sep_new s3 e with e' | e'
          · exact hg g e'
          · simp at e'; omega⟩
      case measure => simp [intOf]; omega
    · obtain rfl : k = m.asked.length := by omega
      rw [List.take_length] at ho
      go_wp2_with fail
      go_ret
      exact ⟨_, rfl, ho, hx, hg⟩
set_option maxRecDepth 20000 in
set_option maxHeartbeats 1000000 in
theorem scAsked_any (col : Colr) (w : World) (P : Nat) (m : Pl.Sc) (h : IsSc col w P m) (hal : m.asked.length ≤ 1000) :
    Calls Tryz.prog 54 #[PtrTo P 0] w fun e w' => ∃ v, e = .returned v ∧ Own w' 3 v m.asked.length (m.asked.flatMap askCells) ∧ Ext w w' ∧ ∀ g, v.ownBlock = some g → w.heap.size ≤ g := by
  obtain ⟨ps, qs, nv, av, wv, hv, gv, r⟩ := h
  have HC := hide (lineAsked_any col w P m ps qs nv av wv hv gv r hal)
  clear r
  go_enter Tryz.func54, Tryz.ntmps54
  go_wp2_with fail
  refine (unhide HC).mono ?_
  rintro e w1 ⟨v, rfl, a, b, c⟩
  go_wp2_with fail
  go_ret
  exact ⟨_, rfl, a, b, c⟩

/-- the scan as it is handed out: a box at X that holds where it is -/
structure IsX (col : Colr) (w : World) (X : Nat) (m : Pl.Sc) (P : Nat) : Prop where
  blk : Blk w X [PtrTo P 0] 111
  xcol : col X = .box
  sc : IsSc col w P m
theorem IsX.kept {col : Colr} {S : Nat → Prop} {w w' : World} {X : Nat} {m : Pl.Sc} {P : Nat} (h : IsX col w X m P) (k : Kp S w w') (hS : ∀ i, S i → col i = .out) : IsX col w' X m P :=
  ⟨h.blk.kept k (fun e => by have := hS X e; rw [h.xcol] at this; simp at this), h.xcol, h.sc.kept k hS⟩

set_option maxRecDepth 20000 in
set_option maxHeartbeats 1000000 in
theorem xAsked_any (col : Colr) (w : World) (X P : Nat) (m : Pl.Sc) (h : IsX col w X m P) (hal : m.asked.length ≤ 1000) :
    Calls Tryz.prog 23 #[PtrTo X 0] w fun e w' => ∃ v, e = .returned v ∧ Own w' 3 v m.asked.length (m.asked.flatMap askCells) ∧ Ext w w' ∧ ∀ g, v.ownBlock = some g → w.heap.size ≤ g := by
  have c0 := h.blk.cell 0
  simp only [List.getElem?_cons_zero] at c0
  have HC := hide (scAsked_any col w P m h.sc hal)
  clear h
  go_enter Tryz.func23, Tryz.ntmps23
  go_wp2_with fail
  refine (unhide HC).mono ?_
  rintro e w1 ⟨v, rfl, a, b, c⟩
  go_wp2_with fail
  go_ret
  exact ⟨_, rfl, a, b, c⟩

set_option maxRecDepth 20000 in
set_option maxHeartbeats 1000000 in
theorem xState_any (col : Colr) (w : World) (X P : Nat) (m : Pl.Sc) (h : IsX col w X m P) :
    Calls Tryz.prog 18 #[PtrTo X 0] w fun e w' => e = .returned (.int .i64 m.state) ∧ w' = w := by
  have c0 := h.blk.cell 0
  simp only [List.getElem?_cons_zero] at c0
  obtain ⟨ps, qs, nv, av, wv, hv, gv, r⟩ := h.sc
  have s0 := r.blk.cell 0
  simp only [scCells, I, List.getElem?_cons_zero] at s0
  have hst : Calls Tryz.prog 52 #[PtrTo P 0] w fun e w' => e = .returned (.int .i64 m.state) ∧ w' = w := by
    clear h r c0
    go_enter Tryz.func52, Tryz.ntmps52
    go_wp2
    go_ret
    exact ⟨rfl, rfl⟩
  have HC := hide hst
  clear hst h r s0
  go_enter Tryz.func18, Tryz.ntmps18
  go_wp2_with fail
  refine (unhide HC).mono ?_
  rintro e w1 ⟨rfl, rfl⟩
  go_wp2_with fail
  go_ret
  exact ⟨rfl, rfl⟩

set_option maxRecDepth 20000 in
set_option maxHeartbeats 1000000 in
theorem xOpen_any (B0 : Nat) (w : World) (v : Value) (ss : List ByteArray) (size W T R G : Int) (hr : RdS B0 w v ss) :
    Calls Tryz.prog 22 #[.int .i64 size, v, setV W T R G] w fun e w' => Ext w w' ∧ ((Pl.okSet size W T R G = false ∧ e = .returned (.tuple #[.pointer none, .int .i64 2])) ∨
      (Pl.okSet size W T R G = true ∧ ∃ X P col, e = .returned (.tuple #[PtrTo X 0, .int .i64 0]) ∧ IsX col w' X (Pl.openSc size.toNat (ss.map bytesOf) W.toNat T.toNat R.toNat G.toNat) P ∧ ∀ k, k < w.heap.size → col k = .out)) := by
  have hext : ∀ o, Ext w (w.alloc o) := fun o => (Kp.refl _ _).alloc o
  cases hok : Pl.okSet size W T R G with
  | false =>
    have HC := hide (fun u => scOpen_bad u v size W T R G hok)
    clear hok hr
    go_enter Tryz.func22, Tryz.ntmps22
    go_wp2_with fail
    refine ((unhide HC) _).mono ?_
    rintro e w1 ⟨rfl, x1⟩
    go_wp2_with fail
    go_ret2
    exact ⟨((Kp.refl _ _).alloc _).trans x1, .inl ⟨trivial, rfl⟩⟩
  | true =>
    have HC := hide (fun u (hu : Ext w u) => scOpen_ok B0 u v ss size W T R G (hr.kept hu (fun _ f => f.elim)) hok)
    clear hok hr
    go_enter Tryz.func22, Tryz.ntmps22
    go_wp2_with fail
    refine ((unhide HC) _ (hext _)).mono ?_
    rintro e w1 ⟨P, col, rfl, r1, x1, hc1⟩
    go_wp2_with fail
    go_ret2
    have x2 : Ext w1 (w1.alloc (.cells #[PtrTo P 0] 111)) := (Kp.refl _ _).alloc _
    have xw : Ext w w1 := (hext _).trans x1
    obtain ⟨ps, qs, nv, av, wv, hv, gv, r⟩ := r1
    refine ⟨xw.trans x2, .inr ⟨trivial, w1.heap.size, P, paint col w1.heap.size (w1.heap.size + 1) .box, rfl, ⟨Blk.of_alloc w1 [PtrTo P 0] _, paint_in _ _ _ _ _ (Nat.le_refl _) (by omega), ?_⟩, fun k hk => ?_⟩⟩
    · refine (⟨r.blk.kept x2 id, r.inn.go x2 r.blk.lt (fun _ f => f.elim) (fun i hi => paint_lt _ _ _ _ _ hi) (fun i hi => ?_)⟩ : Rep _ _ P _ ps qs nv av wv hv gv).is
      rw [paint_ge _ _ _ _ _ (by simpa using hi)]
      exact r.inn.top i (by simp at hi; omega)
    · rw [paint_lt _ _ _ _ _ (by have := xw.size; omega)]
      exact hc1 k (by simp; omega)
end Go.Proofs.YthicgffppmbamaaGreat

namespace Go.Proofs.YthicgffppmbamaaGreat
open Go.RowKit

theorem RowAt.set {C : Nat → Prop} {w : World} {s b off n cap : Nat} {cs : List Value} (h : RowAt C true w s (.slice (some ⟨b, off, none⟩) n cap) n cs) (j : Nat) (hj : j < n * s) (u : Value) : RowAt C true (w.setCell ⟨b, off + j, none⟩ u) s (.slice (some ⟨b, off, none⟩) n cap) n (cs.set j u) := by
  obtain ⟨hl, ao, cap', e, h1, h3⟩ := h
  simp only [Value.slice.injEq] at e
  obtain ⟨rfl, _, rfl⟩ := e
  refine ⟨by rw [List.length_set]; exact hl, _, cap, rfl, h1, fun hp => ?_⟩
  obtain ⟨b', off', e, hb, hlt, hc, hf⟩ := h3 hp
  simp only [Option.some.injEq, Addr.mk.injEq] at e
  obtain ⟨rfl, rfl, _⟩ := e
  refine ⟨b, off, rfl, hb, by simpa using hlt, fun i hi => ?_, fun ht i hi => by simpa using hf ht i hi⟩
  rw [List.getElem?_set]
  by_cases hij : j = i
  · subst hij
    rw [if_pos rfl, if_pos (by rw [hl]; exact hj)]
    have := hc j hj
    rw [List.getElem?_eq_getElem (by rw [hl]; exact hj)] at this
    exact World.cell?_setCell_same _ _ _ this
  · rw [if_neg hij]
    rw [World.cell?_setCell_other _ _ _ _ (fun e => hij (by have := congrArg Addr.off e; simp only at this; omega))]
    exact hc i hi
theorem RowAt.cellF {C : Nat → Prop} {w : World} {s b off n cap : Nat} {cs : List Value} (h : RowAt C true w s (.slice (some ⟨b, off, none⟩) n cap) n cs) (j : Nat) (hj : j < n * s) : w.cell? ⟨b, off + j, none⟩ = cs[j]? ∧ w.frozen? ⟨b, off + j, none⟩ = false ∧ C b := by
  obtain ⟨hl, ao, cap', e, h1, h3⟩ := h
  simp only [Value.slice.injEq] at e
  obtain ⟨rfl, _, rfl⟩ := e
  obtain ⟨b', off', e, hb, hlt, hc, hf⟩ := h3 (Nat.pos_of_ne_zero (fun h => by subst h; simp at hj))
  simp only [Option.some.injEq, Addr.mk.injEq] at e
  obtain ⟨rfl, rfl, _⟩ := e
  exact ⟨hc j hj, hf rfl j hj, hb⟩
theorem groupRow_at (lvs : List Value) (l : List Pl.RGroup) (hl : lvs.length = l.length) (i j : Nat) (hi : i < l.length) (hj : j < 3) : (groupRow lvs l)[i * 3 + j]? = [I l[i].rows, lvs[i]'(by omega), I l[i].missing][j]? := by
  unfold groupRow
  refine flatten_at 3 _ (fun e he => ?_) i j hj _ ?_
  · rw [List.mem_iff_getElem] at he
    obtain ⟨k, hk, rfl⟩ := he
    rw [List.getElem_zipWith]
    rfl
  · rw [List.getElem?_eq_getElem (by simp; omega), List.getElem_zipWith]
theorem groupRow_len (lvs : List Value) : ∀ (l : List Pl.RGroup), lvs.length = l.length → (groupRow lvs l).length = l.length * 3 := by
  induction lvs with
  | nil => intro l h; simp at h; rw [List.eq_nil_of_length_eq_zero h.symm]; rfl
  | cons a r ih =>
    intro l h
    cases l with
    | nil => simp at h
    | cons p l =>
      simp at h
      have := ih l h
      unfold groupRow at *
      simp only [List.zipWith_cons_cons, List.flatten_cons, List.length_append, List.length_cons, List.length_nil, this]
      omega
theorem groupRow_set (lvs : List Value) (l : List Pl.RGroup) (hl : lvs.length = l.length) (i : Nat) (hi : i < l.length) (g : Pl.RGroup) (hr : g.rows = l[i].rows) : (groupRow lvs l).set (i * 3 + 2) (I g.missing) = groupRow lvs (l.set i g) := by
  apply List.ext_getElem?
  intro k
  have hlen := groupRow_len lvs l hl
  have hlen' := groupRow_len lvs (l.set i g) (by rw [List.length_set]; exact hl)
  by_cases hk : k < l.length * 3
  · have hq : k / 3 < l.length := by omega
    have hk' : k = k / 3 * 3 + k % 3 := by omega
    have e2 := groupRow_at lvs (l.set i g) (by rw [List.length_set]; exact hl) (k / 3) (k % 3) (by rw [List.length_set]; exact hq) (by omega)
    have e1 := groupRow_at lvs l hl (k / 3) (k % 3) hq (by omega)
    rw [← hk'] at e1 e2
    rw [e2, List.getElem?_set]
    by_cases h2 : i * 3 + 2 = k
    · rw [if_pos h2, if_pos (by omega)]
      have hd : k / 3 = i := by omega
      have hm : k % 3 = 2 := by omega
      rw [hm]
      simp [hd]
    · rw [if_neg h2, e1, List.getElem_set]
      by_cases hd : i = k / 3
      · rw [if_pos hd]
        have hm : k % 3 = 0 ∨ k % 3 = 1 := by omega
        subst hd
        rcases hm with hm | hm
        · rw [hm]; simp [hr]
        · rw [hm]; rfl
      · rw [if_neg hd]
  · rw [List.getElem?_eq_none (by rw [List.length_set, hlen]; omega), List.getElem?_eq_none (by rw [hlen', List.length_set]; omega)]
theorem modify_at {α : Type} {l : List α} {i : Nat} {x : α} {f : α → α} (h : l[i]? = some x) : l.modify i f = l.set i (f x) := by
  apply List.ext_getElem?
  intro k
  rw [List.getElem?_modify, List.getElem?_set]
  by_cases e : i = k
  · subst e
    obtain ⟨hl, rfl⟩ := List.getElem?_eq_some_iff.1 h
    simp [hl]
  · cases l[k]? <;> simp [e]
/-- blocks of the rows -/
abbrev RowCol (col : Colr) : Nat → Prop := fun k => col k = .groups ∨ ∃ g, col k = .lists g
theorem Inner.rowsKept {col : Colr} {w w' : World} {P : Nat} {m : Pl.Sc} {ps qs : List Nat} {nv av wv hv gv gv' : Value} {rw' : Pl.Rw} (h : Inner col w P m ps qs nv av wv hv gv) (k : Kp (RowCol col) w w') (hg : GroupsAt col w' rw'.gone gv' rw'.groups) : Inner col w' P { m with rows := rw' } ps qs nv av wv hv gv' := by
  have hno : ∀ (c : Col), c ≠ .groups → (∀ g, c ≠ .lists g) → ∀ i, RowCol col i → col i ≠ c := fun c h1 h2 i hi e => by
    rcases hi with hi | ⟨g, hi⟩
    · exact h1 (by rw [← e, hi])
    · exact h2 g (by rw [← e, hi])
  refine ⟨h.pcol, fun i hi => h.top i (Nat.le_trans k.size hi), ?_, ?_, h.acol, ?_, ?_, h.wcol, ?_, h.nodup, ?_, hg⟩
  · exact h.names.go k (fun i hi hs => hno .ro (by simp) (by simp) i hs hi) (fun _ _ e => e)
  · exact h.asked.kept k (fun g hg hs => hno .asked (by simp) (by simp) g hs (h.acol g hg))
  · exact h.aparts.go k (fun p hp hs => hno .part (by simp) (by simp) p hs (h.aparts.lt hp).2) (fun p _ => hno _ (by simp) (by simp)) (hno _ (by simp) (by simp)) (fun _ _ => rfl)
  · exact h.waiting.kept k (fun g hg hs => hno .wait (by simp) (by simp) g hs (h.wcol g hg))
  · exact h.wparts.go k (fun p hp hs => hno .part (by simp) (by simp) p hs (h.wparts.lt hp).2) (fun p _ => hno _ (by simp) (by simp)) (hno _ (by simp) (by simp)) (fun _ _ => rfl)
  · exact h.ahead.go k (hno _ (by simp) (by simp)) (fun _ _ => rfl)

set_option maxRecDepth 20000 in
set_option maxHeartbeats 2000000 in
theorem put_any (col : Colr) (w : World) (P : Nat) (m : Pl.Sc) (ps qs : List Nat) (nv av wv hv gv : Value) (h : Rep col w P m ps qs nv av wv hv gv) (g c i : Nat) (G : Pl.RGroup) (u : Value) (l : List Int) (hu : RowAt (fun b => col b = .ro) false w 1 u l.length (l.map I)) (hi : m.rows.gone + i = g) (hG : m.rows.groups[i]? = some G) (hgm : g ≤ 1000000) (hc : c < G.lists.length) (hcm : c ≤ 1000000) (hm1 : 1 ≤ G.missing) (hm2 : G.missing ≤ 1000000) (hgl : m.rows.groups.length ≤ 1000000) :
    Calls Tryz.prog 170 #[PtrTo P 14, .int .i64 g, .int .i64 c, u] w fun e w' => e = .returned (.tuple #[]) ∧ Rep col w' P { m with rows := Pl.rwPut m.rows g c l } ps qs nv av wv hv gv ∧ Kp (RowCol col) w w' := by
  obtain ⟨hg2, hGe⟩ := List.getElem?_eq_some_iff.1 hG
  have hii : (g : Int) - (m.rows.gone : Int) = (i : Int) := by omega
  have hPut : Pl.rwPut m.rows g c l = { m.rows with groups := m.rows.groups.set i { G with lists := G.lists.set c l, missing := G.missing - 1 } } := by
    unfold Pl.rwPut
    rw [show g - m.rows.gone = i by omega, modify_at hG]
  have HPUT := hide hPut
  have HI := hide hi
  clear hi hPut
  have s15 := h.blk.cell 15
  have s16 := h.blk.cell 16
  simp only [scCells, I, List.getElem?_cons_zero, List.getElem?_cons_succ] at s15 s16
  obtain ⟨lvs, hlv, hrow, hlist⟩ := h.inn.groups
  have hrow0 := hrow
  obtain ⟨ga, gc, rfl, hgc, h3⟩ := hrow0.get
  obtain ⟨gb, go, rfl, -, -⟩ := h3 (by omega)
  clear h3 hrow0
  obtain ⟨vs, hvl, hlrow, hvs⟩ := hlist i _ G (List.getElem?_eq_getElem (by omega)) hG
  have hlrow0 := hlrow
  obtain ⟨la, lc, hle, hlc, h4⟩ := hlrow0.get
  obtain ⟨lb, lo, rfl, -, -⟩ := h4 (by omega)
  clear h4 hlrow0
  have e1 := (hrow.cellF (i * 3 + 1) (by omega)).1.trans (groupRow_at lvs m.rows.groups hlv i 1 hg2 (by omega))
  have e2 := (hrow.cellF (i * 3 + 2) (by omega)).1.trans (groupRow_at lvs m.rows.groups hlv i 2 hg2 (by omega))
  have f2 := (hrow.cellF (i * 3 + 2) (by omega)).2.1
  have hgcol := (hrow.cellF (i * 3 + 2) (by omega)).2.2
  rw [hGe] at e1 e2
  simp only [List.getElem?_cons_zero, List.getElem?_cons_succ, hle, I, ← Nat.add_assoc] at e1 e2 f2
  rw [hle] at hlrow
  obtain ⟨e3, f3, hlcol⟩ := hlrow.cellF c (by omega)
  have e3' : ∃ y, w.cell? ⟨lb, lo + c, none⟩ = some y := ⟨_, e3.trans (List.getElem?_eq_getElem (by rw [hvl]; exact hc))⟩
  obtain ⟨y, e3'⟩ := e3'
  clear e3
  have hne : lb ≠ gb := fun e => by rw [e] at hlcol; rw [hgcol] at hlcol; cases hlcol
  obtain ⟨ua, uc, rfl, -, -⟩ := hu.get
  have HLE := hide hle
  have HGE := hide hGe
  have HVL := hide hvl
  have HLV := hide hlv
  clear hle hGe hvl hG
  go_enter Tryz.func170, Tryz.ntmps170
  go_wp2_with fail
  go_quiet (fail)
  have x1 : Ext w (w.drewN nq) := (Kp.refl _ _).drewN nq
  have h1 := h.ext x1
  have e1' := x1.cell e1 id
  have e2' := x1.cell e2 id
  have e3'' := x1.cell e3' id
  have f2' : (w.drewN nq).frozen? ⟨gb, go + i * 3 + 2, none⟩ = false := f2
  have f3' : (w.drewN nq).frozen? ⟨lb, lo + c, none⟩ = false := f3
  clear e1 e2 e3' f2 f3 s15 s16
  generalize w.drewN nq = W1 at *
  go_wp2_with fail
  go_end0
  rw [HPUT.out]
  have hmi : ((G.missing : Int) - 1) = ((G.missing - 1 : Nat) : Int) := by omega
  rw [hmi]
  have ka := kp_set' W1 lb (lo + c) (.slice ua l.length uc)
  have kb := kp_set' (W1.setCell ⟨lb, lo + c, none⟩ (.slice ua l.length uc)) gb (go + i * 3 + 2) (.int .i64 ((G.missing - 1 : Nat) : Int))
  have kab : Kp (RowCol col) W1 ((W1.setCell ⟨lb, lo + c, none⟩ (.slice ua l.length uc)).setCell ⟨gb, go + i * 3 + 2, none⟩ (.int .i64 ((G.missing - 1 : Nat) : Int))) := (ka.mono (fun k _ e => by rw [e]; exact .inr ⟨_, hlcol⟩)).trans (kb.mono (fun k _ e => by rw [e]; exact .inl hgcol))
  have hPn : ¬ RowCol col P := fun e => by
    rcases e with e | ⟨g, e⟩
    · rw [h.inn.pcol] at e; cases e
    · rw [h.inn.pcol] at e; cases e
  have hga : GroupsAt col ((W1.setCell ⟨lb, lo + c, none⟩ (.slice ua l.length uc)).setCell ⟨gb, go + i * 3 + 2, none⟩ (.int .i64 ((G.missing - 1 : Nat) : Int))) m.rows.gone (.slice (some ⟨gb, go, none⟩) m.rows.groups.length gc) (m.rows.groups.set i { G with lists := G.lists.set c l, missing := G.missing - 1 }) := by
    have r1 := hrow.go (S := fun _ => False) (C' := fun b => col b = .groups) x1 (fun _ _ f => f) (fun _ _ e => e)
    have r2 := r1.go (C' := fun b => col b = .groups) ka (fun k hk e => by rw [e, hlcol] at hk; cases hk) (fun _ _ e => e)
    have r3 := r2.set (i * 3 + 2) (by omega) (.int .i64 ((G.missing - 1 : Nat) : Int))
    have es := groupRow_set lvs m.rows.groups HLV.out i hg2 { G with lists := G.lists.set c l, missing := G.missing - 1 } (by rw [HGE.out])
    simp only [I] at es
    rw [es, ← Nat.add_assoc] at r3
    refine ⟨lvs, by rw [List.length_set]; exact HLV.out, by rw [List.length_set]; exact r3, fun k lv gk a b => ?_⟩
    rw [List.getElem?_set] at b
    by_cases hk : i = k
    · subst hk
      rw [if_pos rfl, if_pos hg2] at b
      cases b
      rw [List.getElem?_eq_getElem (by rw [HLV.out]; exact hg2), HLE.out] at a
      cases a
      refine ⟨vs.set c (.slice ua l.length uc), by simp [HVL.out], ?_, fun j v xl hv hx => ?_⟩
      · have q1 := hlrow.go (S := fun _ => False) (C' := fun b => col b = .lists (m.rows.gone + i)) x1 (fun _ _ f => f) (fun _ _ e => e)
        have q2 := q1.set c (by omega) (.slice ua l.length uc)
        rw [List.length_set]
        exact q2.go (C' := fun b => col b = .lists (m.rows.gone + i)) kb (fun k hk e => by rw [e, hgcol] at hk; cases hk) (fun _ _ e => e)
      · rw [List.getElem?_set] at hv hx
        have hrok : ∀ k, col k = .ro → ¬ (RowCol col k) := fun k hk e => by
          rcases e with e | ⟨g, e⟩
          · rw [hk] at e; cases e
          · rw [hk] at e; cases e
        by_cases hj : c = j
        · subst hj
          rw [if_pos rfl, if_pos (by rw [HVL.out]; exact hc)] at hv
          rw [if_pos rfl, if_pos hc] at hx
          cases hv
          cases hx
          exact (hu.go (S := fun _ => False) (C' := fun b => col b = .ro) x1 (fun _ _ f => f) (fun _ _ e => e)).go kab (fun k hk => hrok k hk) (fun _ _ e => e)
        · rw [if_neg hj] at hv hx
          exact ((hvs j v xl hv hx).go (S := fun _ => False) (C' := fun b => col b = .ro) x1 (fun _ _ f => f) (fun _ _ e => e)).go kab (fun k hk => hrok k hk) (fun _ _ e => e)
    · rw [if_neg hk] at b
      refine (((hlist k lv gk a b).go x1 (fun _ f => f.elim) (fun _ f => f.elim) (fun _ _ => rfl)).go ka (fun q hq => ?_) (fun q hq => ?_) (fun _ _ => rfl)).go kb (fun q hq => ?_) (fun q hq => ?_) (fun _ _ => rfl)
      · rw [hq, hlcol]; simp; omega
      · rw [hq, hlcol]; simp
      · rw [hq, hgcol]; simp
      · rw [hq, hgcol]; simp
  exact ⟨rfl, ⟨h1.blk.kept kab hPn, h1.inn.rowsKept kab hga⟩, (Kp.of_ext x1).trans kab⟩
end Go.Proofs.YthicgffppmbamaaGreat

namespace Go.Proofs.YthicgffppmbamaaGreat
open Go.RowKit

theorem RowAt.dropS {C : Nat → Prop} {fr : Bool} {w : World} {s b off L cap q : Nat} {cs : List Value} (h : RowAt C fr w s (.slice (some ⟨b, off, none⟩) L cap) L cs) (hq : q ≤ L) :
    RowAt C fr w s (.slice (if cap = q then some ⟨b, off, none⟩ else some ⟨b, off + q * s, none⟩) (L - q) (cap - q)) (L - q) (cs.drop (q * s)) := by
  obtain ⟨hl, ao, cap', e, h1, h3⟩ := h
  simp only [Value.slice.injEq] at e
  obtain ⟨rfl, _, rfl⟩ := e
  refine ⟨by rw [List.length_drop, hl, Nat.sub_mul], _, cap - q, rfl, by omega, fun hp => ?_⟩
  obtain ⟨b', off', e, hb, hlt, hc, hf⟩ := h3 (by omega)
  simp only [Option.some.injEq, Addr.mk.injEq] at e
  obtain ⟨rfl, rfl, _⟩ := e
  have hj' : ∀ j, j < (L - q) * s → q * s + j < L * s := fun j hj => by rw [Nat.sub_mul] at hj; omega
  refine ⟨b, off + q * s, by rw [if_neg (by omega)], hb, hlt, fun j hj => ?_, fun ht j hj => ?_⟩
  · rw [Nat.add_assoc, hc (q * s + j) (hj' j hj), List.getElem?_drop]
  · rw [Nat.add_assoc]; exact hf ht (q * s + j) (hj' j hj)

/-- how many pieces lie ahead, as the scan's cell tells -/
def aheadN (P : Nat) (w : World) : Nat := match w.cell? ⟨P, 12, none⟩ with
  | some (.slice _ n _) => n
  | _ => 0
theorem Rep.aheadN {col : Colr} {w : World} {P : Nat} {m : Pl.Sc} {ps qs : List Nat} {nv av wv hv gv : Value} (h : Rep col w P m ps qs nv av wv hv gv) : aheadN P w = m.ahead.length := by
  have c := h.blk.cell 12
  simp only [scCells, List.getElem?_cons_zero, List.getElem?_cons_succ] at c
  obtain ⟨pvs, _, hr, _⟩ := h.inn.ahead
  obtain ⟨a, cap, rfl, _⟩ := hr.get
  unfold Go.Proofs.YthicgffppmbamaaGreat.aheadN
  rw [c]
/-- numbers of a scan that are not too great -/
structure Fine (m : Pl.Sc) : Prop where
  size : m.size ≤ 4000
  lastId : m.lastId + m.ahead.length ≤ 1000000000000
  asked : m.asked.length + m.ahead.length ≤ 1000
  win : m.win ≤ 1000
  opened : m.opened + m.ahead.length ≤ 1000
  ahead : ∀ p ∈ m.ahead, p.place + p.length ≤ 1000000

set_option maxRecDepth 20000 in
set_option maxHeartbeats 4000000 in
theorem askAhead_any (col : Colr) (w : World) (P : Nat) (m : Pl.Sc) (h : IsSc col w P m) (hf : Fine m) :
    Calls Tryz.prog 125 #[PtrTo P 0] w fun e w' => e = .returned (.tuple #[]) ∧ ∃ col', IsSc col' w' P (Pl.askAhead m) ∧ Went col w w' col' := by
  go_enter Tryz.func125, Tryz.ntmps125
  go_wp2_with fail
  go_loopw [2] (fun _ wr => ∃ (colr : Colr) (mr : Pl.Sc), IsSc colr wr P mr ∧ Went col w wr colr ∧ Fine mr ∧ Pl.askAheadF mr.ahead.length mr = Pl.askAhead m) (fun _ wr => aheadN P wr)
  case atStart => exact ⟨col, m, h, Went.refl _ _, hf, rfl⟩
  case round =>
    obtain ⟨colr, mr, hs, hw, hf, he⟩ := hrel
    clear h
    have HE := hide he
    clear he
    obtain ⟨ps, qs, nv, av, wv, hv, gv, r⟩ := hs
    have hAN := r.aheadN
    have HAN := hide hAN
    clear hAN
    have c3 := r.blk.cell 3
    have c12 := r.blk.cell 12
    have c13 := r.blk.cell 13
    have f12 := r.blk.free 12
    have f13 := r.blk.free 13
    simp only [scCells, I, List.getElem?_cons_zero, List.getElem?_cons_succ] at c3 c12 c13
    obtain ⟨pvs, hpl, hrow, hpg⟩ := r.inn.ahead
    have hrow0 := hrow
    obtain ⟨ha, hc, rfl, hcap, hcell⟩ := hrow0.get
    clear hrow0
    have hfw := hf.win
    have hfo := hf.opened
    by_cases h1 : mr.opened < mr.win
    · have h1' : (mr.opened : Int) < mr.win := by omega
      cases hl : mr.ahead with
      | nil =>
        have HF : Hid (Pl.askAhead m = mr) := hide (by rw [← HE.out, hl]; rfl)
        rw [hl] at c12 r
        simp only [List.length_nil] at c12
        go_wp2_with fail
        go_quiet (fail)
        go_wp2_with fail
        go_end0
        rw [HF.out]
        exact ⟨rfl, colr, (r.ext ((Kp.refl _ _).drewN nq)).is, hw.trans (Went.ext ((Kp.refl _ _).drewN nq))⟩
      | cons p rest =>
        have HX : Hid (Pl.askAheadF rest.length (Pl.fetch { mr with ahead := rest, opened := mr.opened + 1 } p.place p.length (.piece p)) = Pl.askAhead m) := hide (by
          rw [← HE.out, hl]
          show _ = Pl.askAheadF (rest.length + 1) mr
          rw [Pl.askAheadF, hl]
          simp only
          rw [if_pos h1])
        have hpn := hf.ahead p (by rw [hl]; simp)
        have hf' : Fine (Pl.fetch { mr with ahead := rest, opened := mr.opened + 1 } p.place p.length (.piece p)) := by
          have a := hf.lastId
          have b := hf.asked
          have c := hf.opened
          have d := hf.ahead
          rw [hl] at a b c d
          simp only [List.length_cons] at a b c
          refine ⟨hf.size, ?_, ?_, hf.win, ?_, fun q hq => d q (List.mem_cons_of_mem _ hq)⟩
          · show mr.lastId + 1 + rest.length ≤ _; omega
          · show (mr.asked ++ [_]).length + rest.length ≤ _; simp; omega
          · show mr.opened + 1 + rest.length ≤ _; omega
        have hidl := hf.lastId
        have hidn := hf.asked
        have HF' := hide hf'
        clear hf' hf
        rw [hl] at c12 hrow hcap hcell r hpl HAN hidl hidn hfo
        simp only [List.length_cons] at c12 hrow hcap hcell r hpl HAN hidl hidn hfo
        cases pvs with
        | nil => simp at hpl
        | cons pv pvs =>
        have hpp : PagesAt colr wr pv p.pages := hpg 0 pv p rfl (by rw [hl]; rfl)
        have hpg' : ∀ (i : Nat) (q : Value) (x : Pl.Piece), pvs[i]? = some q → rest[i]? = some x → PagesAt colr wr q x.pages := fun i q x a b => hpg (i + 1) q x a (by rw [hl]; exact b)
        obtain ⟨pa, pc, rfl, -, -⟩ := RowAt.get hpp
        obtain ⟨b, off, rfl, hblt, hcl⟩ := hcell (by omega)
        have d0 : wr.cell? ⟨b, off, none⟩ = some (.int .i64 p.place) := hcl 0 (by omega)
        have d1 : wr.cell? ⟨b, off + 1, none⟩ = some (.int .i64 p.length) := hcl 1 (by omega)
        have d2 : wr.cell? ⟨b, off + 2, none⟩ = some (.slice pa p.pages.length pc) := hcl 2 (by omega)
        have hdr := hrow.dropS (q := 1) (by omega)
        rw [show (pieceRow (Value.slice pa p.pages.length pc :: pvs) (p :: rest)).drop (1 * 3) = pieceRow pvs rest from rfl, Nat.add_sub_cancel] at hdr
        clear hcl hcell hpg hl HE
        have HD := hide hdr
        clear hdr
        go_wp2_with fail
        go_quiet (fail)
        have x1 : Ext wr (wr.drewN nq) := (Kp.refl _ _).drewN nq
        have r1 := r.ext x1
        have d0' := x1.cell d0 id
        have d1' := x1.cell d1 id
        have d2' := x1.cell d2 id
        have c12' := x1.cell c12 id
        have c13' := x1.cell c13 id
        have f12' : (wr.drewN nq).frozen? ⟨P, 12, none⟩ = false := f12
        have f13' : (wr.drewN nq).frozen? ⟨P, 13, none⟩ = false := f13
        have HD1 := hide (HD.out.go (S := fun _ => False) x1 (fun _ _ f => f) (fun _ _ e => e))
        clear HD d0 d1 d2 c12 c13 f12 f13 c3
        generalize wr.drewN nq = W1 at *
        have hPl := r1.blk.lt
        go_wp2_with fail
        · rename_i h
          have HD2 : RowAt (fun b => colr b = .ro) false W1 3 (Value.slice (some ⟨b, off, none⟩) rest.length 0) rest.length (pieceRow pvs rest) := by
            have := HD1.out
            rw [if_pos h, h] at this
            exact this
          have HD3 := hide HD2
          obtain ⟨hva, hvc, hve, -, -⟩ := HD2.get
          have hone : ((Value.slice (some ⟨b, off, none⟩) rest.length 0)).oneCell' = true := rfl
          clear HD2
          generalize hvq : (Value.slice (some ⟨b, off, none⟩) rest.length 0) = hv' at *
          clear hvq
          have hin : Inner colr W1 P { mr with ahead := rest } ps qs nv av wv hv' gv := ⟨r1.inn.pcol, r1.inn.top, r1.inn.names, r1.inn.asked, r1.inn.acol, r1.inn.aparts, r1.inn.waiting, r1.inn.wcol, r1.inn.wparts, r1.inn.nodup, ⟨pvs, by simpa using hpl, HD3.out, fun i q x a b => (hpg' i q x a b).go x1 (fun _ f => f.elim) (fun _ _ => rfl)⟩, r1.inn.groups⟩
          have r2 := r1.cellP 12 hv' (m' := { mr with ahead := rest }) (by simp [scCells, giveV]) hin
          have hin2 : Inner colr (W1.setCell ⟨P, 12, none⟩ hv') P { mr with ahead := rest, opened := mr.opened + 1 } ps qs nv av wv hv' gv := ⟨r2.inn.pcol, r2.inn.top, r2.inn.names, r2.inn.asked, r2.inn.acol, r2.inn.aparts, r2.inn.waiting, r2.inn.wcol, r2.inn.wparts, r2.inn.nodup, r2.inn.ahead, r2.inn.groups⟩
          have r3 := r2.cellP 13 (.int .i64 ((mr.opened : Int) + 1)) (m' := { mr with ahead := rest, opened := mr.opened + 1 }) (by simp [scCells, I, giveV]) hin2
          have k3 : Kp (fun k => k = P) W1 ((W1.setCell ⟨P, 12, none⟩ hv').setCell ⟨P, 13, none⟩ (.int .i64 ((mr.opened : Int) + 1))) := (kp_set' _ _ _ _).trans (kp_set' _ _ _ _)
          have hz3 : ((W1.setCell ⟨P, 12, none⟩ hv').setCell ⟨P, 13, none⟩ (.int .i64 ((mr.opened : Int) + 1))).heap.size = W1.heap.size := (size_set _ _ _).trans (size_set _ _ _)
          clear hin hin2 r2
          generalize (W1.setCell ⟨P, 12, none⟩ hv').setCell ⟨P, 13, none⟩ (.int .i64 ((mr.opened : Int) + 1)) = W3 at *
          have x4 : Ext W3 (W3.alloc (.cells #[PtrTo P 0, .int .i64 p.place, .int .i64 p.length, .slice pa p.pages.length pc] 237)) := (Kp.refl _ _).alloc _
          have bA : Blk (W3.alloc (.cells #[PtrTo P 0, .int .i64 p.place, .int .i64 p.length, .slice pa p.pages.length pc] 237)) W1.heap.size [PtrTo P 0, .int .i64 p.place, .int .i64 p.length, .slice pa p.pages.length pc] 237 := by
            have := Blk.of_alloc W3 [PtrTo P 0, .int .i64 p.place, .int .i64 p.length, .slice pa p.pages.length pc] 237
            rwa [hz3] at this
          have r4 := r3.ext x4
          have k4 : Kp (fun k => k = P) W1 (W3.alloc (.cells #[PtrTo P 0, .int .i64 p.place, .int .i64 p.length, .slice pa p.pages.length pc] 237)) := k3.trans (Kp.of_ext x4)
          clear r3 k3 x4 hz3
          generalize W3.alloc (.cells #[PtrTo P 0, .int .i64 p.place, .int .i64 p.length, .slice pa p.pages.length pc] 237) = W4 at *
          have hS : ∀ u, Ext W4 u → u.cell? ⟨W1.heap.size, 0, none⟩ = some (PtrTo P 0) ∧ u.cell? ⟨W1.heap.size, 1, none⟩ = some (.int .i64 p.place) ∧ u.cell? ⟨W1.heap.size, 2, none⟩ = some (.int .i64 p.length) ∧ u.cell? ⟨W1.heap.size, 3, none⟩ = some (.slice pa p.pages.length pc) := fun u hu => ⟨hu.cell (bA.cell 0) id, hu.cell (bA.cell 1) id, hu.cell (bA.cell 2) id, hu.cell (bA.cell 3) id⟩
          have HS := hide hS
          clear hS d0' d1' d2' c12' c13' f12' f13'
          have hx1 : Ext W4 W4.drew := (Kp.refl _ _).drew
          have r5 := r4.ext hx1
          have hpp5 : PagesAt colr W4.drew (.slice pa p.pages.length pc) p.pages := ((hpp.go x1 (fun _ f => f.elim) (fun _ _ => rfl)).go k4 (fun i hi => by rw [hi, r.inn.pcol]; simp) (fun _ _ => rfl)).go hx1 (fun _ f => f.elim) (fun _ _ => rfl)
          refine wp_region_late (n := 11) (Ext W4) (by kernel_rfl) ?_
          refine Late.take (i := 0) (oi := ⟨some 44, .move (.tmp 0), 109, "steps.go:56", #[], none⟩) (v := ?_) [1, 2, 11] rfl (by kernel_rfl) (by kernel_rfl) (by decide) (by decide) (by kernel_rfl) (by kernel_rfl) (by kernel_rfl) (fun _ _ _ h => h) rfl ?_ hx1 ?_
          rotate_left
          · (intro u hu; obtain ⟨u0, u1, u2, u3⟩ := (unhide HS) u hu; go_simp; first | done | with_reducible rfl)
          try simp only [Act.put, List.setIfInBounds_toArray, List.set_cons_zero, List.set_cons_succ]
          refine Late.take (i := 1) (oi := ⟨some 45, .nilCheck (.tmp 44), 0, "steps.go:56", #[⟨0, .data⟩], none⟩) (v := ?_) [2, 11] rfl (by kernel_rfl) (by kernel_rfl) (by decide) (by decide) (by kernel_rfl) (by kernel_rfl) (by kernel_rfl) (fun _ _ _ h => h) rfl ?_ hx1 ?_
          rotate_left
          · (intro u hu; obtain ⟨u0, u1, u2, u3⟩ := (unhide HS) u hu; go_simp; first | done | with_reducible rfl)
          try simp only [Act.put, List.setIfInBounds_toArray, List.set_cons_zero, List.set_cons_succ]
          refine Late.take (i := 2) (oi := ⟨some 46, .fieldAddr 142 (.tmp 45) 4, 0, "steps.go:56", #[⟨1, .data⟩], none⟩) (v := ?_) [11] rfl (by kernel_rfl) (by kernel_rfl) (by decide) (by decide) (by kernel_rfl) (by kernel_rfl) (by kernel_rfl) (fun _ _ _ h => h) rfl ?_ hx1 ?_
          rotate_left
          · (intro u hu; obtain ⟨u0, u1, u2, u3⟩ := (unhide HS) u hu; go_simp; first | done | with_reducible rfl)
          try simp only [Act.put, List.setIfInBounds_toArray, List.set_cons_zero, List.set_cons_succ]
          refine Late.take (i := 3) (oi := ⟨some 47, .fieldAddr 237 (.tmp 2) 1, 0, "steps.go:56", #[], none⟩) (v := ?_) [4, 5, 11] rfl (by kernel_rfl) (by kernel_rfl) (by decide) (by decide) (by kernel_rfl) (by kernel_rfl) (by kernel_rfl) (fun _ _ _ h => h) rfl ?_ hx1 ?_
          rotate_left
          · (intro u hu; obtain ⟨u0, u1, u2, u3⟩ := (unhide HS) u hu; go_simp; first | done | with_reducible rfl)
          try simp only [Act.put, List.setIfInBounds_toArray, List.set_cons_zero, List.set_cons_succ]
          refine Late.take (i := 4) (oi := ⟨some 48, .fieldAddr 235 (.tmp 47) 0, 0, "steps.go:56", #[⟨3, .data⟩], none⟩) (v := ?_) [5, 11] rfl (by kernel_rfl) (by kernel_rfl) (by decide) (by decide) (by kernel_rfl) (by kernel_rfl) (by kernel_rfl) (fun _ _ _ h => h) rfl ?_ hx1 ?_
          rotate_left
          · (intro u hu; obtain ⟨u0, u1, u2, u3⟩ := (unhide HS) u hu; go_simp; first | done | with_reducible rfl)
          try simp only [Act.put, List.setIfInBounds_toArray, List.set_cons_zero, List.set_cons_succ]
          refine Late.take (i := 5) (oi := ⟨some 49, .load 3 (.tmp 48), 3, "steps.go:56", #[⟨4, .data⟩], none⟩) (v := ?_) [11] rfl (by kernel_rfl) (by kernel_rfl) (by decide) (by decide) (by kernel_rfl) (by kernel_rfl) (by kernel_rfl) (fun _ _ _ h => h) rfl ?_ hx1 ?_
          rotate_left
          · (intro u hu; obtain ⟨u0, u1, u2, u3⟩ := (unhide HS) u hu; go_simp; first | done | with_reducible rfl)
          try simp only [Act.put, List.setIfInBounds_toArray, List.set_cons_zero, List.set_cons_succ]
          refine Late.take (i := 6) (oi := ⟨some 50, .fieldAddr 237 (.tmp 2) 1, 0, "steps.go:56", #[], none⟩) (v := ?_) [7, 8, 11] rfl (by kernel_rfl) (by kernel_rfl) (by decide) (by decide) (by kernel_rfl) (by kernel_rfl) (by kernel_rfl) (fun _ _ _ h => h) rfl ?_ hx1 ?_
          rotate_left
          · (intro u hu; obtain ⟨u0, u1, u2, u3⟩ := (unhide HS) u hu; go_simp; first | done | with_reducible rfl)
          try simp only [Act.put, List.setIfInBounds_toArray, List.set_cons_zero, List.set_cons_succ]
          refine Late.take (i := 7) (oi := ⟨some 51, .fieldAddr 235 (.tmp 50) 1, 0, "steps.go:56", #[⟨6, .data⟩], none⟩) (v := ?_) [8, 11] rfl (by kernel_rfl) (by kernel_rfl) (by decide) (by decide) (by kernel_rfl) (by kernel_rfl) (by kernel_rfl) (fun _ _ _ h => h) rfl ?_ hx1 ?_
          rotate_left
          · (intro u hu; obtain ⟨u0, u1, u2, u3⟩ := (unhide HS) u hu; go_simp; first | done | with_reducible rfl)
          try simp only [Act.put, List.setIfInBounds_toArray, List.set_cons_zero, List.set_cons_succ]
          refine Late.take (i := 8) (oi := ⟨some 52, .load 3 (.tmp 51), 3, "steps.go:56", #[⟨7, .data⟩], none⟩) (v := ?_) [11] rfl (by kernel_rfl) (by kernel_rfl) (by decide) (by decide) (by kernel_rfl) (by kernel_rfl) (by kernel_rfl) (fun _ _ _ h => h) rfl ?_ hx1 ?_
          rotate_left
          · (intro u hu; obtain ⟨u0, u1, u2, u3⟩ := (unhide HS) u hu; go_simp; first | done | with_reducible rfl)
          try simp only [Act.put, List.setIfInBounds_toArray, List.set_cons_zero, List.set_cons_succ]
          refine Late.take (i := 9) (oi := ⟨some 53, .load 237 (.tmp 2), 237, "steps.go:56", #[], none⟩) (v := ?_) [10, 11] rfl (by kernel_rfl) (by kernel_rfl) (by decide) (by decide) (by kernel_rfl) (by kernel_rfl) (by kernel_rfl) (fun _ _ _ h => h) rfl ?_ hx1 ?_
          rotate_left
          · (intro u hu; obtain ⟨u0, u1, u2, u3⟩ := (unhide HS) u hu; go_simp; first | done | with_reducible rfl)
          try simp only [Act.put, List.setIfInBounds_toArray, List.set_cons_zero, List.set_cons_succ]
          refine Late.take (i := 10) (oi := ⟨some 54, .makeFunc (Go.Fn.func 149) #[.tmp 53] #[], 148, "steps.go:56", #[⟨9, .data⟩], none⟩) (v := ?_) [11] rfl (by kernel_rfl) (by kernel_rfl) (by decide) (by decide) (by kernel_rfl) (by kernel_rfl) (by kernel_rfl) (fun _ _ _ h => h) rfl ?_ hx1 ?_
          rotate_left
          · (intro u hu; obtain ⟨u0, u1, u2, u3⟩ := (unhide HS) u hu; go_simp; first | done | with_reducible rfl)
          try simp only [Act.put, List.setIfInBounds_toArray, List.set_cons_zero, List.set_cons_succ]
          refine Late.one (i := 11) (o := ⟨some 55, .call { callee := .value (.func 83), args := #[.tmp 46, .tmp 49, .tmp 52, .tmp 54], argTypes := #[136, 3, 3, 148] }, 0, "steps.go:56", #[⟨2, .data⟩, ⟨5, .data⟩, ⟨8, .data⟩, ⟨10, .data⟩], none⟩) (by kernel_rfl) rfl (fun K hK => ?_)
          refine step_call_g rfl 83 #[PtrTo P 7, .int .i64 p.place, .int .i64 p.length, Bound 149 (.agg #[PtrTo P 0, .int .i64 p.place, .int .i64 p.length, .slice pa p.pages.length pc])] (by go_simp) ?_
          refine (fetch_any colr W4.drew P { mr with ahead := rest, opened := mr.opened + 1 } p.place p.length (.piece p) ps qs nv av wv hv' gv _ r5 ⟨_, rfl, hpp5⟩ ⟨_, _, rfl⟩ (by show mr.lastId ≤ _; omega) (by show mr.asked.length ≤ _; omega) (by omega) (by omega) (by omega)).mono ?_
          rintro e w6 ⟨rfl, c6, p6, av6, r6, g6⟩
          refine ⟨_, rfl, hK _ _ (fun h => absurd rfl h) ?_⟩
          clear hK K
          try simp only [Act.put, List.setIfInBounds_toArray, List.set_cons_zero, List.set_cons_succ]
          refine Late.done (by kernel_rfl) ?_ _
          go_wp2_with fail
          rw [Int.toNat_natCast, Int.toNat_natCast] at r6
          have hW : Went col w w6 c6 := ((hw.trans (Went.ext x1)).trans ⟨(k4.trans (Kp.of_ext hx1)).mono (fun i _ hi => by show colr i ≠ .out; rw [hi, r.inn.pcol]; simp), fun _ _ => rfl⟩).trans g6
          refine ⟨⟨c6, _, r6.is, hW, HF'.out, HX.out⟩, ?_⟩
          have e6 := r6.aheadN
          have e7 : (Pl.fetch { mr with ahead := rest, opened := mr.opened + 1 } p.place p.length (.piece p)).ahead.length = rest.length := rfl
          rw [HAN.out, e6, e7]
          omega
        · rename_i h
          have HD2 : RowAt (fun b => colr b = .ro) false W1 3 (Value.slice (some ⟨b, off + 3, none⟩) rest.length (hc - 1)) rest.length (pieceRow pvs rest) := by
            have := HD1.out
            rw [if_neg h] at this
            exact this
          have HD3 := hide HD2
          obtain ⟨hva, hvc, hve, -, -⟩ := HD2.get
          have hone : ((Value.slice (some ⟨b, off + 3, none⟩) rest.length (hc - 1))).oneCell' = true := rfl
          clear HD2
          generalize hvq : (Value.slice (some ⟨b, off + 3, none⟩) rest.length (hc - 1)) = hv' at *
          clear hvq
          have hin : Inner colr W1 P { mr with ahead := rest } ps qs nv av wv hv' gv := ⟨r1.inn.pcol, r1.inn.top, r1.inn.names, r1.inn.asked, r1.inn.acol, r1.inn.aparts, r1.inn.waiting, r1.inn.wcol, r1.inn.wparts, r1.inn.nodup, ⟨pvs, by simpa using hpl, HD3.out, fun i q x a b => (hpg' i q x a b).go x1 (fun _ f => f.elim) (fun _ _ => rfl)⟩, r1.inn.groups⟩
          have r2 := r1.cellP 12 hv' (m' := { mr with ahead := rest }) (by simp [scCells, giveV]) hin
          have hin2 : Inner colr (W1.setCell ⟨P, 12, none⟩ hv') P { mr with ahead := rest, opened := mr.opened + 1 } ps qs nv av wv hv' gv := ⟨r2.inn.pcol, r2.inn.top, r2.inn.names, r2.inn.asked, r2.inn.acol, r2.inn.aparts, r2.inn.waiting, r2.inn.wcol, r2.inn.wparts, r2.inn.nodup, r2.inn.ahead, r2.inn.groups⟩
          have r3 := r2.cellP 13 (.int .i64 ((mr.opened : Int) + 1)) (m' := { mr with ahead := rest, opened := mr.opened + 1 }) (by simp [scCells, I, giveV]) hin2
          have k3 : Kp (fun k => k = P) W1 ((W1.setCell ⟨P, 12, none⟩ hv').setCell ⟨P, 13, none⟩ (.int .i64 ((mr.opened : Int) + 1))) := (kp_set' _ _ _ _).trans (kp_set' _ _ _ _)
          have hz3 : ((W1.setCell ⟨P, 12, none⟩ hv').setCell ⟨P, 13, none⟩ (.int .i64 ((mr.opened : Int) + 1))).heap.size = W1.heap.size := (size_set _ _ _).trans (size_set _ _ _)
          clear hin hin2 r2
          generalize (W1.setCell ⟨P, 12, none⟩ hv').setCell ⟨P, 13, none⟩ (.int .i64 ((mr.opened : Int) + 1)) = W3 at *
          have x4 : Ext W3 (W3.alloc (.cells #[PtrTo P 0, .int .i64 p.place, .int .i64 p.length, .slice pa p.pages.length pc] 237)) := (Kp.refl _ _).alloc _
          have bA : Blk (W3.alloc (.cells #[PtrTo P 0, .int .i64 p.place, .int .i64 p.length, .slice pa p.pages.length pc] 237)) W1.heap.size [PtrTo P 0, .int .i64 p.place, .int .i64 p.length, .slice pa p.pages.length pc] 237 := by
            have := Blk.of_alloc W3 [PtrTo P 0, .int .i64 p.place, .int .i64 p.length, .slice pa p.pages.length pc] 237
            rwa [hz3] at this
          have r4 := r3.ext x4
          have k4 : Kp (fun k => k = P) W1 (W3.alloc (.cells #[PtrTo P 0, .int .i64 p.place, .int .i64 p.length, .slice pa p.pages.length pc] 237)) := k3.trans (Kp.of_ext x4)
          clear r3 k3 x4 hz3
          generalize W3.alloc (.cells #[PtrTo P 0, .int .i64 p.place, .int .i64 p.length, .slice pa p.pages.length pc] 237) = W4 at *
          have hS : ∀ u, Ext W4 u → u.cell? ⟨W1.heap.size, 0, none⟩ = some (PtrTo P 0) ∧ u.cell? ⟨W1.heap.size, 1, none⟩ = some (.int .i64 p.place) ∧ u.cell? ⟨W1.heap.size, 2, none⟩ = some (.int .i64 p.length) ∧ u.cell? ⟨W1.heap.size, 3, none⟩ = some (.slice pa p.pages.length pc) := fun u hu => ⟨hu.cell (bA.cell 0) id, hu.cell (bA.cell 1) id, hu.cell (bA.cell 2) id, hu.cell (bA.cell 3) id⟩
          have HS := hide hS
          clear hS d0' d1' d2' c12' c13' f12' f13'
          have hx1 : Ext W4 W4.drew := (Kp.refl _ _).drew
          have r5 := r4.ext hx1
          have hpp5 : PagesAt colr W4.drew (.slice pa p.pages.length pc) p.pages := ((hpp.go x1 (fun _ f => f.elim) (fun _ _ => rfl)).go k4 (fun i hi => by rw [hi, r.inn.pcol]; simp) (fun _ _ => rfl)).go hx1 (fun _ f => f.elim) (fun _ _ => rfl)
          refine wp_region_late (n := 11) (Ext W4) (by kernel_rfl) ?_
          refine Late.take (i := 0) (oi := ⟨some 44, .move (.tmp 0), 109, "steps.go:56", #[], none⟩) (v := ?_) [1, 2, 11] rfl (by kernel_rfl) (by kernel_rfl) (by decide) (by decide) (by kernel_rfl) (by kernel_rfl) (by kernel_rfl) (fun _ _ _ h => h) rfl ?_ hx1 ?_
          rotate_left
          · (intro u hu; obtain ⟨u0, u1, u2, u3⟩ := (unhide HS) u hu; go_simp; first | done | with_reducible rfl)
          try simp only [Act.put, List.setIfInBounds_toArray, List.set_cons_zero, List.set_cons_succ]
          refine Late.take (i := 1) (oi := ⟨some 45, .nilCheck (.tmp 44), 0, "steps.go:56", #[⟨0, .data⟩], none⟩) (v := ?_) [2, 11] rfl (by kernel_rfl) (by kernel_rfl) (by decide) (by decide) (by kernel_rfl) (by kernel_rfl) (by kernel_rfl) (fun _ _ _ h => h) rfl ?_ hx1 ?_
          rotate_left
          · (intro u hu; obtain ⟨u0, u1, u2, u3⟩ := (unhide HS) u hu; go_simp; first | done | with_reducible rfl)
          try simp only [Act.put, List.setIfInBounds_toArray, List.set_cons_zero, List.set_cons_succ]
          refine Late.take (i := 2) (oi := ⟨some 46, .fieldAddr 142 (.tmp 45) 4, 0, "steps.go:56", #[⟨1, .data⟩], none⟩) (v := ?_) [11] rfl (by kernel_rfl) (by kernel_rfl) (by decide) (by decide) (by kernel_rfl) (by kernel_rfl) (by kernel_rfl) (fun _ _ _ h => h) rfl ?_ hx1 ?_
          rotate_left
          · (intro u hu; obtain ⟨u0, u1, u2, u3⟩ := (unhide HS) u hu; go_simp; first | done | with_reducible rfl)
          try simp only [Act.put, List.setIfInBounds_toArray, List.set_cons_zero, List.set_cons_succ]
          refine Late.take (i := 3) (oi := ⟨some 47, .fieldAddr 237 (.tmp 2) 1, 0, "steps.go:56", #[], none⟩) (v := ?_) [4, 5, 11] rfl (by kernel_rfl) (by kernel_rfl) (by decide) (by decide) (by kernel_rfl) (by kernel_rfl) (by kernel_rfl) (fun _ _ _ h => h) rfl ?_ hx1 ?_
          rotate_left
          · (intro u hu; obtain ⟨u0, u1, u2, u3⟩ := (unhide HS) u hu; go_simp; first | done | with_reducible rfl)
          try simp only [Act.put, List.setIfInBounds_toArray, List.set_cons_zero, List.set_cons_succ]
          refine Late.take (i := 4) (oi := ⟨some 48, .fieldAddr 235 (.tmp 47) 0, 0, "steps.go:56", #[⟨3, .data⟩], none⟩) (v := ?_) [5, 11] rfl (by kernel_rfl) (by kernel_rfl) (by decide) (by decide) (by kernel_rfl) (by kernel_rfl) (by kernel_rfl) (fun _ _ _ h => h) rfl ?_ hx1 ?_
          rotate_left
          · (intro u hu; obtain ⟨u0, u1, u2, u3⟩ := (unhide HS) u hu; go_simp; first | done | with_reducible rfl)
          try simp only [Act.put, List.setIfInBounds_toArray, List.set_cons_zero, List.set_cons_succ]
          refine Late.take (i := 5) (oi := ⟨some 49, .load 3 (.tmp 48), 3, "steps.go:56", #[⟨4, .data⟩], none⟩) (v := ?_) [11] rfl (by kernel_rfl) (by kernel_rfl) (by decide) (by decide) (by kernel_rfl) (by kernel_rfl) (by kernel_rfl) (fun _ _ _ h => h) rfl ?_ hx1 ?_
          rotate_left
          · (intro u hu; obtain ⟨u0, u1, u2, u3⟩ := (unhide HS) u hu; go_simp; first | done | with_reducible rfl)
          try simp only [Act.put, List.setIfInBounds_toArray, List.set_cons_zero, List.set_cons_succ]
          refine Late.take (i := 6) (oi := ⟨some 50, .fieldAddr 237 (.tmp 2) 1, 0, "steps.go:56", #[], none⟩) (v := ?_) [7, 8, 11] rfl (by kernel_rfl) (by kernel_rfl) (by decide) (by decide) (by kernel_rfl) (by kernel_rfl) (by kernel_rfl) (fun _ _ _ h => h) rfl ?_ hx1 ?_
          rotate_left
          · (intro u hu; obtain ⟨u0, u1, u2, u3⟩ := (unhide HS) u hu; go_simp; first | done | with_reducible rfl)
          try simp only [Act.put, List.setIfInBounds_toArray, List.set_cons_zero, List.set_cons_succ]
          refine Late.take (i := 7) (oi := ⟨some 51, .fieldAddr 235 (.tmp 50) 1, 0, "steps.go:56", #[⟨6, .data⟩], none⟩) (v := ?_) [8, 11] rfl (by kernel_rfl) (by kernel_rfl) (by decide) (by decide) (by kernel_rfl) (by kernel_rfl) (by kernel_rfl) (fun _ _ _ h => h) rfl ?_ hx1 ?_
          rotate_left
          · (intro u hu; obtain ⟨u0, u1, u2, u3⟩ := (unhide HS) u hu; go_simp; first | done | with_reducible rfl)
          try simp only [Act.put, List.setIfInBounds_toArray, List.set_cons_zero, List.set_cons_succ]
          refine Late.take (i := 8) (oi := ⟨some 52, .load 3 (.tmp 51), 3, "steps.go:56", #[⟨7, .data⟩], none⟩) (v := ?_) [11] rfl (by kernel_rfl) (by kernel_rfl) (by decide) (by decide) (by kernel_rfl) (by kernel_rfl) (by kernel_rfl) (fun _ _ _ h => h) rfl ?_ hx1 ?_
          rotate_left
          · (intro u hu; obtain ⟨u0, u1, u2, u3⟩ := (unhide HS) u hu; go_simp; first | done | with_reducible rfl)
          try simp only [Act.put, List.setIfInBounds_toArray, List.set_cons_zero, List.set_cons_succ]
          refine Late.take (i := 9) (oi := ⟨some 53, .load 237 (.tmp 2), 237, "steps.go:56", #[], none⟩) (v := ?_) [10, 11] rfl (by kernel_rfl) (by kernel_rfl) (by decide) (by decide) (by kernel_rfl) (by kernel_rfl) (by kernel_rfl) (fun _ _ _ h => h) rfl ?_ hx1 ?_
          rotate_left
          · (intro u hu; obtain ⟨u0, u1, u2, u3⟩ := (unhide HS) u hu; go_simp; first | done | with_reducible rfl)
          try simp only [Act.put, List.setIfInBounds_toArray, List.set_cons_zero, List.set_cons_succ]
          refine Late.take (i := 10) (oi := ⟨some 54, .makeFunc (Go.Fn.func 149) #[.tmp 53] #[], 148, "steps.go:56", #[⟨9, .data⟩], none⟩) (v := ?_) [11] rfl (by kernel_rfl) (by kernel_rfl) (by decide) (by decide) (by kernel_rfl) (by kernel_rfl) (by kernel_rfl) (fun _ _ _ h => h) rfl ?_ hx1 ?_
          rotate_left
          · (intro u hu; obtain ⟨u0, u1, u2, u3⟩ := (unhide HS) u hu; go_simp; first | done | with_reducible rfl)
          try simp only [Act.put, List.setIfInBounds_toArray, List.set_cons_zero, List.set_cons_succ]
          refine Late.one (i := 11) (o := ⟨some 55, .call { callee := .value (.func 83), args := #[.tmp 46, .tmp 49, .tmp 52, .tmp 54], argTypes := #[136, 3, 3, 148] }, 0, "steps.go:56", #[⟨2, .data⟩, ⟨5, .data⟩, ⟨8, .data⟩, ⟨10, .data⟩], none⟩) (by kernel_rfl) rfl (fun K hK => ?_)
          refine step_call_g rfl 83 #[PtrTo P 7, .int .i64 p.place, .int .i64 p.length, Bound 149 (.agg #[PtrTo P 0, .int .i64 p.place, .int .i64 p.length, .slice pa p.pages.length pc])] (by go_simp) ?_
          refine (fetch_any colr W4.drew P { mr with ahead := rest, opened := mr.opened + 1 } p.place p.length (.piece p) ps qs nv av wv hv' gv _ r5 ⟨_, rfl, hpp5⟩ ⟨_, _, rfl⟩ (by show mr.lastId ≤ _; omega) (by show mr.asked.length ≤ _; omega) (by omega) (by omega) (by omega)).mono ?_
          rintro e w6 ⟨rfl, c6, p6, av6, r6, g6⟩
          refine ⟨_, rfl, hK _ _ (fun h => absurd rfl h) ?_⟩
          clear hK K
          try simp only [Act.put, List.setIfInBounds_toArray, List.set_cons_zero, List.set_cons_succ]
          refine Late.done (by kernel_rfl) ?_ _
          go_wp2_with fail
          rw [Int.toNat_natCast, Int.toNat_natCast] at r6
          have hW : Went col w w6 c6 := ((hw.trans (Went.ext x1)).trans ⟨(k4.trans (Kp.of_ext hx1)).mono (fun i _ hi => by show colr i ≠ .out; rw [hi, r.inn.pcol]; simp), fun _ _ => rfl⟩).trans g6
          refine ⟨⟨c6, _, r6.is, hW, HF'.out, HX.out⟩, ?_⟩
          have e6 := r6.aheadN
          have e7 : (Pl.fetch { mr with ahead := rest, opened := mr.opened + 1 } p.place p.length (.piece p)).ahead.length = rest.length := rfl
          rw [HAN.out, e6, e7]
          omega
    · have h1' : ¬ (mr.opened : Int) < mr.win := by omega
      have HF : Hid (Pl.askAhead m = mr) := hide (by
        rw [← HE.out]
        cases hl : mr.ahead with
        | nil => rfl
        | cons p rest =>
          show Pl.askAheadF (rest.length + 1) mr = mr
          unfold Pl.askAheadF
          rw [hl]
          simp only
          rw [if_neg h1])
      go_wp2_with fail
      go_quiet (fail)
      go_wp2_with fail
      go_end0
      rw [HF.out]
      exact ⟨rfl, colr, (r.ext ((Kp.refl _ _).drewN nq)).is, hw.trans (Went.ext ((Kp.refl _ _).drewN nq))⟩
end Go.Proofs.YthicgffppmbamaaGreat

namespace Go.Proofs.YthicgffppmbamaaGreat
open Go.RowKit

theorem readyF_drop (gs : List Pl.RGroup) (k : Nat) (hk : k < gs.length) : Pl.readyF (gs.drop k) = if 0 < gs[k].missing then 0 else gs[k].rows + Pl.readyF (gs.drop (k + 1)) := by
  rw [List.drop_eq_getElem_cons hk]
  rfl
/-- rows whose numbers are not too great -/
structure RwOk (r : Pl.Rw) : Prop where
  groups : r.groups.length ≤ 1000
  rows : ∀ g ∈ r.groups, g.rows ≤ 1000000
  missing : ∀ g ∈ r.groups, g.missing ≤ 1000000
  row : r.row ≤ Pl.readyF r.groups
  left : r.left ≤ 1000000000
  gone : r.gone ≤ 1000000

set_option maxRecDepth 20000 in
set_option maxHeartbeats 2000000 in
theorem ready_any (col : Colr) (w : World) (P : Nat) (m : Pl.Sc) (ps qs : List Nat) (nv av wv hv gv : Value) (h : Rep col w P m ps qs nv av wv hv gv) (hok : RwOk m.rows) :
    Calls Tryz.prog 107 #[PtrTo P 14] w fun e w' => e = .returned (.int .i64 (Pl.rwReady m.rows)) ∧ Ext w w' := by
  have s15 := h.blk.cell 15
  have s17 := h.blk.cell 17
  simp only [scCells, I, List.getElem?_cons_zero, List.getElem?_cons_succ] at s15 s17
  obtain ⟨lvs, hlv, hrow, hlist⟩ := h.inn.groups
  obtain ⟨ga, gc, rfl, hgc, h3⟩ := hrow.get
  have hPl := h.blk.lt
  have hshp : ∀ i (hi : i < lvs.length), ∃ a n c, lvs[i] = .slice a n c := fun i hi => by
    obtain ⟨vs, -, hr, -⟩ := hlist i _ _ (List.getElem?_eq_getElem hi) (List.getElem?_eq_getElem (by omega))
    obtain ⟨a, c, e, -⟩ := hr.get
    exact ⟨_, _, _, e⟩
  have hrw := hok.row
  have hgl := hok.groups
  have hgr := hok.rows
  have hgm := hok.missing
  have HR : Hid (Pl.rwReady m.rows = Pl.readyF m.rows.groups - m.rows.row) := hide rfl
  clear hrow hlist h
  go_enter Tryz.func107, Tryz.ntmps107
  go_wp2_with fail
  go_loopw [3, 11] (fun t i wr => ∃ (k c : Nat), i = .int .i64 k ∧ t = .int .i64 c ∧ k ≤ m.rows.groups.length ∧ c ≤ k * 1000000 ∧ c + Pl.readyF (m.rows.groups.drop k) = Pl.readyF m.rows.groups ∧ Ext w wr) (fun _ i _ => m.rows.groups.length - (intOf i).toNat)
  case atStart => exact ⟨0, 0, rfl, rfl, by omega, by omega, by simp, Kp.refl _ _⟩
  case round =>
    obtain ⟨k, c, rfl, rfl, hk, hc, hsum, hx⟩ := hrel
    have s17' := hx.cell s17 id
    have hPw : P < wr.heap.size := Nat.lt_of_lt_of_le hPl hx.size
    by_cases hkl : k < m.rows.groups.length
    · obtain ⟨b, off, rfl, hb, hcc⟩ := h3 (by omega)
      have d0 := hx.cell ((hcc (k * 3 + 0) (by omega)).trans (groupRow_at lvs m.rows.groups hlv k 0 hkl (by omega))) id
      have d1 := hx.cell ((hcc (k * 3 + 1) (by omega)).trans (groupRow_at lvs m.rows.groups hlv k 1 hkl (by omega))) id
      have d2 := hx.cell ((hcc (k * 3 + 2) (by omega)).trans (groupRow_at lvs m.rows.groups hlv k 2 hkl (by omega))) id
      obtain ⟨la, ln, lc, hlk⟩ := hshp k (by omega)
      have hst := readyF_drop m.rows.groups k hkl
      have hgrk := hgr m.rows.groups[k] (List.getElem_mem hkl)
      have hgmk := hgm m.rows.groups[k] (List.getElem_mem hkl)
      rw [hlk] at d1
      generalize m.rows.groups[k] = G at *
      simp only [I, Nat.add_zero, ← Nat.add_assoc] at d0 d1 d2
      clear hcc h3 hlk hshp
      by_cases hm : 0 < G.missing
      · rw [if_pos hm] at hst
        have hm' : (0 : Int) < G.missing := by omega
        go_wp2_with fail
        go_ret
        rw [HR.out]
        refine ⟨?_, hx.alloc _⟩
        have : c = Pl.readyF m.rows.groups := by omega
        rw [this]
        have e : ((Pl.readyF m.rows.groups : Nat) : Int) - (m.rows.row : Int) = ((Pl.readyF m.rows.groups - m.rows.row : Nat) : Int) := by omega
        show Ending.returned (.int .i64 (((Pl.readyF m.rows.groups : Nat) : Int) - (m.rows.row : Int))) = _
        rw [e]
      · rw [if_neg hm] at hst
        have hm' : G.missing = 0 := by omega
        have HSM : Hid (c + G.rows + Pl.readyF (m.rows.groups.drop (k + 1)) = Pl.readyF m.rows.groups) := hide (by omega)
        clear hst hsum hm
        go_wp2_with fail
        refine ⟨⟨k + 1, c + G.rows, by go_num, by go_num, by omega, by omega, HSM.out, hx.alloc _⟩, by simp [intOf]; omega⟩
    · obtain rfl : k = m.rows.groups.length := by omega
      rw [List.drop_length] at hsum
      have hsum' : c = Pl.readyF m.rows.groups := hsum
      go_wp2_with fail
      go_ret
      rw [HR.out]
      refine ⟨?_, hx⟩
      rw [hsum']
      have e : ((Pl.readyF m.rows.groups : Nat) : Int) - (m.rows.row : Int) = ((Pl.readyF m.rows.groups - m.rows.row : Nat) : Int) := by omega
      show Ending.returned (.int .i64 (((Pl.readyF m.rows.groups : Nat) : Int) - (m.rows.row : Int))) = _
      rw [e]
end Go.Proofs.YthicgffppmbamaaGreat

namespace Go.Proofs.YthicgffppmbamaaGreat
open Go.RowKit

theorem set_next {α : Type} (d : List α) (cs : List α) (v : α) (h : d.length < cs.length) : (d ++ cs.drop d.length).set d.length v = (d ++ [v]) ++ cs.drop (d.length + 1) := by
  rw [List.set_append_right _ _ (Nat.le_refl _), Nat.sub_self, List.drop_eq_getElem_cons h, List.set_cons_zero, List.append_assoc]
  rfl
theorem rplainS_len (n : Nat) (r : Pl.Rdr) : (Pl.iter Pl.plainS n ([], r)).1.length = n ∧ (Pl.iter Pl.plainS n ([], r)).2.1.length ≤ r.1.length := by
  induction n with
  | zero => exact ⟨rfl, Nat.le_refl _⟩
  | succ n ih => exact ⟨by simp [Pl.iter, Pl.plainS, ih.1], Nat.le_trans (rNum_len _ _ _) ih.2⟩

set_option maxRecDepth 20000 in
set_option maxHeartbeats 1000000 in
theorem readPlain_any (C : Nat → Prop) (w : World) (q g : Nat) (r : Pl.Rdr) (cs : List Value) (hq : ¬ C q) (hg : ¬ C g) (hgq : g ≠ q) (h : IsRdr C w q r) (hl : r.1.length ≤ 1000000) (hb : Blk w g cs 3) (h0 : 0 < cs.length) (h20 : cs.length ≤ 20) :
    Calls Tryz.prog 155 #[.slice (some ⟨g, 0, none⟩) cs.length cs.length, PtrTo q 0] w fun e w' => e = .returned (.tuple #[]) ∧ IsRdr C w' q (Pl.iter Pl.plainS cs.length ([], r)).2 ∧ Blk w' g ((Pl.iter Pl.plainS cs.length ([], r)).1.map I) 3 ∧ Kp (fun k => k = q ∨ k = g) w w' ∧ w'.heap.size = w.heap.size := by
  go_enter Tryz.func155, Tryz.ntmps155
  go_wp2
  go_loopw [7] (fun i wr => ∃ (k : Nat), i = .int .i64 k ∧ k ≤ cs.length ∧ IsRdr C wr q (Pl.iter Pl.plainS k ([], r)).2 ∧ Blk wr g ((Pl.iter Pl.plainS k ([], r)).1.map I ++ cs.drop k) 3 ∧ Kp (fun k => k = q ∨ k = g) w wr ∧ wr.heap.size = w.heap.size) (fun i _ => cs.length - (intOf i).toNat)
  case atStart => exact ⟨0, rfl, by omega, h, hb, Kp.refl _ _, rfl⟩
  case round =>
    obtain ⟨k, rfl, hk, hr, hb', kk, hz⟩ := hrel
    have hlen := rplainS_len k r
    have HZ := hide hz
    clear hz h hb
    have HB : ∀ w1, Kp (fun k => k = q) wr w1 → k < cs.length → Blk w1 g ((Pl.iter Pl.plainS k ([], r)).1.map I ++ cs.drop k) 3 ∧ w1.frozen? ⟨g, k, none⟩ = false ∧ ∃ v, w1.cell? ⟨g, k, none⟩ = some v := by
      intro w1 k1 hkl
      have b1 := hb'.kept k1 hgq
      refine ⟨b1, b1.free k, _, (b1.cell k).trans (List.getElem?_eq_getElem (by simp [hlen.1]; omega))⟩
    by_cases hkl : k < cs.length
    · go_wp2_with (go_at_call 142; go_must (refine (rnum_any C _ q _ hq hr (by omega) 0 1099511627775 1099511627775 (by omega) (by omega) (.inl rfl) (by omega)).mono ?_); rintro e w1 ⟨rfl, hr1, k1, z1⟩; obtain ⟨b1, f1, v1, c1⟩ := HB _ k1 hkl)
      refine ⟨⟨k + 1, by go_num, by omega, ?_, ?_, (kk.trans (k1.mono fun _ _ e => .inl e)).trans ((kp_set' _ _ _ _).mono fun _ _ e => .inr e), (size_set _ _ _).trans (z1.trans HZ.out)⟩, by simp [intOf]; omega⟩
      · exact hr1.kept (kp_set' _ _ _ _) (fun e => hgq e.symm) (fun i hi e => hg (e ▸ hi))
      · have b2 := b1.set k (.int .i64 (Pl.rNum 0 1099511627775 (Pl.iter Pl.plainS k ([], r)).2).1)
        have e := set_next ((Pl.iter Pl.plainS k ([], r)).1.map I) cs (.int .i64 (Pl.rNum 0 1099511627775 (Pl.iter Pl.plainS k ([], r)).2).1) (by simp [hlen.1]; omega)
        simp only [List.length_map, hlen.1] at e
        rw [e] at b2
        simpa [Pl.iter, Pl.plainS, I] using b2
    · go_wp2_with fail
      have e : k = cs.length := by omega
      subst e
      go_end0
      rw [List.drop_length, List.append_nil] at hb'
      exact ⟨rfl, hr, hb', kk, HZ.out⟩

theorem rrisingS_len (n : Nat) (r : Pl.Rdr) : (Pl.iter Pl.risingS n ([], 0, r)).1.length = n ∧ (Pl.iter Pl.risingS n ([], 0, r)).2.1 ≤ 1099511627775 ∧ (Pl.iter Pl.risingS n ([], 0, r)).2.2.1.length ≤ r.1.length := by
  induction n with
  | zero => exact ⟨rfl, by simp [Pl.iter], Nat.le_refl _⟩
  | succ n ih =>
    have h := rNum_le 0 (1099511627775 - (Pl.iter Pl.risingS n ([], 0, r)).2.1) (Pl.iter Pl.risingS n ([], 0, r)).2.2 (Nat.zero_le _)
    refine ⟨by simp [Pl.iter, Pl.risingS, ih.1], ?_, Nat.le_trans (rNum_len _ _ _) ih.2.2⟩
    simp only [Pl.iter, Pl.risingS]
    omega

set_option maxRecDepth 20000 in
set_option maxHeartbeats 1000000 in
theorem readRising_any (C : Nat → Prop) (w : World) (q g : Nat) (r : Pl.Rdr) (cs : List Value) (hq : ¬ C q) (hg : ¬ C g) (hgq : g ≠ q) (h : IsRdr C w q r) (hl : r.1.length ≤ 1000000) (hb : Blk w g cs 3) (h0 : 0 < cs.length) (h20 : cs.length ≤ 20) :
    Calls Tryz.prog 159 #[.slice (some ⟨g, 0, none⟩) cs.length cs.length, PtrTo q 0] w fun e w' => e = .returned (.tuple #[]) ∧ IsRdr C w' q (Pl.iter Pl.risingS cs.length ([], 0, r)).2.2 ∧ Blk w' g ((Pl.iter Pl.risingS cs.length ([], 0, r)).1.map I) 3 ∧ Kp (fun k => k = q ∨ k = g) w w' ∧ w'.heap.size = w.heap.size := by
  go_enter Tryz.func159, Tryz.ntmps159
  go_wp2
  go_loopw [4, 8] (fun a i wr => ∃ (k : Nat), i = .int .i64 k ∧ k ≤ cs.length ∧ a = .int .i64 (Pl.iter Pl.risingS k ([], 0, r)).2.1 ∧ IsRdr C wr q (Pl.iter Pl.risingS k ([], 0, r)).2.2 ∧ Blk wr g ((Pl.iter Pl.risingS k ([], 0, r)).1.map I ++ cs.drop k) 3 ∧ Kp (fun k => k = q ∨ k = g) w wr ∧ wr.heap.size = w.heap.size) (fun _ i _ => cs.length - (intOf i).toNat)
  case atStart => exact ⟨0, rfl, by omega, rfl, h, hb, Kp.refl _ _, rfl⟩
  case round =>
    obtain ⟨k, rfl, hk, rfl, hr, hb', kk, hz⟩ := hrel
    have hlen := rrisingS_len k r
    have hle := rNum_le 0 (1099511627775 - (Pl.iter Pl.risingS k ([], 0, r)).2.1) (Pl.iter Pl.risingS k ([], 0, r)).2.2 (Nat.zero_le _)
    have HZ := hide hz
    clear hz h hb
    have HS : Hid (Pl.iter Pl.risingS (k + 1) ([], 0, r) = Pl.risingS (Pl.iter Pl.risingS k ([], 0, r))) := hide rfl
    generalize hst : Pl.iter Pl.risingS k ([], 0, r) = st at *
    obtain ⟨xs, ah, r'⟩ := st
    have HT := hide hst
    clear hst
    simp only at *
    have HB : ∀ w1, Kp (fun k => k = q) wr w1 → k < cs.length → Blk w1 g (xs.map I ++ cs.drop k) 3 ∧ w1.frozen? ⟨g, k, none⟩ = false ∧ ∃ v, w1.cell? ⟨g, k, none⟩ = some v := by
      intro w1 k1 hkl
      have b1 := hb'.kept k1 hgq
      refine ⟨b1, b1.free k, _, (b1.cell k).trans (List.getElem?_eq_getElem (by simp [hlen.1]; omega))⟩
    by_cases hkl : k < cs.length
    · go_wp2_with (go_at_call 142; go_must (refine (rnum_any C _ q _ hq hr (by omega) 0 (1099511627775 - ah) (1099511627775 - ah) (by omega) (by omega) (.inl (by omega)) (by omega)).mono ?_); rintro e w1 ⟨rfl, hr1, k1, z1⟩; obtain ⟨b1, f1, v1, c1⟩ := HB _ k1 hkl)
      generalize hnn : (Pl.rNum 0 (1099511627775 - ah) r').1 = nn at *
      refine ⟨⟨k + 1, by go_num, by omega, ?_, ?_, ?_, (kk.trans (k1.mono fun _ _ e => .inl e)).trans ((kp_set' _ _ _ _).mono fun _ _ e => .inr e), (size_set _ _ _).trans (z1.trans HZ.out)⟩, by simp [intOf]; omega⟩
      · rw [HS.out]; simp [Pl.risingS, hnn]
      · rw [HS.out]; exact hr1.kept (kp_set' _ _ _ _) (fun e => hgq e.symm) (fun i hi e => hg (e ▸ hi))
      · rw [HS.out]
        have b2 := b1.set k (.int .i64 ((ah : Int) + nn))
        have e := set_next (xs.map I) cs (.int .i64 ((ah : Int) + nn)) (by simp [hlen.1]; omega)
        simp only [List.length_map, hlen.1] at e
        rw [e] at b2
        simpa [Pl.risingS, I, hnn] using b2
    · go_wp2_with fail
      have e : k = cs.length := by omega
      subst e
      go_end0
      rw [List.drop_length, List.append_nil] at hb'
      rw [HT.out]
      exact ⟨rfl, hr, hb', kk, HZ.out⟩

theorem runsR_step (f left : Nat) (xs : List Int) (r : Pl.Rdr) (h : 0 < left) : Pl.runsR (f + 1) left (xs, r) = Pl.runsR f (left - (Pl.rNum 1 left r).1) (xs ++ List.replicate (Pl.rNum 1 left r).1 ((Pl.rNum 0 1099511627775 (Pl.rNum 1 left r).2).1 : Int), (Pl.rNum 0 1099511627775 (Pl.rNum 1 left r).2).2) := by
  rw [Pl.runsR, if_neg (by omega)]
theorem runsR_done (f : Nat) (s : List Int × Pl.Rdr) : Pl.runsR f 0 s = s := by
  cases f with
  | zero => rfl
  | succ f => rw [Pl.runsR, if_pos rfl]

set_option maxRecDepth 20000 in
set_option maxHeartbeats 1000000 in
theorem readRuns_any (C : Nat → Prop) (w : World) (q g : Nat) (r : Pl.Rdr) (cs : List Value) (hq : ¬ C q) (hg : ¬ C g) (hgq : g ≠ q) (h : IsRdr C w q r) (hl : r.1.length ≤ 1000000) (hb : Blk w g cs 3) (h0 : 0 < cs.length) (h20 : cs.length ≤ 20) :
    Calls Tryz.prog 157 #[.slice (some ⟨g, 0, none⟩) cs.length cs.length, PtrTo q 0] w fun e w' => e = .returned (.tuple #[]) ∧ IsRdr C w' q (Pl.runsR cs.length cs.length ([], r)).2 ∧ Blk w' g ((Pl.runsR cs.length cs.length ([], r)).1.map I) 3 ∧ Kp (fun k => k = q ∨ k = g) w w' ∧ w'.heap.size = w.heap.size := by
  go_enter Tryz.func157, Tryz.ntmps157
  go_wp2
  go_loopw [0] (fun v wr => ∃ (f left off : Nat) (xs : List Int) (r' : Pl.Rdr), v = .slice (some ⟨g, off, none⟩) left left ∧ xs.length + left = cs.length ∧ (0 < left → off = xs.length) ∧ left ≤ f ∧ Pl.runsR f left (xs, r') = Pl.runsR cs.length cs.length ([], r) ∧ r'.1.length ≤ r.1.length ∧ IsRdr C wr q r' ∧ Blk wr g (xs.map I ++ cs.drop xs.length) 3 ∧ Kp (fun k => k = q ∨ k = g) w wr ∧ wr.heap.size = w.heap.size) (fun v _ => (match v with | .slice _ n _ => n | _ => 0))
  case atStart => exact ⟨cs.length, cs.length, 0, [], r, rfl, by simp, fun _ => rfl, Nat.le_refl _, rfl, Nat.le_refl _, h, hb, Kp.refl _ _, rfl⟩
  case round =>
    obtain ⟨f, left, off, xs, r', rfl, hxl, hoff, hf, he, hlr, hr, hb', kk, hz⟩ := hrel
    have HZ := hide hz
    have HE := hide he
    clear hz h hb he
    by_cases h0l : 0 < left
    · obtain rfl := hoff h0l
      obtain ⟨f, rfl⟩ : ∃ f', f = f' + 1 := ⟨f - 1, by omega⟩
      have hst := runsR_step f left xs r' h0l
      have HS := hide (hst.symm.trans HE.out)
      clear hst
      have hk := rNum_le 1 left r' h0l
      have hkl := rNum_len 1 left r'
      have hnl := rNum_len 0 1099511627775 (Pl.rNum 1 left r').2
      generalize hA : Pl.rNum 1 left r' = A at *
      obtain ⟨len, r1⟩ := A
      simp only at *
      have hn := rNum_le 0 1099511627775 r1 (Nat.zero_le _)
      generalize hB : Pl.rNum 0 1099511627775 r1 = N at *
      obtain ⟨n, r2⟩ := N
      simp only at *
      go_wp2_with (go_at_call 142; first | (have hr1' := hr1; go_must (refine ((rnum_any C _ q r1 hq hr1 (by omega) 0 1099511627775 1099511627775 (by omega) (by omega) (.inl rfl) (by omega)).mono ?_)); rw [hB]; rintro e w2 ⟨rfl, hr2, k2, z2⟩; skip) | (go_must (refine (rnum_any C _ q r' hq hr (by omega) 1 left left (by omega) (by omega) (.inl rfl) (by omega)).mono ?_); rw [hA]; rintro e w1 ⟨rfl, hr1, k1, z1⟩; skip))
      have bb := (hb'.kept k1 hgq).kept k2 hgq
      have kk2 := (kk.trans (k1.mono (S' := fun k => k = q ∨ k = g) fun _ _ e => .inl e)).trans (k2.mono (S' := fun k => k = q ∨ k = g) fun _ _ e => .inl e)
      have HZ2 : Hid (w2.heap.size = w.heap.size) := hide (z2.trans (z1.trans HZ.out))
      clear z1 z2 hb' kk HZ hr hr1 hr1' k1 k2 hoff
      go_loopw [17] (fun i wr2 => ∃ k : Nat, i = .int .i64 k ∧ k ≤ len ∧ IsRdr C wr2 q r2 ∧ Blk wr2 g ((xs ++ List.replicate k (n : Int)).map I ++ cs.drop (xs.length + k)) 3 ∧ Kp (fun k => k = q ∨ k = g) w wr2 ∧ wr2.heap.size = w.heap.size) (fun i _ => len - (intOf i).toNat)
      case atStart => exact ⟨0, rfl, by omega, hr2, by simpa using bb, kk2, HZ2.out⟩
      case round =>
        obtain ⟨k, rfl, hkl2, hr3, hb3, kk3, hz3⟩ := hrel
        have HZ3 := hide hz3
        clear hz3
        have hlen3 : ((xs ++ List.replicate k (n : Int)).map I).length = xs.length + k := by simp
        by_cases hkk : k < len
        · have f1 := hb3.free (xs.length + k)
          have c1 := (hb3.cell (xs.length + k)).trans (List.getElem?_eq_getElem (by rw [List.length_append, hlen3, List.length_drop]; omega))
          go_wp2_with fail
          refine ⟨⟨k + 1, by go_num, by omega, hr3.kept (kp_set' _ _ _ _) (fun e => hgq e.symm) (fun i hi e => hg (e ▸ hi)), ?_, kk3.trans ((kp_set' _ _ _ _).mono fun _ _ e => .inr e), (size_set _ _ _).trans HZ3.out⟩, by simp [intOf]; omega⟩
          have b2 := hb3.set (xs.length + k) (.int .i64 n)
          have e := set_next ((xs ++ List.replicate k (n : Int)).map I) cs (.int .i64 n) (by rw [hlen3]; omega)
          rw [hlen3] at e
          rw [e] at b2
          rw [List.replicate_succ', ← List.append_assoc, List.map_append]
          exact b2
        · obtain rfl : k = len := by omega
          go_wp2_with fail
          refine ⟨⟨f, left - k, if left = k then xs.length else xs.length + k, xs ++ List.replicate k (n : Int), r2, ?_, by simp; omega, ?_, by omega, HS.out, by omega, hr3, ?_, kk3, HZ3.out⟩, ?_⟩
          · by_cases hlk : left = k <;> simp [hlk]
          · intro hp
            rw [if_neg (by omega)]
            simp
          · simpa using hb3
          · show left - k < left
            omega
    · obtain rfl : left = 0 := by omega
      go_wp2_with fail
      go_end0
      rw [← HE.out, runsR_done]
      rw [show xs.length = cs.length by omega, List.drop_length, List.append_nil] at hb'
      exact ⟨rfl, hr, hb', kk, HZ.out⟩
theorem index_kind8 (u : World) (k : Nat) (f g : Value) (hk : k < 3) (hf : #[F 154, F 156, F 158][k]? = some f) (hg : #[F 155, F 157, F 159][k]? = some g) :
    (Instr.index 220 waysV (.int .u8 k)).run Tryz.prog u = .ok (.agg #[f, g]) u := by
  have h3 : k = 0 ∨ k = 1 ∨ k = 2 := by omega
  rcases h3 with rfl | rfl | rfl
  all_goals
    simp at hf hg
    subst hf
    subst hg
    simp [Instr.index, run_underlying Tryz.underlying220, go_sem]

theorem field_read (u : World) (f g : Nat) : (Instr.field 219 (.agg #[F f, F g]) 1).run Tryz.prog u = .ok (F g) u := by
  simp [Instr.field, asAgg, run_underlying Tryz.underlying219, go_sem]

/-- what page.Read answers -/
inductive PageSaid (w w' : World) (rows : Nat) : Option (List Int) → Ending → Prop
  | no : PageSaid w w' rows none (.returned (.tuple #[.slice none 0 0, .bool false]))
  | yes (g : Nat) (xs : List Int) (hg : w.heap.size ≤ g) (hb : Blk w' g (xs.map I) 3) (hl : xs.length = rows) : PageSaid w w' rows (some xs) (.returned (.tuple #[.slice (some ⟨g, 0, none⟩) rows rows, .bool true]))

set_option maxRecDepth 20000 in
set_option maxHeartbeats 1000000 in
theorem pageRead_bad (C : Nat → Prop) (w : World) (v : Value) (l : List UInt8) (rows : Nat) (hC : ∀ i, C i → i < w.heap.size) (h : RowAt C false w 1 v l.length (l.map B)) (hl : l.length ≤ 1000000) (hk : 3 ≤ (Pl.rByte (l, false)).1) :
    Calls Tryz.prog 179 #[v, .int .i64 rows] w fun e w' => Ext w w' ∧ PageSaid w w' rows (Pl.readPage l rows) e := by
  have hq : ¬ C w.heap.size := fun e => Nat.lt_irrefl _ (hC _ e)
  have hb := rByte_lt (l, false)
  have HP : Hid (Pl.readPage l rows = none) := hide (by unfold Pl.readPage; simp only; rw [if_pos hk])
  go_enter Tryz.func179, Tryz.ntmps179
  go_wp2_with (first | (go_at_call 141; refine (newReader_any C _ v l h).mono ?_; rintro e w1 ⟨rfl, hr1, x1, z1⟩) | (go_at_call 172; refine (rbyte_any C _ w.heap.size (l, false) hq hr1 hl).mono ?_; rintro e w2 ⟨rfl, hr2, k2, z2⟩))
  go_ret2
  rw [HP.out]
  exact ⟨Kp.then x1 k2 (fun i hi e => by omega), .no⟩

set_option maxRecDepth 20000 in
set_option maxHeartbeats 1000000 in
theorem pageRead_0 (C : Nat → Prop) (w : World) (v : Value) (l : List UInt8) (rows : Nat) (hC : ∀ i, C i → i < w.heap.size) (h : RowAt C false w 1 v l.length (l.map B)) (hl : l.length ≤ 1000000) (h1 : 1 ≤ rows) (h20 : rows ≤ 20) (hk : (Pl.rByte (l, false)).1 = 0) :
    Calls Tryz.prog 179 #[v, .int .i64 rows] w fun e w' => Ext w w' ∧ PageSaid w w' rows (Pl.readPage l rows) e := by
  have hq : ¬ C w.heap.size := fun e => Nat.lt_irrefl _ (hC _ e)
  have hbl := rByte_len (l, false)
  have hi : ∀ u, (Instr.index 220 waysV (.int .u8 0)).run Tryz.prog u = .ok (.agg #[F 154, F 155]) u := fun u => index_kind8 u 0 _ _ (by omega) rfl rfl
  have hfd : ∀ u, (Instr.field 219 (.agg #[F 154, F 155]) 1).run Tryz.prog u = .ok (F 155) u := fun u => field_read u _ _
  have hlen := rplainS_len rows (Pl.rByte (l, false)).2
  have HP : Hid (Pl.readPage l rows = if Pl.rRight (Pl.iter Pl.plainS rows ([], (Pl.rByte (l, false)).2)).2 = true then some (Pl.iter Pl.plainS rows ([], (Pl.rByte (l, false)).2)).1 else none) := hide (by unfold Pl.readPage; simp only [hk]; rfl)
  go_enter Tryz.func179, Tryz.ntmps179
  go_wp2_with (first | (go_at_call 141; refine (newReader_any C _ v l h).mono ?_; rintro e w1 ⟨rfl, hr1, x1, z1⟩) | (go_at_call 172; refine (rbyte_any C _ w.heap.size (l, false) hq hr1 hl).mono ?_; rw [hk]; rintro e w2 ⟨rfl, hr2, k2, z2⟩) | (refine wpList_make_blk _ rfl _ _ _ rfl 3 (.int .i64 0) 8 Tryz.underlying243 rfl rfl rows _ _ rfl rfl rfl rfl (by omega) (by omega) ?_; intro w3 b3 x3 z3) | (go_at_call 139; refine (ways_any _).mono ?_; rintro e w4 ⟨rfl, x4⟩))
  have hC4 : ∀ i, C i → i ≠ w.heap.size := fun i hi e => hq (e ▸ hi)
  have hg : ¬ C (w.heap.size + 1) := fun e => by have := hC _ e; omega
  have x2 : Ext w w2 := Kp.then x1 k2 (fun i hi e => by omega)
  have z2' : w2.heap.size = w.heap.size + 1 := by omega
  rw [z2'] at b3
  have hrd := readPlain_any C w4 w.heap.size (w.heap.size + 1) (Pl.rByte (l, false)).2 (List.replicate rows (.int .i64 0)) hq hg (by omega) ((hr2.kept x3 id (fun _ _ => id)).kept x4 id (fun _ _ => id)) (by omega) (b3.kept x4 id) (by simp; omega) (by simp; omega)
  rw [List.length_replicate] at hrd
  refine hrd.mono ?_
  rintro e w5 ⟨rfl, hr5, b5, k5, z5⟩
  have x5 : Ext w w5 := Kp.then ((x2.trans x3).trans x4) k5 (fun i hi e => by omega)
  clear hrd z2 z2' z3 z1 z5 hr1 hr2 b3 hi hfd
  cases hR : Pl.rRight (Pl.iter Pl.plainS rows ([], (Pl.rByte (l, false)).2)).2 with
  | true =>
    go_wp2_with (go_at_call 145; refine (rright_any C _ w.heap.size _ hr5 (by omega)).mono ?_; rw [hR]; rintro e w6 ⟨rfl, rfl⟩)
    go_ret2
    rw [HP.out, if_pos hR]
    exact ⟨x5, .yes _ _ (by omega) b5 hlen.1⟩
  | false =>
    go_wp2_with (go_at_call 145; refine (rright_any C _ w.heap.size _ hr5 (by omega)).mono ?_; rw [hR]; rintro e w6 ⟨rfl, rfl⟩)
    go_ret2
    rw [HP.out, if_neg (by rw [hR]; exact Bool.false_ne_true)]
    exact ⟨x5, .no⟩

theorem rruns_len (f : Nat) : ∀ (left : Nat) (xs : List Int) (r : Pl.Rdr), left ≤ f → (Pl.runsR f left (xs, r)).1.length = xs.length + left ∧ (Pl.runsR f left (xs, r)).2.1.length ≤ r.1.length := by
  induction f with
  | zero => intro left xs r h; obtain rfl : left = 0 := by omega
            exact ⟨rfl, Nat.le_refl _⟩
  | succ f ih =>
    intro left xs r h
    by_cases h0 : left = 0
    · subst h0; rw [runsR_done]; exact ⟨rfl, Nat.le_refl _⟩
    · rw [runsR_step f left xs r (by omega)]
      have hk := rNum_le 1 left r (by omega)
      have hkl := rNum_len 1 left r
      have hnl := rNum_len 0 1099511627775 (Pl.rNum 1 left r).2
      have h2 := ih (left - (Pl.rNum 1 left r).1) (xs ++ List.replicate (Pl.rNum 1 left r).1 ((Pl.rNum 0 1099511627775 (Pl.rNum 1 left r).2).1 : Int)) (Pl.rNum 0 1099511627775 (Pl.rNum 1 left r).2).2 (by omega)
      rw [List.length_append, List.length_replicate] at h2
      exact ⟨by rw [h2.1]; omega, Nat.le_trans h2.2 (Nat.le_trans hnl hkl)⟩

set_option maxRecDepth 20000 in
set_option maxHeartbeats 1000000 in
theorem pageRead_1 (C : Nat → Prop) (w : World) (v : Value) (l : List UInt8) (rows : Nat) (hC : ∀ i, C i → i < w.heap.size) (h : RowAt C false w 1 v l.length (l.map B)) (hl : l.length ≤ 1000000) (h1 : 1 ≤ rows) (h20 : rows ≤ 20) (hk : (Pl.rByte (l, false)).1 = 1) :
    Calls Tryz.prog 179 #[v, .int .i64 rows] w fun e w' => Ext w w' ∧ PageSaid w w' rows (Pl.readPage l rows) e := by
  have hq : ¬ C w.heap.size := fun e => Nat.lt_irrefl _ (hC _ e)
  have hbl := rByte_len (l, false)
  have hi : ∀ u, (Instr.index 220 waysV (.int .u8 1)).run Tryz.prog u = .ok (.agg #[F 156, F 157]) u := fun u => index_kind8 u 1 _ _ (by omega) rfl rfl
  have hfd : ∀ u, (Instr.field 219 (.agg #[F 156, F 157]) 1).run Tryz.prog u = .ok (F 157) u := fun u => field_read u _ _
  have hlen := rruns_len rows rows [] (Pl.rByte (l, false)).2 (Nat.le_refl _)
  have HP : Hid (Pl.readPage l rows = if Pl.rRight (Pl.runsR rows rows ([], (Pl.rByte (l, false)).2)).2 = true then some (Pl.runsR rows rows ([], (Pl.rByte (l, false)).2)).1 else none) := hide (by unfold Pl.readPage; simp only [hk]; rfl)
  go_enter Tryz.func179, Tryz.ntmps179
  go_wp2_with (first | (go_at_call 141; refine (newReader_any C _ v l h).mono ?_; rintro e w1 ⟨rfl, hr1, x1, z1⟩) | (go_at_call 172; refine (rbyte_any C _ w.heap.size (l, false) hq hr1 hl).mono ?_; rw [hk]; rintro e w2 ⟨rfl, hr2, k2, z2⟩) | (refine wpList_make_blk _ rfl _ _ _ rfl 3 (.int .i64 0) 8 Tryz.underlying243 rfl rfl rows _ _ rfl rfl rfl rfl (by omega) (by omega) ?_; intro w3 b3 x3 z3) | (go_at_call 139; refine (ways_any _).mono ?_; rintro e w4 ⟨rfl, x4⟩))
  have hC4 : ∀ i, C i → i ≠ w.heap.size := fun i hi e => hq (e ▸ hi)
  have hg : ¬ C (w.heap.size + 1) := fun e => by have := hC _ e; omega
  have x2 : Ext w w2 := Kp.then x1 k2 (fun i hi e => by omega)
  have z2' : w2.heap.size = w.heap.size + 1 := by omega
  rw [z2'] at b3
  have hrd := readRuns_any C w4 w.heap.size (w.heap.size + 1) (Pl.rByte (l, false)).2 (List.replicate rows (.int .i64 0)) hq hg (by omega) ((hr2.kept x3 id (fun _ _ => id)).kept x4 id (fun _ _ => id)) (by omega) (b3.kept x4 id) (by simp; omega) (by simp; omega)
  rw [List.length_replicate] at hrd
  refine hrd.mono ?_
  rintro e w5 ⟨rfl, hr5, b5, k5, z5⟩
  have x5 : Ext w w5 := Kp.then ((x2.trans x3).trans x4) k5 (fun i hi e => by omega)
  clear hrd z2 z2' z3 z1 z5 hr1 hr2 b3 hi hfd
  cases hR : Pl.rRight (Pl.runsR rows rows ([], (Pl.rByte (l, false)).2)).2 with
  | true =>
    go_wp2_with (go_at_call 145; refine (rright_any C _ w.heap.size _ hr5 (by omega)).mono ?_; rw [hR]; rintro e w6 ⟨rfl, rfl⟩)
    go_ret2
    rw [HP.out, if_pos hR]
    exact ⟨x5, .yes _ _ (by omega) b5 (by simpa using hlen.1)⟩
  | false =>
    go_wp2_with (go_at_call 145; refine (rright_any C _ w.heap.size _ hr5 (by omega)).mono ?_; rw [hR]; rintro e w6 ⟨rfl, rfl⟩)
    go_ret2
    rw [HP.out, if_neg (by rw [hR]; exact Bool.false_ne_true)]
    exact ⟨x5, .no⟩

set_option maxRecDepth 20000 in
set_option maxHeartbeats 1000000 in
theorem pageRead_2 (C : Nat → Prop) (w : World) (v : Value) (l : List UInt8) (rows : Nat) (hC : ∀ i, C i → i < w.heap.size) (h : RowAt C false w 1 v l.length (l.map B)) (hl : l.length ≤ 1000000) (h1 : 1 ≤ rows) (h20 : rows ≤ 20) (hk : (Pl.rByte (l, false)).1 = 2) :
    Calls Tryz.prog 179 #[v, .int .i64 rows] w fun e w' => Ext w w' ∧ PageSaid w w' rows (Pl.readPage l rows) e := by
  have hq : ¬ C w.heap.size := fun e => Nat.lt_irrefl _ (hC _ e)
  have hbl := rByte_len (l, false)
  have hi : ∀ u, (Instr.index 220 waysV (.int .u8 2)).run Tryz.prog u = .ok (.agg #[F 158, F 159]) u := fun u => index_kind8 u 2 _ _ (by omega) rfl rfl
  have hfd : ∀ u, (Instr.field 219 (.agg #[F 158, F 159]) 1).run Tryz.prog u = .ok (F 159) u := fun u => field_read u _ _
  have hlen := rrisingS_len rows (Pl.rByte (l, false)).2
  have HP : Hid (Pl.readPage l rows = if Pl.rRight (Pl.iter Pl.risingS rows ([], 0, (Pl.rByte (l, false)).2)).2.2 = true then some (Pl.iter Pl.risingS rows ([], 0, (Pl.rByte (l, false)).2)).1 else none) := hide (by unfold Pl.readPage; simp only [hk]; rfl)
  go_enter Tryz.func179, Tryz.ntmps179
  go_wp2_with (first | (go_at_call 141; refine (newReader_any C _ v l h).mono ?_; rintro e w1 ⟨rfl, hr1, x1, z1⟩) | (go_at_call 172; refine (rbyte_any C _ w.heap.size (l, false) hq hr1 hl).mono ?_; rw [hk]; rintro e w2 ⟨rfl, hr2, k2, z2⟩) | (refine wpList_make_blk _ rfl _ _ _ rfl 3 (.int .i64 0) 8 Tryz.underlying243 rfl rfl rows _ _ rfl rfl rfl rfl (by omega) (by omega) ?_; intro w3 b3 x3 z3) | (go_at_call 139; refine (ways_any _).mono ?_; rintro e w4 ⟨rfl, x4⟩))
  have hC4 : ∀ i, C i → i ≠ w.heap.size := fun i hi e => hq (e ▸ hi)
  have hg : ¬ C (w.heap.size + 1) := fun e => by have := hC _ e; omega
  have x2 : Ext w w2 := Kp.then x1 k2 (fun i hi e => by omega)
  have z2' : w2.heap.size = w.heap.size + 1 := by omega
  rw [z2'] at b3
  have hrd := readRising_any C w4 w.heap.size (w.heap.size + 1) (Pl.rByte (l, false)).2 (List.replicate rows (.int .i64 0)) hq hg (by omega) ((hr2.kept x3 id (fun _ _ => id)).kept x4 id (fun _ _ => id)) (by omega) (b3.kept x4 id) (by simp; omega) (by simp; omega)
  rw [List.length_replicate] at hrd
  refine hrd.mono ?_
  rintro e w5 ⟨rfl, hr5, b5, k5, z5⟩
  have x5 : Ext w w5 := Kp.then ((x2.trans x3).trans x4) k5 (fun i hi e => by omega)
  clear hrd z2 z2' z3 z1 z5 hr1 hr2 b3 hi hfd
  cases hR : Pl.rRight (Pl.iter Pl.risingS rows ([], 0, (Pl.rByte (l, false)).2)).2.2 with
  | true =>
    go_wp2_with (go_at_call 145; refine (rright_any C _ w.heap.size _ hr5 (by omega)).mono ?_; rw [hR]; rintro e w6 ⟨rfl, rfl⟩)
    go_ret2
    rw [HP.out, if_pos hR]
    exact ⟨x5, .yes _ _ (by omega) b5 hlen.1⟩
  | false =>
    go_wp2_with (go_at_call 145; refine (rright_any C _ w.heap.size _ hr5 (by omega)).mono ?_; rw [hR]; rintro e w6 ⟨rfl, rfl⟩)
    go_ret2
    rw [HP.out, if_neg (by rw [hR]; exact Bool.false_ne_true)]
    exact ⟨x5, .no⟩

theorem pageRead_any (C : Nat → Prop) (w : World) (v : Value) (l : List UInt8) (rows : Nat) (hC : ∀ i, C i → i < w.heap.size) (h : RowAt C false w 1 v l.length (l.map B)) (hl : l.length ≤ 1000000) (h1 : 1 ≤ rows) (h20 : rows ≤ 20) :
    Calls Tryz.prog 179 #[v, .int .i64 rows] w fun e w' => Ext w w' ∧ PageSaid w w' rows (Pl.readPage l rows) e := by
  by_cases h3 : 3 ≤ (Pl.rByte (l, false)).1
  · exact pageRead_bad C w v l rows hC h hl h3
  · have hk : (Pl.rByte (l, false)).1 = 0 ∨ (Pl.rByte (l, false)).1 = 1 ∨ (Pl.rByte (l, false)).1 = 2 := by omega
    rcases hk with hk | hk | hk
    · exact pageRead_0 C w v l rows hC h hl h1 h20 hk
    · exact pageRead_1 C w v l rows hC h hl h1 h20 hk
    · exact pageRead_2 C w v l rows hC h hl h1 h20 hk
end Go.Proofs.YthicgffppmbamaaGreat

namespace Go.Proofs.YthicgffppmbamaaGreat
open Go.RowKit

set_option maxRecDepth 20000 in
set_option maxHeartbeats 400000 in
theorem sumRow_any (C : Nat → Prop) (w : World) (v : Value) (bs : List UInt8) (h : RowAt C false w 1 v bs.length (bs.map B)) (hb : bs.length ≤ 1000000) :
    Calls Tryz.prog 153 #[v] w fun e w' => e = .returned (.int .u32 (Pl.sumOf bs)) ∧ w' = w := by
  obtain ⟨-, ao, cap, rfl, h1, h3⟩ := h
  have hc : ∀ k, k < bs.length → ∃ g off, ao = some ⟨g, off, none⟩ ∧ w.cell? ⟨g, off + k, none⟩ = some (.int .u8 ((bs.getD k 0).toNat)) := by
    intro k hk
    obtain ⟨g, off, rfl, -, -, hc, -⟩ := h3 (by omega)
    refine ⟨g, off, rfl, ?_⟩
    rw [hc k (by omega)]
    simp [B, List.getElem?_eq_getElem hk]
  clear h3
  have HC := hide hc
  clear hc
  go_enter Tryz.func153, Tryz.ntmps153
  go_wp2
  go_loop [3, 8] (fun t i => ∃ k : Nat, k ≤ bs.length ∧ i = .int .i64 k ∧ t = .int .u32 (Pl.sumOf (bs.take k))) (fun _ i => bs.length - (intOf i).toNat)
  case atStart => exact ⟨0, Nat.zero_le _, rfl, rfl⟩
  case round =>
    obtain ⟨k, hk, rfl, rfl⟩ := hrel
    have hlt := Pl.sumOf_lt (bs.take k)
    by_cases hkl : k < bs.length
    · obtain ⟨g, off, rfl, hck⟩ := HC.out k hkl
      go_wp2_with fail
      go_round
      case rel =>
        refine ⟨k + 1, by omega, by go_num, ?_⟩
        rw [sum_take bs k hkl, ← sum_step _ _ hlt]
      case measure => simp [intOf]; omega
    · go_wp2_with fail
      go_ret
      rw [List.take_of_length_le (by omega)]
      exact ⟨rfl, rfl⟩

/-- what file.Page.Read answers -/
def fpageRead (sum : Nat) (l : List UInt8) (rows : Nat) : Option (List Int) := if Pl.sumOf l = sum then Pl.readPage l rows else none

set_option maxRecDepth 20000 in
set_option maxHeartbeats 1000000 in
theorem fpageRead_any (C : Nat → Prop) (w : World) (v : Value) (l : List UInt8) (rows place length sum : Nat) (hC : ∀ i, C i → i < w.heap.size) (h : RowAt C false w 1 v l.length (l.map B)) (hl : l.length ≤ 1000000) (h1 : 1 ≤ rows) (h20 : rows ≤ 20) (_hsum : sum < 4294967296) :
    Calls Tryz.prog 176 #[.agg #[.int .i64 place, .int .i64 length, .int .u32 sum], v, .int .i64 rows] w fun e w' => Ext w w' ∧ PageSaid w w' rows (fpageRead sum l rows) e := by
  have hlt := Pl.sumOf_lt l
  by_cases hs : Pl.sumOf l = sum
  · have HP : Hid (fpageRead sum l rows = Pl.readPage l rows) := hide (by unfold fpageRead; rw [if_pos hs])
    go_enter Tryz.func176, Tryz.ntmps176
    go_wp2_with fail
    have x0 : Ext w (w.alloc (.cells #[.int .i64 place, .int .i64 length, .int .u32 sum] 250)) := (Kp.refl _ _).alloc _
    have c2 : (w.alloc (.cells #[.int .i64 place, .int .i64 length, .int .u32 sum] 250)).cell? ⟨w.heap.size, 2, none⟩ = some (.int .u32 sum) := World.cell?_alloc_new w _ _ 2
    generalize w.alloc (.cells #[.int .i64 place, .int .i64 length, .int .u32 sum] 250) = W1 at *
    have hrow : ∀ n, RowAt C false (W1.drewN n) 1 v l.length (l.map B) := fun n => h.go (S := fun _ => False) (x0.drewN n) (fun _ _ f => f) (fun _ _ e => e)
    go_quiet ((go_at_call 153; exact Calls.quiet_of_same (sumRow_any C _ v l (hrow _) hl)))
    go_wp2_with fail
    refine (pageRead_any C (W1.drewN nq) v l rows (fun i hi => Nat.lt_of_lt_of_le (hC i hi) x0.size) (hrow nq) hl h1 h20).mono ?_
    rintro e w2 ⟨x2, ps⟩
    have x02 := (x0.drewN nq).trans x2
    have hps : PageSaid w w2 rows (Pl.readPage l rows) e := by
      generalize Pl.readPage l rows = pp at ps
      cases ps with
      | no => exact .no
      | yes g xs hg hb hl => exact .yes g xs (Nat.le_trans x0.size hg) hb hl
    have HQ := hide hps
    clear hps ps
    have ht : ∃ a b, e = .returned (.tuple #[a, b]) := by
      have := HQ.out
      generalize Pl.readPage l rows = pp at this
      cases this <;> exact ⟨_, _, rfl⟩
    obtain ⟨a, b, rfl⟩ := ht
    go_wp2_with fail
    go_ret2
    rw [HP.out]
    exact ⟨x02, HQ.out⟩
  · have HP : Hid (fpageRead sum l rows = none) := hide (by unfold fpageRead; rw [if_neg hs])
    go_enter Tryz.func176, Tryz.ntmps176
    go_wp2_with fail
    have x0 : Ext w (w.alloc (.cells #[.int .i64 place, .int .i64 length, .int .u32 sum] 250)) := (Kp.refl _ _).alloc _
    have c2 : (w.alloc (.cells #[.int .i64 place, .int .i64 length, .int .u32 sum] 250)).cell? ⟨w.heap.size, 2, none⟩ = some (.int .u32 sum) := World.cell?_alloc_new w _ _ 2
    generalize w.alloc (.cells #[.int .i64 place, .int .i64 length, .int .u32 sum] 250) = W1 at *
    have hrow : ∀ n, RowAt C false (W1.drewN n) 1 v l.length (l.map B) := fun n => h.go (S := fun _ => False) (x0.drewN n) (fun _ _ f => f) (fun _ _ e => e)
    go_quiet ((go_at_call 153; exact Calls.quiet_of_same (sumRow_any C _ v l (hrow _) hl)))
    go_wp2_with fail
    go_ret2
    rw [HP.out]
    exact ⟨x0.drewN _, .no⟩

set_option maxRecDepth 20000 in
set_option maxHeartbeats 400000 in
theorem fpageEnd_any (w : World) (place length sum : Nat) (h1 : place ≤ 1099511627775) (h2 : length ≤ 1099511627775) :
    Calls Tryz.prog 173 #[.agg #[.int .i64 place, .int .i64 length, .int .u32 sum]] w fun e w' => e = .returned (.int .i64 ((place + length : Nat) : Int)) ∧ Ext w w' := by
  go_enter Tryz.func173, Tryz.ntmps173
  go_wp2_with fail
  go_ret
  refine ⟨?_, (Kp.refl _ _).alloc _⟩
  show Ending.returned (.int .i64 ((place : Int) + length)) = .returned (.int .i64 ((place + length : Nat) : Int))
  simp
end Go.Proofs.YthicgffppmbamaaGreat

namespace Go.Proofs.YthicgffppmbamaaGreat
open Go.RowKit


/-- the cells of a page of a footer -/
def fpCells (x : Pl.FPage) : List Value := [I x.place, I x.length, .int .u32 x.sum]
def zFp : Value := .agg #[.int .i64 0, .int .i64 0, .int .u32 0]
theorem infoFp : (Tryz.prog.info? 250).map (fun i => (i.zero, i.size, i.bytes)) = some (some zFp, 3, 24) := by kernel_rfl
theorem fpageS_len (foot : Nat) (n : Nat) (r : Pl.Rdr) : (Pl.iter (Pl.fpageS foot) n ([], r)).1.length = n ∧ (Pl.iter (Pl.fpageS foot) n ([], r)).2.1.length ≤ r.1.length := by
  induction n with
  | zero => exact ⟨rfl, Nat.le_refl _⟩
  | succ n ih =>
    refine ⟨by simp [Pl.iter, Pl.fpageS, ih.1], ?_⟩
    refine Nat.le_trans ?_ ih.2
    have hs : ∀ k r, (Pl.iter Pl.rSumS k (0, r)).2.1.length ≤ r.1.length := by
      intro k
      induction k with
      | zero => intro r; exact Nat.le_refl _
      | succ k ih => intro r; exact Nat.le_trans (rByte_len _) (ih r)
    exact Nat.le_trans (hs 4 _) (Nat.le_trans (rNum_len _ _ _) (rNum_len _ _ _))

/-- one element in a new block, whose number is told otherwise -/
theorem src_elemN' {P : Program} (w : World) (b : Nat) (hb : b = w.heap.size) (t e : TypeId) (ht : P.underlying t = some (.slice e)) (arr : Array Value) (cs : List Value) (ha : arr = cs.toArray) (h1 : ∀ u ∈ cs, u.oneCell' = true) : Src P cs.length t (.slice (some ⟨b, 0, none⟩) 1 1) 1 cs (w.alloc (.cells arr e)) := by
  subst hb
  exact src_elemA w t e ht arr cs ha h1

set_option maxRecDepth 20000 in
set_option maxHeartbeats 2000000 in
theorem readGroup_any (C : Nat → Prop) (w : World) (q : Nat) (r : Pl.Rdr) (hC : ∀ i, C i → i < w.heap.size) (hq : ¬ C q) (h : IsRdr C w q r) (hl : r.1.length ≤ 1000000) (n foot : Nat) (hn : n ≤ 4) (hf4 : 4 ≤ foot) (hf : foot ≤ 1000000) :
    Calls Tryz.prog 144 #[PtrTo q 0, .int .i64 n, .int .i64 foot] w fun e w' => ∃ pv, e = .returned (.agg #[I (Pl.fgroup n foot r).1.rows, pv]) ∧ Own w' 3 pv n ((Pl.fgroup n foot r).1.pages.flatMap fpCells) ∧ (∀ g, pv.ownBlock = some g → w.heap.size ≤ g) ∧ IsRdr C w' q (Pl.fgroup n foot r).2 ∧ Kp (fun k => k = q) w w' := by
  have hqs : q < w.heap.size := by obtain ⟨v, a, b⟩ := h; exact a.lt
  have hlr := rNum_len 1 20 r
  have HP : Hid (Pl.fgroup n foot r = (⟨(Pl.rNum 1 20 r).1, (Pl.iter (Pl.fpageS foot) n ([], (Pl.rNum 1 20 r).2)).1⟩, (Pl.iter (Pl.fpageS foot) n ([], (Pl.rNum 1 20 r).2)).2)) := hide rfl
  go_enter Tryz.func144, Tryz.ntmps144
  go_wp2_with (go_at_call 142; refine (rnum_any C _ q r hq (h.kept ((Kp.refl (fun _ => False) _).alloc _) id (fun _ _ => id)) hl 1 20 20 (by omega) (by omega) (.inl rfl) (by omega)).mono ?_; rintro e w1 ⟨rfl, hr1, k1, z1⟩)
  have hz1 : w1.heap.size = w.heap.size + 1 := by simpa using z1
  have kW : Kp (fun k => k = q) w (w1.alloc (.cells #[.int .i64 (Pl.rNum 1 20 r).1, .slice none 0 0] 229)) := (((Kp.refl _ _).alloc _).trans k1).alloc _
  have bG : Blk (w1.alloc (.cells #[.int .i64 (Pl.rNum 1 20 r).1, .slice none 0 0] 229)) (w.heap.size + 1) [.int .i64 (Pl.rNum 1 20 r).1, .slice none 0 0] 229 := by
    have := Blk.of_alloc w1 [.int .i64 (Pl.rNum 1 20 r).1, .slice none 0 0] 229
    rwa [hz1] at this
  have b0 : Blk (w1.alloc (.cells #[.int .i64 (Pl.rNum 1 20 r).1, .slice none 0 0] 229)) w.heap.size [.int .i64 0, .slice none 0 0] 229 :=
    ((Blk.of_alloc w [.int .i64 0, .slice none 0 0] 229).kept k1 (by omega)).kept (S := fun _ => False) ((Kp.refl _ _).alloc _) id
  have hrW : IsRdr C (w1.alloc (.cells #[.int .i64 (Pl.rNum 1 20 r).1, .slice none 0 0] 229)) q (Pl.rNum 1 20 r).2 := hr1.kept (S := fun _ => False) ((Kp.refl _ _).alloc _) id (fun _ _ => id)
  generalize w1.alloc (.cells #[.int .i64 (Pl.rNum 1 20 r).1, .slice none 0 0] 229) = W at *
  clear hr1 k1 z1 hz1 h
  generalize hR : Pl.rNum 1 20 r = R0 at *
  obtain ⟨rows, r0⟩ := R0
  simp only at *
  go_loopw [14] (fun i wr => ∃ (k : Nat) (pv : Value), i = .int .i64 k ∧ k ≤ n ∧ IsRdr C wr q (Pl.iter (Pl.fpageS foot) k ([], r0)).2 ∧ Blk wr (w.heap.size + 1) [.int .i64 rows, pv] 229 ∧ Blk wr w.heap.size [.int .i64 0, .slice none 0 0] 229 ∧ Own wr 3 pv k ((Pl.iter (Pl.fpageS foot) k ([], r0)).1.flatMap fpCells) ∧ (∀ g, pv.ownBlock = some g → w.heap.size + 2 ≤ g) ∧ Kp (fun k => k = q) w wr) (fun i _ => n - (intOf i).toNat)
  case atStart => exact ⟨0, _, rfl, by omega, hrW, bG, b0, Own.nil _ _, fun g e => by simp [Value.ownBlock] at e, kW⟩
  case round =>
    obtain ⟨k, pv, rfl, hk, hr, hbG, hb0, ho, hg, kk⟩ := hrel
    have hlen := fpageS_len foot k r0
    clear hrW bG b0 kW
    obtain ⟨ao, cap, rfl, hcap⟩ := ho.shape
    have HS : Hid (Pl.iter (Pl.fpageS foot) (k + 1) ([], r0) = Pl.fpageS foot (Pl.iter (Pl.fpageS foot) k ([], r0))) := hide rfl
    generalize hst : Pl.iter (Pl.fpageS foot) k ([], r0) = st at *
    obtain ⟨xs, r'⟩ := st
    have HT := hide hst
    clear hst
    simp only at *
    by_cases hkl : k < n
    · have hp := rNum_ge 4 (foot - 1) r'
      have hpl := rNum_len 4 (foot - 1) r'
      have HA : Hid (Pl.fpageS foot (xs, r') = (xs ++ [⟨(Pl.rNum 4 (foot - 1) r').1, (Pl.rNum 1 (foot - (Pl.rNum 4 (foot - 1) r').1) (Pl.rNum 4 (foot - 1) r').2).1, (Pl.rSum (Pl.rNum 1 (foot - (Pl.rNum 4 (foot - 1) r').1) (Pl.rNum 4 (foot - 1) r').2).2).1⟩], (Pl.rSum (Pl.rNum 1 (foot - (Pl.rNum 4 (foot - 1) r').1) (Pl.rNum 4 (foot - 1) r').2).2).2)) := hide rfl
      generalize hA : Pl.rNum 4 (foot - 1) r' = A at *
      obtain ⟨pl, r1⟩ := A
      simp only at *
      have hll := rNum_len 1 (foot - pl) r1
      have hlg := rNum_ge 1 (foot - pl) r1
      generalize hB : Pl.rNum 1 (foot - pl) r1 = N at *
      obtain ⟨ln, r2⟩ := N
      simp only at *
      go_wp2_with (go_at_call 142; first | (have hr1' := hr1; go_must (refine ((rnum_any C _ q r1 hq hr1 (by omega) 1 (foot - pl) (foot - pl) (by omega) (by omega) (.inl (by omega)) (by omega)).mono ?_)); rw [hB]; rintro e w2 ⟨rfl, hr2, k2, z2⟩; skip) | (go_must (refine (rnum_any C _ q r' hq hr (by omega) 4 (foot - 1) (foot - 1) (by omega) (by omega) (.inl (by omega)) (by omega)).mono ?_); rw [hA]; rintro e w1 ⟨rfl, hr1, k1, z1⟩; skip))
      have k12 : Kp (fun k => k = q) wr w2 := k1.trans k2
      have hG2 := (hbG.kept k12 (by omega))
      have h02 := (hb0.kept k12 (by omega))
      have ho2 := ho.kept k12 (fun g e hq' => by have := hg g e; omega)
      have kk2 := kk.trans k12
      clear hbG hb0 ho kk k12 k1 k2 z1 z2 hr1 hr1' hr
      have c1 := hG2.cell 1
      have f1 := hG2.free 1
      simp only [List.getElem?_cons_zero, List.getElem?_cons_succ] at c1
      have hS : ∀ u, Kp (fun k => k ≠ w.heap.size + 1) w2 u → u.cell? ⟨w.heap.size + 1, 1, none⟩ = some (.slice ao k cap) := fun u hu => hu.cell c1 (by simp)
      have HC := hide hS
      clear hS
      have hK1 : Kp (fun k => k ≠ w.heap.size + 1) w2 w2.drew := (Kp.refl _ _).drew
      have hgl := hG2.lt
      refine wp_region_late (n := 10) (Kp (fun k => k ≠ w.heap.size + 1) w2) (by kernel_rfl) ?_
      refine Late.take (i := 0) (oi := ⟨some 25, .fieldAddr 229 (.tmp 7) 1, 0, "footer.go:51", #[], none⟩) (v := ?_) [10] rfl (by kernel_rfl) (by kernel_rfl) (by decide) (by decide) (by kernel_rfl) (by kernel_rfl) (by kernel_rfl) (fun _ _ _ h => h) rfl ?_ hK1 ?_
      rotate_left
      · (intro u hu; have u1 := (unhide HC) u hu; go_simp; first | done | with_reducible rfl)
      try simp only [Act.put, List.setIfInBounds_toArray, List.set_cons_zero, List.set_cons_succ]
      refine Late.take (i := 1) (oi := ⟨some 26, .load 227 (.tmp 25), 227, "footer.go:51", #[⟨0, .data⟩], none⟩) (v := ?_) [10] rfl (by kernel_rfl) (by kernel_rfl) (by decide) (by decide) (by kernel_rfl) (by kernel_rfl) (by kernel_rfl) (fun _ _ _ h => h) rfl ?_ hK1 ?_
      rotate_left
      · (intro u hu; have u1 := (unhide HC) u hu; go_simp; first | done | with_reducible rfl)
      try simp only [Act.put, List.setIfInBounds_toArray, List.set_cons_zero, List.set_cons_succ]
      refine Late.take (i := 2) (oi := ⟨some 27, .move (.tmp 8), 3, "footer.go:51", #[], none⟩) (v := ?_) [10] rfl (by kernel_rfl) (by kernel_rfl) (by decide) (by decide) (by kernel_rfl) (by kernel_rfl) (by kernel_rfl) (fun _ _ _ h => h) rfl ?_ hK1 ?_
      rotate_left
      · (intro u hu; have u1 := (unhide HC) u hu; go_simp; first | done | with_reducible rfl)
      try simp only [Act.put, List.setIfInBounds_toArray, List.set_cons_zero, List.set_cons_succ]
      refine Late.take (i := 3) (oi := ⟨some 28, .move (.tmp 9), 3, "footer.go:51", #[], none⟩) (v := ?_) [10] rfl (by kernel_rfl) (by kernel_rfl) (by decide) (by decide) (by kernel_rfl) (by kernel_rfl) (by kernel_rfl) (fun _ _ _ h => h) rfl ?_ hK1 ?_
      rotate_left
      · (intro u hu; have u1 := (unhide HC) u hu; go_simp; first | done | with_reducible rfl)
      try simp only [Act.put, List.setIfInBounds_toArray, List.set_cons_zero, List.set_cons_succ]
      refine Late.take (i := 4) (oi := ⟨some 29, .move (.tmp 0), 225, "footer.go:51", #[], none⟩) (v := ?_) [10] rfl (by kernel_rfl) (by kernel_rfl) (by decide) (by decide) (by kernel_rfl) (by kernel_rfl) (by kernel_rfl) (fun _ _ _ h => h) rfl ?_ hK1 ?_
      rotate_left
      · (intro u hu; have u1 := (unhide HC) u hu; go_simp; first | done | with_reducible rfl)
      try simp only [Act.put, List.setIfInBounds_toArray, List.set_cons_zero, List.set_cons_succ]
      refine Late.one (i := 5) (o := ⟨some 30, .call { callee := .value (.func 161), args := #[.tmp 29], argTypes := #[225] }, 153, "footer.go:51", #[⟨4, .data⟩], none⟩) (by kernel_rfl) rfl (fun K hK => ?_)
      refine step_call_g rfl 161 #[PtrTo q 0] (by go_simp) ?_
      refine (rsum_any C w2.drew q r2 hq (hr2.kept (S := fun _ => False) (Kp.refl _ _).drew id (fun _ _ => id)) (by omega)).mono ?_
      rintro e w3 ⟨rfl, hr3, k3, z3⟩
      have x3 : Kp (fun k => k = q) w2 w3 := ((Kp.refl _ _).drew).trans k3
      have g3 : Kp (fun k => k ≠ w.heap.size + 1) w2 w3 := x3.mono (fun i _ hi => by omega)
      refine ⟨_, rfl, hK _ _ (fun _ => g3) ?_⟩
      clear hK K
      try simp only [Act.put, List.setIfInBounds_toArray, List.set_cons_zero, List.set_cons_succ]
      refine Late.one (i := 6) (o := ⟨some 31, .build 250 #[(0, .tmp 27), (1, .tmp 28), (2, .tmp 30)], 250, "footer.go:51", #[⟨2, .data⟩, ⟨3, .data⟩, ⟨5, .data⟩], none⟩) (by kernel_rfl) rfl (fun K hK => ?_)
      go_simp
      refine hK _ _ (fun _ => g3) ?_
      clear hK K
      try simp only [Act.put, List.setIfInBounds_toArray, List.set_cons_zero, List.set_cons_succ]
      refine Late.one (i := 7) (o := ⟨some 32, .buildSlice 227 1 #[(0, .tmp 31)], 227, "footer.go:51", #[⟨6, .data⟩], none⟩) (by kernel_rfl) rfl (fun K hK => ?_)
      go_simp
      refine hK _ _ (fun _ => g3.alloc _) ?_
      clear hK K
      try simp only [Act.put, List.setIfInBounds_toArray, List.set_cons_zero, List.set_cons_succ]
      have HZ : Hid (w2.heap.size = w3.heap.size) := hide z3.symm
      clear z3
      have hone : ∀ u ∈ fpCells ⟨pl, ln, (Pl.rSum r2).1⟩, u.oneCell' = true := by
        intro u hu
        simp [fpCells] at hu
        rcases hu with rfl | rfl | rfl <;> rfl
      have ho3 : Own (w3.alloc (.cells #[.int .i64 pl, .int .i64 ln, .int .u32 (Pl.rSum r2).1] 250)) 3 (.slice ao k cap) k (xs.flatMap fpCells) := (ho2.kept x3 (fun g e hq' => by have := hg g e; omega)).ext ((Kp.refl _ _).alloc _)
      refine Late.one (i := 8) (o := ⟨some 33, .call { callee := .builtin .append, args := #[.tmp 26, .tmp 32], argTypes := #[227, 227] }, 227, "footer.go:51", #[⟨1, .data⟩, ⟨7, .data⟩, ⟨5, .chain⟩], none⟩) (by kernel_rfl) rfl (fun K hK => ?_)
      refine step_append_g rfl _ _ 227 227 rfl 250 zFp 3 24 Tryz.underlying227 infoFp rfl _ _ _ (by rfl) ho3 _ (by rfl) 1 _ (src_elemN' w3 w2.heap.size HZ.out _ _ Tryz.underlying227 _ (fpCells ⟨pl, ln, (Pl.rSum r2).1⟩) rfl hone) (by omega) (by omega) ?_
      intro v' w4 o4 k4 s4
      have hav : ∀ g, (Value.slice ao k cap).ownBlock = some g → w.heap.size + 2 ≤ g := hg
      have g4 : Kp (fun k => k ≠ w.heap.size + 1) w2 w4 := (g3.alloc _).trans (k4.mono (fun i _ e => by have := hav i e; omega))
      refine hK _ _ (fun _ => g4) ?_
      clear hK K
      obtain ⟨a', c', rfl, hc'⟩ := o4.shape
      try simp only [Act.put, List.setIfInBounds_toArray, List.set_cons_zero, List.set_cons_succ]
      have c4 : w4.cell? ⟨w.heap.size + 1, 1, none⟩ = some (.slice ao k cap) := g4.cell c1 (by simp)
      have f4 : w4.frozen? ⟨w.heap.size + 1, 1, none⟩ = false := by rw [World.frozen?_of_block (w := w2) (a := ⟨w.heap.size + 1, 1, none⟩) (g4.block _ hgl (by simp))]; exact f1
      refine Late.one (i := 9) (o := ⟨some 34, .fieldAddr 229 (.tmp 7) 1, 0, "footer.go:51", #[⟨0, .phase⟩, ⟨1, .phase⟩, ⟨2, .phase⟩, ⟨3, .phase⟩, ⟨4, .phase⟩, ⟨5, .phase⟩, ⟨6, .phase⟩, ⟨7, .phase⟩, ⟨8, .phase⟩], none⟩) (by kernel_rfl) rfl (fun K hK => ?_)
      go_simp
      refine hK _ _ (fun _ => g4) ?_
      clear hK K
      try simp only [Act.put, List.setIfInBounds_toArray, List.set_cons_zero, List.set_cons_succ]
      refine Late.one (i := 10) (o := ⟨none, .store 227 (.tmp 34) (.tmp 33), 0, "footer.go:51", #[⟨9, .data⟩, ⟨8, .data⟩, ⟨8, .chain⟩, ⟨0, .phase⟩, ⟨1, .phase⟩, ⟨2, .phase⟩, ⟨3, .phase⟩, ⟨4, .phase⟩, ⟨5, .phase⟩, ⟨6, .phase⟩, ⟨7, .phase⟩, ⟨8, .phase⟩], none⟩) (by kernel_rfl) rfl (fun K hK => ?_)
      go_simp
      refine hK _ _ (fun h => absurd rfl h) ?_
      clear hK K
      try simp only [Act.put, List.setIfInBounds_toArray, List.set_cons_zero, List.set_cons_succ]
      refine Late.done (by kernel_rfl) ?_ _
      go_wp2_with fail
      have x4 : Kp (fun i => i = q ∨ (Value.slice ao k cap).ownBlock = some i) w2 w4 := ((x3.mono (fun _ _ e => .inl e)).alloc _).trans (k4.mono (fun _ _ e => .inr e))
      have hq4 : IsRdr C w4 q (Pl.rSum r2).2 := (hr3.kept (S := fun _ => False) ((Kp.refl _ _).alloc _) id (fun _ _ => id)).kept k4 (fun e => by have := hav q e; omega) (fun i hi e => by have := hav i e; have := hC i hi; omega)
      have hG4 : Blk w4 (w.heap.size + 1) [.int .i64 rows, .slice ao k cap] 229 := hG2.kept x4 (fun e => e.elim (fun e => by omega) (fun e => by have := hav _ e; omega))
      have h04 : Blk w4 w.heap.size [.int .i64 0, .slice none 0 0] 229 := h02.kept x4 (fun e => e.elim (fun e => by omega) (fun e => by have := hav _ e; omega))
      have kk4 : Kp (fun k => k = q) w w4 := kk2.then x4 (fun i hi e => e.elim id (fun e => by have := hav _ e; omega))
      have ks := kp_set' w4 (w.heap.size + 1) 1 (.slice a' (k + 1) c')
      have hsz := kk2.size
      refine ⟨⟨k + 1, .slice a' (k + 1) c', by go_num, by omega, ?_, hG4.set 1 _, h04.kept ks (by omega), ?_, ?_, kk4.then ks (fun i hi e => by omega)⟩, by simp [intOf]; omega⟩
      · rw [HS.out, HA.out]
        exact hq4.kept ks (by omega) (fun i hi e => by have := hC i hi; omega)
      · rw [HS.out, HA.out]
        simp only [List.flatMap_append, List.flatMap_cons, List.flatMap_nil, List.append_nil]
        refine o4.kept ks (fun g e => ?_)
        rcases s4 with e' | ⟨g', e1, e2⟩
        · rw [e'] at e; have := hav g e; omega
        · rw [e1] at e; simp only [Option.some.injEq] at e; subst e; simp at e2; have := HZ.out; omega
      · intro g e
        rcases s4 with e' | ⟨g', e1, e2⟩
        · rw [e'] at e; exact hav g e
        · rw [e1] at e; simp only [Option.some.injEq] at e; subst e; simp at e2; have := HZ.out; omega
    · obtain rfl : k = n := by omega
      have c0 := hbG.cell 0
      have c1 := hbG.cell 1
      have d0 := hb0.cell 0
      have d1 := hb0.cell 1
      have f0 := hb0.free 0
      have f1 := hb0.free 1
      simp only [List.getElem?_cons_zero, List.getElem?_cons_succ] at c0 c1 d0 d1
      go_wp2_with fail
      have b2 := (hb0.set 0 (.int .i64 rows)).set 1 (.slice ao k cap)
      have k2 := (kp_set' wr w.heap.size 0 (.int .i64 rows)).trans (kp_set' (wr.setCell ⟨w.heap.size, 0, none⟩ (.int .i64 rows)) w.heap.size 1 (.slice ao k cap))
      generalize (wr.setCell ⟨w.heap.size, 0, none⟩ (.int .i64 rows)).setCell ⟨w.heap.size, 1, none⟩ (.slice ao k cap) = w5 at *
      have e0 := b2.cell 0
      have e1 := b2.cell 1
      simp only [List.set_cons_zero, List.set_cons_succ, List.getElem?_cons_zero, List.getElem?_cons_succ] at e0 e1
      refine bodyPost_ret (v := .agg #[.int .i64 rows, .slice ao k cap]) (by simp [results, Tryz.results144, go_sem, e0, e1]) rfl ?_
      rw [HP.out]
      refine ⟨_, rfl, ?_, ?_, ?_, ?_⟩
      · rw [HT.out]; exact ho.kept k2 (fun g e => by have := hg g e; omega)
      · intro g e; have := hg g e; omega
      · rw [HT.out]; exact hr.kept k2 (by omega) (fun i hi e => by have := hC i hi; omega)
      · exact kk.then k2 (fun i hi e => by omega)
end Go.Proofs.YthicgffppmbamaaGreat

namespace Go.Proofs.YthicgffppmbamaaGreat
open Go.RowKit

/-- make([]T, n) among operations that are taken one by one -/
theorem step_make_g {ops : Array Oper} {o : Oper} {a : Act} {w : World} {K : Act → World → Prop} {Q : Exit → Act → World → Prop} {E : Prop} (hg : o.guard = none) (l c : Operand) (t : TypeId) (hop : o.op = Op.makeSlice t l c)
    (e : TypeId) (z : Value) (bytes : Nat) (h1 : Tryz.prog.underlying t = some (.slice e)) (h2 : (Tryz.prog.info? e).map (fun i => (i.zero, i.size, i.bytes)) = some (some z, 1, bytes)) (hz : z.cells = #[z])
    (n : Nat) (L C : Int) (hl : a.eval l = .int .i64 L) (hc : a.eval c = .int .i64 C) (hL : L = n) (hC : C = n) (hb : bytes * n ≤ 281474976710656) (hn : n ≤ 1000000000000000)
    (hK : K (a.put o.dst (.slice (some ⟨w.heap.size, 0, none⟩) n n)) (w.alloc (.cells (List.replicate n z).toArray e))) :
    if Region.wanted o (yielded ops a.tmps) = true then Oper.wp Tryz.prog o a w K Q else E := by
  have hw : Region.wanted o (yielded ops a.tmps) = true := by simp [Region.wanted, hg]
  rw [if_pos hw]
  obtain ⟨i, hi, hz0, hz1, hz2⟩ := info_parts h2
  subst hL
  subst hC
  have hrun := run_make (P := Tryz.prog) w t e i z h1 hi hz0 .i64 .i64 (n : Int) (n : Int) (by omega) (Int.le_refl _) (by rw [hz2]; omega) (by omega)
  rw [Int.toNat_natCast, hz1, Nat.mul_one, hz] at hrun
  have hm : madeCells #[z] n = (List.replicate n z).toArray := by
    apply Array.ext'
    rw [toList_madeCells_one]
  rw [hm] at hrun
  unfold Oper.wp
  simp [execOp, hop, hl, hc, hrun, Result.andThen]
  exact hK

def zGr : Value := .agg #[.int .i64 0, .slice none 0 0, .int .i64 0]
theorem infoGr : (Tryz.prog.info? 200).map (fun i => (i.zero, i.size, i.bytes)) = some (some zGr, 3, 40) := by kernel_rfl
theorem infoLi : (Tryz.prog.info? 46).map (fun i => (i.zero, i.size, i.bytes)) = some (some (.slice none 0 0), 1, 24) := by kernel_rfl
/-- a group of which nothing has come -/
def rg0 (cols n : Nat) : Pl.RGroup := ⟨n, List.replicate cols [], cols⟩
abbrev mkL (cols b : Nat) : Value := .slice (some ⟨b, 0, none⟩) cols cols
theorem groupRow_snoc (pvs : List Value) (l : List Pl.RGroup) (pv : Value) (g : Pl.RGroup) (h : pvs.length = l.length) : groupRow (pvs ++ [pv]) (l ++ [g]) = groupRow pvs l ++ [I g.rows, pv, I g.missing] := by
  unfold groupRow
  rw [List.zipWith_append h]
  simp

theorem sum_snoc (l : List Nat) (a : Nat) : (l ++ [a]).sum = l.sum + a := by
  induction l with
  | nil => simp
  | cons x r ih => rw [List.cons_append, List.sum_cons, ih, List.sum_cons]; omega

set_option maxRecDepth 20000 in
set_option maxHeartbeats 2000000 in
theorem rowsNew_any (D : Nat → Prop) (w : World) (cols : Nat) (lv : Value) (ls : List Nat) (hr : RowAt D false w 1 lv ls.length (ls.map fun n : Nat => I n)) (hl : ls.length ≤ 100) (hc : cols ≤ 100) (hm : ∀ n ∈ ls, n ≤ 1000000) :
    Calls Tryz.prog 122 #[.int .i64 cols, lv] w fun e w' => ∃ (gv : Value) (bs : List Nat), e = .returned (.agg #[I cols, gv, I 0, I 0, I (ls.sum : Nat)]) ∧ Ext w w' ∧ bs.length = ls.length ∧ Own w' 3 gv ls.length (groupRow (bs.map (mkL cols)) (ls.map (rg0 cols))) ∧ (∀ g, gv.ownBlock = some g → w.heap.size ≤ g ∧ g ∉ bs) ∧ bs.Nodup ∧ ∀ b ∈ bs, w.heap.size ≤ b ∧ Blk w' b (List.replicate cols (.slice none 0 0)) 46 := by
  obtain ⟨la, lc, rfl, hlc, h3⟩ := hr.get
  clear hr
  go_enter Tryz.func122, Tryz.ntmps122
  go_wp2_with fail
  have x0 : Ext w ((w.alloc (.cells #[.int .i64 0, .slice none 0 0, .int .i64 0, .int .i64 0, .int .i64 0] 140)).alloc (.cells #[.int .i64 cols, .slice none 0 0, .int .i64 0, .int .i64 0, .int .i64 0] 140)) := ((Kp.refl _ _).alloc _).alloc _
  have bR : Blk ((w.alloc (.cells #[.int .i64 0, .slice none 0 0, .int .i64 0, .int .i64 0, .int .i64 0] 140)).alloc (.cells #[.int .i64 cols, .slice none 0 0, .int .i64 0, .int .i64 0, .int .i64 0] 140)) (w.heap.size + 1) [.int .i64 cols, .slice none 0 0, .int .i64 0, .int .i64 0, .int .i64 0] 140 := by
    have := Blk.of_alloc (w.alloc (.cells #[.int .i64 0, .slice none 0 0, .int .i64 0, .int .i64 0, .int .i64 0] 140)) [.int .i64 cols, .slice none 0 0, .int .i64 0, .int .i64 0, .int .i64 0] 140
    simpa using this
  have b0 : Blk ((w.alloc (.cells #[.int .i64 0, .slice none 0 0, .int .i64 0, .int .i64 0, .int .i64 0] 140)).alloc (.cells #[.int .i64 cols, .slice none 0 0, .int .i64 0, .int .i64 0, .int .i64 0] 140)) w.heap.size [.int .i64 0, .slice none 0 0, .int .i64 0, .int .i64 0, .int .i64 0] 140 :=
    (Blk.of_alloc w [.int .i64 0, .slice none 0 0, .int .i64 0, .int .i64 0, .int .i64 0] 140).kept (S := fun _ => False) ((Kp.refl _ _).alloc _) id
  generalize (w.alloc (.cells #[.int .i64 0, .slice none 0 0, .int .i64 0, .int .i64 0, .int .i64 0] 140)).alloc (.cells #[.int .i64 cols, .slice none 0 0, .int .i64 0, .int .i64 0, .int .i64 0] 140) = W at *
  go_loopw [12] (fun i wr => ∃ (k : Nat) (gv : Value) (bs : List Nat), i = .int .i64 k ∧ k ≤ ls.length ∧ bs.length = k ∧ Blk wr (w.heap.size + 1) [.int .i64 cols, gv, .int .i64 0, .int .i64 0, .int .i64 ((ls.take k).sum : Nat)] 140 ∧ Blk wr w.heap.size [.int .i64 0, .slice none 0 0, .int .i64 0, .int .i64 0, .int .i64 0] 140 ∧ Own wr 3 gv k (groupRow (bs.map (mkL cols)) ((ls.take k).map (rg0 cols))) ∧ (∀ g, gv.ownBlock = some g → w.heap.size + 2 ≤ g ∧ g ∉ bs) ∧ bs.Nodup ∧ (∀ b ∈ bs, w.heap.size + 2 ≤ b ∧ Blk wr b (List.replicate cols (.slice none 0 0)) 46) ∧ Ext w wr) (fun i _ => ls.length - (intOf i).toNat)
  case atStart => exact ⟨0, _, [], rfl, by omega, rfl, bR, b0, Own.nil _ _, fun g e => by simp [Value.ownBlock] at e, by simp, fun b hb => by simp at hb, x0⟩
  case round =>
    obtain ⟨k, gv, bs, rfl, hk, hbl, hbR, hb0, ho, hg, hnd, hbs, hx⟩ := hrel
    clear bR b0 x0
    obtain ⟨ga, gc, rfl, hgc⟩ := ho.shape
    by_cases hkl : k < ls.length
    · obtain ⟨lb, lo, rfl, hlb, hcc⟩ := h3 (by omega)
      have d0 := hx.cell ((hcc k (by omega)).trans (by rw [List.getElem?_map, List.getElem?_eq_getElem hkl]; rfl)) id
      have hmk := hm ls[k] (List.getElem_mem hkl)
      have hsum : (ls.take k).sum ≤ k * 1000000 := by
        have : ∀ (l : List Nat), (∀ n ∈ l, n ≤ 1000000) → l.sum ≤ l.length * 1000000 := by
          intro l
          induction l with
          | nil => intro _; simp
          | cons a r ih => intro h; have := ih (fun n hn => h n (by simp [hn])); have := h a (by simp); simp only [List.sum_cons, List.length_cons, Nat.add_mul]; omega
        have h1 := this (ls.take k) (fun n hn => hm n (List.mem_of_mem_take hn))
        rw [List.length_take, Nat.min_eq_left hk] at h1
        exact h1
      have HT : Hid ((ls.take (k + 1)).map (rg0 cols) = (ls.take k).map (rg0 cols) ++ [rg0 cols ls[k]]) := hide (by rw [List.take_succ_eq_append_getElem hkl, List.map_append]; rfl)
      have HU : Hid ((ls.take (k + 1)).sum = (ls.take k).sum + ls[k]) := hide (by rw [List.take_succ_eq_append_getElem hkl, sum_snoc])
      have hll : ((ls.take k).map (rg0 cols)).length = k := by simp; omega
      generalize ls[k] = nr at *
      generalize (ls.take k).sum = sm at *
      generalize (ls.take k).map (rg0 cols) = GS at *
      simp only [I] at d0
      clear hcc h3
      go_wp2_with fail
      have c1 := hbR.cell 1
      have f1 := hbR.free 1
      simp only [List.getElem?_cons_zero, List.getElem?_cons_succ] at c1
      have hS : ∀ u, Kp (fun b => b ≠ w.heap.size + 1) wr u → u.cell? ⟨w.heap.size + 1, 1, none⟩ = some (.slice ga k gc) := fun u hu => hu.cell c1 (by simp)
      have HS := hide hS
      clear hS
      have hx1 : Kp (fun b => b ≠ w.heap.size + 1) wr wr.drew := (Kp.refl _ _).drew
      have hRl := hbR.lt
      refine wp_region_late (n := 10) (Kp (fun b => b ≠ w.heap.size + 1) wr) (by kernel_rfl) ?_
      refine Late.take (i := 0) (oi := ⟨some 16, .fieldAddr 140 (.tmp 5) 1, 0, "rows.go:25", #[], none⟩) (v := ?_) [10] rfl (by kernel_rfl) (by kernel_rfl) (by decide) (by decide) (by kernel_rfl) (by kernel_rfl) (by kernel_rfl) (fun _ _ _ h => h) rfl ?_ hx1 ?_
      rotate_left
      · (intro u hu; have u1 := (unhide HS) u hu; go_simp; first | done | with_reducible rfl)
      try simp only [Act.put, List.setIfInBounds_toArray, List.set_cons_zero, List.set_cons_succ]
      refine Late.take (i := 1) (oi := ⟨some 17, .load 138 (.tmp 16), 138, "rows.go:25", #[⟨0, .data⟩], none⟩) (v := ?_) [10] rfl (by kernel_rfl) (by kernel_rfl) (by decide) (by decide) (by kernel_rfl) (by kernel_rfl) (by kernel_rfl) (fun _ _ _ h => h) rfl ?_ hx1 ?_
      rotate_left
      · (intro u hu; have u1 := (unhide HS) u hu; go_simp; first | done | with_reducible rfl)
      try simp only [Act.put, List.setIfInBounds_toArray, List.set_cons_zero, List.set_cons_succ]
      refine Late.take (i := 2) (oi := ⟨some 18, .move (.tmp 7), 3, "rows.go:25", #[], none⟩) (v := ?_) [10] rfl (by kernel_rfl) (by kernel_rfl) (by decide) (by decide) (by kernel_rfl) (by kernel_rfl) (by kernel_rfl) (fun _ _ _ h => h) rfl ?_ hx1 ?_
      rotate_left
      · (intro u hu; have u1 := (unhide HS) u hu; go_simp; first | done | with_reducible rfl)
      try simp only [Act.put, List.setIfInBounds_toArray, List.set_cons_zero, List.set_cons_succ]
      refine Late.take (i := 3) (oi := ⟨some 19, .move (.tmp 0), 3, "rows.go:25", #[], none⟩) (v := ?_) [10] rfl (by kernel_rfl) (by kernel_rfl) (by decide) (by decide) (by kernel_rfl) (by kernel_rfl) (by kernel_rfl) (fun _ _ _ h => h) rfl ?_ hx1 ?_
      rotate_left
      · (intro u hu; have u1 := (unhide HS) u hu; go_simp; first | done | with_reducible rfl)
      try simp only [Act.put, List.setIfInBounds_toArray, List.set_cons_zero, List.set_cons_succ]
      refine Late.take (i := 5) (oi := ⟨some 21, .move (.tmp 0), 3, "rows.go:25", #[], none⟩) (v := ?_) [10] rfl (by kernel_rfl) (by kernel_rfl) (by decide) (by decide) (by kernel_rfl) (by kernel_rfl) (by kernel_rfl) (fun _ _ _ h => h) rfl ?_ hx1 ?_
      rotate_left
      · (intro u hu; have u1 := (unhide HS) u hu; go_simp; first | done | with_reducible rfl)
      try simp only [Act.put, List.setIfInBounds_toArray, List.set_cons_zero, List.set_cons_succ]
      refine Late.one (i := 4) (o := ⟨some 20, .makeSlice 51 (.tmp 19) (.tmp 19), 51, "rows.go:25", #[⟨3, .data⟩, ⟨3, .data⟩], none⟩) (by kernel_rfl) rfl (fun K hK => ?_)
      refine step_make_g rfl _ _ 51 rfl 46 (.slice none 0 0) 24 Tryz.underlying51 infoLi rfl cols cols cols rfl rfl rfl rfl (by omega) (by omega) ?_
      refine hK _ _ (fun _ => hx1.alloc _) ?_
      clear hK K
      try simp only [Act.put, List.setIfInBounds_toArray, List.set_cons_zero, List.set_cons_succ]
      have xm : Ext wr (wr.drew.alloc (.cells (List.replicate cols (.slice none 0 0)).toArray 46)) := ((Kp.refl _ _).drew).alloc _
      have bm : Blk (wr.drew.alloc (.cells (List.replicate cols (.slice none 0 0)).toArray 46)) wr.heap.size (List.replicate cols (.slice none 0 0)) 46 := Blk.of_alloc wr.drew _ _
      generalize wr.drew.alloc (.cells (List.replicate cols (.slice none 0 0)).toArray 46) = W2 at *
      have g2 : Kp (fun b => b ≠ w.heap.size + 1) wr W2 := Kp.of_ext xm
      have hwz : wr.drew.heap.size = wr.heap.size := rfl
      try rw [hwz]
      refine Late.one (i := 6) (o := ⟨some 22, .build 200 #[(0, .tmp 18), (1, .tmp 20), (2, .tmp 21)], 200, "rows.go:25", #[⟨2, .data⟩, ⟨4, .data⟩, ⟨5, .data⟩], none⟩) (by kernel_rfl) rfl (fun K hK => ?_)
      go_simp
      refine hK _ _ (fun _ => g2) ?_
      clear hK K
      try simp only [Act.put, List.setIfInBounds_toArray, List.set_cons_zero, List.set_cons_succ]
      refine Late.one (i := 7) (o := ⟨some 23, .buildSlice 138 1 #[(0, .tmp 22)], 138, "rows.go:25", #[⟨6, .data⟩], none⟩) (by kernel_rfl) rfl (fun K hK => ?_)
      go_simp
      refine hK _ _ (fun _ => g2.alloc _) ?_
      clear hK K
      try simp only [Act.put, List.setIfInBounds_toArray, List.set_cons_zero, List.set_cons_succ]
      have hne : ∀ g, (Value.slice ga k gc).ownBlock = some g → g < wr.heap.size := fun g e => ho.lt e
      refine Late.one (i := 8) (o := ⟨some 24, .call { callee := .builtin .append, args := #[.tmp 17, .tmp 23], argTypes := #[138, 138] }, 138, "rows.go:25", #[⟨1, .data⟩, ⟨7, .data⟩], none⟩) (by kernel_rfl) rfl (fun K hK => ?_)
      refine step_append_g rfl _ _ 138 138 rfl 200 zGr 3 40 Tryz.underlying138 infoGr rfl _ _ _ (by rfl) (ho.ext (xm.alloc _)) _ (by rfl) 1 _ (src_elemN' W2 W2.heap.size rfl _ _ Tryz.underlying138 _ [I nr, mkL cols wr.heap.size, I cols] rfl (by intro u hu; simp at hu; rcases hu with rfl | rfl | rfl <;> rfl)) (by omega) (by omega) ?_
      intro v' w5 o5 k5 s5
      have g5 : Kp (fun b => b ≠ w.heap.size + 1) wr w5 := (g2.alloc _).trans (k5.mono (fun i _ e => by have := (hg i e).1; omega))
      refine hK _ _ (fun _ => g5) ?_
      clear hK K
      obtain ⟨a', c', rfl, hc'⟩ := o5.shape
      try simp only [Act.put, List.setIfInBounds_toArray, List.set_cons_zero, List.set_cons_succ]
      have c5 : w5.cell? ⟨w.heap.size + 1, 1, none⟩ = some (.slice ga k gc) := g5.cell c1 (by simp)
      have f5 : w5.frozen? ⟨w.heap.size + 1, 1, none⟩ = false := by rw [World.frozen?_of_block (w := wr) (a := ⟨w.heap.size + 1, 1, none⟩) (g5.block _ hRl (by simp))]; exact f1
      refine Late.one (i := 9) (o := ⟨some 25, .fieldAddr 140 (.tmp 5) 1, 0, "rows.go:25", #[⟨0, .phase⟩, ⟨1, .phase⟩, ⟨2, .phase⟩, ⟨3, .phase⟩, ⟨4, .phase⟩, ⟨5, .phase⟩, ⟨6, .phase⟩, ⟨7, .phase⟩, ⟨8, .phase⟩], none⟩) (by kernel_rfl) rfl (fun K hK => ?_)
      go_simp
      refine hK _ _ (fun _ => g5) ?_
      clear hK K
      try simp only [Act.put, List.setIfInBounds_toArray, List.set_cons_zero, List.set_cons_succ]
      refine Late.one (i := 10) (o := ⟨none, .store 138 (.tmp 25) (.tmp 24), 0, "rows.go:25", #[⟨9, .data⟩, ⟨8, .data⟩, ⟨8, .chain⟩, ⟨0, .phase⟩, ⟨1, .phase⟩, ⟨2, .phase⟩, ⟨3, .phase⟩, ⟨4, .phase⟩, ⟨5, .phase⟩, ⟨6, .phase⟩, ⟨7, .phase⟩, ⟨8, .phase⟩], none⟩) (by kernel_rfl) rfl (fun K hK => ?_)
      go_simp
      refine hK _ _ (fun h => absurd rfl h) ?_
      clear hK K
      try simp only [Act.put, List.setIfInBounds_toArray, List.set_cons_zero, List.set_cons_succ]
      refine Late.done (by kernel_rfl) ?_ _
      have hz2 := xm.size
      have x5 : Kp (fun i => (Value.slice ga k gc).ownBlock = some i) wr w5 := (Kp.of_ext (xm.alloc _)).trans k5
      have hnew : ∀ g, (Value.slice a' (k + 1) c').ownBlock = some g → (Value.slice ga k gc).ownBlock = some g ∨ W2.heap.size < g := fun g e => by
        rcases s5 with e' | ⟨g', e1, e2⟩
        · rw [e'] at e; exact .inl e
        · rw [e1] at e; simp only [Option.some.injEq] at e; subst e; simp at e2; exact .inr (by omega)
      have hR5 : Blk w5 (w.heap.size + 1) [.int .i64 cols, .slice ga k gc, .int .i64 0, .int .i64 0, .int .i64 sm] 140 := hbR.kept x5 (fun e => by have := (hg _ e).1; omega)
      have h05 : Blk w5 w.heap.size [.int .i64 0, .slice none 0 0, .int .i64 0, .int .i64 0, .int .i64 0] 140 := hb0.kept x5 (fun e => by have := (hg _ e).1; omega)
      have hs5 := hR5.set 1 (.slice a' (k + 1) c')
      have ks1 := kp_set' w5 (w.heap.size + 1) 1 (.slice a' (k + 1) c')
      have hbW2 : wr.heap.size < W2.heap.size := bm.lt
      have kk5 : Ext w w5 := hx.then x5 (fun i hi e => by have := (hg i e).1; omega)
      have bm5 : Blk w5 wr.heap.size (List.replicate cols (.slice none 0 0)) 46 := (bm.kept (S := fun _ => False) ((Kp.refl _ _).alloc _) id).kept k5 (fun e => by have := hne _ e; omega)
      have hbs5 : ∀ b ∈ bs, Blk w5 b (List.replicate cols (.slice none 0 0)) 46 := fun b hb => (hbs b hb).2.kept x5 (fun e => (hg _ e).2 hb)
      have hxz := hx.size
      have hks1l : (w5.setCell ⟨w.heap.size + 1, 1, none⟩ (.slice a' (k + 1) c')).heap.size = w5.heap.size := size_set _ _ _
      generalize w5.setCell ⟨w.heap.size + 1, 1, none⟩ (.slice a' (k + 1) c') = W6 at *
      have e4 : W6.cell? ⟨w.heap.size + 1, 4, none⟩ = some (.int .i64 sm) := hs5.cell 4
      have f4 := hs5.free 4
      go_wp2_with fail
      have ks2 := kp_set' W6 (w.heap.size + 1) 4 (.int .i64 ((sm : Int) + nr))
      have k56 : Kp (fun k => k = w.heap.size + 1) w5 (W6.setCell ⟨w.heap.size + 1, 4, none⟩ (.int .i64 ((sm : Int) + nr))) := ks1.trans ks2
      refine ⟨⟨k + 1, .slice a' (k + 1) c', bs ++ [wr.heap.size], by go_num, by omega, by simp [hbl], ?_, h05.kept k56 (by omega), ?_, ?_, ?_, ?_, kk5.then k56 (fun i hi e => by omega)⟩, by simp [intOf]; omega⟩
      · have := hs5.set 4 (.int .i64 ((sm : Int) + nr))
        rw [HU.out]
        simpa using this
      · rw [HT.out, List.map_append]
        rw [show List.map (mkL cols) [wr.heap.size] = [mkL cols wr.heap.size] from rfl, groupRow_snoc _ _ _ _ (by simp [hbl, hll])]
        exact o5.kept k56 (fun g e => (hnew g e).elim (fun e => by have := (hg g e).1; omega) (fun e => by omega))
      · intro g e
        rcases hnew g e with e | e
        · refine ⟨(hg g e).1, fun hm => ?_⟩
          rcases List.mem_append.1 hm with h | h
          · exact (hg g e).2 h
          · simp at h; have := hne g e; omega
        · refine ⟨by omega, fun hm => ?_⟩
          rcases List.mem_append.1 hm with h | h
          · have := (hbs g h).2.lt; omega
          · simp at h; omega
      · rw [List.nodup_append]
        refine ⟨hnd, by simp, fun a ha b hb => ?_⟩
        simp at hb
        subst hb
        have := (hbs a ha).2.lt
        omega
      · intro b hb
        rcases List.mem_append.1 hb with h | h
        · exact ⟨(hbs b h).1, (hbs5 b h).kept k56 (by have := (hbs b h).1; omega)⟩
        · simp at h; subst h
          have := hbR.lt
          exact ⟨by omega, bm5.kept k56 (by omega)⟩
    · obtain rfl : k = ls.length := by omega
      rw [List.take_length] at hbR ho
      have c0 := hbR.cell 0
      have c1 := hbR.cell 1
      have c2 := hbR.cell 2
      have c3 := hbR.cell 3
      have c4 := hbR.cell 4
      have d0 := hb0.cell 0
      have d1 := hb0.cell 1
      have d2 := hb0.cell 2
      have d3 := hb0.cell 3
      have d4 := hb0.cell 4
      have f0 := hb0.free 0
      have f1 := hb0.free 1
      have f2 := hb0.free 2
      have f3 := hb0.free 3
      have f4 := hb0.free 4
      simp only [List.getElem?_cons_zero, List.getElem?_cons_succ] at c0 c1 c2 c3 c4 d0 d1 d2 d3 d4
      go_wp2_with fail
      have b2 := ((((hb0.set 0 (.int .i64 cols)).set 1 (.slice ga ls.length gc)).set 2 (.int .i64 0)).set 3 (.int .i64 0)).set 4 (.int .i64 (ls.sum : Nat))
      have k2 := ((((kp_set' wr w.heap.size 0 (.int .i64 cols)).trans (kp_set' _ w.heap.size 1 (.slice ga ls.length gc))).trans (kp_set' _ w.heap.size 2 (.int .i64 0))).trans (kp_set' _ w.heap.size 3 (.int .i64 0))).trans (kp_set' _ w.heap.size 4 (.int .i64 (ls.sum : Nat)))
      generalize ((((wr.setCell ⟨w.heap.size, 0, none⟩ (.int .i64 cols)).setCell ⟨w.heap.size, 1, none⟩ (.slice ga ls.length gc)).setCell ⟨w.heap.size, 2, none⟩ (.int .i64 0)).setCell ⟨w.heap.size, 3, none⟩ (.int .i64 0)).setCell ⟨w.heap.size, 4, none⟩ (.int .i64 (ls.sum : Nat)) = w5 at *
      have e0 := b2.cell 0
      have e1 := b2.cell 1
      have e2 := b2.cell 2
      have e3 := b2.cell 3
      have e4 := b2.cell 4
      simp only [List.set_cons_zero, List.set_cons_succ, List.getElem?_cons_zero, List.getElem?_cons_succ] at e0 e1 e2 e3 e4
      refine bodyPost_ret (v := .agg #[.int .i64 cols, .slice ga ls.length gc, .int .i64 0, .int .i64 0, .int .i64 (ls.sum : Nat)]) (by simp [results, Tryz.results122, go_sem, e0, e1, e2, e3, e4]) rfl ?_
      refine ⟨_, bs, rfl, hx.then k2 (fun i hi e => by omega), hbl, ho.kept k2 (fun g e => by have := (hg g e).1; omega), fun g e => ⟨by have := (hg g e).1; omega, (hg g e).2⟩, hnd, fun b hb => ⟨by have := (hbs b hb).1; omega, (hbs b hb).2.kept k2 (by have := (hbs b hb).1; omega)⟩⟩
end Go.Proofs.YthicgffppmbamaaGreat
