/- A part asks. -/
import Derived.Test.YthicgffppmbamaaGreatRep
import Derived.Test.YthicgffppmbamaaGreatFinish
import Derived.Test.YthicgffppmbamaaGreatLate
namespace Go.Proofs.YthicgffppmbamaaGreat
open Go.RowKit

theorem step_append_g {P : Program} {ops : Array Oper} {o : Oper} {a : Act} {w : World} {K : Act → World → Prop} {Q : Exit → Act → World → Prop} {E : Prop}
    (hg : o.guard = none) (s x : Operand) (t tx : TypeId) (ho : o.op = .call { callee := .builtin .append, args := #[s, x], argTypes := #[t, tx] }) (e : TypeId) (z : Value) (size bytes : Nat) (ht : P.underlying t = some (.slice e)) (hinfo : (P.info? e).map (fun i => (i.zero, i.size, i.bytes)) = some (some z, size, bytes)) (hzc : z.cells.size = size)
    (v : Value) (n : Nat) (cs : List Value) (hv : a.eval s = v) (hown : Own w size v n cs) (xv : Value) (hx : a.eval x = xv) (m : Nat) (news : List Value) (hs : Src P size tx xv m news w) (hb : (n + m) * bytes ≤ 140737488355328) (hm : n + m ≤ 1000000000000000)
    (hK : ∀ v' w', Own w' size v' (n + m) (cs ++ news) → Kp (Of v) w w' → Sep w v v' → K (a.put o.dst v') w') :
    if Region.wanted o (yielded ops a.tmps) = true then Oper.wp P o a w K Q else E := by
  have hw : Region.wanted o (yielded ops a.tmps) = true := by simp [Region.wanted, hg]
  rw [if_pos hw]
  obtain ⟨v', w', hrun, r1, r2, r3⟩ := run_append_g P w t e tx o.type z size bytes ht hinfo hzc v n cs hown xv m news hs hb hm
  unfold Oper.wp
  simp [execOp, ho, resolve, invoke, builtin, hv, hx, hrun, Result.andThen]
  exact hK v' w' r1 r2 r3

/-- one element of some cells, in a new block -/
theorem src_elem {P : Program} (w : World) (t e : TypeId) (ht : P.underlying t = some (.slice e)) (cs : List Value) (h1 : ∀ u ∈ cs, u.oneCell' = true) : Src P cs.length t (.slice (some ⟨w.heap.size, 0, none⟩) 1 1) 1 cs (w.alloc (.cells cs.toArray e)) :=
  Src.ofSlice (P := P) _ (e' := e) ht _ _ _ _ (by simp) (fun j u hu => by
    rw [Addr.add_lit, Nat.zero_add, World.cell?_alloc_new]
    simpa using hu) h1

theorem src_elemA {P : Program} (w : World) (t e : TypeId) (ht : P.underlying t = some (.slice e)) (arr : Array Value) (cs : List Value) (ha : arr = cs.toArray) (h1 : ∀ u ∈ cs, u.oneCell' = true) : Src P cs.length t (.slice (some ⟨w.heap.size, 0, none⟩) 1 1) 1 cs (w.alloc (.cells arr e)) := by
  subst ha
  exact src_elem w t e ht cs h1

/-- the same behind a draw -/
theorem src_elemD {P : Program} (w : World) (t e : TypeId) (ht : P.underlying t = some (.slice e)) (arr : Array Value) (cs : List Value) (ha : arr = cs.toArray) (h1 : ∀ u ∈ cs, u.oneCell' = true) : Src P cs.length t (.slice (some ⟨w.heap.size, 0, none⟩) 1 1) 1 cs (w.alloc (.cells arr e)).drew := by
  subst ha
  exact Src.ofSlice (P := P) _ (e' := e) ht _ _ _ _ (by simp) (fun j u hu => by
    rw [Addr.add_lit, Nat.zero_add]
    show (w.alloc (.cells cs.toArray e)).cell? _ = _
    rw [World.cell?_alloc_new]
    simpa using hu) h1

def zReq : Value := .agg #[.int .i64 0, .int .i64 0, .int .i64 0, .nilFunc, .nilFunc]
theorem infoReq : (Tryz.prog.info? 169).map (fun i => (i.zero, i.size, i.bytes)) = some (some zReq, 5, 40) := by kernel_rfl

set_option maxRecDepth 20000 in
set_option maxHeartbeats 2000000 in
theorem ask_any (col : Colr) (w : World) (P p : Nat) (m : Pl.Sc) (x : Pl.Part) (ps qs : List Nat) (nv av wv hv gv dv xv : Value) (h : Rep col w P m ps qs nv av wv hv gv) (hp : PartAt col w P p x dv xv) (hn : p ∉ ps ++ qs) (hid : m.lastId ≤ 1000000000000) (hal : m.asked.length ≤ 1000) (hpl : x.place + x.length ≤ 1000000) (hdl : x.data.length ≤ x.length) :
    Calls Tryz.prog 102 #[PtrTo p 0] w fun e w' => e = .returned (.tuple #[]) ∧ ∃ col' av', Rep col' w' P (Pl.ask m x) (ps ++ [p]) qs nv av' wv hv gv ∧ Went col w w' col' := by
  have c0 := hp.blk.cell 0
  have c1 := hp.blk.cell 1
  have c2 := hp.blk.cell 2
  have c3 := hp.blk.cell 3
  have s9 := h.blk.cell 9
  have s10 := h.blk.cell 10
  have f9 := h.blk.free 9
  have f10 := h.blk.free 10
  simp only [partCells, scCells, I, List.getElem?_cons_zero, List.getElem?_cons_succ] at c0 c1 c2 c3 s9 s10
  obtain ⟨da, dc, rfl⟩ := hp.data.shape
  obtain ⟨aa, ac, rfl, _⟩ := h.inn.asked.shape
  have hm1 : Inner col w P { m with lastId := m.lastId + 1 } ps qs nv (.slice aa m.asked.length ac) wv hv gv := ⟨h.inn.pcol, h.inn.top, h.inn.names, h.inn.asked, h.inn.acol, h.inn.aparts, h.inn.waiting, h.inn.wcol, h.inn.wparts, h.inn.nodup, h.inn.ahead, h.inn.groups⟩
  have h1 := h.cellP 9 (.int .i64 ((m.lastId : Int) + 1)) (by simp [scCells, I, giveV]) hm1
  have k1 := kp_set' w P 9 (.int .i64 ((m.lastId : Int) + 1))
  have hpP : p ≠ P := fun e => by have := hp.pcol; rw [e, h.inn.pcol] at this; simp at this
  have hp1 := hp.go (col' := col) k1 (fun e => hpP e) (fun i hi => by subst hi; rw [h.inn.pcol]; simp) (fun i hi => by subst hi; rw [h.inn.pcol]; simp) (fun _ _ => rfl)
  have hreq : #[Value.int .i64 ((m.lastId : Int) + 1), Value.int .i64 ((x.place : Int) + (x.data.length : Int)), Value.int .i64 ((x.length : Int) - (x.data.length : Int)), Bound 118 (PtrTo p 0), Bound 119 (PtrTo p 0)] = (reqCells p (m.lastId + 1, x)).toArray := by
    simp [reqCells, I]
    omega
  have hone : ∀ u ∈ reqCells p (m.lastId + 1, x), u.oneCell' = true := by
    intro u hu
    simp [reqCells] at hu
    rcases hu with rfl | rfl | rfl | rfl | rfl <;> rfl
  go_enter Tryz.func102, Tryz.ntmps102
  go_wp2_with fail
  clear c0 c1 c2 c3 s9 s10 f9 f10 hm1
  generalize w.setCell _ _ = W1 at *
  have hA : ∀ u, Ext W1 u → Own u 5 (.slice aa m.asked.length ac) m.asked.length (reqRow ps m.asked) := fun u hu => h1.inn.asked.ext hu
  have c0 := hp1.blk.cell 0
  have c1 := hp1.blk.cell 1
  have c2 := hp1.blk.cell 2
  have c3 := hp1.blk.cell 3
  have s9 := h1.blk.cell 9
  have s10 := h1.blk.cell 10
  have f10 := h1.blk.free 10
  simp only [partCells, scCells, I, List.getElem?_cons_zero, List.getElem?_cons_succ, Int.natCast_add, Int.natCast_one] at c0 c1 c2 c3 s9 s10
  have HA := hide hA
  clear hA
  have hav : ∀ k, (Value.slice aa m.asked.length ac).ownBlock = some k → k ≠ p ∧ k ≠ P := fun k hk => by
    have e := h1.inn.acol k hk
    exact ⟨fun e' => by rw [e', hp1.pcol] at e; simp at e, fun e' => by rw [e', h1.inn.pcol] at e; simp at e⟩
  have hS : ∀ u, Kp (fun k => k ≠ p ∧ k ≠ P) W1 u → u.cell? ⟨p, 0, none⟩ = some (PtrTo P 7) ∧ u.cell? ⟨p, 1, none⟩ = some (.int .i64 (x.place : Int)) ∧ u.cell? ⟨p, 2, none⟩ = some (.int .i64 (x.length : Int)) ∧ u.cell? ⟨p, 3, none⟩ = some (.slice da x.data.length dc) ∧ u.cell? ⟨P, 9, none⟩ = some (.int .i64 ((m.lastId : Int) + 1)) ∧ u.cell? ⟨P, 10, none⟩ = some (.slice aa m.asked.length ac) := fun u hu =>
    ⟨hu.cell c0 (by simp), hu.cell c1 (by simp), hu.cell c2 (by simp), hu.cell c3 (by simp), hu.cell s9 (by simp), hu.cell s10 (by simp)⟩
  have HS := hide hS
  have HV := hide hav
  have HR := hide hreq
  have HO := hide hone
  clear hS hav hreq hone
  have e1 : IntKind.i64.wrap ((x.place : Int) + (x.data.length : Int)) = (x.place : Int) + (x.data.length : Int) := by simp [IntKind.wrap, IntKind.bits, IntKind.signed]; omega
  have e2 : IntKind.i64.wrap ((x.length : Int) - (x.data.length : Int)) = (x.length : Int) - (x.data.length : Int) := by simp [IntKind.wrap, IntKind.bits, IntKind.signed]; omega
  have hK1 : Kp (fun k => k ≠ p ∧ k ≠ P) W1 W1.drew := (Kp.refl _ _).drew
  refine wp_region_late (n := 48) (Kp (fun k => k ≠ p ∧ k ≠ P) W1) (by kernel_rfl) ?_
  refine Late.take (i := 0) (oi := { dst := some 12, op := Go.Op.move (Go.Operand.tmp 0), type := 162, pos := "part.go:17", after := #[], guard := none }) (v := ?_) rfl (by kernel_rfl) (by kernel_rfl) (by decide) (by kernel_rfl) (by kernel_rfl) (fun _ _ _ h => h) rfl ?_ hK1 ?_
  rotate_left
  · (intro u hu; obtain ⟨u0, u1, u2, u3, u4, u5⟩ := (unhide HS) u hu; go_simp; first | done | with_reducible rfl)
  try simp only [Act.put, List.setIfInBounds_toArray, List.set_cons_zero, List.set_cons_succ]
  refine Late.take (i := 1) (oi := { dst := some 13, op := Go.Op.nilCheck (Go.Operand.tmp 12), type := 0, pos := "part.go:17", after := #[{ on := 0, ground := Go.Ground.data }], guard := none }) (v := ?_) rfl (by kernel_rfl) (by kernel_rfl) (by decide) (by kernel_rfl) (by kernel_rfl) (fun _ _ _ h => h) rfl ?_ hK1 ?_
  rotate_left
  · (intro u hu; obtain ⟨u0, u1, u2, u3, u4, u5⟩ := (unhide HS) u hu; go_simp; first | done | with_reducible rfl)
  try simp only [Act.put, List.setIfInBounds_toArray, List.set_cons_zero, List.set_cons_succ]
  refine Late.take (i := 2) (oi := { dst := some 14, op := Go.Op.fieldAddr 164 (Go.Operand.tmp 13) 0, type := 0, pos := "part.go:17", after := #[{ on := 1, ground := Go.Ground.data }], guard := none }) (v := ?_) rfl (by kernel_rfl) (by kernel_rfl) (by decide) (by kernel_rfl) (by kernel_rfl) (fun _ _ _ h => h) rfl ?_ hK1 ?_
  rotate_left
  · (intro u hu; obtain ⟨u0, u1, u2, u3, u4, u5⟩ := (unhide HS) u hu; go_simp; first | done | with_reducible rfl)
  try simp only [Act.put, List.setIfInBounds_toArray, List.set_cons_zero, List.set_cons_succ]
  refine Late.take (i := 3) (oi := { dst := some 15, op := Go.Op.load 161 (Go.Operand.tmp 14), type := 161, pos := "part.go:17", after := #[{ on := 2, ground := Go.Ground.data }], guard := none }) (v := ?_) rfl (by kernel_rfl) (by kernel_rfl) (by decide) (by kernel_rfl) (by kernel_rfl) (fun _ _ _ h => h) rfl ?_ hK1 ?_
  rotate_left
  · (intro u hu; obtain ⟨u0, u1, u2, u3, u4, u5⟩ := (unhide HS) u hu; go_simp; first | done | with_reducible rfl)
  try simp only [Act.put, List.setIfInBounds_toArray, List.set_cons_zero, List.set_cons_succ]
  refine Late.take (i := 4) (oi := { dst := some 16, op := Go.Op.move (Go.Operand.tmp 0), type := 162, pos := "part.go:17", after := #[], guard := none }) (v := ?_) rfl (by kernel_rfl) (by kernel_rfl) (by decide) (by kernel_rfl) (by kernel_rfl) (fun _ _ _ h => h) rfl ?_ hK1 ?_
  rotate_left
  · (intro u hu; obtain ⟨u0, u1, u2, u3, u4, u5⟩ := (unhide HS) u hu; go_simp; first | done | with_reducible rfl)
  try simp only [Act.put, List.setIfInBounds_toArray, List.set_cons_zero, List.set_cons_succ]
  refine Late.take (i := 5) (oi := { dst := some 17, op := Go.Op.nilCheck (Go.Operand.tmp 16), type := 0, pos := "part.go:17", after := #[{ on := 4, ground := Go.Ground.data }], guard := none }) (v := ?_) rfl (by kernel_rfl) (by kernel_rfl) (by decide) (by kernel_rfl) (by kernel_rfl) (fun _ _ _ h => h) rfl ?_ hK1 ?_
  rotate_left
  · (intro u hu; obtain ⟨u0, u1, u2, u3, u4, u5⟩ := (unhide HS) u hu; go_simp; first | done | with_reducible rfl)
  try simp only [Act.put, List.setIfInBounds_toArray, List.set_cons_zero, List.set_cons_succ]
  refine Late.take (i := 6) (oi := { dst := some 18, op := Go.Op.fieldAddr 164 (Go.Operand.tmp 17) 0, type := 0, pos := "part.go:17", after := #[{ on := 5, ground := Go.Ground.data }], guard := none }) (v := ?_) rfl (by kernel_rfl) (by kernel_rfl) (by decide) (by kernel_rfl) (by kernel_rfl) (fun _ _ _ h => h) rfl ?_ hK1 ?_
  rotate_left
  · (intro u hu; obtain ⟨u0, u1, u2, u3, u4, u5⟩ := (unhide HS) u hu; go_simp; first | done | with_reducible rfl)
  try simp only [Act.put, List.setIfInBounds_toArray, List.set_cons_zero, List.set_cons_succ]
  refine Late.take (i := 7) (oi := { dst := some 19, op := Go.Op.load 161 (Go.Operand.tmp 18), type := 161, pos := "part.go:17", after := #[{ on := 6, ground := Go.Ground.data }], guard := none }) (v := ?_) rfl (by kernel_rfl) (by kernel_rfl) (by decide) (by kernel_rfl) (by kernel_rfl) (fun _ _ _ h => h) rfl ?_ hK1 ?_
  rotate_left
  · (intro u hu; obtain ⟨u0, u1, u2, u3, u4, u5⟩ := (unhide HS) u hu; go_simp; first | done | with_reducible rfl)
  try simp only [Act.put, List.setIfInBounds_toArray, List.set_cons_zero, List.set_cons_succ]
  refine Late.take (i := 8) (oi := { dst := some 20, op := Go.Op.nilCheck (Go.Operand.tmp 19), type := 0, pos := "part.go:17", after := #[{ on := 7, ground := Go.Ground.data }], guard := none }) (v := ?_) rfl (by kernel_rfl) (by kernel_rfl) (by decide) (by kernel_rfl) (by kernel_rfl) (fun _ _ _ h => h) rfl ?_ hK1 ?_
  rotate_left
  · (intro u hu; obtain ⟨u0, u1, u2, u3, u4, u5⟩ := (unhide HS) u hu; go_simp; first | done | with_reducible rfl)
  try simp only [Act.put, List.setIfInBounds_toArray, List.set_cons_zero, List.set_cons_succ]
  refine Late.take (i := 9) (oi := { dst := some 21, op := Go.Op.fieldAddr 136 (Go.Operand.tmp 20) 3, type := 0, pos := "part.go:17", after := #[{ on := 8, ground := Go.Ground.data }], guard := none }) (v := ?_) rfl (by kernel_rfl) (by kernel_rfl) (by decide) (by kernel_rfl) (by kernel_rfl) (fun _ _ _ h => h) rfl ?_ hK1 ?_
  rotate_left
  · (intro u hu; obtain ⟨u0, u1, u2, u3, u4, u5⟩ := (unhide HS) u hu; go_simp; first | done | with_reducible rfl)
  try simp only [Act.put, List.setIfInBounds_toArray, List.set_cons_zero, List.set_cons_succ]
  refine Late.take (i := 10) (oi := { dst := some 22, op := Go.Op.load 133 (Go.Operand.tmp 21), type := 133, pos := "part.go:17", after := #[{ on := 9, ground := Go.Ground.data }], guard := none }) (v := ?_) rfl (by kernel_rfl) (by kernel_rfl) (by decide) (by kernel_rfl) (by kernel_rfl) (fun _ _ _ h => h) rfl ?_ hK1 ?_
  rotate_left
  · (intro u hu; obtain ⟨u0, u1, u2, u3, u4, u5⟩ := (unhide HS) u hu; go_simp; first | done | with_reducible rfl)
  try simp only [Act.put, List.setIfInBounds_toArray, List.set_cons_zero, List.set_cons_succ]
  refine Late.take (i := 11) (oi := { dst := some 23, op := Go.Op.move (Go.Operand.tmp 0), type := 162, pos := "part.go:17", after := #[], guard := none }) (v := ?_) rfl (by kernel_rfl) (by kernel_rfl) (by decide) (by kernel_rfl) (by kernel_rfl) (fun _ _ _ h => h) rfl ?_ hK1 ?_
  rotate_left
  · (intro u hu; obtain ⟨u0, u1, u2, u3, u4, u5⟩ := (unhide HS) u hu; go_simp; first | done | with_reducible rfl)
  try simp only [Act.put, List.setIfInBounds_toArray, List.set_cons_zero, List.set_cons_succ]
  refine Late.take (i := 12) (oi := { dst := some 24, op := Go.Op.nilCheck (Go.Operand.tmp 23), type := 0, pos := "part.go:17", after := #[{ on := 11, ground := Go.Ground.data }], guard := none }) (v := ?_) rfl (by kernel_rfl) (by kernel_rfl) (by decide) (by kernel_rfl) (by kernel_rfl) (fun _ _ _ h => h) rfl ?_ hK1 ?_
  rotate_left
  · (intro u hu; obtain ⟨u0, u1, u2, u3, u4, u5⟩ := (unhide HS) u hu; go_simp; first | done | with_reducible rfl)
  try simp only [Act.put, List.setIfInBounds_toArray, List.set_cons_zero, List.set_cons_succ]
  refine Late.take (i := 13) (oi := { dst := some 25, op := Go.Op.fieldAddr 164 (Go.Operand.tmp 24) 0, type := 0, pos := "part.go:17", after := #[{ on := 12, ground := Go.Ground.data }], guard := none }) (v := ?_) rfl (by kernel_rfl) (by kernel_rfl) (by decide) (by kernel_rfl) (by kernel_rfl) (fun _ _ _ h => h) rfl ?_ hK1 ?_
  rotate_left
  · (intro u hu; obtain ⟨u0, u1, u2, u3, u4, u5⟩ := (unhide HS) u hu; go_simp; first | done | with_reducible rfl)
  try simp only [Act.put, List.setIfInBounds_toArray, List.set_cons_zero, List.set_cons_succ]
  refine Late.take (i := 14) (oi := { dst := some 26, op := Go.Op.load 161 (Go.Operand.tmp 25), type := 161, pos := "part.go:17", after := #[{ on := 13, ground := Go.Ground.data }], guard := none }) (v := ?_) rfl (by kernel_rfl) (by kernel_rfl) (by decide) (by kernel_rfl) (by kernel_rfl) (fun _ _ _ h => h) rfl ?_ hK1 ?_
  rotate_left
  · (intro u hu; obtain ⟨u0, u1, u2, u3, u4, u5⟩ := (unhide HS) u hu; go_simp; first | done | with_reducible rfl)
  try simp only [Act.put, List.setIfInBounds_toArray, List.set_cons_zero, List.set_cons_succ]
  refine Late.take (i := 15) (oi := { dst := some 27, op := Go.Op.nilCheck (Go.Operand.tmp 26), type := 0, pos := "part.go:17", after := #[{ on := 14, ground := Go.Ground.data }], guard := none }) (v := ?_) rfl (by kernel_rfl) (by kernel_rfl) (by decide) (by kernel_rfl) (by kernel_rfl) (fun _ _ _ h => h) rfl ?_ hK1 ?_
  rotate_left
  · (intro u hu; obtain ⟨u0, u1, u2, u3, u4, u5⟩ := (unhide HS) u hu; go_simp; first | done | with_reducible rfl)
  try simp only [Act.put, List.setIfInBounds_toArray, List.set_cons_zero, List.set_cons_succ]
  refine Late.take (i := 16) (oi := { dst := some 28, op := Go.Op.fieldAddr 136 (Go.Operand.tmp 27) 2, type := 0, pos := "part.go:17", after := #[{ on := 15, ground := Go.Ground.data }], guard := none }) (v := ?_) rfl (by kernel_rfl) (by kernel_rfl) (by decide) (by kernel_rfl) (by kernel_rfl) (fun _ _ _ h => h) rfl ?_ hK1 ?_
  rotate_left
  · (intro u hu; obtain ⟨u0, u1, u2, u3, u4, u5⟩ := (unhide HS) u hu; go_simp; first | done | with_reducible rfl)
  try simp only [Act.put, List.setIfInBounds_toArray, List.set_cons_zero, List.set_cons_succ]
  refine Late.take (i := 17) (oi := { dst := some 29, op := Go.Op.load 3 (Go.Operand.tmp 28), type := 3, pos := "part.go:17", after := #[{ on := 16, ground := Go.Ground.data }], guard := none }) (v := ?_) rfl (by kernel_rfl) (by kernel_rfl) (by decide) (by kernel_rfl) (by kernel_rfl) (fun _ _ _ h => h) rfl ?_ hK1 ?_
  rotate_left
  · (intro u hu; obtain ⟨u0, u1, u2, u3, u4, u5⟩ := (unhide HS) u hu; go_simp; first | done | with_reducible rfl)
  try simp only [Act.put, List.setIfInBounds_toArray, List.set_cons_zero, List.set_cons_succ]
  refine Late.take (i := 18) (oi := { dst := some 30, op := Go.Op.move (Go.Operand.tmp 0), type := 162, pos := "part.go:17", after := #[], guard := none }) (v := ?_) rfl (by kernel_rfl) (by kernel_rfl) (by decide) (by kernel_rfl) (by kernel_rfl) (fun _ _ _ h => h) rfl ?_ hK1 ?_
  rotate_left
  · (intro u hu; obtain ⟨u0, u1, u2, u3, u4, u5⟩ := (unhide HS) u hu; go_simp; first | done | with_reducible rfl)
  try simp only [Act.put, List.setIfInBounds_toArray, List.set_cons_zero, List.set_cons_succ]
  refine Late.take (i := 19) (oi := { dst := some 31, op := Go.Op.nilCheck (Go.Operand.tmp 30), type := 0, pos := "part.go:17", after := #[{ on := 18, ground := Go.Ground.data }], guard := none }) (v := ?_) rfl (by kernel_rfl) (by kernel_rfl) (by decide) (by kernel_rfl) (by kernel_rfl) (fun _ _ _ h => h) rfl ?_ hK1 ?_
  rotate_left
  · (intro u hu; obtain ⟨u0, u1, u2, u3, u4, u5⟩ := (unhide HS) u hu; go_simp; first | done | with_reducible rfl)
  try simp only [Act.put, List.setIfInBounds_toArray, List.set_cons_zero, List.set_cons_succ]
  refine Late.take (i := 20) (oi := { dst := some 32, op := Go.Op.fieldAddr 164 (Go.Operand.tmp 31) 1, type := 0, pos := "part.go:17", after := #[{ on := 19, ground := Go.Ground.data }], guard := none }) (v := ?_) rfl (by kernel_rfl) (by kernel_rfl) (by decide) (by kernel_rfl) (by kernel_rfl) (fun _ _ _ h => h) rfl ?_ hK1 ?_
  rotate_left
  · (intro u hu; obtain ⟨u0, u1, u2, u3, u4, u5⟩ := (unhide HS) u hu; go_simp; first | done | with_reducible rfl)
  try simp only [Act.put, List.setIfInBounds_toArray, List.set_cons_zero, List.set_cons_succ]
  refine Late.take (i := 21) (oi := { dst := some 33, op := Go.Op.load 3 (Go.Operand.tmp 32), type := 3, pos := "part.go:17", after := #[{ on := 20, ground := Go.Ground.data }], guard := none }) (v := ?_) rfl (by kernel_rfl) (by kernel_rfl) (by decide) (by kernel_rfl) (by kernel_rfl) (fun _ _ _ h => h) rfl ?_ hK1 ?_
  rotate_left
  · (intro u hu; obtain ⟨u0, u1, u2, u3, u4, u5⟩ := (unhide HS) u hu; go_simp; first | done | with_reducible rfl)
  try simp only [Act.put, List.setIfInBounds_toArray, List.set_cons_zero, List.set_cons_succ]
  refine Late.take (i := 22) (oi := { dst := some 34, op := Go.Op.move (Go.Operand.tmp 0), type := 162, pos := "part.go:17", after := #[], guard := none }) (v := ?_) rfl (by kernel_rfl) (by kernel_rfl) (by decide) (by kernel_rfl) (by kernel_rfl) (fun _ _ _ h => h) rfl ?_ hK1 ?_
  rotate_left
  · (intro u hu; obtain ⟨u0, u1, u2, u3, u4, u5⟩ := (unhide HS) u hu; go_simp; first | done | with_reducible rfl)
  try simp only [Act.put, List.setIfInBounds_toArray, List.set_cons_zero, List.set_cons_succ]
  refine Late.take (i := 23) (oi := { dst := some 35, op := Go.Op.nilCheck (Go.Operand.tmp 34), type := 0, pos := "part.go:17", after := #[{ on := 22, ground := Go.Ground.data }], guard := none }) (v := ?_) rfl (by kernel_rfl) (by kernel_rfl) (by decide) (by kernel_rfl) (by kernel_rfl) (fun _ _ _ h => h) rfl ?_ hK1 ?_
  rotate_left
  · (intro u hu; obtain ⟨u0, u1, u2, u3, u4, u5⟩ := (unhide HS) u hu; go_simp; first | done | with_reducible rfl)
  try simp only [Act.put, List.setIfInBounds_toArray, List.set_cons_zero, List.set_cons_succ]
  refine Late.take (i := 24) (oi := { dst := some 36, op := Go.Op.fieldAddr 164 (Go.Operand.tmp 35) 3, type := 0, pos := "part.go:17", after := #[{ on := 23, ground := Go.Ground.data }], guard := none }) (v := ?_) rfl (by kernel_rfl) (by kernel_rfl) (by decide) (by kernel_rfl) (by kernel_rfl) (fun _ _ _ h => h) rfl ?_ hK1 ?_
  rotate_left
  · (intro u hu; obtain ⟨u0, u1, u2, u3, u4, u5⟩ := (unhide HS) u hu; go_simp; first | done | with_reducible rfl)
  try simp only [Act.put, List.setIfInBounds_toArray, List.set_cons_zero, List.set_cons_succ]
  refine Late.take (i := 25) (oi := { dst := some 37, op := Go.Op.load 76 (Go.Operand.tmp 36), type := 76, pos := "part.go:17", after := #[{ on := 24, ground := Go.Ground.data }], guard := none }) (v := ?_) rfl (by kernel_rfl) (by kernel_rfl) (by decide) (by kernel_rfl) (by kernel_rfl) (fun _ _ _ h => h) rfl ?_ hK1 ?_
  rotate_left
  · (intro u hu; obtain ⟨u0, u1, u2, u3, u4, u5⟩ := (unhide HS) u hu; go_simp; first | done | with_reducible rfl)
  try simp only [Act.put, List.setIfInBounds_toArray, List.set_cons_zero, List.set_cons_succ]
  refine Late.take (i := 26) (oi := { dst := some 38, op := Go.Op.call { callee := Go.Callee.builtin Go.Builtin.len, args := #[Go.Operand.tmp 37], argTypes := #[76] }, type := 3, pos := "part.go:17", after := #[{ on := 25, ground := Go.Ground.data }], guard := none }) (v := ?_) rfl (by kernel_rfl) (by kernel_rfl) (by decide) (by kernel_rfl) (by kernel_rfl) (fun _ _ _ h => h) rfl ?_ hK1 ?_
  rotate_left
  · (intro u hu; obtain ⟨u0, u1, u2, u3, u4, u5⟩ := (unhide HS) u hu; go_simp; first | done | with_reducible rfl)
  try simp only [Act.put, List.setIfInBounds_toArray, List.set_cons_zero, List.set_cons_succ]
  refine Late.take (i := 27) (oi := { dst := some 39, op := Go.Op.binOp Go.BinOp.add 3 (Go.Operand.tmp 33) (Go.Operand.tmp 38) 3, type := 3, pos := "part.go:17", after := #[{ on := 21, ground := Go.Ground.data }, { on := 26, ground := Go.Ground.data }], guard := none }) (v := ?_) rfl (by kernel_rfl) (by kernel_rfl) (by decide) (by kernel_rfl) (by kernel_rfl) (fun _ _ _ h => h) rfl ?_ hK1 ?_
  rotate_left
  · (intro u hu; obtain ⟨u0, u1, u2, u3, u4, u5⟩ := (unhide HS) u hu; go_simp; first | done | with_reducible rfl)
  try simp only [Act.put, List.setIfInBounds_toArray, List.set_cons_zero, List.set_cons_succ]
  refine Late.take (i := 28) (oi := { dst := some 40, op := Go.Op.move (Go.Operand.tmp 0), type := 162, pos := "part.go:17", after := #[], guard := none }) (v := ?_) rfl (by kernel_rfl) (by kernel_rfl) (by decide) (by kernel_rfl) (by kernel_rfl) (fun _ _ _ h => h) rfl ?_ hK1 ?_
  rotate_left
  · (intro u hu; obtain ⟨u0, u1, u2, u3, u4, u5⟩ := (unhide HS) u hu; go_simp; first | done | with_reducible rfl)
  try simp only [Act.put, List.setIfInBounds_toArray, List.set_cons_zero, List.set_cons_succ]
  refine Late.take (i := 29) (oi := { dst := some 41, op := Go.Op.nilCheck (Go.Operand.tmp 40), type := 0, pos := "part.go:17", after := #[{ on := 28, ground := Go.Ground.data }], guard := none }) (v := ?_) rfl (by kernel_rfl) (by kernel_rfl) (by decide) (by kernel_rfl) (by kernel_rfl) (fun _ _ _ h => h) rfl ?_ hK1 ?_
  rotate_left
  · (intro u hu; obtain ⟨u0, u1, u2, u3, u4, u5⟩ := (unhide HS) u hu; go_simp; first | done | with_reducible rfl)
  try simp only [Act.put, List.setIfInBounds_toArray, List.set_cons_zero, List.set_cons_succ]
  refine Late.take (i := 30) (oi := { dst := some 42, op := Go.Op.fieldAddr 164 (Go.Operand.tmp 41) 2, type := 0, pos := "part.go:17", after := #[{ on := 29, ground := Go.Ground.data }], guard := none }) (v := ?_) rfl (by kernel_rfl) (by kernel_rfl) (by decide) (by kernel_rfl) (by kernel_rfl) (fun _ _ _ h => h) rfl ?_ hK1 ?_
  rotate_left
  · (intro u hu; obtain ⟨u0, u1, u2, u3, u4, u5⟩ := (unhide HS) u hu; go_simp; first | done | with_reducible rfl)
  try simp only [Act.put, List.setIfInBounds_toArray, List.set_cons_zero, List.set_cons_succ]
  refine Late.take (i := 31) (oi := { dst := some 43, op := Go.Op.load 3 (Go.Operand.tmp 42), type := 3, pos := "part.go:17", after := #[{ on := 30, ground := Go.Ground.data }], guard := none }) (v := ?_) rfl (by kernel_rfl) (by kernel_rfl) (by decide) (by kernel_rfl) (by kernel_rfl) (fun _ _ _ h => h) rfl ?_ hK1 ?_
  rotate_left
  · (intro u hu; obtain ⟨u0, u1, u2, u3, u4, u5⟩ := (unhide HS) u hu; go_simp; first | done | with_reducible rfl)
  try simp only [Act.put, List.setIfInBounds_toArray, List.set_cons_zero, List.set_cons_succ]
  refine Late.take (i := 32) (oi := { dst := some 44, op := Go.Op.move (Go.Operand.tmp 0), type := 162, pos := "part.go:17", after := #[], guard := none }) (v := ?_) rfl (by kernel_rfl) (by kernel_rfl) (by decide) (by kernel_rfl) (by kernel_rfl) (fun _ _ _ h => h) rfl ?_ hK1 ?_
  rotate_left
  · (intro u hu; obtain ⟨u0, u1, u2, u3, u4, u5⟩ := (unhide HS) u hu; go_simp; first | done | with_reducible rfl)
  try simp only [Act.put, List.setIfInBounds_toArray, List.set_cons_zero, List.set_cons_succ]
  refine Late.take (i := 33) (oi := { dst := some 45, op := Go.Op.nilCheck (Go.Operand.tmp 44), type := 0, pos := "part.go:17", after := #[{ on := 32, ground := Go.Ground.data }], guard := none }) (v := ?_) rfl (by kernel_rfl) (by kernel_rfl) (by decide) (by kernel_rfl) (by kernel_rfl) (fun _ _ _ h => h) rfl ?_ hK1 ?_
  rotate_left
  · (intro u hu; obtain ⟨u0, u1, u2, u3, u4, u5⟩ := (unhide HS) u hu; go_simp; first | done | with_reducible rfl)
  try simp only [Act.put, List.setIfInBounds_toArray, List.set_cons_zero, List.set_cons_succ]
  refine Late.take (i := 34) (oi := { dst := some 46, op := Go.Op.fieldAddr 164 (Go.Operand.tmp 45) 3, type := 0, pos := "part.go:17", after := #[{ on := 33, ground := Go.Ground.data }], guard := none }) (v := ?_) rfl (by kernel_rfl) (by kernel_rfl) (by decide) (by kernel_rfl) (by kernel_rfl) (fun _ _ _ h => h) rfl ?_ hK1 ?_
  rotate_left
  · (intro u hu; obtain ⟨u0, u1, u2, u3, u4, u5⟩ := (unhide HS) u hu; go_simp; first | done | with_reducible rfl)
  try simp only [Act.put, List.setIfInBounds_toArray, List.set_cons_zero, List.set_cons_succ]
  refine Late.take (i := 35) (oi := { dst := some 47, op := Go.Op.load 76 (Go.Operand.tmp 46), type := 76, pos := "part.go:17", after := #[{ on := 34, ground := Go.Ground.data }], guard := none }) (v := ?_) rfl (by kernel_rfl) (by kernel_rfl) (by decide) (by kernel_rfl) (by kernel_rfl) (fun _ _ _ h => h) rfl ?_ hK1 ?_
  rotate_left
  · (intro u hu; obtain ⟨u0, u1, u2, u3, u4, u5⟩ := (unhide HS) u hu; go_simp; first | done | with_reducible rfl)
  try simp only [Act.put, List.setIfInBounds_toArray, List.set_cons_zero, List.set_cons_succ]
  refine Late.take (i := 36) (oi := { dst := some 48, op := Go.Op.call { callee := Go.Callee.builtin Go.Builtin.len, args := #[Go.Operand.tmp 47], argTypes := #[76] }, type := 3, pos := "part.go:17", after := #[{ on := 35, ground := Go.Ground.data }], guard := none }) (v := ?_) rfl (by kernel_rfl) (by kernel_rfl) (by decide) (by kernel_rfl) (by kernel_rfl) (fun _ _ _ h => h) rfl ?_ hK1 ?_
  rotate_left
  · (intro u hu; obtain ⟨u0, u1, u2, u3, u4, u5⟩ := (unhide HS) u hu; go_simp; first | done | with_reducible rfl)
  try simp only [Act.put, List.setIfInBounds_toArray, List.set_cons_zero, List.set_cons_succ]
  refine Late.take (i := 37) (oi := { dst := some 49, op := Go.Op.binOp Go.BinOp.sub 3 (Go.Operand.tmp 43) (Go.Operand.tmp 48) 3, type := 3, pos := "part.go:17", after := #[{ on := 31, ground := Go.Ground.data }, { on := 36, ground := Go.Ground.data }], guard := none }) (v := ?_) rfl (by kernel_rfl) (by kernel_rfl) (by decide) (by kernel_rfl) (by kernel_rfl) (fun _ _ _ h => h) rfl ?_ hK1 ?_
  rotate_left
  · (intro u hu; obtain ⟨u0, u1, u2, u3, u4, u5⟩ := (unhide HS) u hu; go_simp; first | done | with_reducible rfl)
  try simp only [Act.put, List.setIfInBounds_toArray, List.set_cons_zero, List.set_cons_succ]
  refine Late.take (i := 38) (oi := { dst := some 50, op := Go.Op.build 72 #[(0, Go.Operand.tmp 29), (1, Go.Operand.tmp 39), (2, Go.Operand.tmp 49)], type := 72, pos := "part.go:17", after := #[{ on := 17, ground := Go.Ground.data }, { on := 27, ground := Go.Ground.data }, { on := 37, ground := Go.Ground.data }], guard := none }) (v := ?_) rfl (by kernel_rfl) (by kernel_rfl) (by decide) (by kernel_rfl) (by kernel_rfl) (fun _ _ _ h => h) rfl ?_ hK1 ?_
  rotate_left
  · (intro u hu; obtain ⟨u0, u1, u2, u3, u4, u5⟩ := (unhide HS) u hu; go_simp; first | done | with_reducible rfl)
  try simp only [Act.put, List.setIfInBounds_toArray, List.set_cons_zero, List.set_cons_succ]
  refine Late.take (i := 39) (oi := { dst := some 51, op := Go.Op.move (Go.Operand.tmp 0), type := 162, pos := "part.go:17", after := #[], guard := none }) (v := ?_) rfl (by kernel_rfl) (by kernel_rfl) (by decide) (by kernel_rfl) (by kernel_rfl) (fun _ _ _ h => h) rfl ?_ hK1 ?_
  rotate_left
  · (intro u hu; obtain ⟨u0, u1, u2, u3, u4, u5⟩ := (unhide HS) u hu; go_simp; first | done | with_reducible rfl)
  try simp only [Act.put, List.setIfInBounds_toArray, List.set_cons_zero, List.set_cons_succ]
  refine Late.take (i := 40) (oi := { dst := some 52, op := Go.Op.makeFunc (Go.Fn.func 118) #[Go.Operand.tmp 51] #[], type := 167, pos := "part.go:17", after := #[{ on := 39, ground := Go.Ground.data }], guard := none }) (v := ?_) rfl (by kernel_rfl) (by kernel_rfl) (by decide) (by kernel_rfl) (by kernel_rfl) (fun _ _ _ h => h) rfl ?_ hK1 ?_
  rotate_left
  · (intro u hu; obtain ⟨u0, u1, u2, u3, u4, u5⟩ := (unhide HS) u hu; go_simp; first | done | with_reducible rfl)
  try simp only [Act.put, List.setIfInBounds_toArray, List.set_cons_zero, List.set_cons_succ]
  refine Late.take (i := 41) (oi := { dst := some 53, op := Go.Op.move (Go.Operand.tmp 0), type := 162, pos := "part.go:17", after := #[], guard := none }) (v := ?_) rfl (by kernel_rfl) (by kernel_rfl) (by decide) (by kernel_rfl) (by kernel_rfl) (fun _ _ _ h => h) rfl ?_ hK1 ?_
  rotate_left
  · (intro u hu; obtain ⟨u0, u1, u2, u3, u4, u5⟩ := (unhide HS) u hu; go_simp; first | done | with_reducible rfl)
  try simp only [Act.put, List.setIfInBounds_toArray, List.set_cons_zero, List.set_cons_succ]
  refine Late.take (i := 42) (oi := { dst := some 54, op := Go.Op.makeFunc (Go.Fn.func 119) #[Go.Operand.tmp 53] #[], type := 1, pos := "part.go:17", after := #[{ on := 41, ground := Go.Ground.data }], guard := none }) (v := ?_) rfl (by kernel_rfl) (by kernel_rfl) (by decide) (by kernel_rfl) (by kernel_rfl) (fun _ _ _ h => h) rfl ?_ hK1 ?_
  rotate_left
  · (intro u hu; obtain ⟨u0, u1, u2, u3, u4, u5⟩ := (unhide HS) u hu; go_simp; first | done | with_reducible rfl)
  try simp only [Act.put, List.setIfInBounds_toArray, List.set_cons_zero, List.set_cons_succ]
  refine Late.take (i := 43) (oi := { dst := some 55, op := Go.Op.build 169 #[(0, Go.Operand.tmp 50), (1, Go.Operand.tmp 52), (2, Go.Operand.tmp 54)], type := 169, pos := "part.go:17", after := #[{ on := 38, ground := Go.Ground.data }, { on := 40, ground := Go.Ground.data }, { on := 42, ground := Go.Ground.data }], guard := none }) (v := ?_) rfl (by kernel_rfl) (by kernel_rfl) (by decide) (by kernel_rfl) (by kernel_rfl) (fun _ _ _ h => h) rfl ?_ hK1 ?_
  rotate_left
  · (intro u hu; obtain ⟨u0, u1, u2, u3, u4, u5⟩ := (unhide HS) u hu; go_simp; first | done | with_reducible rfl)
  try simp only [Act.put, List.setIfInBounds_toArray, List.set_cons_zero, List.set_cons_succ]
  refine Late.one (i := 44) (o := { dst := some 56, op := Go.Op.buildSlice 133 1 #[(0, Go.Operand.tmp 55)], type := 133, pos := "part.go:17", after := #[{ on := 43, ground := Go.Ground.data }], guard := none }) (by kernel_rfl) rfl (fun K hK => ?_)
  go_simp
  refine hK _ _ (fun _ => ((Kp.refl _ _).alloc _).drew) ?_
  clear hK K
  try simp only [Act.put, List.setIfInBounds_toArray, List.set_cons_zero, List.set_cons_succ]
  refine Late.one (i := 45) (o := { dst := some 57, op := Go.Op.call { callee := Go.Callee.builtin Go.Builtin.append, args := #[Go.Operand.tmp 22, Go.Operand.tmp 56], argTypes := #[133, 133] }, type := 133, pos := "part.go:17", after := #[{ on := 10, ground := Go.Ground.data }, { on := 44, ground := Go.Ground.data }], guard := none }) (by kernel_rfl) rfl (fun K hK => ?_)
  refine step_append_g rfl _ _ 133 133 rfl 169 zReq 5 40 Tryz.underlying133 infoReq rfl _ _ _ (by rfl) ((unhide HA) _ ((Kp.refl _ _).alloc _).drew) _ (by rfl) 1 _ (src_elemD _ _ _ Tryz.underlying133 _ _ (unhide HR) (unhide HO)) (by omega) (by omega) ?_
  intro v' w1 o2 k2 s2
  have k12 : Kp (fun k => k ≠ p ∧ k ≠ P) W1 w1 := ((Kp.refl _ _).alloc _).drew.trans (k2.mono (fun k _ e => (unhide HV) k e))
  refine hK _ _ (fun _ => k12) ?_
  clear hK K
  obtain ⟨a', c', rfl, hc'⟩ := o2.shape
  try simp only [Act.put, List.setIfInBounds_toArray, List.set_cons_zero, List.set_cons_succ]
  have s10' : w1.cell? ⟨P, 10, none⟩ = some (.slice aa m.asked.length ac) := k12.cell s10 (by simp)
  have f10' : w1.frozen? ⟨P, 10, none⟩ = false := by rw [World.frozen?_of_block (w := W1) (a := ⟨P, 10, none⟩) (k12.block P h1.blk.lt (by simp))]; exact f10
  refine Late.one (i := 46) (o := { dst := some 58, op := Go.Op.nilCheck (Go.Operand.tmp 15), type := 0, pos := "part.go:17", after := #[{ on := 3, ground := Go.Ground.data }, { on := 0, ground := Go.Ground.phase }, { on := 1, ground := Go.Ground.phase }, { on := 2, ground := Go.Ground.phase }, { on := 3, ground := Go.Ground.phase }, { on := 4, ground := Go.Ground.phase }, { on := 5, ground := Go.Ground.phase }, { on := 6, ground := Go.Ground.phase }, { on := 7, ground := Go.Ground.phase }, { on := 8, ground := Go.Ground.phase }, { on := 9, ground := Go.Ground.phase }, { on := 10, ground := Go.Ground.phase }, { on := 11, ground := Go.Ground.phase }, { on := 12, ground := Go.Ground.phase }, { on := 13, ground := Go.Ground.phase }, { on := 14, ground := Go.Ground.phase }, { on := 15, ground := Go.Ground.phase }, { on := 16, ground := Go.Ground.phase }, { on := 17, ground := Go.Ground.phase }, { on := 18, ground := Go.Ground.phase }, { on := 19, ground := Go.Ground.phase }, { on := 20, ground := Go.Ground.phase }, { on := 21, ground := Go.Ground.phase }, { on := 22, ground := Go.Ground.phase }, { on := 23, ground := Go.Ground.phase }, { on := 24, ground := Go.Ground.phase }, { on := 25, ground := Go.Ground.phase }, { on := 26, ground := Go.Ground.phase }, { on := 27, ground := Go.Ground.phase }, { on := 28, ground := Go.Ground.phase }, { on := 29, ground := Go.Ground.phase }, { on := 30, ground := Go.Ground.phase }, { on := 31, ground := Go.Ground.phase }, { on := 32, ground := Go.Ground.phase }, { on := 33, ground := Go.Ground.phase }, { on := 34, ground := Go.Ground.phase }, { on := 35, ground := Go.Ground.phase }, { on := 36, ground := Go.Ground.phase }, { on := 37, ground := Go.Ground.phase }, { on := 38, ground := Go.Ground.phase }, { on := 39, ground := Go.Ground.phase }, { on := 40, ground := Go.Ground.phase }, { on := 41, ground := Go.Ground.phase }, { on := 42, ground := Go.Ground.phase }, { on := 43, ground := Go.Ground.phase }, { on := 44, ground := Go.Ground.phase }, { on := 45, ground := Go.Ground.phase }], guard := none }) (by kernel_rfl) rfl (fun K hK => ?_)
  go_simp
  refine hK _ _ (fun _ => k12) ?_
  clear hK K
  try simp only [Act.put, List.setIfInBounds_toArray, List.set_cons_zero, List.set_cons_succ]
  refine Late.one (i := 47) (o := { dst := some 59, op := Go.Op.fieldAddr 136 (Go.Operand.tmp 58) 3, type := 0, pos := "part.go:17", after := #[{ on := 46, ground := Go.Ground.data }, { on := 0, ground := Go.Ground.phase }, { on := 1, ground := Go.Ground.phase }, { on := 2, ground := Go.Ground.phase }, { on := 3, ground := Go.Ground.phase }, { on := 4, ground := Go.Ground.phase }, { on := 5, ground := Go.Ground.phase }, { on := 6, ground := Go.Ground.phase }, { on := 7, ground := Go.Ground.phase }, { on := 8, ground := Go.Ground.phase }, { on := 9, ground := Go.Ground.phase }, { on := 10, ground := Go.Ground.phase }, { on := 11, ground := Go.Ground.phase }, { on := 12, ground := Go.Ground.phase }, { on := 13, ground := Go.Ground.phase }, { on := 14, ground := Go.Ground.phase }, { on := 15, ground := Go.Ground.phase }, { on := 16, ground := Go.Ground.phase }, { on := 17, ground := Go.Ground.phase }, { on := 18, ground := Go.Ground.phase }, { on := 19, ground := Go.Ground.phase }, { on := 20, ground := Go.Ground.phase }, { on := 21, ground := Go.Ground.phase }, { on := 22, ground := Go.Ground.phase }, { on := 23, ground := Go.Ground.phase }, { on := 24, ground := Go.Ground.phase }, { on := 25, ground := Go.Ground.phase }, { on := 26, ground := Go.Ground.phase }, { on := 27, ground := Go.Ground.phase }, { on := 28, ground := Go.Ground.phase }, { on := 29, ground := Go.Ground.phase }, { on := 30, ground := Go.Ground.phase }, { on := 31, ground := Go.Ground.phase }, { on := 32, ground := Go.Ground.phase }, { on := 33, ground := Go.Ground.phase }, { on := 34, ground := Go.Ground.phase }, { on := 35, ground := Go.Ground.phase }, { on := 36, ground := Go.Ground.phase }, { on := 37, ground := Go.Ground.phase }, { on := 38, ground := Go.Ground.phase }, { on := 39, ground := Go.Ground.phase }, { on := 40, ground := Go.Ground.phase }, { on := 41, ground := Go.Ground.phase }, { on := 42, ground := Go.Ground.phase }, { on := 43, ground := Go.Ground.phase }, { on := 44, ground := Go.Ground.phase }, { on := 45, ground := Go.Ground.phase }], guard := none }) (by kernel_rfl) rfl (fun K hK => ?_)
  go_simp
  refine hK _ _ (fun _ => k12) ?_
  clear hK K
  try simp only [Act.put, List.setIfInBounds_toArray, List.set_cons_zero, List.set_cons_succ]
  refine Late.one (i := 48) (o := { dst := none, op := Go.Op.store 133 (Go.Operand.tmp 59) (Go.Operand.tmp 57), type := 0, pos := "part.go:17", after := #[{ on := 47, ground := Go.Ground.data }, { on := 45, ground := Go.Ground.data }, { on := 45, ground := Go.Ground.chain }, { on := 0, ground := Go.Ground.phase }, { on := 1, ground := Go.Ground.phase }, { on := 2, ground := Go.Ground.phase }, { on := 3, ground := Go.Ground.phase }, { on := 4, ground := Go.Ground.phase }, { on := 5, ground := Go.Ground.phase }, { on := 6, ground := Go.Ground.phase }, { on := 7, ground := Go.Ground.phase }, { on := 8, ground := Go.Ground.phase }, { on := 9, ground := Go.Ground.phase }, { on := 10, ground := Go.Ground.phase }, { on := 11, ground := Go.Ground.phase }, { on := 12, ground := Go.Ground.phase }, { on := 13, ground := Go.Ground.phase }, { on := 14, ground := Go.Ground.phase }, { on := 15, ground := Go.Ground.phase }, { on := 16, ground := Go.Ground.phase }, { on := 17, ground := Go.Ground.phase }, { on := 18, ground := Go.Ground.phase }, { on := 19, ground := Go.Ground.phase }, { on := 20, ground := Go.Ground.phase }, { on := 21, ground := Go.Ground.phase }, { on := 22, ground := Go.Ground.phase }, { on := 23, ground := Go.Ground.phase }, { on := 24, ground := Go.Ground.phase }, { on := 25, ground := Go.Ground.phase }, { on := 26, ground := Go.Ground.phase }, { on := 27, ground := Go.Ground.phase }, { on := 28, ground := Go.Ground.phase }, { on := 29, ground := Go.Ground.phase }, { on := 30, ground := Go.Ground.phase }, { on := 31, ground := Go.Ground.phase }, { on := 32, ground := Go.Ground.phase }, { on := 33, ground := Go.Ground.phase }, { on := 34, ground := Go.Ground.phase }, { on := 35, ground := Go.Ground.phase }, { on := 36, ground := Go.Ground.phase }, { on := 37, ground := Go.Ground.phase }, { on := 38, ground := Go.Ground.phase }, { on := 39, ground := Go.Ground.phase }, { on := 40, ground := Go.Ground.phase }, { on := 41, ground := Go.Ground.phase }, { on := 42, ground := Go.Ground.phase }, { on := 43, ground := Go.Ground.phase }, { on := 44, ground := Go.Ground.phase }, { on := 45, ground := Go.Ground.phase }], guard := none }) (by kernel_rfl) rfl (fun K hK => ?_)
  go_simp
  refine hK _ _ (fun h => absurd rfl h) ?_
  clear hK K
  try simp only [Act.put, List.setIfInBounds_toArray, List.set_cons_zero, List.set_cons_succ]
  refine Late.done (by kernel_rfl) ?_ _
  go_end0
  have hw1 : Went col w W1 col := ⟨(k1.mono (fun i _ hi => by show col i ≠ .out; rw [hi, h.inn.pcol]; simp)), fun _ _ => rfl⟩
  obtain ⟨r1, r2⟩ := h1.askMore hp1 hn (((Kp.refl _ _).alloc _).drew) k2 s2 o2
  exact ⟨rfl, _, _, r1, hw1.trans r2⟩
end Go.Proofs.YthicgffppmbamaaGreat
