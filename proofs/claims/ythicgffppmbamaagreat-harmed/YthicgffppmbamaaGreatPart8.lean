/- ArrCame, PartCame, Failed, Answer, AskT, Tick, Wraps, ScNext. -/
import Derived.BigQuiet
import Derived.Test.YthicgffppmbamaaGreatPart2
import Derived.Test.YthicgffppmbamaaGreatPart3
import Derived.Test.YthicgffppmbamaaGreatPart4
import Derived.Test.YthicgffppmbamaaGreatPart5
import Derived.Test.YthicgffppmbamaaGreatPart6
import Derived.Test.YthicgffppmbamaaGreatPart7
namespace Go.Proofs.YthicgffppmbamaaGreat
open Go.RowKit

/-- every page that is read may be laid down -/
def PutsOk (p : Pl.Piece) (data : List UInt8) : List Pl.WPage → Pl.Rw → Prop
  | [], _ => True
  | x :: t, r => ∀ l, Pl.readW p x data = some l → (r.gone ≤ x.group ∧ ∃ G, r.groups[x.group - r.gone]? = some G ∧ x.column < G.lists.length ∧ 1 ≤ G.missing ∧ G.missing ≤ 1000000) ∧ PutsOk p data t (Pl.rwPut r x.group x.column l)
/-- what is known of a page that is read -/
structure PgOk (p : Pl.Piece) (n : Nat) (x : Pl.WPage) : Prop where
  first : p.place ≤ x.page.place
  len : 1 ≤ x.page.length
  ends : x.page.place + x.page.length ≤ p.place + n
  place : x.page.place ≤ 1000000
  rows1 : 1 ≤ x.rows
  rows20 : x.rows ≤ 20
  sum : x.page.sum < 4294967296
  group : x.group ≤ 1000000
  column : x.column ≤ 1000000
theorem rwPut_len (r : Pl.Rw) (g c : Nat) (l : List Int) : (Pl.rwPut r g c l).groups.length = r.groups.length := by simp [Pl.rwPut]

set_option maxRecDepth 20000 in
set_option maxHeartbeats 4000000 in
theorem arrCame_any (C : Nat → Prop) (col : Colr) (w : World) (P : Nat) (m : Pl.Sc) (ps qs : List Nat) (nv av wv hv gv : Value) (h : Rep col w P m ps qs nv av wv hv gv) (p : Pl.Piece) (pv v : Value) (l : List UInt8) (hpg : PagesAt col w pv p.pages) (hC : ∀ i, C i → i < w.heap.size ∧ ¬ RowCol col i) (hr : RowAt C false w 1 v l.length (l.map B)) (hl : l.length ≤ 1000000) (hok : ∀ x ∈ p.pages, PgOk p l.length x) (hpl : p.pages.length ≤ 1000) (hput : PutsOk p l p.pages m.rows) (hgl : m.rows.groups.length ≤ 1000000) (hop : 1 ≤ m.opened) (hf : Fine { m with opened := m.opened - 1 }) :
    Calls Tryz.prog 149 #[.agg #[PtrTo P 0, I p.place, I p.length, pv], v] w fun e w' => e = .returned (.tuple #[]) ∧ ∃ col', IsSc col' w' P (Pl.pieceCame m p l) ∧ Went col w w' col' := by
  have hpg0 := hpg
  obtain ⟨pa, pc, rfl, hpc, hp3⟩ := RowAt.get hpg0
  clear hpg0
  have hr0 := hr
  obtain ⟨va, vc, rfl, -, -⟩ := hr0.get
  clear hr0
  have bA := Blk.of_alloc w [PtrTo P 0, I p.place, I p.length, .slice pa p.pages.length pc] 237
  have x0 : Ext w (w.alloc (.cells #[PtrTo P 0, I p.place, I p.length, .slice pa p.pages.length pc] 237)) := (Kp.refl _ _).alloc _
  have hPl := h.blk.lt
  go_enter Tryz.func149, Tryz.ntmps149
  go_wp2_with fail
  generalize w.alloc (.cells #[PtrTo P 0, I p.place, I p.length, .slice pa p.pages.length pc] 237) = W0 at *
  have hsW : w.heap.size < W0.heap.size := bA.lt
  have hAo : ∀ i, w.heap.size ≤ i → col i = .out := h.inn.top
  have hPc : Hid (Pl.pieceCame m p l = match Pl.putsF p l p.pages m.rows with
    | none => Pl.ended 2
    | some r => Pl.askAhead { m with rows := r, opened := m.opened - 1 }) := hide rfl
  go_loopw [12] (fun i wr => ∃ (k : Nat) (colr : Colr) (rr : Pl.Rw), i = .int .i64 k ∧ k ≤ p.pages.length ∧ Rep colr wr P { m with rows := rr } ps qs nv av wv hv gv ∧ Pl.putsF p l (p.pages.drop k) rr = Pl.putsF p l p.pages m.rows ∧ PutsOk p l (p.pages.drop k) rr ∧ rr.groups.length = m.rows.groups.length ∧ Kp (RowCol col) W0 wr ∧ (∀ i, i < W0.heap.size → colr i = col i)) (fun i _ => p.pages.length - (intOf i).toNat)
  case atStart => exact ⟨0, col, m.rows, rfl, by omega, h.ext x0, rfl, hput, rfl, Kp.refl _ _, fun _ _ => rfl⟩
  case round =>
    obtain ⟨k, colr, rr, rfl, hk, hR, hpf, hpo, hrl, hK, hcs⟩ := hrel
    have HPF := hide hpf
    clear hpf hput
    have hAn : ¬ RowCol col w.heap.size := fun e => by
      rcases e with e | ⟨g, e⟩
      · rw [hAo _ (Nat.le_refl _)] at e; cases e
      · rw [hAo _ (Nat.le_refl _)] at e; cases e
    have hbA := bA.kept hK hAn
    have a0 := hbA.cell 0
    have a1 := hbA.cell 1
    have a2 := hbA.cell 2
    have a3 := hbA.cell 3
    simp only [List.getElem?_cons_zero, List.getElem?_cons_succ, I] at a0 a1 a2 a3
    have hAl := hbA.lt
    have hW : Went col w wr colr := (Went.ext x0).trans ⟨hK.mono (fun i _ e => by show col i ≠ .out; rcases e with e | ⟨g, e⟩ <;> rw [e] <;> simp), hcs⟩
    by_cases hkl : k < p.pages.length
    · obtain ⟨b, off, rfl, hb, hcc⟩ := hp3 (by omega)
      have hbro : ¬ RowCol col b := by
        obtain ⟨-, ao, cap', e, -, h9⟩ := hpg
        cases e
        obtain ⟨b', o', e', hb', -, -, -⟩ := h9 (by omega)
        cases e'
        intro e
        rcases e with e | ⟨g, e⟩
        · rw [hb'] at e; cases e
        · rw [hb'] at e; cases e
      have hck : ∀ j, j < 6 → wr.cell? ⟨b, off + (k * 6 + j), none⟩ = (wpCells p.pages[k])[j]? := fun j hj => by
        have e2 := (hcc (k * 6 + j) (by omega)).trans (wpRow_at p.pages k j hkl hj)
        have : j < (wpCells p.pages[k]).length := hj
        rw [List.getElem?_eq_getElem this] at e2 ⊢
        exact hK.cell (x0.cell e2 id) hbro
      have d0 := hck 0 (by omega)
      have d1 := hck 1 (by omega)
      have d2 := hck 2 (by omega)
      have d3 := hck 3 (by omega)
      have d4 := hck 4 (by omega)
      have d5 := hck 5 (by omega)
      have hx := hok p.pages[k] (List.getElem_mem hkl)
      have hdk := List.drop_eq_getElem_cons hkl
      rw [hdk] at hpo
      have HPS : Hid (Pl.putsF p l p.pages m.rows = match Pl.readW p p.pages[k] l with
        | none => none
        | some xs => Pl.putsF p l (p.pages.drop (k + 1)) (Pl.rwPut rr p.pages[k].group p.pages[k].column xs)) := hide (by rw [← HPF.out, hdk]; rfl)
      generalize p.pages[k] = x at *
      simp only [wpCells, I, List.getElem?_cons_zero, List.getElem?_cons_succ, Nat.add_zero, ← Nat.add_assoc] at d0 d1 d2 d3 d4 d5
      clear hck hcc hp3 hdk HPF
      go_wp2_with fail
      have xB : Ext wr (wr.alloc (.cells #[.int .i64 x.page.place, .int .i64 x.page.length, .int .u32 x.page.sum, .int .i64 x.group, .int .i64 x.column, .int .i64 x.rows] 253)) := (Kp.refl _ _).alloc _
      have bB := Blk.of_alloc wr [.int .i64 x.page.place, .int .i64 x.page.length, .int .u32 x.page.sum, .int .i64 x.group, .int .i64 x.column, .int .i64 x.rows] 253
      generalize wr.alloc (.cells #[.int .i64 x.page.place, .int .i64 x.page.length, .int .u32 x.page.sum, .int .i64 x.group, .int .i64 x.column, .int .i64 x.rows] 253) = W1 at *
      have hrow1 : RowAt C false W1 1 (.slice va l.length vc) l.length (l.map B) := ((hr.go (S := fun _ => False) (C' := C) x0 (fun _ _ f => f) (fun _ _ e => e)).go (C' := C) hK (fun i hi => (hC i hi).2) (fun _ _ e => e)).go (S := fun _ => False) (C' := C) xB (fun _ _ f => f) (fun _ _ e => e)
      refine (pieceRead_any C W1 w.heap.size 1 p.place x.page.place x.page.length x.page.sum x.group x.column x.rows _ l (fun i hi => by have := (hC i hi).1; have := x0.size; have := hK.size; have := xB.size; omega) (xB.cell a1 id) hrow1 hl hx.first hx.len hx.ends hx.place hx.rows1 hx.rows20 hx.sum).mono ?_
      rintro e w2 ⟨x2, hsd⟩
      have hsd' : PageSaid W1 w2 x.rows (Pl.readW p x l) e := hsd
      clear hsd
      have xr2 : Ext wr w2 := xB.trans x2
      cases hrw : Pl.readW p x l with
      | none =>
        rw [hrw] at hsd' HPS
        cases hsd'
        have HFD : Hid (Pl.pieceCame m p l = Pl.ended 2) := hide (by rw [hPc.out, HPS.out])
        have hR2 := hR.ext xr2
        have a0' := xr2.cell a0 id
        go_wp2_with fail
        refine (end_any colr w2 P _ (scCells_len _ _ _ _ _ _ _) 2 (by decide) hR2.blk hR2.inn.pcol hR2.inn.top).mono ?_
        rintro e w4 ⟨rfl, r4, k4⟩
        go_wp2_with fail
        try simp only [Exit.inBlock, Exit.then]
        refine bodyPost_ret (results_none rfl _ _ _) rfl ?_
        rw [HFD.out]
        obtain ⟨a, b⟩ := hR2.ends r4 k4
        exact ⟨rfl, colr, a, (hW.trans (Went.ext xr2)).trans b⟩
      | some xs =>
        rw [hrw] at hsd' HPS
        obtain ⟨⟨hpo1, G, hG, hGc, hGm, hGm2⟩, hpo2⟩ := hpo xs hrw
        cases hsd' with
        | yes gb _ hgb hgB hgl2 =>
        go_wp2_with fail
        have hgb' : wr.heap.size ≤ gb := Nat.le_trans xB.size hgb
        have hgl3 := hgB.lt
        have hcp : ∀ i, i < wr.heap.size → paint colr gb (gb + 1) .ro i = colr i := fun i hi => paint_lt _ _ _ _ _ (by omega)
        have hx1 : Ext w2 w2.drew := (Kp.refl _ _).drew
        have xrd : Ext wr w2.drew := xr2.trans hx1
        have hR3 : Rep (paint colr gb (gb + 1) .ro) w2.drew P { m with rows := rr } ps qs nv av wv hv gv := ⟨hR.blk.kept xrd id, hR.inn.go xrd hR.blk.lt (fun _ f => f.elim) hcp (fun i hi => by
          have hi' : w2.heap.size ≤ i := hi
          rw [paint_ge _ _ _ _ _ (by omega)]
          exact hR.inn.top i (Nat.le_trans xr2.size hi'))⟩
        have hS : ∀ u, Ext w2 u → u.cell? ⟨w.heap.size, 0, none⟩ = some (PtrTo P 0) ∧ u.cell? ⟨wr.heap.size, 3, none⟩ = some (.int .i64 x.group) ∧ u.cell? ⟨wr.heap.size, 4, none⟩ = some (.int .i64 x.column) := fun u hu => ⟨(xr2.trans hu).cell a0 id, (x2.trans hu).cell (bB.cell 3) id, (x2.trans hu).cell (bB.cell 4) id⟩
        have HS := hide hS
        clear hS
        have hul : RowAt (fun b => paint colr gb (gb + 1) .ro b = .ro) false w2.drew 1 (.slice (some ⟨gb, 0, none⟩) x.rows x.rows) xs.length (xs.map I) := by
          have hb2 := hgB.kept hx1 id
          refine ⟨by simp, _, x.rows, by rw [hgl2], by omega, fun _ => ⟨gb, 0, rfl, paint_in _ _ _ _ _ (Nat.le_refl _) (by omega), hb2.lt, fun j hj => ?_, fun h => by cases h⟩⟩
          rw [Nat.zero_add]
          exact hb2.cell j
        have HPA := hide (put_any _ w2.drew P { m with rows := rr } ps qs nv av wv hv gv hR3 x.group x.column (x.group - rr.gone) G _ xs hul (by show rr.gone + (x.group - rr.gone) = x.group; omega) hG hx.group hGc hx.column hGm hGm2 (by show rr.groups.length ≤ _; omega))
        clear hG hpo1
        refine wp_region_late (n := 9) (Ext w2) (by kernel_rfl) ?_
        refine Late.take (i := 0) (oi := ⟨some 28, .fieldAddr 237 (.tmp 2) 0, 0, "steps.go:73", #[], none⟩) (v := ?_) [1, 2, 3, 9] rfl (by kernel_rfl) (by kernel_rfl) (by decide) (by decide) (by kernel_rfl) (by kernel_rfl) (by kernel_rfl) (fun _ _ _ h => h) rfl ?_ hx1 ?_
        rotate_left
        · (intro u hu; obtain ⟨u0, u1, u2⟩ := (unhide HS) u hu; go_simp; first | done | with_reducible rfl)
        try simp only [Act.put, List.setIfInBounds_toArray, List.set_cons_zero, List.set_cons_succ]
        refine Late.take (i := 1) (oi := ⟨some 29, .load 109 (.tmp 28), 109, "steps.go:73", #[⟨0, .data⟩], none⟩) (v := ?_) [2, 3, 9] rfl (by kernel_rfl) (by kernel_rfl) (by decide) (by decide) (by kernel_rfl) (by kernel_rfl) (by kernel_rfl) (fun _ _ _ h => h) rfl ?_ hx1 ?_
        rotate_left
        · (intro u hu; obtain ⟨u0, u1, u2⟩ := (unhide HS) u hu; go_simp; first | done | with_reducible rfl)
        try simp only [Act.put, List.setIfInBounds_toArray, List.set_cons_zero, List.set_cons_succ]
        refine Late.take (i := 2) (oi := ⟨some 30, .nilCheck (.tmp 29), 0, "steps.go:73", #[⟨1, .data⟩], none⟩) (v := ?_) [3, 9] rfl (by kernel_rfl) (by kernel_rfl) (by decide) (by decide) (by kernel_rfl) (by kernel_rfl) (by kernel_rfl) (fun _ _ _ h => h) rfl ?_ hx1 ?_
        rotate_left
        · (intro u hu; obtain ⟨u0, u1, u2⟩ := (unhide HS) u hu; go_simp; first | done | with_reducible rfl)
        try simp only [Act.put, List.setIfInBounds_toArray, List.set_cons_zero, List.set_cons_succ]
        refine Late.take (i := 3) (oi := ⟨some 31, .fieldAddr 142 (.tmp 30) 7, 0, "steps.go:73", #[⟨2, .data⟩], none⟩) (v := ?_) [9] rfl (by kernel_rfl) (by kernel_rfl) (by decide) (by decide) (by kernel_rfl) (by kernel_rfl) (by kernel_rfl) (fun _ _ _ h => h) rfl ?_ hx1 ?_
        rotate_left
        · (intro u hu; obtain ⟨u0, u1, u2⟩ := (unhide HS) u hu; go_simp; first | done | with_reducible rfl)
        try simp only [Act.put, List.setIfInBounds_toArray, List.set_cons_zero, List.set_cons_succ]
        refine Late.take (i := 4) (oi := ⟨some 32, .fieldAddr 253 (.tmp 5) 1, 0, "steps.go:73", #[], none⟩) (v := ?_) [5, 9] rfl (by kernel_rfl) (by kernel_rfl) (by decide) (by decide) (by kernel_rfl) (by kernel_rfl) (by kernel_rfl) (fun _ _ _ h => h) rfl ?_ hx1 ?_
        rotate_left
        · (intro u hu; obtain ⟨u0, u1, u2⟩ := (unhide HS) u hu; go_simp; first | done | with_reducible rfl)
        try simp only [Act.put, List.setIfInBounds_toArray, List.set_cons_zero, List.set_cons_succ]
        refine Late.take (i := 5) (oi := ⟨some 33, .load 3 (.tmp 32), 3, "steps.go:73", #[⟨4, .data⟩], none⟩) (v := ?_) [9] rfl (by kernel_rfl) (by kernel_rfl) (by decide) (by decide) (by kernel_rfl) (by kernel_rfl) (by kernel_rfl) (fun _ _ _ h => h) rfl ?_ hx1 ?_
        rotate_left
        · (intro u hu; obtain ⟨u0, u1, u2⟩ := (unhide HS) u hu; go_simp; first | done | with_reducible rfl)
        try simp only [Act.put, List.setIfInBounds_toArray, List.set_cons_zero, List.set_cons_succ]
        refine Late.take (i := 6) (oi := ⟨some 34, .fieldAddr 253 (.tmp 5) 2, 0, "steps.go:73", #[], none⟩) (v := ?_) [7, 9] rfl (by kernel_rfl) (by kernel_rfl) (by decide) (by decide) (by kernel_rfl) (by kernel_rfl) (by kernel_rfl) (fun _ _ _ h => h) rfl ?_ hx1 ?_
        rotate_left
        · (intro u hu; obtain ⟨u0, u1, u2⟩ := (unhide HS) u hu; go_simp; first | done | with_reducible rfl)
        try simp only [Act.put, List.setIfInBounds_toArray, List.set_cons_zero, List.set_cons_succ]
        refine Late.take (i := 7) (oi := ⟨some 35, .load 3 (.tmp 34), 3, "steps.go:73", #[⟨6, .data⟩], none⟩) (v := ?_) [9] rfl (by kernel_rfl) (by kernel_rfl) (by decide) (by decide) (by kernel_rfl) (by kernel_rfl) (by kernel_rfl) (fun _ _ _ h => h) rfl ?_ hx1 ?_
        rotate_left
        · (intro u hu; obtain ⟨u0, u1, u2⟩ := (unhide HS) u hu; go_simp; first | done | with_reducible rfl)
        try simp only [Act.put, List.setIfInBounds_toArray, List.set_cons_zero, List.set_cons_succ]
        refine Late.take (i := 8) (oi := ⟨some 36, .move (.tmp 6), 46, "steps.go:73", #[], none⟩) (v := ?_) [9] rfl (by kernel_rfl) (by kernel_rfl) (by decide) (by decide) (by kernel_rfl) (by kernel_rfl) (by kernel_rfl) (fun _ _ _ h => h) rfl ?_ hx1 ?_
        rotate_left
        · (intro u hu; obtain ⟨u0, u1, u2⟩ := (unhide HS) u hu; go_simp; first | done | with_reducible rfl)
        try simp only [Act.put, List.setIfInBounds_toArray, List.set_cons_zero, List.set_cons_succ]
        refine Late.one (i := 9) (o := ⟨some 37, .call { callee := .value (.func 170), args := #[.tmp 31, .tmp 33, .tmp 35, .tmp 36], argTypes := #[140, 3, 3, 46] }, 0, "steps.go:73", #[⟨3, .data⟩, ⟨5, .data⟩, ⟨7, .data⟩, ⟨8, .data⟩], none⟩) (by kernel_rfl) rfl (fun K hK => ?_)
        refine step_call_g rfl 170 #[PtrTo P 14, .int .i64 x.group, .int .i64 x.column, .slice (some ⟨gb, 0, none⟩) x.rows x.rows] (by go_simp) ?_
        refine (unhide HPA).mono ?_
        rintro e w3 ⟨rfl, r3, k3⟩
        refine ⟨_, rfl, hK _ _ (fun h => absurd rfl h) ?_⟩
        clear hK K
        try simp only [Act.put, List.setIfInBounds_toArray, List.set_cons_zero, List.set_cons_succ]
        refine Late.done (by kernel_rfl) ?_ _
        go_wp2_with fail
        refine ⟨⟨k + 1, _, Pl.rwPut rr x.group x.column xs, by go_num, by omega, r3, HPS.out.symm, hpo2, by rw [rwPut_len]; exact hrl, ?_, fun i hi => ?_⟩, by simp [intOf]; omega⟩
        · refine (hK.trans (Kp.of_ext xrd)).then k3 (fun i hi e => ?_)
          have : paint colr gb (gb + 1) .ro i = col i := by rw [hcp i (Nat.lt_of_lt_of_le hi hK.size), hcs i hi]
          unfold RowCol at e ⊢
          rw [← this]
          exact e
        · rw [hcp i (Nat.lt_of_lt_of_le hi hK.size), hcs i hi]
    · obtain rfl : k = p.pages.length := by omega
      have HFD : Hid (Pl.pieceCame m p l = Pl.askAhead { m with rows := rr, opened := m.opened - 1 }) := hide (by
        rw [hPc.out, ← HPF.out, List.drop_length]
        rfl)
      have c13 := hR.blk.cell 13
      have f13 := hR.blk.free 13
      simp only [scCells, I, List.getElem?_cons_zero, List.getElem?_cons_succ] at c13
      have hin : Inner colr wr P { m with rows := rr, opened := m.opened - 1 } ps qs nv av wv hv gv := ⟨hR.inn.pcol, hR.inn.top, hR.inn.names, hR.inn.asked, hR.inn.acol, hR.inn.aparts, hR.inn.waiting, hR.inn.wcol, hR.inn.wparts, hR.inn.nodup, hR.inn.ahead, hR.inn.groups⟩
      have hoi : ((m.opened : Int) - 1) = ((m.opened - 1 : Nat) : Int) := by omega
      have r4 := hR.cellP 13 (.int .i64 ((m.opened : Int) - 1)) (m' := { m with rows := rr, opened := m.opened - 1 }) (by simp [scCells, I, giveV, hoi]) hin
      have k4 := kp_set' wr P 13 (.int .i64 ((m.opened : Int) - 1))
      have a0' : (wr.setCell ⟨P, 13, none⟩ (.int .i64 ((m.opened : Int) - 1))).cell? ⟨w.heap.size, 0, none⟩ = some (PtrTo P 0) := k4.cell a0 (by show ¬ w.heap.size = P; omega)
      have hf' : Fine { m with rows := rr, opened := m.opened - 1 } := ⟨hf.size, hf.lastId, hf.asked, hf.win, hf.opened, hf.ahead⟩
      have HAA := hide (askAhead_any colr _ P _ r4.is hf')
      have hw4 : Went colr wr (wr.setCell ⟨P, 13, none⟩ (.int .i64 ((m.opened : Int) - 1))) colr := ⟨k4.mono (fun i _ hi => by show colr i ≠ .out; rw [hi, hR.inn.pcol]; simp), fun _ _ => rfl⟩
      have hfo : m.opened ≤ 1001 := by have := hf.opened; simp at this; omega
      clear hoi hf hf' hin r4
      go_wp2_with fail
      refine (unhide HAA).mono ?_
      rintro e w9 ⟨rfl, c9, s9, g9⟩
      go_wp2_with fail
      go_end0
      rw [HFD.out]
      exact ⟨rfl, c9, s9, (hW.trans hw4).trans g9⟩
end Go.Proofs.YthicgffppmbamaaGreat

namespace Go.Proofs.YthicgffppmbamaaGreat
open Go.RowKit

/-- the numbers of a scan -/
structure Bnd (m : Pl.Sc) : Prop where
  size : m.size ≤ 4000
  lastId : m.lastId ≤ 100000000000
  asked : m.asked.length ≤ 900
  want : m.want.length ≤ 4
  gap : m.gap ≤ 1000
  win : m.win ≤ 1000
  opened : m.opened ≤ 900
  ahead : m.ahead.length ≤ 50
  pieces : ∀ p ∈ m.ahead, p.place + p.length ≤ 1000000
/-- a part that is whole may be taken on -/
def WholeOk (m : Pl.Sc) (aim : Pl.Aim) (l : List UInt8) : Prop := match aim with
  | .tail => True
  | .footer => l.length + 10 ≤ m.size
  | .piece p => (∀ y ∈ p.pages, PgOk p l.length y) ∧ p.pages.length ≤ 1000 ∧ PutsOk p l p.pages m.rows ∧ m.rows.groups.length ≤ 1000000 ∧ 1 ≤ m.opened

/-- the scan goes on where only a part that is not its own, and its data, are touched -/
theorem Rep.partKept {col col' : Colr} {S : Nat → Prop} {w w' : World} {P p : Nat} {m : Pl.Sc} {ps qs : List Nat} {nv av wv hv gv : Value} (h : Rep col w P m ps qs nv av wv hv gv) (k : Kp S w w') (hS : ∀ i, S i → col i = .data p ∨ i = p) (hpc : col p = .part) (hn : p ∉ ps ++ qs) (hc : ∀ i, i < w.heap.size → col' i = col i) (ht : ∀ i, w'.heap.size ≤ i → col' i = .out) : Rep col' w' P m ps qs nv av wv hv gv := by
  have hno : ∀ (c : Col), c ≠ .part → c ≠ .data p → ∀ i, S i → col i ≠ c := fun c h1 h2 i hi e => by
    rcases hS i hi with e' | e'
    · exact h2 (by rw [← e, e'])
    · rw [e', hpc] at e; exact h1 e.symm
  have hin : ∀ q ∈ ps ++ qs, q ≠ p := fun q hq e => hn (e ▸ hq)
  have hnot : ∀ q ∈ ps ++ qs, col q = .part → ¬ S q := fun q hq hqc hs => by
    rcases hS q hs with e' | e'
    · rw [hqc] at e'; cases e'
    · exact hin q hq e'
  have hdat : ∀ q ∈ ps ++ qs, ∀ i, S i → col i ≠ .data q := fun q hq i hi e => by
    rcases hS i hi with e' | e'
    · rw [e'] at e; cases e; exact hin p hq rfl
    · rw [e', hpc] at e; cases e
  have hP : ¬ S P := fun hs => hno .scan (by simp) (by simp) P hs h.inn.pcol
  have ha : ∀ q ∈ ps, ¬ S q := fun q hq => hnot q (List.mem_append.2 (.inl hq)) (h.inn.aparts.lt hq).2
  have hw : ∀ q ∈ qs, ¬ S q := fun q hq => hnot q (List.mem_append.2 (.inr hq)) (h.inn.wparts.lt hq).2
  refine ⟨h.blk.kept k hP, by rw [hc P h.blk.lt]; exact h.inn.pcol, ht, ?_, ?_, fun g hg => by rw [hc g (h.inn.asked.lt hg)]; exact h.inn.acol g hg, ?_, ?_, fun g hg => by rw [hc g (h.inn.waiting.lt hg)]; exact h.inn.wcol g hg, ?_, h.inn.nodup, ?_, ?_⟩
  · exact h.inn.names.go k (fun i hi hs => hno .ro (by simp) (by simp) i hs hi) (fun i hlt e => by rw [hc i hlt]; exact e)
  · exact h.inn.asked.kept k (fun g hg hs => hno .asked (by simp) (by simp) g hs (h.inn.acol g hg))
  · exact h.inn.aparts.go k ha (fun q hq => hdat q (List.mem_append.2 (.inl hq))) (hno _ (by simp) (by simp)) hc
  · exact h.inn.waiting.kept k (fun g hg hs => hno .wait (by simp) (by simp) g hs (h.inn.wcol g hg))
  · exact h.inn.wparts.go k hw (fun q hq => hdat q (List.mem_append.2 (.inr hq))) (hno _ (by simp) (by simp)) hc
  · exact h.inn.ahead.go k (hno _ (by simp) (by simp)) hc
  · exact h.inn.groups.go k (hno _ (by simp) (by simp)) (fun g => hno _ (by simp) (by simp)) (hno _ (by simp) (by simp)) hc
theorem OwnB.row {w : World} {v : Value} {bs : List UInt8} (h : OwnB w v bs) (C : Nat → Prop) (hC : ∀ g, v.ownBlock = some g → C g) : RowAt C false w 1 v bs.length (bs.map B) := by
  rcases h with ⟨rfl, rfl⟩ | ⟨g, cap, rfl, h1, h2, h3, h4, h5⟩
  · exact RowAt.nil _ _ _ _
  · refine ⟨by simp, _, cap, rfl, h1, fun _ => ⟨g, 0, rfl, hC g rfl, h3, fun j hj => ?_, fun h => by cases h⟩⟩
    rw [Nat.zero_add]
    have := h4 j (by omega)
    simpa using this
/-- what is done with a part that is whole -/
theorem whole_any (C : Nat → Prop) (col : Colr) (w : World) (P : Nat) (m : Pl.Sc) (ps qs : List Nat) (nv av wv hv gv : Value) (h : Rep col w P m ps qs nv av wv hv gv) (aim : Pl.Aim) (xv v : Value) (l : List UInt8) (hx : AimAt col w P xv aim) (hC : ∀ i, C i → i < w.heap.size ∧ ¬ RowCol col i) (hr : RowAt C false w 1 v l.length (l.map B)) (hl : l.length ≤ 1000000) (hb : Bnd m) (hok : WholeOk m aim l) :
    ∃ f r, xv = Bound f r ∧ (∀ u, Sem.run Tryz.prog (callFunc f #[r, v]) u = .ok (.enter f #[r, v]) u) ∧ Calls Tryz.prog f #[r, v] w fun e w' => e = .returned (.tuple #[]) ∧ ∃ col', IsSc col' w' P (Pl.wholeCame m aim l) ∧ Went col w w' col' := by
  cases aim with
  | tail =>
    refine ⟨_, _, hx, fun u => by go_simp, ?_⟩
    exact tailCame_any C col w P m ps qs nv av wv hv gv h v l hr hl hb.size (by have := hb.lastId; omega) (by have := hb.asked; omega)
  | footer =>
    refine ⟨_, _, hx, fun u => by go_simp, ?_⟩
    exact footerCame_any C col w P m ps qs nv av wv hv gv h v l (fun i hi => (hC i hi).1) hr hok hb.size hb.want hb.gap hb.win hb.opened hb.lastId hb.asked
  | piece p =>
    obtain ⟨pv, e, hp⟩ := hx
    obtain ⟨o1, o2, o3, o4, o5⟩ := hok
    refine ⟨_, _, e, fun u => by go_simp, ?_⟩
    have hf : Fine { m with opened := m.opened - 1 } := by
      have := hb.lastId
      have := hb.asked
      have := hb.opened
      have := hb.ahead
      exact ⟨hb.size, by show m.lastId + m.ahead.length ≤ _; omega, by show m.asked.length + m.ahead.length ≤ _; omega, hb.win, by show m.opened - 1 + m.ahead.length ≤ _; omega, hb.pieces⟩
    exact arrCame_any C col w P m ps qs nv av wv hv gv h p pv v l hp hC hr hl o1 o2 o3 o4 o5 hf

set_option maxRecDepth 20000 in
set_option maxHeartbeats 4000000 in
theorem partCame_any (col : Colr) (w : World) (P p : Nat) (m : Pl.Sc) (x : Pl.Part) (ps qs : List Nat) (nv av wv hv gv dv xv : Value) (h : Rep col w P m ps qs nv av wv hv gv) (hp : PartAt col w P p x dv xv) (hn : p ∉ ps ++ qs) (l : List UInt8) (hb : Bnd m) (hpl : x.place + x.length ≤ 1000000) (hdl : x.data.length + l.length ≤ x.length) (hw : ¬ (x.data.length + l.length < x.length) → WholeOk m x.aim (x.data ++ l)) :
    Calls Tryz.prog 118 #[PtrTo p 0, tx l] w fun e w' => e = .returned (.tuple #[]) ∧ ∃ col', IsSc col' w' P (Pl.partCame m x l) ∧ Went col w w' col' := by
  have c3 := hp.blk.cell 3
  have f3 := hp.blk.free 3
  simp only [partCells, List.getElem?_cons_zero, List.getElem?_cons_succ] at c3
  have hdat := hp.data
  obtain ⟨da, dc, rfl⟩ := hp.data.shape
  have hsz : (⟨l.toArray⟩ : ByteArray).size = l.length := by simp [ByteArray.size]
  have hsrc := src_string w ⟨l.toArray⟩
  rw [hsz, show bytesOf ⟨l.toArray⟩ = l by simp [bytesOf]] at hsrc
  have hpd : ∀ g, (Value.slice da x.data.length dc).ownBlock = some g → g ≠ p := fun g e e' => by have := hp.dcol g e; rw [e', hp.pcol] at this; cases this
  have hplt := hp.blk.lt
  clear hsz
  go_enter Tryz.func118, Tryz.ntmps118
  have HF : Hid (∀ u, Kp (Of (.slice da x.data.length dc)) w u → u.cell? ⟨p, 3, none⟩ = some (.slice da x.data.length dc) ∧ u.frozen? ⟨p, 3, none⟩ = false) := hide fun u hu => ⟨hu.cell c3 (fun e => hpd _ e rfl), by rw [World.frozen?_of_block (w := w) (a := ⟨p, 3, none⟩) (hu.block p hplt (fun e => hpd _ e rfl))]; exact f3⟩
  go_upto_region 1 with (at_builtin; go_must (refine wpList_append_b _ rfl _ _ 9 rfl _ x.data rfl hdat _ rfl _ l hsrc (by omega) ?_); intro v1 w1 o1 k1 s1; obtain ⟨q1, q2⟩ := (unhide HF) w1 k1; obtain ⟨a1, cc1, rfl⟩ := o1.shape)
  rw [List.length_append] at o1 s1
  obtain ⟨dv', hdv⟩ : ∃ dv', dv' = Value.slice a1 (x.data.length + l.length) cc1 := ⟨_, rfl⟩
  have hz1 := k1.size
  have ks := kp_set' w1 p 3 (.slice a1 (x.data.length + l.length) cc1)
  have hzs : (w1.setCell ⟨p, 3, none⟩ (.slice a1 (x.data.length + l.length) cc1)).heap.size = w1.heap.size := size_set _ _ _
  have hlt : ∀ i, i < w.heap.size → paint col w.heap.size w1.heap.size (.data p) i = col i := fun i hi => paint_lt _ _ _ _ _ hi
  have htop : ∀ i, (w1.setCell ⟨p, 3, none⟩ (.slice a1 (x.data.length + l.length) cc1)).heap.size ≤ i → paint col w.heap.size w1.heap.size (.data p) i = .out := fun i hi => by
    rw [hzs] at hi
    rw [paint_ge _ _ _ _ _ hi]
    exact h.inn.top i (by omega)
  have kS : Kp (fun i => col i = .data p ∨ i = p) w (w1.setCell ⟨p, 3, none⟩ (.slice a1 (x.data.length + l.length) cc1)) := (k1.mono (fun i _ e => .inl (hp.dcol i e))).trans (ks.mono (fun _ _ e => .inr e))
  have r2 := h.partKept (col' := paint col w.heap.size w1.heap.size (.data p)) kS (fun i hi => hi) hp.pcol hn hlt htop
  have hnb : ∀ g, (Value.slice a1 (x.data.length + l.length) cc1).ownBlock = some g → g ≠ p ∧ paint col w.heap.size w1.heap.size (.data p) g = .data p := fun g e => by
    rcases s1 with e' | ⟨g', e1, e2⟩
    · rw [e'] at e
      exact ⟨hpd g e, by rw [hlt g (hdat.lt e)]; exact hp.dcol g e⟩
    · rw [e1] at e; simp only [Option.some.injEq] at e; subst e
      exact ⟨by omega, paint_in _ _ _ _ _ e2 (o1.lt e1)⟩
  have hp2 : PartAt (paint col w.heap.size w1.heap.size (.data p)) (w1.setCell ⟨p, 3, none⟩ (.slice a1 (x.data.length + l.length) cc1)) P p { x with data := x.data ++ l } (.slice a1 (x.data.length + l.length) cc1) xv := by
    refine ⟨?_, o1.kept ks (fun g e => (hnb g e).1), fun g e => (hnb g e).2, hp.aim.go kS (fun i hi e => ?_) hlt, by rw [hlt p hplt]; exact hp.pcol⟩
    · exact (hp.blk.kept k1 (fun e => hpd p e rfl)).set 3 _
    · rcases hi with hi | hi
      · rw [hi] at e; cases e
      · rw [hi, hp.pcol] at e; cases e
  have g2 : Went col w (w1.setCell ⟨p, 3, none⟩ (.slice a1 (x.data.length + l.length) cc1)) (paint col w.heap.size w1.heap.size (.data p)) := ⟨kS.mono (fun i _ hi => by
    show col i ≠ .out
    rcases hi with hi | hi
    · rw [hi]; simp
    · rw [hi, hp.pcol]; simp), hlt⟩
  have hlen2 : (x.data ++ l).length = x.data.length + l.length := List.length_append
  have HPC : Hid (Pl.partCame m x l = if x.data.length + l.length < x.length then Pl.ask m { x with data := x.data ++ l } else Pl.wholeCame m x.aim (x.data ++ l)) := hide rfl
  clear HF hsrc hdat c3 f3 q1 q2 hzs htop kS ks k1 s1 hlt hnb o1 hp h hdv
  generalize w1.setCell ⟨p, 3, none⟩ (.slice a1 (x.data.length + l.length) cc1) = W2 at *
  generalize paint col w.heap.size w1.heap.size (.data p) = col2 at *
  have c2 := hp2.blk.cell 2
  have c3 := hp2.blk.cell 3
  have c5 := hp2.blk.cell 5
  simp only [partCells, I, List.getElem?_cons_zero, List.getElem?_cons_succ] at c2 c3 c5
  by_cases hlt : x.data.length + l.length < x.length
  · have hlt' : (x.data.length : Int) + (l.length : Int) < (x.length : Int) := by omega
    go_quiet (fail)
    have x3 : Ext W2 (W2.drewN nq) := (Kp.refl _ _).drewN nq
    have HA := hide (ask_any col2 (W2.drewN nq) P p m { x with data := x.data ++ l } ps qs nv av wv hv gv _ xv (r2.ext x3) (hp2.go x3 id (fun _ f => f.elim) (fun _ f => f.elim) (fun _ _ => rfl)) hn (by have := hb.lastId; omega) (by have := hb.asked; omega) hpl (by rw [hlen2]; exact hdl))
    clear r2 hp2 c2 c3 c5
    generalize W2.drewN nq = W3 at *
    go_wp2_with fail
    refine (unhide HA).mono ?_
    rintro e w4 ⟨rfl, c4, av4, r4, g4⟩
    go_wp2_with fail
    go_end0
    rw [HPC.out, if_pos hlt]
    exact ⟨rfl, c4, r4.is, (g2.trans (Went.ext x3)).trans g4⟩
  · have hlt' : ¬ (x.data.length : Int) + (l.length : Int) < (x.length : Int) := by omega
    go_quiet (fail)
    have x3 : Ext W2 (W2.drewN nq) := (Kp.refl _ _).drewN nq
    have r3 := r2.ext x3
    have hp3 := hp2.go (col' := col2) x3 id (fun _ f => f.elim) (fun _ f => f.elim) (fun _ _ => rfl)
    have c3' := x3.cell c3 id
    have c5' := x3.cell c5 id
    clear r2 hp2 c2 c3 c5
    generalize W2.drewN nq = W3 at *
    have hS : ∀ u, Ext W3 u → u.cell? ⟨p, 3, none⟩ = some (.slice a1 (x.data.length + l.length) cc1) ∧ u.cell? ⟨p, 5, none⟩ = some xv := fun u hu => ⟨hu.cell c3' id, hu.cell c5' id⟩
    have HS := hide hS
    clear hS c3' c5'
    have hx1 : Ext W3 W3.drew := (Kp.refl _ _).drew
    have r4 := r3.ext hx1
    have hp4 := hp3.go (col' := col2) hx1 id (fun _ f => f.elim) (fun _ f => f.elim) (fun _ _ => rfl)
    have hCC : ∀ i, col2 i = .data p → i < W3.drew.heap.size ∧ ¬ RowCol col2 i := by
      intro i hi
      refine ⟨?_, fun e => ?_⟩
      · rcases Nat.lt_or_ge i W3.drew.heap.size with h | h
        · exact h
        · have := r4.inn.top i h
          rw [hi] at this
          cases this
      · rcases e with e | ⟨g, e⟩
        · rw [hi] at e; cases e
        · rw [hi] at e; cases e
    obtain ⟨ff, rr, hxv, hcf, hcall⟩ := whole_any (fun b => col2 b = .data p) col2 W3.drew P m ps qs nv av wv hv gv r4 x.aim xv (.slice a1 (x.data.length + l.length) cc1) (x.data ++ l) hp4.aim hCC (by have := hp4.data.row (fun b => col2 b = .data p) hp4.dcol; exact this) (by rw [hlen2]; omega) hb (hw hlt)
    subst hxv
    go_wp2_with fail
    refine wp_region_late (n := 8) (Ext W3) (by kernel_rfl) ?_
    refine Late.take (i := 0) (oi := ⟨some 25, .move (.tmp 0), 162, "part.go:29", #[], none⟩) (v := ?_) [1, 2, 3, 8] rfl (by kernel_rfl) (by kernel_rfl) (by decide) (by decide) (by kernel_rfl) (by kernel_rfl) (by kernel_rfl) (fun _ _ _ h => h) rfl ?_ hx1 ?_
    rotate_left
    · (intro u hu; obtain ⟨u0, u1⟩ := (unhide HS) u hu; go_simp; first | done | with_reducible rfl)
    try simp only [Act.put, List.setIfInBounds_toArray, List.set_cons_zero, List.set_cons_succ]
    refine Late.take (i := 1) (oi := ⟨some 26, .nilCheck (.tmp 25), 0, "part.go:29", #[⟨0, .data⟩], none⟩) (v := ?_) [2, 3, 8] rfl (by kernel_rfl) (by kernel_rfl) (by decide) (by decide) (by kernel_rfl) (by kernel_rfl) (by kernel_rfl) (fun _ _ _ h => h) rfl ?_ hx1 ?_
    rotate_left
    · (intro u hu; obtain ⟨u0, u1⟩ := (unhide HS) u hu; go_simp; first | done | with_reducible rfl)
    try simp only [Act.put, List.setIfInBounds_toArray, List.set_cons_zero, List.set_cons_succ]
    refine Late.take (i := 2) (oi := ⟨some 27, .fieldAddr 164 (.tmp 26) 5, 0, "part.go:29", #[⟨1, .data⟩], none⟩) (v := ?_) [3, 8] rfl (by kernel_rfl) (by kernel_rfl) (by decide) (by decide) (by kernel_rfl) (by kernel_rfl) (by kernel_rfl) (fun _ _ _ h => h) rfl ?_ hx1 ?_
    rotate_left
    · (intro u hu; obtain ⟨u0, u1⟩ := (unhide HS) u hu; go_simp; first | done | with_reducible rfl)
    try simp only [Act.put, List.setIfInBounds_toArray, List.set_cons_zero, List.set_cons_succ]
    refine Late.take (i := 3) (oi := ⟨some 28, .load 148 (.tmp 27), 148, "part.go:29", #[⟨2, .data⟩], none⟩) (v := ?_) [8] rfl (by kernel_rfl) (by kernel_rfl) (by decide) (by decide) (by kernel_rfl) (by kernel_rfl) (by kernel_rfl) (fun _ _ _ h => h) rfl ?_ hx1 ?_
    rotate_left
    · (intro u hu; obtain ⟨u0, u1⟩ := (unhide HS) u hu; go_simp; first | done | with_reducible rfl)
    try simp only [Act.put, List.setIfInBounds_toArray, List.set_cons_zero, List.set_cons_succ]
    refine Late.take (i := 4) (oi := ⟨some 29, .move (.tmp 0), 162, "part.go:29", #[], none⟩) (v := ?_) [5, 6, 7, 8] rfl (by kernel_rfl) (by kernel_rfl) (by decide) (by decide) (by kernel_rfl) (by kernel_rfl) (by kernel_rfl) (fun _ _ _ h => h) rfl ?_ hx1 ?_
    rotate_left
    · (intro u hu; obtain ⟨u0, u1⟩ := (unhide HS) u hu; go_simp; first | done | with_reducible rfl)
    try simp only [Act.put, List.setIfInBounds_toArray, List.set_cons_zero, List.set_cons_succ]
    refine Late.take (i := 5) (oi := ⟨some 30, .nilCheck (.tmp 29), 0, "part.go:29", #[⟨4, .data⟩], none⟩) (v := ?_) [6, 7, 8] rfl (by kernel_rfl) (by kernel_rfl) (by decide) (by decide) (by kernel_rfl) (by kernel_rfl) (by kernel_rfl) (fun _ _ _ h => h) rfl ?_ hx1 ?_
    rotate_left
    · (intro u hu; obtain ⟨u0, u1⟩ := (unhide HS) u hu; go_simp; first | done | with_reducible rfl)
    try simp only [Act.put, List.setIfInBounds_toArray, List.set_cons_zero, List.set_cons_succ]
    refine Late.take (i := 6) (oi := ⟨some 31, .fieldAddr 164 (.tmp 30) 3, 0, "part.go:29", #[⟨5, .data⟩], none⟩) (v := ?_) [7, 8] rfl (by kernel_rfl) (by kernel_rfl) (by decide) (by decide) (by kernel_rfl) (by kernel_rfl) (by kernel_rfl) (fun _ _ _ h => h) rfl ?_ hx1 ?_
    rotate_left
    · (intro u hu; obtain ⟨u0, u1⟩ := (unhide HS) u hu; go_simp; first | done | with_reducible rfl)
    try simp only [Act.put, List.setIfInBounds_toArray, List.set_cons_zero, List.set_cons_succ]
    refine Late.take (i := 7) (oi := ⟨some 32, .load 76 (.tmp 31), 76, "part.go:29", #[⟨6, .data⟩], none⟩) (v := ?_) [8] rfl (by kernel_rfl) (by kernel_rfl) (by decide) (by decide) (by kernel_rfl) (by kernel_rfl) (by kernel_rfl) (fun _ _ _ h => h) rfl ?_ hx1 ?_
    rotate_left
    · (intro u hu; obtain ⟨u0, u1⟩ := (unhide HS) u hu; go_simp; first | done | with_reducible rfl)
    try simp only [Act.put, List.setIfInBounds_toArray, List.set_cons_zero, List.set_cons_succ]
    refine Late.one (i := 8) (o := ⟨some 33, .call { callee := .value (.tmp 28), args := #[.tmp 32], argTypes := #[76] }, 0, "part.go:29", #[⟨3, .data⟩, ⟨7, .data⟩], none⟩) (by kernel_rfl) rfl (fun K hK => ?_)
    refine step_call_g rfl ff #[rr, .slice a1 (x.data.length + l.length) cc1] (by go_simp) ?_
    refine hcall.mono ?_
    rintro e w5 ⟨rfl, c5, s5, g5⟩
    refine ⟨_, rfl, hK _ _ (fun h => absurd rfl h) ?_⟩
    clear hK K
    try simp only [Act.put, List.setIfInBounds_toArray, List.set_cons_zero, List.set_cons_succ]
    refine Late.done (by kernel_rfl) ?_ _
    go_end0
    rw [HPC.out, if_neg hlt]
    exact ⟨rfl, c5, s5, (g2.trans (Went.ext (x3.trans hx1))).trans g5⟩
end Go.Proofs.YthicgffppmbamaaGreat

namespace Go.Proofs.YthicgffppmbamaaGreat
open Go.RowKit

set_option maxRecDepth 20000 in
theorem giveUp_any (col : Colr) (w : World) (P : Nat) (cs : List Value) (hl : cs.length = 19) (hb : Blk w P cs 142) (hc : col P = .scan) (ht : ∀ k, w.heap.size ≤ k → col k = .out) :
    Calls Tryz.prog 81 #[PtrTo P 0] w fun e w' => e = .returned (.tuple #[]) ∧ Rep col w' P (Pl.ended 4) [] [] (.slice none 0 0) (.slice none 0 0) (.slice none 0 0) (.slice none 0 0) (.slice none 0 0) ∧ Kp (fun k => k = P) w w' := by
  go_enter Tryz.func81, Tryz.ntmps81
  go_wp2_with fail
  refine (end_any col w P cs hl 4 (by decide) hb hc ht).mono ?_
  rintro e w1 ⟨rfl, r1, k1⟩
  go_wp2_with fail
  go_end0
  exact ⟨rfl, r1, k1⟩
def zWait : Value := .agg #[.int .i64 0, .nilFunc]
theorem infoWait : (Tryz.prog.info? 172).map (fun i => (i.zero, i.size, i.bytes)) = some (some zWait, 2, 16) := by kernel_rfl

/-- one more that waits: the row of those that wait has grown -/
theorem Rep.waitMore {col : Colr} {w u w1 : World} {P p t : Nat} {m : Pl.Sc} {x : Pl.Part} {ps qs : List Nat} {nv av wv hv gv dv xv wv' : Value} (h : Rep col w P m ps qs nv av wv hv gv) (hp : PartAt col w P p x dv xv) (hn : p ∉ ps ++ qs) (hu : Ext w u) (k : Kp (Of wv) u w1) (s : Sep u wv wv') (o : Own w1 2 wv' (m.waiting.length + 1) (waitRow qs m.waiting ++ waitCells p (t, x))) :
    Rep (paint col w.heap.size w1.heap.size .wait) (w1.setCell ⟨P, 11, none⟩ wv') P { m with waiting := m.waiting ++ [(t, x)] } ps (qs ++ [p]) nv av wv' hv gv ∧ Went col w (w1.setCell ⟨P, 11, none⟩ wv') (paint col w.heap.size w1.heap.size .wait) := by
  have kw : Kp (Of wv) w w1 := (Kp.of_ext hu).trans k
  have hc : ∀ i, i < w.heap.size → paint col w.heap.size w1.heap.size .wait i = col i := fun i hi => paint_lt _ _ _ _ _ hi
  have hwv : ∀ i, Of wv i → col i = .wait := fun i hi => h.inn.wcol i hi
  have hcalm : Calm col (Of wv) := Calm.one .wait hwv (by simp) (by simp) (by simp) (by simp) (by simp)
  have r := h.inn.rest kw hcalm hc
  have hp1 := hp.go kw (fun e => hcalm.part p e hp.pcol) (hcalm.data p) hcalm.ro hc
  have hPlt := h.blk.lt
  have hPn : ¬ Of wv P := fun e => by have := hwv P e; rw [h.inn.pcol] at this; simp at this
  have hb1 := h.blk.kept kw hPn
  have hin : Inner (paint col w.heap.size w1.heap.size .wait) w1 P { m with waiting := m.waiting ++ [(t, x)] } ps (qs ++ [p]) nv av wv' hv gv := by
    refine ⟨by rw [hc P hPlt]; exact h.inn.pcol, fun i hi => by rw [paint_ge _ _ _ _ _ hi]; exact h.inn.top i (Nat.le_trans kw.size hi), r.names, ?_, fun g hg => by rw [hc g (h.inn.asked.lt hg)]; exact h.inn.acol g hg, r.aparts, ?_, fun g hg => ?_, r.wparts.snoc (q := (t, x)) hp1, ?_, r.ahead, r.groups⟩
    · exact h.inn.asked.kept kw (fun g hg hs => by have := hwv g hs; rw [h.inn.acol g hg] at this; simp at this)
    · rw [waitRow_snoc _ _ _ _ h.inn.wparts.1]
      simpa using o
    · rcases s with e | ⟨g', e1, e2⟩
      · rw [e] at hg
        rw [hc g (h.inn.waiting.lt hg)]
        exact h.inn.wcol g hg
      · rw [e1] at hg
        simp only [Option.some.injEq] at hg
        subst hg
        exact paint_in _ _ _ _ _ (by have := hu.size; omega) (o.lt e1)
    · rw [← List.append_assoc, List.nodup_append]
      refine ⟨h.inn.nodup, by simp, fun a ha b hb => ?_⟩
      simp at hb
      subst hb
      exact fun e => hn (e ▸ ha)
  refine ⟨⟨?_, hin.put (kp_set' w1 P 11 wv') hb1.lt⟩, ⟨?_, hc⟩⟩
  · exact hb1.set 11 wv'
  · refine (kw.mono (fun i _ hi => ?_)).setCell (p := ⟨P, 11, none⟩) (.inl ?_) wv'
    · show col i ≠ .out
      rw [hwv i hi]; simp
    · show col P ≠ .out
      rw [h.inn.pcol]; simp

set_option maxRecDepth 20000 in
set_option maxHeartbeats 4000000 in
theorem failed_any (col : Colr) (w : World) (P p : Nat) (m : Pl.Sc) (x : Pl.Part) (ps qs : List Nat) (nv av wv hv gv dv xv : Value) (h : Rep col w P m ps qs nv av wv hv gv) (hp : PartAt col w P p x dv xv) (hn : p ∉ ps ++ qs) (hst : m.state = 0) (_htr : m.tries ≤ 100) (_hfl : x.failures + 1 ≤ m.tries) (hf4 : x.failures ≤ 10) (hwl : m.waiting.length ≤ 1000) :
    Calls Tryz.prog 119 #[PtrTo p 0] w fun e w' => e = .returned (.tuple #[]) ∧ ∃ col', IsSc col' w' P (Pl.partFailed m x) ∧ Went col w w' col' := by
  have c4 := hp.blk.cell 4
  have f4 := hp.blk.free 4
  simp only [partCells, I, List.getElem?_cons_zero, List.getElem?_cons_succ] at c4
  have hplt := hp.blk.lt
  have hpP : p ≠ P := fun e => by have := hp.pcol; rw [e, h.inn.pcol] at this; simp at this
  have HPF : Hid (Pl.partFailed m x = if x.failures + 1 = m.tries then Pl.ended 4 else { m with waiting := m.waiting ++ [(2 ^ x.failures, { x with failures := x.failures + 1 })] }) := hide rfl
  go_enter Tryz.func119, Tryz.ntmps119
  go_upto_region 1 with fail
  have ks := kp_set' w p 4 (.int .i64 ((x.failures : Int) + 1))
  have h1 := h.partKept (col' := col) (ks.mono (S' := fun i => col i = .data p ∨ i = p) (fun _ _ e => .inr e)) (fun i hi => hi) hp.pcol hn (fun _ _ => rfl) (fun i hi => h.inn.top i (Nat.le_trans ks.size hi))
  have hp1 : PartAt col (w.setCell ⟨p, 4, none⟩ (.int .i64 ((x.failures : Int) + 1))) P p { x with failures := x.failures + 1 } dv xv := by
    refine ⟨?_, hp.data.kept ks (fun g e e' => by have := hp.dcol g e; rw [e', hp.pcol] at this; cases this), hp.dcol, hp.aim.go ks (fun i hi e => by rw [hi, hp.pcol] at e; cases e) (fun _ _ => rfl), hp.pcol⟩
    have := hp.blk.set 4 (.int .i64 ((x.failures : Int) + 1))
    simpa [partCells, I] using this
  have g1 : Went col w (w.setCell ⟨p, 4, none⟩ (.int .i64 ((x.failures : Int) + 1))) col := ⟨ks.mono (fun i _ hi => by show col i ≠ .out; rw [hi, hp.pcol]; simp), fun _ _ => rfl⟩
  clear ks c4 f4 hp h
  generalize w.setCell ⟨p, 4, none⟩ (.int .i64 ((x.failures : Int) + 1)) = W1 at *
  have c0 := hp1.blk.cell 0
  have c4 := hp1.blk.cell 4
  have s7 := h1.blk.cell 7
  have s8 := h1.blk.cell 8
  have s11 := h1.blk.cell 11
  have f11 := h1.blk.free 11
  simp only [partCells, scCells, I, giveV, hst, if_true, List.getElem?_cons_zero, List.getElem?_cons_succ, Int.natCast_add, Int.natCast_one] at c0 c4 s7 s8 s11
  by_cases he : x.failures + 1 = m.tries
  · have he' : ((x.failures : Int) + 1) = (m.tries : Int) := by omega
    rw [he'] at c4
    have HE := hide he
    clear he he' _hfl
    go_quiet (fail)
    have x3 : Ext W1 (W1.drewN nq) := (Kp.refl _ _).drewN nq
    have r3 := h1.ext x3
    have c0' := x3.cell c0 id
    have s8' := x3.cell s8 id
    clear c0 c4 s7 s8 s11 f11
    generalize W1.drewN nq = W3 at *
    have HG := hide (giveUp_any col W3 P _ (scCells_len _ _ _ _ _ _ _) r3.blk r3.inn.pcol r3.inn.top)
    go_wp2_with fail
    refine (unhide HG).mono ?_
    rintro e w4 ⟨rfl, r4, k4⟩
    go_wp2_with fail
    try simp only [Exit.inBlock, Exit.then]
    refine bodyPost_ret (results_none rfl _ _ _) rfl ?_
    rw [HPF.out, if_pos HE.out]
    obtain ⟨a, b⟩ := r3.ends r4 k4
    exact ⟨rfl, col, a, (g1.trans (Went.ext x3)).trans b⟩
  · have he' : ¬ ((x.failures : Int) + 1) = (m.tries : Int) := by omega
    go_quiet (fail)
    have x3 : Ext W1 (W1.drewN nq) := (Kp.refl _ _).drewN nq
    have r3 := h1.ext x3
    have hp3 := hp1.go (col' := col) x3 id (fun _ f => f.elim) (fun _ f => f.elim) (fun _ _ => rfl)
    have c4' := x3.cell c4 id
    clear c0 c4 s7 s8 s11 f11
    generalize W1.drewN nq = W3 at *
    go_wp2_with fail
    have hp10 : 2 ^ x.failures ≤ 2 ^ 10 := Nat.pow_le_pow_right (by omega) hf4
    have hws : wrap64 ((2 : Int) ^ x.failures) = ((2 ^ x.failures : Nat) : Int) := by
      rw [show (2 : Int) ^ x.failures = ((2 ^ x.failures : Nat) : Int) by simp]
      generalize 2 ^ x.failures = t at hp10 ⊢
      unfold wrap64
      omega
    rw [hws]
    obtain ⟨tk, htk⟩ : ∃ tk, tk = 2 ^ x.failures := ⟨_, rfl⟩
    rw [← htk]
    have HTK := hide htk
    clear htk hws hp10
    have c0 := hp3.blk.cell 0
    have s11 := r3.blk.cell 11
    have f11 := r3.blk.free 11
    simp only [partCells, scCells, List.getElem?_cons_zero, List.getElem?_cons_succ] at c0 s11
    have hwo := r3.inn.waiting
    obtain ⟨wa, wc, rfl, _⟩ := r3.inn.waiting.shape
    have hwv : ∀ k, (Value.slice wa m.waiting.length wc).ownBlock = some k → k ≠ p ∧ k ≠ P := fun k hk => by
      have e := r3.inn.wcol k hk
      exact ⟨fun e' => by rw [e', hp3.pcol] at e; simp at e, fun e' => by rw [e', r3.inn.pcol] at e; simp at e⟩
    have hS : ∀ u, Kp (fun k => k ≠ p ∧ k ≠ P) W3 u → u.cell? ⟨p, 0, none⟩ = some (PtrTo P 7) ∧ u.cell? ⟨P, 11, none⟩ = some (.slice wa m.waiting.length wc) := fun u hu => ⟨hu.cell c0 (by simp), hu.cell s11 (by simp)⟩
    have HS := hide hS
    clear hS
    have hx1 : Kp (fun k => k ≠ p ∧ k ≠ P) W3 W3.drew := (Kp.refl _ _).drew
    have hPl3 := r3.blk.lt
    refine wp_region_late (n := 19) (Kp (fun k => k ≠ p ∧ k ≠ P) W3) (by kernel_rfl) ?_
    refine Late.take (i := 0) (oi := ⟨some 36, .move (.tmp 0), 162, "part.go:40", #[], none⟩) (v := ?_) [19] rfl (by kernel_rfl) (by kernel_rfl) (by decide) (by decide) (by kernel_rfl) (by kernel_rfl) (by kernel_rfl) (fun _ _ _ h => h) rfl ?_ hx1 ?_
    rotate_left
    · (intro u hu; obtain ⟨u0, u1⟩ := (unhide HS) u hu; go_simp; first | done | with_reducible rfl)
    try simp only [Act.put, List.setIfInBounds_toArray, List.set_cons_zero, List.set_cons_succ]
    refine Late.take (i := 1) (oi := ⟨some 37, .nilCheck (.tmp 36), 0, "part.go:40", #[⟨0, .data⟩], none⟩) (v := ?_) [19] rfl (by kernel_rfl) (by kernel_rfl) (by decide) (by decide) (by kernel_rfl) (by kernel_rfl) (by kernel_rfl) (fun _ _ _ h => h) rfl ?_ hx1 ?_
    rotate_left
    · (intro u hu; obtain ⟨u0, u1⟩ := (unhide HS) u hu; go_simp; first | done | with_reducible rfl)
    try simp only [Act.put, List.setIfInBounds_toArray, List.set_cons_zero, List.set_cons_succ]
    refine Late.take (i := 2) (oi := ⟨some 38, .fieldAddr 164 (.tmp 37) 0, 0, "part.go:40", #[⟨1, .data⟩], none⟩) (v := ?_) [19] rfl (by kernel_rfl) (by kernel_rfl) (by decide) (by decide) (by kernel_rfl) (by kernel_rfl) (by kernel_rfl) (fun _ _ _ h => h) rfl ?_ hx1 ?_
    rotate_left
    · (intro u hu; obtain ⟨u0, u1⟩ := (unhide HS) u hu; go_simp; first | done | with_reducible rfl)
    try simp only [Act.put, List.setIfInBounds_toArray, List.set_cons_zero, List.set_cons_succ]
    refine Late.take (i := 3) (oi := ⟨some 39, .load 161 (.tmp 38), 161, "part.go:40", #[⟨2, .data⟩], none⟩) (v := ?_) [19] rfl (by kernel_rfl) (by kernel_rfl) (by decide) (by decide) (by kernel_rfl) (by kernel_rfl) (by kernel_rfl) (fun _ _ _ h => h) rfl ?_ hx1 ?_
    rotate_left
    · (intro u hu; obtain ⟨u0, u1⟩ := (unhide HS) u hu; go_simp; first | done | with_reducible rfl)
    try simp only [Act.put, List.setIfInBounds_toArray, List.set_cons_zero, List.set_cons_succ]
    refine Late.take (i := 4) (oi := ⟨some 40, .move (.tmp 0), 162, "part.go:40", #[], none⟩) (v := ?_) [19] rfl (by kernel_rfl) (by kernel_rfl) (by decide) (by decide) (by kernel_rfl) (by kernel_rfl) (by kernel_rfl) (fun _ _ _ h => h) rfl ?_ hx1 ?_
    rotate_left
    · (intro u hu; obtain ⟨u0, u1⟩ := (unhide HS) u hu; go_simp; first | done | with_reducible rfl)
    try simp only [Act.put, List.setIfInBounds_toArray, List.set_cons_zero, List.set_cons_succ]
    refine Late.take (i := 5) (oi := ⟨some 41, .nilCheck (.tmp 40), 0, "part.go:40", #[⟨4, .data⟩], none⟩) (v := ?_) [19] rfl (by kernel_rfl) (by kernel_rfl) (by decide) (by decide) (by kernel_rfl) (by kernel_rfl) (by kernel_rfl) (fun _ _ _ h => h) rfl ?_ hx1 ?_
    rotate_left
    · (intro u hu; obtain ⟨u0, u1⟩ := (unhide HS) u hu; go_simp; first | done | with_reducible rfl)
    try simp only [Act.put, List.setIfInBounds_toArray, List.set_cons_zero, List.set_cons_succ]
    refine Late.take (i := 6) (oi := ⟨some 42, .fieldAddr 164 (.tmp 41) 0, 0, "part.go:40", #[⟨5, .data⟩], none⟩) (v := ?_) [19] rfl (by kernel_rfl) (by kernel_rfl) (by decide) (by decide) (by kernel_rfl) (by kernel_rfl) (by kernel_rfl) (fun _ _ _ h => h) rfl ?_ hx1 ?_
    rotate_left
    · (intro u hu; obtain ⟨u0, u1⟩ := (unhide HS) u hu; go_simp; first | done | with_reducible rfl)
    try simp only [Act.put, List.setIfInBounds_toArray, List.set_cons_zero, List.set_cons_succ]
    refine Late.take (i := 7) (oi := ⟨some 43, .load 161 (.tmp 42), 161, "part.go:40", #[⟨6, .data⟩], none⟩) (v := ?_) [19] rfl (by kernel_rfl) (by kernel_rfl) (by decide) (by decide) (by kernel_rfl) (by kernel_rfl) (by kernel_rfl) (fun _ _ _ h => h) rfl ?_ hx1 ?_
    rotate_left
    · (intro u hu; obtain ⟨u0, u1⟩ := (unhide HS) u hu; go_simp; first | done | with_reducible rfl)
    try simp only [Act.put, List.setIfInBounds_toArray, List.set_cons_zero, List.set_cons_succ]
    refine Late.take (i := 8) (oi := ⟨some 44, .nilCheck (.tmp 43), 0, "part.go:40", #[⟨7, .data⟩], none⟩) (v := ?_) [19] rfl (by kernel_rfl) (by kernel_rfl) (by decide) (by decide) (by kernel_rfl) (by kernel_rfl) (by kernel_rfl) (fun _ _ _ h => h) rfl ?_ hx1 ?_
    rotate_left
    · (intro u hu; obtain ⟨u0, u1⟩ := (unhide HS) u hu; go_simp; first | done | with_reducible rfl)
    try simp only [Act.put, List.setIfInBounds_toArray, List.set_cons_zero, List.set_cons_succ]
    refine Late.take (i := 9) (oi := ⟨some 45, .fieldAddr 136 (.tmp 44) 4, 0, "part.go:40", #[⟨8, .data⟩], none⟩) (v := ?_) [19] rfl (by kernel_rfl) (by kernel_rfl) (by decide) (by decide) (by kernel_rfl) (by kernel_rfl) (by kernel_rfl) (fun _ _ _ h => h) rfl ?_ hx1 ?_
    rotate_left
    · (intro u hu; obtain ⟨u0, u1⟩ := (unhide HS) u hu; go_simp; first | done | with_reducible rfl)
    try simp only [Act.put, List.setIfInBounds_toArray, List.set_cons_zero, List.set_cons_succ]
    refine Late.take (i := 10) (oi := ⟨some 46, .load 134 (.tmp 45), 134, "part.go:40", #[⟨9, .data⟩], none⟩) (v := ?_) [19] rfl (by kernel_rfl) (by kernel_rfl) (by decide) (by decide) (by kernel_rfl) (by kernel_rfl) (by kernel_rfl) (fun _ _ _ h => h) rfl ?_ hx1 ?_
    rotate_left
    · (intro u hu; obtain ⟨u0, u1⟩ := (unhide HS) u hu; go_simp; first | done | with_reducible rfl)
    try simp only [Act.put, List.setIfInBounds_toArray, List.set_cons_zero, List.set_cons_succ]
    refine Late.take (i := 11) (oi := ⟨some 47, .move (.tmp 2), 3, "part.go:40", #[], none⟩) (v := ?_) [19] rfl (by kernel_rfl) (by kernel_rfl) (by decide) (by decide) (by kernel_rfl) (by kernel_rfl) (by kernel_rfl) (fun _ _ _ h => h) rfl ?_ hx1 ?_
    rotate_left
    · (intro u hu; obtain ⟨u0, u1⟩ := (unhide HS) u hu; go_simp; first | done | with_reducible rfl)
    try simp only [Act.put, List.setIfInBounds_toArray, List.set_cons_zero, List.set_cons_succ]
    refine Late.take (i := 12) (oi := ⟨some 48, .move (.tmp 0), 162, "part.go:40", #[], none⟩) (v := ?_) [19] rfl (by kernel_rfl) (by kernel_rfl) (by decide) (by decide) (by kernel_rfl) (by kernel_rfl) (by kernel_rfl) (fun _ _ _ h => h) rfl ?_ hx1 ?_
    rotate_left
    · (intro u hu; obtain ⟨u0, u1⟩ := (unhide HS) u hu; go_simp; first | done | with_reducible rfl)
    try simp only [Act.put, List.setIfInBounds_toArray, List.set_cons_zero, List.set_cons_succ]
    refine Late.take (i := 13) (oi := ⟨some 49, .makeFunc (Go.Fn.func 102) #[.tmp 48] #[], 1, "part.go:40", #[⟨12, .data⟩], none⟩) (v := ?_) [19] rfl (by kernel_rfl) (by kernel_rfl) (by decide) (by decide) (by kernel_rfl) (by kernel_rfl) (by kernel_rfl) (fun _ _ _ h => h) rfl ?_ hx1 ?_
    rotate_left
    · (intro u hu; obtain ⟨u0, u1⟩ := (unhide HS) u hu; go_simp; first | done | with_reducible rfl)
    try simp only [Act.put, List.setIfInBounds_toArray, List.set_cons_zero, List.set_cons_succ]
    refine Late.take (i := 14) (oi := ⟨some 50, .build 172 #[(0, .tmp 47), (1, .tmp 49)], 172, "part.go:40", #[⟨11, .data⟩, ⟨13, .data⟩], none⟩) (v := ?_) [19] rfl (by kernel_rfl) (by kernel_rfl) (by decide) (by decide) (by kernel_rfl) (by kernel_rfl) (by kernel_rfl) (fun _ _ _ h => h) rfl ?_ hx1 ?_
    rotate_left
    · (intro u hu; obtain ⟨u0, u1⟩ := (unhide HS) u hu; go_simp; first | done | with_reducible rfl)
    try simp only [Act.put, List.setIfInBounds_toArray, List.set_cons_zero, List.set_cons_succ]
    refine Late.one (i := 15) (o := ⟨some 51, .buildSlice 134 1 #[(0, .tmp 50)], 134, "part.go:40", #[⟨14, .data⟩], none⟩) (by kernel_rfl) rfl (fun K hK => ?_)
    go_simp
    refine hK _ _ (fun _ => hx1.alloc _) ?_
    clear hK K
    try simp only [Act.put, List.setIfInBounds_toArray, List.set_cons_zero, List.set_cons_succ]
    refine Late.one (i := 16) (o := ⟨some 52, .call { callee := .builtin .append, args := #[.tmp 46, .tmp 51], argTypes := #[134, 134] }, 134, "part.go:40", #[⟨10, .data⟩, ⟨15, .data⟩], none⟩) (by kernel_rfl) rfl (fun K hK => ?_)
    refine step_append_g rfl _ _ 134 134 rfl 172 zWait 2 16 Tryz.underlying134 infoWait rfl _ _ _ (by rfl) (hwo.ext ((Kp.refl _ _).drew.alloc _)) _ (by rfl) 1 _ (src_elemN' W3.drew W3.drew.heap.size rfl _ _ Tryz.underlying134 _ (waitCells p (tk, { x with failures := x.failures + 1 })) rfl (by intro u hu; simp [waitCells] at hu; rcases hu with rfl | rfl <;> rfl)) (by omega) (by omega) ?_
    intro v' w5 o5 k5 s5
    have g5 : Kp (fun k => k ≠ p ∧ k ≠ P) W3 w5 := (hx1.alloc _).trans (k5.mono (fun i _ e => hwv i e))
    refine hK _ _ (fun _ => g5) ?_
    clear hK K
    obtain ⟨a', c', rfl, hc'⟩ := o5.shape
    try simp only [Act.put, List.setIfInBounds_toArray, List.set_cons_zero, List.set_cons_succ]
    have s11' : w5.cell? ⟨P, 11, none⟩ = some (.slice wa m.waiting.length wc) := g5.cell s11 (by simp)
    have f11' : w5.frozen? ⟨P, 11, none⟩ = false := by rw [World.frozen?_of_block (w := W3) (a := ⟨P, 11, none⟩) (g5.block P hPl3 (by simp))]; exact f11
    refine Late.one (i := 17) (o := ⟨some 53, .nilCheck (.tmp 39), 0, "part.go:40", #[⟨3, .data⟩, ⟨0, .phase⟩, ⟨1, .phase⟩, ⟨2, .phase⟩, ⟨3, .phase⟩, ⟨4, .phase⟩, ⟨5, .phase⟩, ⟨6, .phase⟩, ⟨7, .phase⟩, ⟨8, .phase⟩, ⟨9, .phase⟩, ⟨10, .phase⟩, ⟨11, .phase⟩, ⟨12, .phase⟩, ⟨13, .phase⟩, ⟨14, .phase⟩, ⟨15, .phase⟩, ⟨16, .phase⟩], none⟩) (by kernel_rfl) rfl (fun K hK => ?_)
    go_simp
    refine hK _ _ (fun _ => g5) ?_
    clear hK K
    try simp only [Act.put, List.setIfInBounds_toArray, List.set_cons_zero, List.set_cons_succ]
    refine Late.one (i := 18) (o := ⟨some 54, .fieldAddr 136 (.tmp 53) 4, 0, "part.go:40", #[⟨17, .data⟩, ⟨0, .phase⟩, ⟨1, .phase⟩, ⟨2, .phase⟩, ⟨3, .phase⟩, ⟨4, .phase⟩, ⟨5, .phase⟩, ⟨6, .phase⟩, ⟨7, .phase⟩, ⟨8, .phase⟩, ⟨9, .phase⟩, ⟨10, .phase⟩, ⟨11, .phase⟩, ⟨12, .phase⟩, ⟨13, .phase⟩, ⟨14, .phase⟩, ⟨15, .phase⟩, ⟨16, .phase⟩], none⟩) (by kernel_rfl) rfl (fun K hK => ?_)
    go_simp
    refine hK _ _ (fun _ => g5) ?_
    clear hK K
    try simp only [Act.put, List.setIfInBounds_toArray, List.set_cons_zero, List.set_cons_succ]
    refine Late.one (i := 19) (o := ⟨none, .store 134 (.tmp 54) (.tmp 52), 0, "part.go:40", #[⟨18, .data⟩, ⟨16, .data⟩, ⟨16, .chain⟩, ⟨0, .phase⟩, ⟨1, .phase⟩, ⟨2, .phase⟩, ⟨3, .phase⟩, ⟨4, .phase⟩, ⟨5, .phase⟩, ⟨6, .phase⟩, ⟨7, .phase⟩, ⟨8, .phase⟩, ⟨9, .phase⟩, ⟨10, .phase⟩, ⟨11, .phase⟩, ⟨12, .phase⟩, ⟨13, .phase⟩, ⟨14, .phase⟩, ⟨15, .phase⟩, ⟨16, .phase⟩], none⟩) (by kernel_rfl) rfl (fun K hK => ?_)
    go_simp
    refine hK _ _ (fun h => absurd rfl h) ?_
    clear hK K
    try simp only [Act.put, List.setIfInBounds_toArray, List.set_cons_zero, List.set_cons_succ]
    refine Late.done (by kernel_rfl) ?_ _
    go_end0
    rw [HPF.out, if_neg he, ← HTK.out]
    obtain ⟨r6, g6⟩ := r3.waitMore hp3 hn (((Kp.refl _ _).drew.alloc _)) k5 s5 o5
    exact ⟨rfl, _, r6.is, (g1.trans (Went.ext x3)).trans g6⟩
end Go.Proofs.YthicgffppmbamaaGreat

namespace Go.Proofs.YthicgffppmbamaaGreat
open Go.RowKit

theorem takeAt_part (m : Pl.Sc) (i : Nat) (hi : i < m.asked.length) : Pl.partAt m i = m.asked[i].2 := by unfold Pl.partAt; rw [List.getD_eq_getElem?_getD, List.getElem?_eq_getElem hi]; rfl
/-- a part that may fail -/
structure FailOk (m : Pl.Sc) (x : Pl.Part) : Prop where
  state : m.state = 0
  tries : m.tries ≤ 100
  left : x.failures + 1 ≤ m.tries
  few : x.failures ≤ 10
  waits : m.waiting.length ≤ 1000
theorem field_req (u : World) (a b c : Nat) (f g : Value) : (Instr.field 169 (.agg #[.int .i64 a, .int .i64 b, .int .i64 c, f, g]) 2).run Tryz.prog u = .ok g u ∧ (Instr.field 169 (.agg #[.int .i64 a, .int .i64 b, .int .i64 c, f, g]) 1).run Tryz.prog u = .ok f u := by
  constructor
  · simp [Instr.field, asAgg, run_underlying Tryz.underlying169, go_sem]
  · simp [Instr.field, asAgg, run_underlying Tryz.underlying169, go_sem]

set_option maxRecDepth 20000 in
set_option maxHeartbeats 2000000 in
theorem lineFail_any (col : Colr) (w : World) (P : Nat) (m : Pl.Sc) (h : IsSc col w P m) (id : Int) (hal : m.asked.length ≤ 1000) (hok : ∀ i, Pl.findId m.asked id = some i → FailOk m (Pl.partAt m i)) :
    Calls Tryz.prog 87 #[PtrTo P 7, .int .i64 id] w fun e w' => e = .returned (.int .i64 (Pl.fail m id).2) ∧ ∃ col', IsSc col' w' P (Pl.fail m id).1 ∧ Went col w w' col' := by
  obtain ⟨ps, qs, nv, av, wv, hv, gv, r⟩ := h
  have HFI := hide (find_any col w P m ps qs nv av wv hv gv r id hal)
  cases hfi : Pl.findId m.asked id with
  | none =>
    rw [hfi] at HFI
    simp only [idxV] at HFI
    have HP : Hid (Pl.fail m id = (m, 3)) := hide (by unfold Pl.fail; rw [hfi])
    go_enter Tryz.func87, Tryz.ntmps87
    go_wp2_with (go_at_call 105; refine (unhide HFI).mono ?_; rintro e w1 ⟨rfl, x1⟩)
    go_ret
    rw [HP.out]
    exact ⟨rfl, col, (r.ext x1).is, Went.ext x1⟩
  | some i =>
    have hi : i < m.asked.length := (List.findIdx?_eq_some_iff_getElem.1 hfi).1
    have hf := hok i hfi
    rw [hfi] at HFI
    simp only [idxV] at HFI
    have HP : Hid (Pl.fail m id = (Pl.partFailed (Pl.takeAt m i) (Pl.partAt m i), 0)) := hide (by unfold Pl.fail; rw [hfi])
    clear hok hfi
    go_enter Tryz.func87, Tryz.ntmps87
    go_wp2_with (go_at_call 105; refine (unhide HFI).mono ?_; rintro e w1 ⟨rfl, x1⟩)
    refine (lineTake_any col w1 P m ps qs nv av wv hv gv (r.ext x1) i hi hal).mono ?_
    rintro e w2 ⟨⟨ra, rb, rc, rfl⟩, av2, r2, g2, ⟨dv, xv, hp2⟩, hn2⟩
    have hfd := fun u => (field_req u ra rb rc (Bound 118 (PtrTo (ps.getD i 0) 0)) (Bound 119 (PtrTo (ps.getD i 0) 0))).1
    generalize ps.getD i 0 = pk at *
    have HFA := hide (failed_any col w2 P pk (Pl.takeAt m i) (Pl.partAt m i) (ps.eraseIdx i) qs nv av2 wv hv gv dv xv r2 hp2 hn2 hf.state hf.tries hf.left hf.few hf.waits)
    clear r2 hp2 hn2
    go_wp2_with fail
    refine (unhide HFA).mono ?_
    rintro e w3 ⟨rfl, c3, s3, g3⟩
    go_wp2_with fail
    go_ret
    rw [HP.out]
    exact ⟨rfl, c3, s3, ((Went.ext x1).trans g2).trans g3⟩

/-- what may be answered -/
structure AnsOk (m : Pl.Sc) (x : Pl.Part) (l : List UInt8) : Prop where
  bnd : Bnd m
  ends : x.place + x.length ≤ 1000000
  data : x.data.length ≤ x.length
  whole : x.data.length + l.length = x.length → WholeOk m x.aim (x.data ++ l)
theorem Bnd.take {m : Pl.Sc} (h : Bnd m) (i : Nat) : Bnd (Pl.takeAt m i) := ⟨h.size, h.lastId, by
  have := h.asked
  have h2 : (m.asked.eraseIdx i).length ≤ m.asked.length := (List.eraseIdx_sublist m.asked i).length_le
  show (m.asked.eraseIdx i).length ≤ 900
  omega, h.want, h.gap, h.win, h.opened, h.ahead, h.pieces⟩
theorem WholeOk.take {m : Pl.Sc} {aim : Pl.Aim} {l : List UInt8} (h : WholeOk m aim l) (i : Nat) : WholeOk (Pl.takeAt m i) aim l := by cases aim <;> exact h

set_option maxRecDepth 20000 in
set_option maxHeartbeats 4000000 in
theorem lineAnswer_any (col : Colr) (w : World) (P : Nat) (m : Pl.Sc) (h : IsSc col w P m) (id : Int) (l : List UInt8) (hll : l.length ≤ 1000000) (hal : m.asked.length ≤ 1000) (hok : ∀ i, Pl.findId m.asked id = some i → FailOk m (Pl.partAt m i) ∧ (l.length ≤ (Pl.partAt m i).length - (Pl.partAt m i).data.length → l.length ≠ 0 → AnsOk m (Pl.partAt m i) l) ∧ (Pl.partAt m i).length ≤ 1000000) :
    Calls Tryz.prog 86 #[PtrTo P 7, .int .i64 id, tx l] w fun e w' => e = .returned (.int .i64 (Pl.answer m id l).2) ∧ ∃ col', IsSc col' w' P (Pl.answer m id l).1 ∧ Went col w w' col' := by
  have hIS := h
  obtain ⟨ps, qs, nv, av, wv, hv, gv, r⟩ := h
  have HFI := hide (find_any col w P m ps qs nv av wv hv gv r id hal)
  have hsz : (⟨l.toArray⟩ : ByteArray).size = l.length := by simp [ByteArray.size]
  cases hfi : Pl.findId m.asked id with
  | none =>
    rw [hfi] at HFI
    simp only [idxV] at HFI
    have HP : Hid (Pl.answer m id l = (m, 3)) := hide (by unfold Pl.answer; rw [hfi])
    go_enter Tryz.func86, Tryz.ntmps86
    go_wp2_with (go_at_call 105; refine (unhide HFI).mono ?_; rintro e w1 ⟨rfl, x1⟩)
    go_ret
    rw [HP.out]
    exact ⟨rfl, col, (r.ext x1).is, Went.ext x1⟩
  | some i =>
    have hi : i < m.asked.length := (List.findIdx?_eq_some_iff_getElem.1 hfi).1
    obtain ⟨hf, hans, hpl⟩ := hok i hfi
    have hpa := takeAt_part m i hi
    have s10 := r.blk.cell 10
    simp only [scCells, List.getElem?_cons_zero, List.getElem?_cons_succ] at s10
    have hown := r.inn.asked
    obtain ⟨g, cap, rfl, hcap, hgl, hc⟩ := hown.at (by omega)
    have hpl0 : ps.length = m.asked.length := r.inn.aparts.1
    have d2 : w.cell? ⟨g, i * 5 + 2, none⟩ = some (.int .i64 (((Pl.partAt m i).length - (Pl.partAt m i).data.length : Nat) : Int)) := by
      rw [hc (i * 5 + 2) (by omega), reqRow_at ps m.asked hpl0 i 2 hi (by omega), hpa]
      rfl
    rw [hfi] at HFI
    simp only [idxV] at HFI
    have HA : Hid (Pl.answer m id l = if (Pl.partAt m i).length - (Pl.partAt m i).data.length < l.length then (m, 4) else if l.length = 0 then Pl.fail m id else (Pl.partCame (Pl.takeAt m i) (Pl.partAt m i) l, 0)) := hide (by unfold Pl.answer; rw [hfi])
    have hrem : (Pl.partAt m i).length - (Pl.partAt m i).data.length ≤ 1000000 := by omega
    generalize hrm : (Pl.partAt m i).length - (Pl.partAt m i).data.length = rem at *
    have HRM := hide hrm
    clear hrm hc hown
    by_cases h4 : rem < l.length
    · have HP : Hid (Pl.answer m id l = (m, 4)) := hide (by rw [HA.out, if_pos h4])
      have h4' : (rem : Int) < (l.length : Int) := by omega
      clear hok hans hf hpa
      go_enter Tryz.func86, Tryz.ntmps86
      go_wp2_with (go_at_call 105; refine (unhide HFI).mono ?_; rintro e w1 ⟨rfl, x1⟩; have s10' := x1.cell s10 (fun f => f); have d2' := x1.cell d2 (fun f => f))
      go_ret
      rw [HP.out]
      exact ⟨rfl, col, (r.ext x1).is, Went.ext x1⟩
    · have h4' : ¬ (rem : Int) < (l.length : Int) := by omega
      by_cases h0 : l.length = 0
      · have HP : Hid (Pl.answer m id l = Pl.fail m id) := hide (by rw [HA.out, if_neg h4, if_pos h0])
        have hl0 : l = [] := List.eq_nil_of_length_eq_zero h0
        subst hl0
        have HFL := hide (fun (u : World) (hu : Ext w u) => lineFail_any col u P m (hIS.kept hu (fun _ f => f.elim)) id hal (fun i h => (hok i h).1))
        clear hok hans hf hpa h0
        go_enter Tryz.func86, Tryz.ntmps86
        go_wp2_with (go_at_call 105; refine (unhide HFI).mono ?_; rintro e w1 ⟨rfl, x1⟩; have s10' := x1.cell s10 (fun f => f); have d2' := x1.cell d2 (fun f => f))
        refine ((unhide HFL) w1 x1).mono ?_
        rintro e w2 ⟨rfl, c2, s2, g2⟩
        go_wp2_with fail
        go_ret
        rw [HP.out]
        exact ⟨rfl, c2, s2, (Went.ext x1).trans g2⟩
      · have HP : Hid (Pl.answer m id l = (Pl.partCame (Pl.takeAt m i) (Pl.partAt m i) l, 0)) := hide (by rw [HA.out, if_neg h4, if_neg h0])
        have hne : l.isEmpty = false := by cases l with
          | nil => simp at h0
          | cons a t => rfl
        have ha := hans (by omega) h0
        clear hok hans hpa HA
        go_enter Tryz.func86, Tryz.ntmps86
        go_wp2_with (go_at_call 105; refine (unhide HFI).mono ?_; rintro e w1 ⟨rfl, x1⟩; have s10' := x1.cell s10 (fun f => f); have d2' := x1.cell d2 (fun f => f))
        refine (lineTake_any col w1 P m ps qs nv _ wv hv gv (r.ext x1) i hi hal).mono ?_
        rintro e w2 ⟨⟨ra, rb, rc, rfl⟩, av2, r2, g2, ⟨dv, xv, hp2⟩, hn2⟩
        have hfd := fun u => (field_req u ra rb rc (Bound 118 (PtrTo (ps.getD i 0) 0)) (Bound 119 (PtrTo (ps.getD i 0) 0))).2
        generalize ps.getD i 0 = pk at *
        have hda := ha.data
        have hle : (Pl.partAt m i).data.length + l.length ≤ (Pl.partAt m i).length := by have := HRM.out; omega
        have HFA := hide (partCame_any col w2 P pk (Pl.takeAt m i) (Pl.partAt m i) (ps.eraseIdx i) qs nv av2 wv hv gv dv xv r2 hp2 hn2 l (ha.bnd.take i) ha.ends hle (fun h => (ha.whole (by omega)).take i))
        clear r2 hp2 hn2
        go_wp2_with fail
        refine (unhide HFA).mono ?_
        rintro e w3 ⟨rfl, c3, s3, g3⟩
        go_wp2_with fail
        go_ret
        rw [HP.out]
        exact ⟨rfl, c3, s3, ((Went.ext x1).trans g2).trans g3⟩
end Go.Proofs.YthicgffppmbamaaGreat

namespace Go.Proofs.YthicgffppmbamaaGreat
open Go.RowKit

/-- the scan at block P is m, but that it holds another row of those that wait -/
structure RepT (col : Colr) (w : World) (P : Nat) (m : Pl.Sc) (ps qs : List Nat) (nv av wb wv hv gv : Value) : Prop where
  blk : Blk w P (scCells P m nv av wb hv gv) 142
  inn : Inner col w P m ps qs nv av wv hv gv
theorem RepT.ext {col : Colr} {w w' : World} {P : Nat} {m : Pl.Sc} {ps qs : List Nat} {nv av wb wv hv gv : Value} (h : RepT col w P m ps qs nv av wb wv hv gv) (k : Ext w w') : RepT col w' P m ps qs nv av wb wv hv gv :=
  ⟨h.blk.kept k id, h.inn.go k h.blk.lt (fun _ f => f.elim) (fun _ _ => rfl) (fun i hi => h.inn.top i (Nat.le_trans k.size hi))⟩
/-- one cell of the scan's own block is another one -/
theorem RepT.cellP {col : Colr} {w : World} {P : Nat} {m m' : Pl.Sc} {ps qs : List Nat} {nv av wb wv hv gv nv' av' wv' hv' gv' : Value} (h : RepT col w P m ps qs nv av wb wv hv gv) (j : Nat) (v : Value) (e : (scCells P m nv av wb hv gv).set j v = scCells P m' nv' av' wb hv' gv') (hi : Inner col w P m' ps qs nv' av' wv' hv' gv') :
    RepT col (w.setCell ⟨P, j, none⟩ v) P m' ps qs nv' av' wb wv' hv' gv' :=
  ⟨by have := h.blk.set j v; rw [e] at this; exact this, hi.put (kp_set' w P j v) h.blk.lt⟩
/-- one request more: the row of requests has grown -/
theorem RepT.askMore {col : Colr} {w u w1 : World} {P p : Nat} {m : Pl.Sc} {x : Pl.Part} {ps qs : List Nat} {nv av wb wv hv gv dv xv av' : Value} (h : RepT col w P m ps qs nv av wb wv hv gv) (hp : PartAt col w P p x dv xv) (hn : p ∉ ps ++ qs) (hu : Ext w u) (k : Kp (Of av) u w1) (s : Sep u av av') (o : Own w1 5 av' (m.asked.length + 1) (reqRow ps m.asked ++ reqCells p (m.lastId, x))) :
    RepT (paint col w.heap.size w1.heap.size .asked) (w1.setCell ⟨P, 10, none⟩ av') P { m with asked := m.asked ++ [(m.lastId, x)] } (ps ++ [p]) qs nv av' wb wv hv gv ∧ Went col w (w1.setCell ⟨P, 10, none⟩ av') (paint col w.heap.size w1.heap.size .asked) ∧ Kp (fun k => k = P ∨ col k = .asked) w (w1.setCell ⟨P, 10, none⟩ av') := by
  have kw : Kp (Of av) w w1 := (Kp.of_ext hu).trans k
  have hc : ∀ i, i < w.heap.size → paint col w.heap.size w1.heap.size .asked i = col i := fun i hi => paint_lt _ _ _ _ _ hi
  have hav : ∀ i, Of av i → col i = .asked := fun i hi => h.inn.acol i hi
  have hcalm : Calm col (Of av) := Calm.one .asked hav (by simp) (by simp) (by simp) (by simp) (by simp)
  have r := h.inn.rest kw hcalm hc
  have hp1 := hp.go kw (fun e => hcalm.part p e hp.pcol) (hcalm.data p) hcalm.ro hc
  have hPlt := h.blk.lt
  have hPn : ¬ Of av P := fun e => by have := hav P e; rw [h.inn.pcol] at this; simp at this
  have hb1 := h.blk.kept kw hPn
  have hin : Inner (paint col w.heap.size w1.heap.size .asked) w1 P { m with asked := m.asked ++ [(m.lastId, x)] } (ps ++ [p]) qs nv av' wv hv gv := by
    refine ⟨by rw [hc P hPlt]; exact h.inn.pcol, fun i hi => by rw [paint_ge _ _ _ _ _ hi]; exact h.inn.top i (Nat.le_trans kw.size hi), r.names, ?_, fun g hg => ?_, r.aparts.snoc (q := (m.lastId, x)) hp1, ?_, fun g hg => by rw [hc g (h.inn.waiting.lt hg)]; exact h.inn.wcol g hg, r.wparts, ?_, r.ahead, r.groups⟩
    · rw [reqRow_snoc _ _ _ _ h.inn.aparts.1]
      simpa using o
    · rcases s with e | ⟨g', e1, e2⟩
      · rw [e] at hg
        rw [hc g (h.inn.asked.lt hg)]
        exact h.inn.acol g hg
      · rw [e1] at hg
        simp only [Option.some.injEq] at hg
        subst hg
        exact paint_in _ _ _ _ _ (by have := hu.size; omega) (o.lt e1)
    · exact h.inn.waiting.kept kw (fun g hg hs => by have := hav g hs; rw [h.inn.wcol g hg] at this; simp at this)
    · have := h.inn.nodup
      rw [List.append_assoc]
      refine (List.nodup_append.2 ⟨(List.nodup_append.1 this).1, ?_, ?_⟩)
      · simp only [List.singleton_append, List.nodup_cons]
        exact ⟨fun hq => hn (List.mem_append.2 (.inr hq)), (List.nodup_append.1 this).2.1⟩
      · intro a ha b hb
        simp only [List.singleton_append, List.mem_cons] at hb
        rcases hb with rfl | hb
        · exact fun e => hn (List.mem_append.2 (.inl (e ▸ ha)))
        · exact (List.nodup_append.1 this).2.2 a ha b hb
  refine ⟨⟨?_, hin.put (kp_set' w1 P 10 av') hb1.lt⟩, ⟨?_, hc⟩, (kw.mono (fun i _ hi => .inr (hav i hi))).setCell (p := ⟨P, 10, none⟩) (.inl (.inl rfl)) av'⟩
  · have := hb1.set 10 av'
    simpa [scCells, giveV] using this
  · refine (kw.mono (fun i _ hi => ?_)).setCell (p := ⟨P, 10, none⟩) (.inl ?_) av'
    · show col i ≠ .out
      rw [hav i hi]; simp
    · show col P ≠ .out
      rw [h.inn.pcol]; simp

set_option maxRecDepth 20000 in
set_option maxHeartbeats 2000000 in
theorem askT_any (col : Colr) (w : World) (P p : Nat) (m : Pl.Sc) (x : Pl.Part) (ps qs : List Nat) (nv av wb wv hv gv dv xv : Value) (h : RepT col w P m ps qs nv av wb wv hv gv) (hp : PartAt col w P p x dv xv) (hn : p ∉ ps ++ qs) (hid : m.lastId ≤ 1000000000000) (hal : m.asked.length ≤ 1000) (hpl : x.place + x.length ≤ 1000000) (hdl : x.data.length ≤ x.length) :
    Calls Tryz.prog 102 #[PtrTo p 0] w fun e w' => e = .returned (.tuple #[]) ∧ ∃ col' av', RepT col' w' P (Pl.ask m x) (ps ++ [p]) qs nv av' wb wv hv gv ∧ Went col w w' col' ∧ Kp (fun k => k = P ∨ col k = .asked) w w' := by
  have c0 := hp.blk.cell 0
  have c1 := hp.blk.cell 1
  have c2 := hp.blk.cell 2
  have c3 := hp.blk.cell 3
  have s9 := h.blk.cell 9
  have s10 := h.blk.cell 10
  have f9 := h.blk.free 9
  have f10 := h.blk.free 10
  simp only [partCells, scCells, I, List.getElem?_cons_zero, List.getElem?_cons_succ] at c0 c1 c2 c3 s9 s10
  obtain ⟨da, dc, rfl⟩ := hp.data.shape
  obtain ⟨aa, ac, rfl, _⟩ := h.inn.asked.shape
  have hm1 : Inner col w P { m with lastId := m.lastId + 1 } ps qs nv (.slice aa m.asked.length ac) wv hv gv := ⟨h.inn.pcol, h.inn.top, h.inn.names, h.inn.asked, h.inn.acol, h.inn.aparts, h.inn.waiting, h.inn.wcol, h.inn.wparts, h.inn.nodup, h.inn.ahead, h.inn.groups⟩
  have h1 := h.cellP 9 (.int .i64 ((m.lastId : Int) + 1)) (by simp [scCells, I, giveV]) hm1
  have k1 := kp_set' w P 9 (.int .i64 ((m.lastId : Int) + 1))
  have hpP : p ≠ P := fun e => by have := hp.pcol; rw [e, h.inn.pcol] at this; simp at this
  have hp1 := hp.go (col' := col) k1 (fun e => hpP e) (fun i hi => by subst hi; rw [h.inn.pcol]; simp) (fun i hi => by subst hi; rw [h.inn.pcol]; simp) (fun _ _ => rfl)
  have hreq : #[Value.int .i64 ((m.lastId : Int) + 1), Value.int .i64 ((x.place : Int) + (x.data.length : Int)), Value.int .i64 ((x.length : Int) - (x.data.length : Int)), Bound 118 (PtrTo p 0), Bound 119 (PtrTo p 0)] = (reqCells p (m.lastId + 1, x)).toArray := by
    simp [reqCells, I]
    omega
  have hone : ∀ u ∈ reqCells p (m.lastId + 1, x), u.oneCell' = true := by
    intro u hu
    simp [reqCells] at hu
    rcases hu with rfl | rfl | rfl | rfl | rfl <;> rfl
  go_enter Tryz.func102, Tryz.ntmps102
  go_wp2_with fail
  clear c0 c1 c2 c3 s9 s10 f9 f10 hm1
  generalize w.setCell _ _ = W1 at *
  have hA : ∀ u, Ext W1 u → Own u 5 (.slice aa m.asked.length ac) m.asked.length (reqRow ps m.asked) := fun u hu => h1.inn.asked.ext hu
  have c0 := hp1.blk.cell 0
  have c1 := hp1.blk.cell 1
  have c2 := hp1.blk.cell 2
  have c3 := hp1.blk.cell 3
  have s9 := h1.blk.cell 9
  have s10 := h1.blk.cell 10
  have f10 := h1.blk.free 10
  simp only [partCells, scCells, I, List.getElem?_cons_zero, List.getElem?_cons_succ, Int.natCast_add, Int.natCast_one] at c0 c1 c2 c3 s9 s10
  have HA := hide hA
  clear hA
  have hav : ∀ k, (Value.slice aa m.asked.length ac).ownBlock = some k → k ≠ p ∧ k ≠ P := fun k hk => by
    have e := h1.inn.acol k hk
    exact ⟨fun e' => by rw [e', hp1.pcol] at e; simp at e, fun e' => by rw [e', h1.inn.pcol] at e; simp at e⟩
  have hS : ∀ u, Kp (fun k => k ≠ p ∧ k ≠ P) W1 u → u.cell? ⟨p, 0, none⟩ = some (PtrTo P 7) ∧ u.cell? ⟨p, 1, none⟩ = some (.int .i64 (x.place : Int)) ∧ u.cell? ⟨p, 2, none⟩ = some (.int .i64 (x.length : Int)) ∧ u.cell? ⟨p, 3, none⟩ = some (.slice da x.data.length dc) ∧ u.cell? ⟨P, 9, none⟩ = some (.int .i64 ((m.lastId : Int) + 1)) ∧ u.cell? ⟨P, 10, none⟩ = some (.slice aa m.asked.length ac) := fun u hu =>
    ⟨hu.cell c0 (by simp), hu.cell c1 (by simp), hu.cell c2 (by simp), hu.cell c3 (by simp), hu.cell s9 (by simp), hu.cell s10 (by simp)⟩
  have HS := hide hS
  have HV := hide hav
  have HR := hide hreq
  have HO := hide hone
  clear hS hav hreq hone
  have e1 : IntKind.i64.wrap ((x.place : Int) + (x.data.length : Int)) = (x.place : Int) + (x.data.length : Int) := by simp [IntKind.wrap, IntKind.bits, IntKind.signed]; omega
  have e2 : IntKind.i64.wrap ((x.length : Int) - (x.data.length : Int)) = (x.length : Int) - (x.data.length : Int) := by simp [IntKind.wrap, IntKind.bits, IntKind.signed]; omega
  have hK1 : Kp (fun k => k ≠ p ∧ k ≠ P) W1 W1.drew := (Kp.refl _ _).drew
  refine wp_region_late (n := 48) (Kp (fun k => k ≠ p ∧ k ≠ P) W1) (by kernel_rfl) ?_
  refine Late.take (i := 0) (oi := ⟨some 12, .move (.tmp 0), 162, "part.go:17", #[], none⟩) (v := ?_) [48] rfl (by kernel_rfl) (by kernel_rfl) (by decide) (by decide) (by kernel_rfl) (by kernel_rfl) (by kernel_rfl) (fun _ _ _ h => h) rfl ?_ hK1 ?_
  rotate_left
  · (intro u hu; obtain ⟨u0, u1, u2, u3, u4, u5⟩ := (unhide HS) u hu; go_simp; first | done | with_reducible rfl)
  try simp only [Act.put, List.setIfInBounds_toArray, List.set_cons_zero, List.set_cons_succ]
  refine Late.take (i := 1) (oi := ⟨some 13, .nilCheck (.tmp 12), 0, "part.go:17", #[⟨0, .data⟩], none⟩) (v := ?_) [48] rfl (by kernel_rfl) (by kernel_rfl) (by decide) (by decide) (by kernel_rfl) (by kernel_rfl) (by kernel_rfl) (fun _ _ _ h => h) rfl ?_ hK1 ?_
  rotate_left
  · (intro u hu; obtain ⟨u0, u1, u2, u3, u4, u5⟩ := (unhide HS) u hu; go_simp; first | done | with_reducible rfl)
  try simp only [Act.put, List.setIfInBounds_toArray, List.set_cons_zero, List.set_cons_succ]
  refine Late.take (i := 2) (oi := ⟨some 14, .fieldAddr 164 (.tmp 13) 0, 0, "part.go:17", #[⟨1, .data⟩], none⟩) (v := ?_) [48] rfl (by kernel_rfl) (by kernel_rfl) (by decide) (by decide) (by kernel_rfl) (by kernel_rfl) (by kernel_rfl) (fun _ _ _ h => h) rfl ?_ hK1 ?_
  rotate_left
  · (intro u hu; obtain ⟨u0, u1, u2, u3, u4, u5⟩ := (unhide HS) u hu; go_simp; first | done | with_reducible rfl)
  try simp only [Act.put, List.setIfInBounds_toArray, List.set_cons_zero, List.set_cons_succ]
  refine Late.take (i := 3) (oi := ⟨some 15, .load 161 (.tmp 14), 161, "part.go:17", #[⟨2, .data⟩], none⟩) (v := ?_) [48] rfl (by kernel_rfl) (by kernel_rfl) (by decide) (by decide) (by kernel_rfl) (by kernel_rfl) (by kernel_rfl) (fun _ _ _ h => h) rfl ?_ hK1 ?_
  rotate_left
  · (intro u hu; obtain ⟨u0, u1, u2, u3, u4, u5⟩ := (unhide HS) u hu; go_simp; first | done | with_reducible rfl)
  try simp only [Act.put, List.setIfInBounds_toArray, List.set_cons_zero, List.set_cons_succ]
  refine Late.take (i := 4) (oi := ⟨some 16, .move (.tmp 0), 162, "part.go:17", #[], none⟩) (v := ?_) [48] rfl (by kernel_rfl) (by kernel_rfl) (by decide) (by decide) (by kernel_rfl) (by kernel_rfl) (by kernel_rfl) (fun _ _ _ h => h) rfl ?_ hK1 ?_
  rotate_left
  · (intro u hu; obtain ⟨u0, u1, u2, u3, u4, u5⟩ := (unhide HS) u hu; go_simp; first | done | with_reducible rfl)
  try simp only [Act.put, List.setIfInBounds_toArray, List.set_cons_zero, List.set_cons_succ]
  refine Late.take (i := 5) (oi := ⟨some 17, .nilCheck (.tmp 16), 0, "part.go:17", #[⟨4, .data⟩], none⟩) (v := ?_) [48] rfl (by kernel_rfl) (by kernel_rfl) (by decide) (by decide) (by kernel_rfl) (by kernel_rfl) (by kernel_rfl) (fun _ _ _ h => h) rfl ?_ hK1 ?_
  rotate_left
  · (intro u hu; obtain ⟨u0, u1, u2, u3, u4, u5⟩ := (unhide HS) u hu; go_simp; first | done | with_reducible rfl)
  try simp only [Act.put, List.setIfInBounds_toArray, List.set_cons_zero, List.set_cons_succ]
  refine Late.take (i := 6) (oi := ⟨some 18, .fieldAddr 164 (.tmp 17) 0, 0, "part.go:17", #[⟨5, .data⟩], none⟩) (v := ?_) [48] rfl (by kernel_rfl) (by kernel_rfl) (by decide) (by decide) (by kernel_rfl) (by kernel_rfl) (by kernel_rfl) (fun _ _ _ h => h) rfl ?_ hK1 ?_
  rotate_left
  · (intro u hu; obtain ⟨u0, u1, u2, u3, u4, u5⟩ := (unhide HS) u hu; go_simp; first | done | with_reducible rfl)
  try simp only [Act.put, List.setIfInBounds_toArray, List.set_cons_zero, List.set_cons_succ]
  refine Late.take (i := 7) (oi := ⟨some 19, .load 161 (.tmp 18), 161, "part.go:17", #[⟨6, .data⟩], none⟩) (v := ?_) [48] rfl (by kernel_rfl) (by kernel_rfl) (by decide) (by decide) (by kernel_rfl) (by kernel_rfl) (by kernel_rfl) (fun _ _ _ h => h) rfl ?_ hK1 ?_
  rotate_left
  · (intro u hu; obtain ⟨u0, u1, u2, u3, u4, u5⟩ := (unhide HS) u hu; go_simp; first | done | with_reducible rfl)
  try simp only [Act.put, List.setIfInBounds_toArray, List.set_cons_zero, List.set_cons_succ]
  refine Late.take (i := 8) (oi := ⟨some 20, .nilCheck (.tmp 19), 0, "part.go:17", #[⟨7, .data⟩], none⟩) (v := ?_) [48] rfl (by kernel_rfl) (by kernel_rfl) (by decide) (by decide) (by kernel_rfl) (by kernel_rfl) (by kernel_rfl) (fun _ _ _ h => h) rfl ?_ hK1 ?_
  rotate_left
  · (intro u hu; obtain ⟨u0, u1, u2, u3, u4, u5⟩ := (unhide HS) u hu; go_simp; first | done | with_reducible rfl)
  try simp only [Act.put, List.setIfInBounds_toArray, List.set_cons_zero, List.set_cons_succ]
  refine Late.take (i := 9) (oi := ⟨some 21, .fieldAddr 136 (.tmp 20) 3, 0, "part.go:17", #[⟨8, .data⟩], none⟩) (v := ?_) [48] rfl (by kernel_rfl) (by kernel_rfl) (by decide) (by decide) (by kernel_rfl) (by kernel_rfl) (by kernel_rfl) (fun _ _ _ h => h) rfl ?_ hK1 ?_
  rotate_left
  · (intro u hu; obtain ⟨u0, u1, u2, u3, u4, u5⟩ := (unhide HS) u hu; go_simp; first | done | with_reducible rfl)
  try simp only [Act.put, List.setIfInBounds_toArray, List.set_cons_zero, List.set_cons_succ]
  refine Late.take (i := 10) (oi := ⟨some 22, .load 133 (.tmp 21), 133, "part.go:17", #[⟨9, .data⟩], none⟩) (v := ?_) [48] rfl (by kernel_rfl) (by kernel_rfl) (by decide) (by decide) (by kernel_rfl) (by kernel_rfl) (by kernel_rfl) (fun _ _ _ h => h) rfl ?_ hK1 ?_
  rotate_left
  · (intro u hu; obtain ⟨u0, u1, u2, u3, u4, u5⟩ := (unhide HS) u hu; go_simp; first | done | with_reducible rfl)
  try simp only [Act.put, List.setIfInBounds_toArray, List.set_cons_zero, List.set_cons_succ]
  refine Late.take (i := 11) (oi := ⟨some 23, .move (.tmp 0), 162, "part.go:17", #[], none⟩) (v := ?_) [48] rfl (by kernel_rfl) (by kernel_rfl) (by decide) (by decide) (by kernel_rfl) (by kernel_rfl) (by kernel_rfl) (fun _ _ _ h => h) rfl ?_ hK1 ?_
  rotate_left
  · (intro u hu; obtain ⟨u0, u1, u2, u3, u4, u5⟩ := (unhide HS) u hu; go_simp; first | done | with_reducible rfl)
  try simp only [Act.put, List.setIfInBounds_toArray, List.set_cons_zero, List.set_cons_succ]
  refine Late.take (i := 12) (oi := ⟨some 24, .nilCheck (.tmp 23), 0, "part.go:17", #[⟨11, .data⟩], none⟩) (v := ?_) [48] rfl (by kernel_rfl) (by kernel_rfl) (by decide) (by decide) (by kernel_rfl) (by kernel_rfl) (by kernel_rfl) (fun _ _ _ h => h) rfl ?_ hK1 ?_
  rotate_left
  · (intro u hu; obtain ⟨u0, u1, u2, u3, u4, u5⟩ := (unhide HS) u hu; go_simp; first | done | with_reducible rfl)
  try simp only [Act.put, List.setIfInBounds_toArray, List.set_cons_zero, List.set_cons_succ]
  refine Late.take (i := 13) (oi := ⟨some 25, .fieldAddr 164 (.tmp 24) 0, 0, "part.go:17", #[⟨12, .data⟩], none⟩) (v := ?_) [48] rfl (by kernel_rfl) (by kernel_rfl) (by decide) (by decide) (by kernel_rfl) (by kernel_rfl) (by kernel_rfl) (fun _ _ _ h => h) rfl ?_ hK1 ?_
  rotate_left
  · (intro u hu; obtain ⟨u0, u1, u2, u3, u4, u5⟩ := (unhide HS) u hu; go_simp; first | done | with_reducible rfl)
  try simp only [Act.put, List.setIfInBounds_toArray, List.set_cons_zero, List.set_cons_succ]
  refine Late.take (i := 14) (oi := ⟨some 26, .load 161 (.tmp 25), 161, "part.go:17", #[⟨13, .data⟩], none⟩) (v := ?_) [48] rfl (by kernel_rfl) (by kernel_rfl) (by decide) (by decide) (by kernel_rfl) (by kernel_rfl) (by kernel_rfl) (fun _ _ _ h => h) rfl ?_ hK1 ?_
  rotate_left
  · (intro u hu; obtain ⟨u0, u1, u2, u3, u4, u5⟩ := (unhide HS) u hu; go_simp; first | done | with_reducible rfl)
  try simp only [Act.put, List.setIfInBounds_toArray, List.set_cons_zero, List.set_cons_succ]
  refine Late.take (i := 15) (oi := ⟨some 27, .nilCheck (.tmp 26), 0, "part.go:17", #[⟨14, .data⟩], none⟩) (v := ?_) [48] rfl (by kernel_rfl) (by kernel_rfl) (by decide) (by decide) (by kernel_rfl) (by kernel_rfl) (by kernel_rfl) (fun _ _ _ h => h) rfl ?_ hK1 ?_
  rotate_left
  · (intro u hu; obtain ⟨u0, u1, u2, u3, u4, u5⟩ := (unhide HS) u hu; go_simp; first | done | with_reducible rfl)
  try simp only [Act.put, List.setIfInBounds_toArray, List.set_cons_zero, List.set_cons_succ]
  refine Late.take (i := 16) (oi := ⟨some 28, .fieldAddr 136 (.tmp 27) 2, 0, "part.go:17", #[⟨15, .data⟩], none⟩) (v := ?_) [48] rfl (by kernel_rfl) (by kernel_rfl) (by decide) (by decide) (by kernel_rfl) (by kernel_rfl) (by kernel_rfl) (fun _ _ _ h => h) rfl ?_ hK1 ?_
  rotate_left
  · (intro u hu; obtain ⟨u0, u1, u2, u3, u4, u5⟩ := (unhide HS) u hu; go_simp; first | done | with_reducible rfl)
  try simp only [Act.put, List.setIfInBounds_toArray, List.set_cons_zero, List.set_cons_succ]
  refine Late.take (i := 17) (oi := ⟨some 29, .load 3 (.tmp 28), 3, "part.go:17", #[⟨16, .data⟩], none⟩) (v := ?_) [48] rfl (by kernel_rfl) (by kernel_rfl) (by decide) (by decide) (by kernel_rfl) (by kernel_rfl) (by kernel_rfl) (fun _ _ _ h => h) rfl ?_ hK1 ?_
  rotate_left
  · (intro u hu; obtain ⟨u0, u1, u2, u3, u4, u5⟩ := (unhide HS) u hu; go_simp; first | done | with_reducible rfl)
  try simp only [Act.put, List.setIfInBounds_toArray, List.set_cons_zero, List.set_cons_succ]
  refine Late.take (i := 18) (oi := ⟨some 30, .move (.tmp 0), 162, "part.go:17", #[], none⟩) (v := ?_) [48] rfl (by kernel_rfl) (by kernel_rfl) (by decide) (by decide) (by kernel_rfl) (by kernel_rfl) (by kernel_rfl) (fun _ _ _ h => h) rfl ?_ hK1 ?_
  rotate_left
  · (intro u hu; obtain ⟨u0, u1, u2, u3, u4, u5⟩ := (unhide HS) u hu; go_simp; first | done | with_reducible rfl)
  try simp only [Act.put, List.setIfInBounds_toArray, List.set_cons_zero, List.set_cons_succ]
  refine Late.take (i := 19) (oi := ⟨some 31, .nilCheck (.tmp 30), 0, "part.go:17", #[⟨18, .data⟩], none⟩) (v := ?_) [48] rfl (by kernel_rfl) (by kernel_rfl) (by decide) (by decide) (by kernel_rfl) (by kernel_rfl) (by kernel_rfl) (fun _ _ _ h => h) rfl ?_ hK1 ?_
  rotate_left
  · (intro u hu; obtain ⟨u0, u1, u2, u3, u4, u5⟩ := (unhide HS) u hu; go_simp; first | done | with_reducible rfl)
  try simp only [Act.put, List.setIfInBounds_toArray, List.set_cons_zero, List.set_cons_succ]
  refine Late.take (i := 20) (oi := ⟨some 32, .fieldAddr 164 (.tmp 31) 1, 0, "part.go:17", #[⟨19, .data⟩], none⟩) (v := ?_) [48] rfl (by kernel_rfl) (by kernel_rfl) (by decide) (by decide) (by kernel_rfl) (by kernel_rfl) (by kernel_rfl) (fun _ _ _ h => h) rfl ?_ hK1 ?_
  rotate_left
  · (intro u hu; obtain ⟨u0, u1, u2, u3, u4, u5⟩ := (unhide HS) u hu; go_simp; first | done | with_reducible rfl)
  try simp only [Act.put, List.setIfInBounds_toArray, List.set_cons_zero, List.set_cons_succ]
  refine Late.take (i := 21) (oi := ⟨some 33, .load 3 (.tmp 32), 3, "part.go:17", #[⟨20, .data⟩], none⟩) (v := ?_) [48] rfl (by kernel_rfl) (by kernel_rfl) (by decide) (by decide) (by kernel_rfl) (by kernel_rfl) (by kernel_rfl) (fun _ _ _ h => h) rfl ?_ hK1 ?_
  rotate_left
  · (intro u hu; obtain ⟨u0, u1, u2, u3, u4, u5⟩ := (unhide HS) u hu; go_simp; first | done | with_reducible rfl)
  try simp only [Act.put, List.setIfInBounds_toArray, List.set_cons_zero, List.set_cons_succ]
  refine Late.take (i := 22) (oi := ⟨some 34, .move (.tmp 0), 162, "part.go:17", #[], none⟩) (v := ?_) [48] rfl (by kernel_rfl) (by kernel_rfl) (by decide) (by decide) (by kernel_rfl) (by kernel_rfl) (by kernel_rfl) (fun _ _ _ h => h) rfl ?_ hK1 ?_
  rotate_left
  · (intro u hu; obtain ⟨u0, u1, u2, u3, u4, u5⟩ := (unhide HS) u hu; go_simp; first | done | with_reducible rfl)
  try simp only [Act.put, List.setIfInBounds_toArray, List.set_cons_zero, List.set_cons_succ]
  refine Late.take (i := 23) (oi := ⟨some 35, .nilCheck (.tmp 34), 0, "part.go:17", #[⟨22, .data⟩], none⟩) (v := ?_) [48] rfl (by kernel_rfl) (by kernel_rfl) (by decide) (by decide) (by kernel_rfl) (by kernel_rfl) (by kernel_rfl) (fun _ _ _ h => h) rfl ?_ hK1 ?_
  rotate_left
  · (intro u hu; obtain ⟨u0, u1, u2, u3, u4, u5⟩ := (unhide HS) u hu; go_simp; first | done | with_reducible rfl)
  try simp only [Act.put, List.setIfInBounds_toArray, List.set_cons_zero, List.set_cons_succ]
  refine Late.take (i := 24) (oi := ⟨some 36, .fieldAddr 164 (.tmp 35) 3, 0, "part.go:17", #[⟨23, .data⟩], none⟩) (v := ?_) [48] rfl (by kernel_rfl) (by kernel_rfl) (by decide) (by decide) (by kernel_rfl) (by kernel_rfl) (by kernel_rfl) (fun _ _ _ h => h) rfl ?_ hK1 ?_
  rotate_left
  · (intro u hu; obtain ⟨u0, u1, u2, u3, u4, u5⟩ := (unhide HS) u hu; go_simp; first | done | with_reducible rfl)
  try simp only [Act.put, List.setIfInBounds_toArray, List.set_cons_zero, List.set_cons_succ]
  refine Late.take (i := 25) (oi := ⟨some 37, .load 76 (.tmp 36), 76, "part.go:17", #[⟨24, .data⟩], none⟩) (v := ?_) [48] rfl (by kernel_rfl) (by kernel_rfl) (by decide) (by decide) (by kernel_rfl) (by kernel_rfl) (by kernel_rfl) (fun _ _ _ h => h) rfl ?_ hK1 ?_
  rotate_left
  · (intro u hu; obtain ⟨u0, u1, u2, u3, u4, u5⟩ := (unhide HS) u hu; go_simp; first | done | with_reducible rfl)
  try simp only [Act.put, List.setIfInBounds_toArray, List.set_cons_zero, List.set_cons_succ]
  refine Late.take (i := 26) (oi := ⟨some 38, .call { callee := .builtin .len, args := #[.tmp 37], argTypes := #[76] }, 3, "part.go:17", #[⟨25, .data⟩], none⟩) (v := ?_) [48] rfl (by kernel_rfl) (by kernel_rfl) (by decide) (by decide) (by kernel_rfl) (by kernel_rfl) (by kernel_rfl) (fun _ _ _ h => h) rfl ?_ hK1 ?_
  rotate_left
  · (intro u hu; obtain ⟨u0, u1, u2, u3, u4, u5⟩ := (unhide HS) u hu; go_simp; first | done | with_reducible rfl)
  try simp only [Act.put, List.setIfInBounds_toArray, List.set_cons_zero, List.set_cons_succ]
  refine Late.take (i := 27) (oi := ⟨some 39, .binOp .add 3 (.tmp 33) (.tmp 38) 3, 3, "part.go:17", #[⟨21, .data⟩, ⟨26, .data⟩], none⟩) (v := ?_) [48] rfl (by kernel_rfl) (by kernel_rfl) (by decide) (by decide) (by kernel_rfl) (by kernel_rfl) (by kernel_rfl) (fun _ _ _ h => h) rfl ?_ hK1 ?_
  rotate_left
  · (intro u hu; obtain ⟨u0, u1, u2, u3, u4, u5⟩ := (unhide HS) u hu; go_simp; first | done | with_reducible rfl)
  try simp only [Act.put, List.setIfInBounds_toArray, List.set_cons_zero, List.set_cons_succ]
  refine Late.take (i := 28) (oi := ⟨some 40, .move (.tmp 0), 162, "part.go:17", #[], none⟩) (v := ?_) [48] rfl (by kernel_rfl) (by kernel_rfl) (by decide) (by decide) (by kernel_rfl) (by kernel_rfl) (by kernel_rfl) (fun _ _ _ h => h) rfl ?_ hK1 ?_
  rotate_left
  · (intro u hu; obtain ⟨u0, u1, u2, u3, u4, u5⟩ := (unhide HS) u hu; go_simp; first | done | with_reducible rfl)
  try simp only [Act.put, List.setIfInBounds_toArray, List.set_cons_zero, List.set_cons_succ]
  refine Late.take (i := 29) (oi := ⟨some 41, .nilCheck (.tmp 40), 0, "part.go:17", #[⟨28, .data⟩], none⟩) (v := ?_) [48] rfl (by kernel_rfl) (by kernel_rfl) (by decide) (by decide) (by kernel_rfl) (by kernel_rfl) (by kernel_rfl) (fun _ _ _ h => h) rfl ?_ hK1 ?_
  rotate_left
  · (intro u hu; obtain ⟨u0, u1, u2, u3, u4, u5⟩ := (unhide HS) u hu; go_simp; first | done | with_reducible rfl)
  try simp only [Act.put, List.setIfInBounds_toArray, List.set_cons_zero, List.set_cons_succ]
  refine Late.take (i := 30) (oi := ⟨some 42, .fieldAddr 164 (.tmp 41) 2, 0, "part.go:17", #[⟨29, .data⟩], none⟩) (v := ?_) [48] rfl (by kernel_rfl) (by kernel_rfl) (by decide) (by decide) (by kernel_rfl) (by kernel_rfl) (by kernel_rfl) (fun _ _ _ h => h) rfl ?_ hK1 ?_
  rotate_left
  · (intro u hu; obtain ⟨u0, u1, u2, u3, u4, u5⟩ := (unhide HS) u hu; go_simp; first | done | with_reducible rfl)
  try simp only [Act.put, List.setIfInBounds_toArray, List.set_cons_zero, List.set_cons_succ]
  refine Late.take (i := 31) (oi := ⟨some 43, .load 3 (.tmp 42), 3, "part.go:17", #[⟨30, .data⟩], none⟩) (v := ?_) [48] rfl (by kernel_rfl) (by kernel_rfl) (by decide) (by decide) (by kernel_rfl) (by kernel_rfl) (by kernel_rfl) (fun _ _ _ h => h) rfl ?_ hK1 ?_
  rotate_left
  · (intro u hu; obtain ⟨u0, u1, u2, u3, u4, u5⟩ := (unhide HS) u hu; go_simp; first | done | with_reducible rfl)
  try simp only [Act.put, List.setIfInBounds_toArray, List.set_cons_zero, List.set_cons_succ]
  refine Late.take (i := 32) (oi := ⟨some 44, .move (.tmp 0), 162, "part.go:17", #[], none⟩) (v := ?_) [48] rfl (by kernel_rfl) (by kernel_rfl) (by decide) (by decide) (by kernel_rfl) (by kernel_rfl) (by kernel_rfl) (fun _ _ _ h => h) rfl ?_ hK1 ?_
  rotate_left
  · (intro u hu; obtain ⟨u0, u1, u2, u3, u4, u5⟩ := (unhide HS) u hu; go_simp; first | done | with_reducible rfl)
  try simp only [Act.put, List.setIfInBounds_toArray, List.set_cons_zero, List.set_cons_succ]
  refine Late.take (i := 33) (oi := ⟨some 45, .nilCheck (.tmp 44), 0, "part.go:17", #[⟨32, .data⟩], none⟩) (v := ?_) [48] rfl (by kernel_rfl) (by kernel_rfl) (by decide) (by decide) (by kernel_rfl) (by kernel_rfl) (by kernel_rfl) (fun _ _ _ h => h) rfl ?_ hK1 ?_
  rotate_left
  · (intro u hu; obtain ⟨u0, u1, u2, u3, u4, u5⟩ := (unhide HS) u hu; go_simp; first | done | with_reducible rfl)
  try simp only [Act.put, List.setIfInBounds_toArray, List.set_cons_zero, List.set_cons_succ]
  refine Late.take (i := 34) (oi := ⟨some 46, .fieldAddr 164 (.tmp 45) 3, 0, "part.go:17", #[⟨33, .data⟩], none⟩) (v := ?_) [48] rfl (by kernel_rfl) (by kernel_rfl) (by decide) (by decide) (by kernel_rfl) (by kernel_rfl) (by kernel_rfl) (fun _ _ _ h => h) rfl ?_ hK1 ?_
  rotate_left
  · (intro u hu; obtain ⟨u0, u1, u2, u3, u4, u5⟩ := (unhide HS) u hu; go_simp; first | done | with_reducible rfl)
  try simp only [Act.put, List.setIfInBounds_toArray, List.set_cons_zero, List.set_cons_succ]
  refine Late.take (i := 35) (oi := ⟨some 47, .load 76 (.tmp 46), 76, "part.go:17", #[⟨34, .data⟩], none⟩) (v := ?_) [48] rfl (by kernel_rfl) (by kernel_rfl) (by decide) (by decide) (by kernel_rfl) (by kernel_rfl) (by kernel_rfl) (fun _ _ _ h => h) rfl ?_ hK1 ?_
  rotate_left
  · (intro u hu; obtain ⟨u0, u1, u2, u3, u4, u5⟩ := (unhide HS) u hu; go_simp; first | done | with_reducible rfl)
  try simp only [Act.put, List.setIfInBounds_toArray, List.set_cons_zero, List.set_cons_succ]
  refine Late.take (i := 36) (oi := ⟨some 48, .call { callee := .builtin .len, args := #[.tmp 47], argTypes := #[76] }, 3, "part.go:17", #[⟨35, .data⟩], none⟩) (v := ?_) [48] rfl (by kernel_rfl) (by kernel_rfl) (by decide) (by decide) (by kernel_rfl) (by kernel_rfl) (by kernel_rfl) (fun _ _ _ h => h) rfl ?_ hK1 ?_
  rotate_left
  · (intro u hu; obtain ⟨u0, u1, u2, u3, u4, u5⟩ := (unhide HS) u hu; go_simp; first | done | with_reducible rfl)
  try simp only [Act.put, List.setIfInBounds_toArray, List.set_cons_zero, List.set_cons_succ]
  refine Late.take (i := 37) (oi := ⟨some 49, .binOp .sub 3 (.tmp 43) (.tmp 48) 3, 3, "part.go:17", #[⟨31, .data⟩, ⟨36, .data⟩], none⟩) (v := ?_) [48] rfl (by kernel_rfl) (by kernel_rfl) (by decide) (by decide) (by kernel_rfl) (by kernel_rfl) (by kernel_rfl) (fun _ _ _ h => h) rfl ?_ hK1 ?_
  rotate_left
  · (intro u hu; obtain ⟨u0, u1, u2, u3, u4, u5⟩ := (unhide HS) u hu; go_simp; first | done | with_reducible rfl)
  try simp only [Act.put, List.setIfInBounds_toArray, List.set_cons_zero, List.set_cons_succ]
  refine Late.take (i := 38) (oi := ⟨some 50, .build 72 #[(0, .tmp 29), (1, .tmp 39), (2, .tmp 49)], 72, "part.go:17", #[⟨17, .data⟩, ⟨27, .data⟩, ⟨37, .data⟩], none⟩) (v := ?_) [48] rfl (by kernel_rfl) (by kernel_rfl) (by decide) (by decide) (by kernel_rfl) (by kernel_rfl) (by kernel_rfl) (fun _ _ _ h => h) rfl ?_ hK1 ?_
  rotate_left
  · (intro u hu; obtain ⟨u0, u1, u2, u3, u4, u5⟩ := (unhide HS) u hu; go_simp; first | done | with_reducible rfl)
  try simp only [Act.put, List.setIfInBounds_toArray, List.set_cons_zero, List.set_cons_succ]
  refine Late.take (i := 39) (oi := ⟨some 51, .move (.tmp 0), 162, "part.go:17", #[], none⟩) (v := ?_) [48] rfl (by kernel_rfl) (by kernel_rfl) (by decide) (by decide) (by kernel_rfl) (by kernel_rfl) (by kernel_rfl) (fun _ _ _ h => h) rfl ?_ hK1 ?_
  rotate_left
  · (intro u hu; obtain ⟨u0, u1, u2, u3, u4, u5⟩ := (unhide HS) u hu; go_simp; first | done | with_reducible rfl)
  try simp only [Act.put, List.setIfInBounds_toArray, List.set_cons_zero, List.set_cons_succ]
  refine Late.take (i := 40) (oi := ⟨some 52, .makeFunc (Go.Fn.func 118) #[.tmp 51] #[], 167, "part.go:17", #[⟨39, .data⟩], none⟩) (v := ?_) [48] rfl (by kernel_rfl) (by kernel_rfl) (by decide) (by decide) (by kernel_rfl) (by kernel_rfl) (by kernel_rfl) (fun _ _ _ h => h) rfl ?_ hK1 ?_
  rotate_left
  · (intro u hu; obtain ⟨u0, u1, u2, u3, u4, u5⟩ := (unhide HS) u hu; go_simp; first | done | with_reducible rfl)
  try simp only [Act.put, List.setIfInBounds_toArray, List.set_cons_zero, List.set_cons_succ]
  refine Late.take (i := 41) (oi := ⟨some 53, .move (.tmp 0), 162, "part.go:17", #[], none⟩) (v := ?_) [48] rfl (by kernel_rfl) (by kernel_rfl) (by decide) (by decide) (by kernel_rfl) (by kernel_rfl) (by kernel_rfl) (fun _ _ _ h => h) rfl ?_ hK1 ?_
  rotate_left
  · (intro u hu; obtain ⟨u0, u1, u2, u3, u4, u5⟩ := (unhide HS) u hu; go_simp; first | done | with_reducible rfl)
  try simp only [Act.put, List.setIfInBounds_toArray, List.set_cons_zero, List.set_cons_succ]
  refine Late.take (i := 42) (oi := ⟨some 54, .makeFunc (Go.Fn.func 119) #[.tmp 53] #[], 1, "part.go:17", #[⟨41, .data⟩], none⟩) (v := ?_) [48] rfl (by kernel_rfl) (by kernel_rfl) (by decide) (by decide) (by kernel_rfl) (by kernel_rfl) (by kernel_rfl) (fun _ _ _ h => h) rfl ?_ hK1 ?_
  rotate_left
  · (intro u hu; obtain ⟨u0, u1, u2, u3, u4, u5⟩ := (unhide HS) u hu; go_simp; first | done | with_reducible rfl)
  try simp only [Act.put, List.setIfInBounds_toArray, List.set_cons_zero, List.set_cons_succ]
  refine Late.take (i := 43) (oi := ⟨some 55, .build 169 #[(0, .tmp 50), (1, .tmp 52), (2, .tmp 54)], 169, "part.go:17", #[⟨38, .data⟩, ⟨40, .data⟩, ⟨42, .data⟩], none⟩) (v := ?_) [48] rfl (by kernel_rfl) (by kernel_rfl) (by decide) (by decide) (by kernel_rfl) (by kernel_rfl) (by kernel_rfl) (fun _ _ _ h => h) rfl ?_ hK1 ?_
  rotate_left
  · (intro u hu; obtain ⟨u0, u1, u2, u3, u4, u5⟩ := (unhide HS) u hu; go_simp; first | done | with_reducible rfl)
  try simp only [Act.put, List.setIfInBounds_toArray, List.set_cons_zero, List.set_cons_succ]
  refine Late.one (i := 44) (o := ⟨some 56, .buildSlice 133 1 #[(0, .tmp 55)], 133, "part.go:17", #[⟨43, .data⟩], none⟩) (by kernel_rfl) rfl (fun K hK => ?_)
  go_simp
  refine hK _ _ (fun _ => ((Kp.refl _ _).alloc _).drew) ?_
  clear hK K
  try simp only [Act.put, List.setIfInBounds_toArray, List.set_cons_zero, List.set_cons_succ]
  refine Late.one (i := 45) (o := ⟨some 57, .call { callee := .builtin .append, args := #[.tmp 22, .tmp 56], argTypes := #[133, 133] }, 133, "part.go:17", #[⟨10, .data⟩, ⟨44, .data⟩], none⟩) (by kernel_rfl) rfl (fun K hK => ?_)
  refine step_append_g rfl _ _ 133 133 rfl 169 zReq 5 40 Tryz.underlying133 infoReq rfl _ _ _ (by rfl) ((unhide HA) _ ((Kp.refl _ _).alloc _).drew) _ (by rfl) 1 _ (src_elemD _ _ _ Tryz.underlying133 _ _ (unhide HR) (unhide HO)) (by omega) (by omega) ?_
  intro v' w1 o2 k2 s2
  have k12 : Kp (fun k => k ≠ p ∧ k ≠ P) W1 w1 := ((Kp.refl _ _).alloc _).drew.trans (k2.mono (fun k _ e => (unhide HV) k e))
  refine hK _ _ (fun _ => k12) ?_
  clear hK K
  obtain ⟨a', c', rfl, hc'⟩ := o2.shape
  try simp only [Act.put, List.setIfInBounds_toArray, List.set_cons_zero, List.set_cons_succ]
  have s10' : w1.cell? ⟨P, 10, none⟩ = some (.slice aa m.asked.length ac) := k12.cell s10 (by simp)
  have f10' : w1.frozen? ⟨P, 10, none⟩ = false := by rw [World.frozen?_of_block (w := W1) (a := ⟨P, 10, none⟩) (k12.block P h1.blk.lt (by simp))]; exact f10
  refine Late.one (i := 46) (o := ⟨some 58, .nilCheck (.tmp 15), 0, "part.go:17", #[⟨3, .data⟩, ⟨0, .phase⟩, ⟨1, .phase⟩, ⟨2, .phase⟩, ⟨3, .phase⟩, ⟨4, .phase⟩, ⟨5, .phase⟩, ⟨6, .phase⟩, ⟨7, .phase⟩, ⟨8, .phase⟩, ⟨9, .phase⟩, ⟨10, .phase⟩, ⟨11, .phase⟩, ⟨12, .phase⟩, ⟨13, .phase⟩, ⟨14, .phase⟩, ⟨15, .phase⟩, ⟨16, .phase⟩, ⟨17, .phase⟩, ⟨18, .phase⟩, ⟨19, .phase⟩, ⟨20, .phase⟩, ⟨21, .phase⟩, ⟨22, .phase⟩, ⟨23, .phase⟩, ⟨24, .phase⟩, ⟨25, .phase⟩, ⟨26, .phase⟩, ⟨27, .phase⟩, ⟨28, .phase⟩, ⟨29, .phase⟩, ⟨30, .phase⟩, ⟨31, .phase⟩, ⟨32, .phase⟩, ⟨33, .phase⟩, ⟨34, .phase⟩, ⟨35, .phase⟩, ⟨36, .phase⟩, ⟨37, .phase⟩, ⟨38, .phase⟩, ⟨39, .phase⟩, ⟨40, .phase⟩, ⟨41, .phase⟩, ⟨42, .phase⟩, ⟨43, .phase⟩, ⟨44, .phase⟩, ⟨45, .phase⟩], none⟩) (by kernel_rfl) rfl (fun K hK => ?_)
  go_simp
  refine hK _ _ (fun _ => k12) ?_
  clear hK K
  try simp only [Act.put, List.setIfInBounds_toArray, List.set_cons_zero, List.set_cons_succ]
  refine Late.one (i := 47) (o := ⟨some 59, .fieldAddr 136 (.tmp 58) 3, 0, "part.go:17", #[⟨46, .data⟩, ⟨0, .phase⟩, ⟨1, .phase⟩, ⟨2, .phase⟩, ⟨3, .phase⟩, ⟨4, .phase⟩, ⟨5, .phase⟩, ⟨6, .phase⟩, ⟨7, .phase⟩, ⟨8, .phase⟩, ⟨9, .phase⟩, ⟨10, .phase⟩, ⟨11, .phase⟩, ⟨12, .phase⟩, ⟨13, .phase⟩, ⟨14, .phase⟩, ⟨15, .phase⟩, ⟨16, .phase⟩, ⟨17, .phase⟩, ⟨18, .phase⟩, ⟨19, .phase⟩, ⟨20, .phase⟩, ⟨21, .phase⟩, ⟨22, .phase⟩, ⟨23, .phase⟩, ⟨24, .phase⟩, ⟨25, .phase⟩, ⟨26, .phase⟩, ⟨27, .phase⟩, ⟨28, .phase⟩, ⟨29, .phase⟩, ⟨30, .phase⟩, ⟨31, .phase⟩, ⟨32, .phase⟩, ⟨33, .phase⟩, ⟨34, .phase⟩, ⟨35, .phase⟩, ⟨36, .phase⟩, ⟨37, .phase⟩, ⟨38, .phase⟩, ⟨39, .phase⟩, ⟨40, .phase⟩, ⟨41, .phase⟩, ⟨42, .phase⟩, ⟨43, .phase⟩, ⟨44, .phase⟩, ⟨45, .phase⟩], none⟩) (by kernel_rfl) rfl (fun K hK => ?_)
  go_simp
  refine hK _ _ (fun _ => k12) ?_
  clear hK K
  try simp only [Act.put, List.setIfInBounds_toArray, List.set_cons_zero, List.set_cons_succ]
  refine Late.one (i := 48) (o := ⟨none, .store 133 (.tmp 59) (.tmp 57), 0, "part.go:17", #[⟨47, .data⟩, ⟨45, .data⟩, ⟨45, .chain⟩, ⟨0, .phase⟩, ⟨1, .phase⟩, ⟨2, .phase⟩, ⟨3, .phase⟩, ⟨4, .phase⟩, ⟨5, .phase⟩, ⟨6, .phase⟩, ⟨7, .phase⟩, ⟨8, .phase⟩, ⟨9, .phase⟩, ⟨10, .phase⟩, ⟨11, .phase⟩, ⟨12, .phase⟩, ⟨13, .phase⟩, ⟨14, .phase⟩, ⟨15, .phase⟩, ⟨16, .phase⟩, ⟨17, .phase⟩, ⟨18, .phase⟩, ⟨19, .phase⟩, ⟨20, .phase⟩, ⟨21, .phase⟩, ⟨22, .phase⟩, ⟨23, .phase⟩, ⟨24, .phase⟩, ⟨25, .phase⟩, ⟨26, .phase⟩, ⟨27, .phase⟩, ⟨28, .phase⟩, ⟨29, .phase⟩, ⟨30, .phase⟩, ⟨31, .phase⟩, ⟨32, .phase⟩, ⟨33, .phase⟩, ⟨34, .phase⟩, ⟨35, .phase⟩, ⟨36, .phase⟩, ⟨37, .phase⟩, ⟨38, .phase⟩, ⟨39, .phase⟩, ⟨40, .phase⟩, ⟨41, .phase⟩, ⟨42, .phase⟩, ⟨43, .phase⟩, ⟨44, .phase⟩, ⟨45, .phase⟩], none⟩) (by kernel_rfl) rfl (fun K hK => ?_)
  go_simp
  refine hK _ _ (fun h => absurd rfl h) ?_
  clear hK K
  try simp only [Act.put, List.setIfInBounds_toArray, List.set_cons_zero, List.set_cons_succ]
  refine Late.done (by kernel_rfl) ?_ _
  go_end0
  have hw1 : Went col w W1 col := ⟨(k1.mono (fun i _ hi => by show col i ≠ .out; rw [hi, h.inn.pcol]; simp)), fun _ _ => rfl⟩
  obtain ⟨r1, r2, r3⟩ := h1.askMore hp1 hn (((Kp.refl _ _).alloc _).drew) k2 s2 o2
  exact ⟨rfl, _, _, r1, hw1.trans r2, (k1.mono (fun _ _ e => .inl e)).trans r3⟩
end Go.Proofs.YthicgffppmbamaaGreat

namespace Go.Proofs.YthicgffppmbamaaGreat
open Go.RowKit

theorem waitRow_at (ps : List Nat) (l : List (Nat × Pl.Part)) (hl : ps.length = l.length) (i j : Nat) (hi : i < l.length) (hj : j < 2) : (waitRow ps l)[i * 2 + j]? = (waitCells (ps[i]'(by omega)) l[i])[j]? := by
  unfold waitRow
  refine flatten_at 2 _ (fun e he => ?_) i j hj _ ?_
  · rw [List.mem_iff_getElem] at he
    obtain ⟨k, hk, rfl⟩ := he
    rw [List.getElem_zipWith]
    rfl
  · rw [List.getElem?_eq_getElem (by simp; omega), List.getElem_zipWith]
theorem PartsAt.drop {col : Colr} {w : World} {P : Nat} {ps : List Nat} {l : List (Nat × Pl.Part)} (h : PartsAt col w P ps l) (k : Nat) : PartsAt col w P (ps.drop k) (l.drop k) :=
  ⟨by rw [List.length_drop, List.length_drop, h.1], fun i p q a b => h.2 (k + i) p q (by rwa [List.getElem?_drop] at a) (by rwa [List.getElem?_drop] at b)⟩
/-- the numbers of a scan while the clock ticks -/
structure TickOk (m : Pl.Sc) : Prop where
  lastId : m.lastId + m.waiting.length ≤ 1000000000000
  asked : m.asked.length + m.waiting.length ≤ 1000
  ticks : ∀ q ∈ m.waiting, 1 ≤ q.1 ∧ q.1 ≤ 1000000
  parts : ∀ q ∈ m.waiting, q.2.place + q.2.length ≤ 1000000 ∧ q.2.data.length ≤ q.2.length
theorem tickS_frame (l : List (Nat × Pl.Part)) : ∀ (m : Pl.Sc) (s : List (Nat × Pl.Part)), (l.foldl Pl.tickS (m, s)).1.lastId ≤ m.lastId + l.length ∧ (l.foldl Pl.tickS (m, s)).1.asked.length ≤ m.asked.length + l.length ∧ (l.foldl Pl.tickS (m, s)).2.length ≤ s.length + l.length ∧ ∀ wt, l.foldl Pl.tickS ({ m with waiting := wt }, s) = ({ (l.foldl Pl.tickS (m, s)).1 with waiting := wt }, (l.foldl Pl.tickS (m, s)).2) := by
  induction l with
  | nil => intro m s; exact ⟨by simp, by simp, by simp, fun wt => rfl⟩
  | cons q l ih =>
    intro m s
    rw [List.foldl_cons]
    by_cases h : 1 < q.1
    · have e : Pl.tickS (m, s) q = (m, s ++ [(q.1 - 1, q.2)]) := by unfold Pl.tickS; rw [if_pos h]
      rw [e]
      obtain ⟨a, b, c, d⟩ := ih m (s ++ [(q.1 - 1, q.2)])
      simp at c ⊢
      refine ⟨by omega, by omega, by omega, fun wt => ?_⟩
      have e2 : Pl.tickS ({ m with waiting := wt }, s) q = ({ m with waiting := wt }, s ++ [(q.1 - 1, q.2)]) := by unfold Pl.tickS; rw [if_pos h]
      rw [e2]
      exact d wt
    · have e : Pl.tickS (m, s) q = (Pl.ask m q.2, s) := by unfold Pl.tickS; rw [if_neg h]
      rw [e]
      obtain ⟨a, b, c, d⟩ := ih (Pl.ask m q.2) s
      have a' : (Pl.ask m q.2).lastId = m.lastId + 1 := rfl
      have b' : (Pl.ask m q.2).asked.length = m.asked.length + 1 := by simp [Pl.ask]
      simp at c ⊢
      refine ⟨by omega, by omega, by omega, fun wt => ?_⟩
      have e2 : Pl.tickS ({ m with waiting := wt }, s) q = ({ Pl.ask m q.2 with waiting := wt }, s) := by unfold Pl.tickS; rw [if_neg h]; rfl
      rw [e2]
      exact d wt
theorem Inner.noWait {col : Colr} {w : World} {P : Nat} {m : Pl.Sc} {ps qs : List Nat} {nv av wv hv gv : Value} (h : Inner col w P m ps qs nv av wv hv gv) : Inner col w P { m with waiting := [] } ps [] nv av (.slice none 0 0) hv gv :=
  ⟨h.pcol, h.top, h.names, h.asked, h.acol, h.aparts, Own.nil _ _, fun g e => by simp [Value.ownBlock] at e, ⟨rfl, fun i p q a => by simp at a⟩, by
    have := (List.nodup_append.1 h.nodup).1
    simpa using this, h.ahead, h.groups⟩
/-- nothing that waits is held: rows of such may be touched -/
theorem RepT.waitKept {col col' : Colr} {S : Nat → Prop} {w w' : World} {P : Nat} {m : Pl.Sc} {ps : List Nat} {nv av wb hv gv : Value} (h : RepT col w P m ps [] nv av wb (.slice none 0 0) hv gv) (k : Kp S w w') (hS : ∀ i, S i → col i = .wait) (hc : ∀ i, i < w.heap.size → col' i = col i) (ht : ∀ i, w'.heap.size ≤ i → col' i = .out) : RepT col' w' P m ps [] nv av wb (.slice none 0 0) hv gv := by
  have hcalm : Calm col S := Calm.one .wait hS (by simp) (by simp) (by simp) (by simp) (by simp)
  have r := h.inn.rest k hcalm hc
  refine ⟨h.blk.kept k (fun e => by have := hS P e; rw [h.inn.pcol] at this; cases this), by rw [hc P h.blk.lt]; exact h.inn.pcol, ht, r.names, ?_, fun g hg => by rw [hc g (h.inn.asked.lt hg)]; exact h.inn.acol g hg, r.aparts, ?_, fun g e => by simp [Value.ownBlock] at e, r.wparts, h.inn.nodup, r.ahead, r.groups⟩
  · exact h.inn.asked.kept k (fun g hg hs => by have := hS g hs; rw [h.inn.acol g hg] at this; cases this)
  · exact h.inn.waiting.kept k (fun g e => by simp [Value.ownBlock] at e)

set_option maxRecDepth 20000 in
set_option maxHeartbeats 4000000 in
theorem lineTick_any (col : Colr) (w : World) (P : Nat) (m : Pl.Sc) (h : IsSc col w P m) (hok : TickOk m) :
    Calls Tryz.prog 88 #[PtrTo P 7] w fun e w' => e = .returned (.tuple #[]) ∧ ∃ col', IsSc col' w' P (Pl.tick m) ∧ Went col w w' col' := by
  obtain ⟨ps, qs, nv, av, wv, hv, gv, r⟩ := h
  have s11 := r.blk.cell 11
  simp only [scCells, List.getElem?_cons_zero, List.getElem?_cons_succ] at s11
  have hown := r.inn.waiting
  have hql : qs.length = m.waiting.length := r.inn.wparts.1
  obtain ⟨wa, wc, rfl, hwc⟩ := hown.shape
  have hfr := tickS_frame m.waiting m []
  have HFR := hide hfr
  have hPl := r.blk.lt
  have hwl : m.waiting.length ≤ 1000 := by have := hok.asked; omega
  go_enter Tryz.func88, Tryz.ntmps88
  go_wp2_with fail
  go_loopw [2, 10] (fun t i wr => ∃ (k : Nat) (colr : Colr) (psk qst : List Nat) (avk : Value), i = .int .i64 k ∧ k ≤ m.waiting.length ∧ RepT colr wr P ((m.waiting.take k).foldl Pl.tickS ({ m with waiting := [] }, [])).1 psk [] nv avk (.slice wa m.waiting.length wc) (.slice none 0 0) hv gv ∧ Own wr 2 t ((m.waiting.take k).foldl Pl.tickS ({ m with waiting := [] }, [])).2.length (waitRow qst ((m.waiting.take k).foldl Pl.tickS ({ m with waiting := [] }, [])).2) ∧ (∀ g, t.ownBlock = some g → colr g = .wait ∧ (Value.slice wa m.waiting.length wc).ownBlock ≠ some g) ∧ PartsAt colr wr P qst ((m.waiting.take k).foldl Pl.tickS ({ m with waiting := [] }, [])).2 ∧ PartsAt colr wr P (qs.drop k) (m.waiting.drop k) ∧ Own wr 2 (.slice wa m.waiting.length wc) m.waiting.length (waitRow qs m.waiting) ∧ (∀ g, (Value.slice wa m.waiting.length wc).ownBlock = some g → colr g = .wait) ∧ (psk ++ qst ++ qs.drop k).Nodup ∧ Went col w wr colr) (fun _ i _ => m.waiting.length - (intOf i).toNat)
  case atStart => exact ⟨0, col, ps, [], av, rfl, by omega, ⟨r.blk, r.inn.noWait⟩, Own.nil _ _, fun g e => by simp [Value.ownBlock] at e, ⟨rfl, fun i p q a => by simp at a⟩, r.inn.wparts, hown, r.inn.wcol, by simpa using r.inn.nodup, Went.refl _ _⟩
  case round =>
    obtain ⟨k, colr, psk, qst, avk, rfl, hk, hR, ho, htc, hqst, hrest, hold, hoc, hnd, hW⟩ := hrel
    clear hown s11
    by_cases hkl : k < m.waiting.length
    · have hstep : (m.waiting.take (k + 1)).foldl Pl.tickS ({ m with waiting := [] }, []) = Pl.tickS ((m.waiting.take k).foldl Pl.tickS ({ m with waiting := [] }, [])) m.waiting[k] := by
        rw [List.take_succ_eq_append_getElem hkl, List.foldl_append]
        rfl
      have HST := hide hstep
      clear hstep
      have hfk := tickS_frame (m.waiting.take k) { m with waiting := [] } []
      have hfk1 := hfk.1
      have hfk2 := hfk.2.1
      have hfk3 := hfk.2.2.1
      rw [List.length_take, Nat.min_eq_left hk] at hfk1 hfk2 hfk3
      simp only [List.length_nil, Nat.zero_add] at hfk3
      clear hfk
      generalize (m.waiting.take k).foldl Pl.tickS ({ m with waiting := [] }, []) = st at *
      obtain ⟨mk, still⟩ := st
      simp only at *
      have hidk : mk.lastId ≤ 1000000000000 := by have := hok.lastId; have : mk.lastId ≤ m.lastId + k := hfk1; omega
      have hask : mk.asked.length ≤ 1000 := by have := hok.asked; have : mk.asked.length ≤ m.asked.length + k := hfk2; omega
      have htk := hok.ticks m.waiting[k] (List.getElem_mem hkl)
      have hpk := hok.parts m.waiting[k] (List.getElem_mem hkl)
      obtain ⟨gb, cap, he, hcap, hgbl, hcell⟩ := hold.at (by omega)
      cases he
      have d0 := (hcell (k * 2 + 0) (by omega)).trans (waitRow_at qs m.waiting hql k 0 hkl (by omega))
      have d1 := (hcell (k * 2 + 1) (by omega)).trans (waitRow_at qs m.waiting hql k 1 hkl (by omega))
      simp only [waitCells, I, List.getElem?_cons_zero, List.getElem?_cons_succ, Nat.add_zero] at d0 d1
      have hdq : qs.drop k = qs[k]'(by omega) :: qs.drop (k + 1) := List.drop_eq_getElem_cons (by omega)
      have hdw : m.waiting.drop k = m.waiting[k] :: m.waiting.drop (k + 1) := List.drop_eq_getElem_cons hkl
      have hrest1 : PartsAt colr wr P (qs.drop (k + 1)) (m.waiting.drop (k + 1)) := by
        have := hrest.drop 1
        rw [List.drop_drop, List.drop_drop] at this
        exact this
      obtain ⟨dv, xv, hpart⟩ := hrest.2 0 (qs[k]'(by omega)) m.waiting[k] (by rw [hdq]; rfl) (by rw [hdw]; rfl)
      rw [hdq] at hnd
      generalize m.waiting[k] = q at *
      generalize qs[k]'(by omega) = pk at *
      obtain ⟨tq, xq⟩ := q
      simp only at *
      obtain ⟨ta, tcc, rfl, _⟩ := ho.shape
      clear hcell hrest hdq hdw
      by_cases h1 : 1 < tq
      · have h1' : (0 : Int) < (tq : Int) - 1 := by omega
        have HS1 : Hid (Pl.tickS (mk, still) (tq, xq) = (mk, still ++ [(tq - 1, xq)])) := hide (by unfold Pl.tickS; rw [if_pos h1])
        have htq : (tq : Int) - 1 = ((tq - 1 : Nat) : Int) := by omega
        go_upto_region 6 with fail
        have x2 : Ext wr (wr.alloc (.cells #[.int .i64 (tq - 1 : Nat), Bound 102 (PtrTo pk 0)] 172)) := (Kp.refl _ _).alloc _
        have b2 := Blk.of_alloc wr [.int .i64 (tq - 1 : Nat), Bound 102 (PtrTo pk 0)] 172
        generalize wr.alloc (.cells #[.int .i64 (tq - 1 : Nat), Bound 102 (PtrTo pk 0)] 172) = W2 at *
        have e0 := b2.cell 0
        have e1 := b2.cell 1
        simp only [List.getElem?_cons_zero, List.getElem?_cons_succ] at e0 e1
        go_wp2_with (at_builtin; go_must (refine wpList_append_g _ rfl _ _ 134 134 rfl 172 zWait 2 16 Tryz.underlying134 infoWait rfl _ _ _ rfl ((ho.ext x2).ext_alloc _) _ rfl 1 _ (src_elemN' W2 W2.heap.size rfl _ _ Tryz.underlying134 _ (waitCells pk (tq - 1, xq)) rfl (by intro u hu; simp [waitCells] at hu; rcases hu with rfl | rfl <;> rfl)) (by omega) (by omega) ?_); intro v5 w5 o5 k5 s5)
        have hz2 := x2.size
        have kk : Kp (Of (.slice ta still.length tcc)) wr w5 := (Kp.of_ext (x2.alloc _)).trans k5
        have hlt : ∀ i, i < wr.heap.size → paint colr wr.heap.size w5.heap.size .wait i = colr i := fun i hi => paint_lt _ _ _ _ _ hi
        have hwt : ∀ i, Of (.slice ta still.length tcc) i → colr i = .wait := fun i e => (htc i e).1
        have hcalm : Calm colr (Of (.slice ta still.length tcc)) := Calm.one .wait hwt (by simp) (by simp) (by simp) (by simp) (by simp)
        have htop : ∀ i, w5.heap.size ≤ i → paint colr wr.heap.size w5.heap.size .wait i = .out := fun i hi => by rw [paint_ge _ _ _ _ _ hi]; exact hR.inn.top i (Nat.le_trans kk.size hi)
        have hpart5 := hpart.go (col' := paint colr wr.heap.size w5.heap.size .wait) kk (fun e => hcalm.part pk e hpart.pcol) (hcalm.data pk) hcalm.ro hlt
        have hq5 := (hqst.go (col' := paint colr wr.heap.size w5.heap.size .wait) kk (fun p hp hs => hcalm.part p hs (hqst.lt hp).2) (fun p _ => hcalm.data p) hcalm.ro hlt).snoc (q := (tq - 1, xq)) hpart5
        refine ⟨⟨k + 1, paint colr wr.heap.size w5.heap.size .wait, psk, qst ++ [pk], avk, by go_num, by omega, ?_, ?_, fun g e => ?_, ?_, hrest1.go kk (fun p hp hs => hcalm.part p hs (hrest1.lt hp).2) (fun p _ => hcalm.data p) hcalm.ro hlt, hold.kept kk (fun g e hs => (htc g hs).2 e), fun g e => by rw [hlt g (hold.lt e)]; exact hoc g e, by simpa using hnd, hW.trans ⟨kk.mono (fun i _ hi => by show colr i ≠ .out; rw [hwt i hi]; simp), hlt⟩⟩, by simp [intOf]; omega⟩
        · rw [HST.out, HS1.out]
          exact hR.waitKept kk hwt hlt htop
        · rw [HST.out, HS1.out, waitRow_snoc _ _ _ _ hqst.1]
          simpa using o5
        · rcases s5 with e' | ⟨g', e1', e2'⟩
          · rw [e'] at e
            exact ⟨by rw [hlt g (ho.lt e)]; exact (htc g e).1, (htc g e).2⟩
          · rw [e1'] at e; simp only [Option.some.injEq] at e; subst e
            simp at e2'
            refine ⟨paint_in _ _ _ _ _ (by omega) (o5.lt e1'), fun e => ?_⟩
            have := hold.lt e
            omega
        · rw [HST.out, HS1.out]
          exact hq5
      · obtain rfl : tq = 1 := by omega
        have HS1 : Hid (Pl.tickS (mk, still) (1, xq) = (Pl.ask mk xq, still)) := hide (by unfold Pl.tickS; rw [if_neg (by omega)])
        go_upto_region 7 with fail
        have x2 : Ext wr (wr.alloc (.cells #[.int .i64 0, Bound 102 (PtrTo pk 0)] 172)) := (Kp.refl _ _).alloc _
        have b2 := Blk.of_alloc wr [.int .i64 0, Bound 102 (PtrTo pk 0)] 172
        generalize wr.alloc (.cells #[.int .i64 0, Bound 102 (PtrTo pk 0)] 172) = W2 at *
        have e1 := b2.cell 1
        simp only [List.getElem?_cons_zero, List.getElem?_cons_succ] at e1
        have hpn : pk ∉ psk ++ [] := fun hm => by
          rw [List.append_nil] at hm
          rw [List.append_assoc, List.nodup_append] at hnd
          exact hnd.2.2 pk hm pk (List.mem_append.2 (.inr List.mem_cons_self)) rfl
        have HA := hide (askT_any colr W2 P pk mk xq psk [] nv avk _ _ hv gv dv xv (hR.ext x2) (hpart.go x2 id (fun _ f => f.elim) (fun _ f => f.elim) (fun _ _ => rfl)) hpn hidk hask hpk.1 hpk.2)
        go_wp2_with fail
        refine (unhide HA).mono ?_
        rintro e w5 ⟨rfl, c5, av5, r5, g5, k5⟩
        go_wp2_with fail
        have hz2 := x2.size
        have hsame : ∀ i, i < wr.heap.size → c5 i = colr i := fun i hi => g5.same i (by omega)
        have kk : Kp (fun i => i = P ∨ colr i = .asked) wr w5 := (Kp.of_ext x2).trans k5
        have hno : ∀ (c : Col), c ≠ .scan → c ≠ .asked → ∀ i, (i = P ∨ colr i = .asked) → colr i ≠ c := fun c h1 h2 i hi e => by
          rcases hi with hi | hi
          · rw [hi, hR.inn.pcol] at e; exact h1 e.symm
          · rw [hi] at e; exact h2 e.symm
        have hnp : ∀ q, colr q = .part → ¬ (q = P ∨ colr q = .asked) := fun q hq hs => hno .part (by simp) (by simp) q hs hq
        refine ⟨⟨k + 1, c5, psk ++ [pk], qst, av5, by go_num, by omega, ?_, ?_, fun g e => ⟨by rw [hsame g (ho.lt e)]; exact (htc g e).1, (htc g e).2⟩, ?_, hrest1.go kk (fun p hp => hnp p (hrest1.lt hp).2) (fun p _ => hno _ (by simp) (by simp)) (hno _ (by simp) (by simp)) hsame, hold.kept kk (fun g e hs => hno .wait (by simp) (by simp) g hs (hoc g e)), fun g e => by rw [hsame g (hold.lt e)]; exact hoc g e, ?_, hW.trans ((Went.ext x2).trans g5)⟩, by simp [intOf]; omega⟩
        · rw [HST.out, HS1.out]
          exact r5
        · rw [HST.out, HS1.out]
          exact ho.kept kk (fun g e hs => hno .wait (by simp) (by simp) g hs (htc g e).1)
        · rw [HST.out, HS1.out]
          exact hqst.go kk (fun p hp => hnp p (hqst.lt hp).2) (fun p _ => hno _ (by simp) (by simp)) (hno _ (by simp) (by simp)) hsame
        · refine (List.Perm.nodup_iff ?_).1 hnd
          simp only [List.append_assoc]
          refine List.Perm.append_left psk ?_
          simp
    · obtain rfl : k = m.waiting.length := by omega
      have hall := (HFR.out).2.2.2 []
      rw [List.take_length, hall] at hR ho hqst
      have HTK : Hid (Pl.tick m = { (m.waiting.foldl Pl.tickS (m, [])).1 with waiting := (m.waiting.foldl Pl.tickS (m, [])).2 }) := hide rfl
      clear hall hfr HFR
      generalize m.waiting.foldl Pl.tickS (m, []) = st at *
      obtain ⟨mf, still⟩ := st
      simp only at *
      obtain ⟨ta, tcc, rfl, _⟩ := ho.shape
      have c11 := hR.blk.cell 11
      have f11 := hR.blk.free 11
      simp only [scCells, List.getElem?_cons_zero, List.getElem?_cons_succ] at c11
      go_wp2_with fail
      go_end0
      rw [HTK.out]
      have ks := kp_set' wr P 11 (.slice ta still.length tcc)
      have hin : Inner colr wr P { mf with waiting := still } psk qst nv avk (.slice ta still.length tcc) hv gv := by
        have i0 := hR.inn
        refine ⟨i0.pcol, i0.top, i0.names, i0.asked, i0.acol, i0.aparts, ho, fun g e => (htc g e).1, hqst, ?_, i0.ahead, i0.groups⟩
        rw [List.drop_eq_nil_of_le (by omega), List.append_nil] at hnd
        exact hnd
      have hrep : Rep colr (wr.setCell ⟨P, 11, none⟩ (.slice ta still.length tcc)) P { mf with waiting := still } psk qst nv avk (.slice ta still.length tcc) hv gv := ⟨hR.blk.set 11 _, hin.put ks hR.blk.lt⟩
      exact ⟨rfl, colr, hrep.is, hW.trans ⟨ks.mono (fun i _ hi => by show colr i ≠ .out; rw [hi, hR.inn.pcol]; simp), fun _ _ => rfl⟩⟩
end Go.Proofs.YthicgffppmbamaaGreat

namespace Go.Proofs.YthicgffppmbamaaGreat
open Go.RowKit

/-- colours that differ only where nothing of the scan lies -/
theorem IsSc.recol {col col' : Colr} {w : World} {P : Nat} {m : Pl.Sc} (h : IsSc col w P m) (hc : ∀ i c, c ≠ .box → c ≠ .out → col i = c → col' i = c) (ht : ∀ i, w.heap.size ≤ i → col' i = .out) : IsSc col' w P m := by
  obtain ⟨ps, qs, nv, av, wv, hv, gv, r⟩ := h
  have hi := r.inn
  have hro : ∀ {sz : Nat} {v : Value} {n : Nat} {cs : List Value}, RowAt (fun b => col b = .ro) false w sz v n cs → RowAt (fun b => col' b = .ro) false w sz v n cs := fun h => h.go (S := fun _ => False) (Kp.refl _ _) (fun _ _ f => f) (fun i _ e => hc i .ro (by simp) (by simp) e)
  have haim : ∀ {v : Value} {a : Pl.Aim}, AimAt col w P v a → AimAt col' w P v a := fun {v a} h => by
    cases a with
    | tail => exact h
    | footer => exact h
    | piece p => obtain ⟨pv, e, hp⟩ := h; exact ⟨pv, e, hro hp⟩
  have hpart : ∀ {p : Nat} {x : Pl.Part} {dv xv : Value}, PartAt col w P p x dv xv → PartAt col' w P p x dv xv := fun h => ⟨h.blk, h.data, fun g e => hc g _ (by simp) (by simp) (h.dcol g e), haim h.aim, hc _ _ (by simp) (by simp) h.pcol⟩
  have hparts : ∀ {ps : List Nat} {l : List (Nat × Pl.Part)}, PartsAt col w P ps l → PartsAt col' w P ps l := fun h => ⟨h.1, fun i p q a b => let ⟨dv, xv, e⟩ := h.2 i p q a b; ⟨dv, xv, hpart e⟩⟩
  refine ⟨ps, qs, nv, av, wv, hv, gv, r.blk, hc _ _ (by simp) (by simp) hi.pcol, ht, hro hi.names, hi.asked, fun g e => hc g _ (by simp) (by simp) (hi.acol g e), hparts hi.aparts, hi.waiting, fun g e => hc g _ (by simp) (by simp) (hi.wcol g e), hparts hi.wparts, hi.nodup, ?_, ?_⟩
  · obtain ⟨pvs, h1, h2, h3⟩ := hi.ahead
    exact ⟨pvs, h1, hro h2, fun i pv p a b => hro (h3 i pv p a b)⟩
  · obtain ⟨lvs, h1, h2, h3⟩ := hi.groups
    refine ⟨lvs, h1, h2.go (S := fun _ => False) (Kp.refl _ _) (fun _ _ f => f) (fun i _ e => hc i _ (by simp) (by simp) e), fun i lv g a b => ?_⟩
    obtain ⟨vs, q1, q2, q3⟩ := h3 i lv g a b
    exact ⟨vs, q1, q2.go (S := fun _ => False) (Kp.refl _ _) (fun _ _ f => f) (fun j _ e => hc j _ (by simp) (by simp) e), fun j u l a b => hro (q3 j u l a b)⟩
/-- a call on the scan within its box -/
theorem IsX.inner {col : Colr} {w : World} {X P : Nat} {m : Pl.Sc} (h : IsX col w X m P) : IsSc (fun k => if k = X then .out else col k) w P m ∧ ∀ w' m' col'', IsSc col'' w' P m' → Went (fun k => if k = X then .out else col k) w w' col'' → ∃ col', IsX col' w' X m' P ∧ Went col w w' col' := by
  have hXl := h.blk.lt
  have htop : ∀ i, w.heap.size ≤ i → col i = .out := by obtain ⟨ps, qs, nv, av, wv, hv, gv, r⟩ := h.sc; exact r.inn.top
  refine ⟨h.sc.recol (fun i c h1 h2 e => ?_) (fun i hi => ?_), fun w' m' col'' hs hw => ?_⟩
  · by_cases hi : i = X
    · rw [hi, h.xcol] at e; exact absurd e.symm h1
    · simp only [if_neg hi]; exact e
  · by_cases hi' : i = X
    · simp only [if_pos hi']
    · simp only [if_neg hi']; exact htop i hi
  · have hX'' : col'' X = .out := by have := hw.same X hXl; simp only [if_true] at this; exact this
    have htop'' : ∀ i, w'.heap.size ≤ i → col'' i = .out := by obtain ⟨ps, qs, nv, av, wv, hv, gv, r⟩ := hs; exact r.inn.top
    refine ⟨fun k => if k = X then .box else col'' k, ⟨h.blk.kept hw.kept (fun e => by unfold Mine at e; simp at e), by simp, hs.recol (fun i c h1 h2 e => ?_) (fun i hi => ?_)⟩, ⟨hw.kept.mono (fun i _ e => ?_), fun i hi => ?_⟩⟩
    · by_cases hi : i = X
      · rw [hi, hX''] at e; exact absurd e.symm h2
      · simp only [if_neg hi]; exact e
    · have := hw.kept.size
      simp only [if_neg (show i ≠ X by omega)]
      exact htop'' i hi
    · unfold Mine at e ⊢
      by_cases hi : i = X
      · rw [hi, h.xcol]; simp
      · simp only [if_neg hi] at e; exact e
    · by_cases hi' : i = X
      · simp only [if_pos hi']; rw [hi', h.xcol]
      · simp only [if_neg hi']
        have := hw.same i hi
        rw [if_neg hi'] at this
        exact this

set_option maxRecDepth 20000 in
set_option maxHeartbeats 1000000 in
theorem xAnswer_any (col : Colr) (w : World) (X P : Nat) (m : Pl.Sc) (h : IsX col w X m P) (id : Int) (l : List UInt8) (hll : l.length ≤ 1000000) (hal : m.asked.length ≤ 1000) (hok : ∀ i, Pl.findId m.asked id = some i → FailOk m (Pl.partAt m i) ∧ (l.length ≤ (Pl.partAt m i).length - (Pl.partAt m i).data.length → l.length ≠ 0 → AnsOk m (Pl.partAt m i) l) ∧ (Pl.partAt m i).length ≤ 1000000) :
    Calls Tryz.prog 26 #[PtrTo X 0, .int .i64 id, tx l] w fun e w' => e = .returned (.int .i64 (Pl.answer m id l).2) ∧ ∃ col', IsX col' w' X (Pl.answer m id l).1 P ∧ Went col w w' col' := by
  have c0 := h.blk.cell 0
  simp only [List.getElem?_cons_zero] at c0
  obtain ⟨h1, h2⟩ := h.inner
  have hsc : Calls Tryz.prog 56 #[PtrTo P 0, .int .i64 id, tx l] w fun e w' => e = .returned (.int .i64 (Pl.answer m id l).2) ∧ ∃ col', IsSc col' w' P (Pl.answer m id l).1 ∧ Went (fun k => if k = X then .out else col k) w w' col' := by
    have HC := hide (lineAnswer_any _ w P m h1 id l hll hal hok)
    clear h h1 h2 c0 hok
    go_enter Tryz.func56, Tryz.ntmps56
    go_wp2_with fail
    refine (unhide HC).mono ?_
    rintro e w1 ⟨rfl, c1, s1, g1⟩
    go_wp2_with fail
    go_ret
    exact ⟨rfl, c1, s1, g1⟩
  have HC := hide hsc
  have H2 := hide h2
  clear hsc h h1 h2 hok
  go_enter Tryz.func26, Tryz.ntmps26
  go_wp2_with fail
  refine (unhide HC).mono ?_
  rintro e w1 ⟨rfl, c1, s1, g1⟩
  go_wp2_with fail
  go_ret
  exact ⟨rfl, H2.out _ _ _ s1 g1⟩

set_option maxRecDepth 20000 in
set_option maxHeartbeats 1000000 in
theorem xFail_any (col : Colr) (w : World) (X P : Nat) (m : Pl.Sc) (h : IsX col w X m P) (id : Int) (hal : m.asked.length ≤ 1000) (hok : ∀ i, Pl.findId m.asked id = some i → FailOk m (Pl.partAt m i)) :
    Calls Tryz.prog 27 #[PtrTo X 0, .int .i64 id] w fun e w' => e = .returned (.int .i64 (Pl.fail m id).2) ∧ ∃ col', IsX col' w' X (Pl.fail m id).1 P ∧ Went col w w' col' := by
  have c0 := h.blk.cell 0
  simp only [List.getElem?_cons_zero] at c0
  obtain ⟨h1, h2⟩ := h.inner
  have hsc : Calls Tryz.prog 57 #[PtrTo P 0, .int .i64 id] w fun e w' => e = .returned (.int .i64 (Pl.fail m id).2) ∧ ∃ col', IsSc col' w' P (Pl.fail m id).1 ∧ Went (fun k => if k = X then .out else col k) w w' col' := by
    have HC := hide (lineFail_any _ w P m h1 id hal hok)
    clear h h1 h2 c0 hok
    go_enter Tryz.func57, Tryz.ntmps57
    go_wp2_with fail
    refine (unhide HC).mono ?_
    rintro e w1 ⟨rfl, c1, s1, g1⟩
    go_wp2_with fail
    go_ret
    exact ⟨rfl, c1, s1, g1⟩
  have HC := hide hsc
  have H2 := hide h2
  clear hsc h h1 h2 hok
  go_enter Tryz.func27, Tryz.ntmps27
  go_wp2_with fail
  refine (unhide HC).mono ?_
  rintro e w1 ⟨rfl, c1, s1, g1⟩
  go_wp2_with fail
  go_ret
  exact ⟨rfl, H2.out _ _ _ s1 g1⟩

set_option maxRecDepth 20000 in
set_option maxHeartbeats 1000000 in
theorem xTick_any (col : Colr) (w : World) (X P : Nat) (m : Pl.Sc) (h : IsX col w X m P) (hok : TickOk m) :
    Calls Tryz.prog 28 #[PtrTo X 0] w fun e w' => e = .returned (.tuple #[]) ∧ ∃ col', IsX col' w' X (Pl.tick m) P ∧ Went col w w' col' := by
  have c0 := h.blk.cell 0
  simp only [List.getElem?_cons_zero] at c0
  obtain ⟨h1, h2⟩ := h.inner
  have hsc : Calls Tryz.prog 58 #[PtrTo P 0] w fun e w' => e = .returned (.tuple #[]) ∧ ∃ col', IsSc col' w' P (Pl.tick m) ∧ Went (fun k => if k = X then .out else col k) w w' col' := by
    have HC := hide (lineTick_any _ w P m h1 hok)
    clear h h1 h2 c0 hok
    go_enter Tryz.func58, Tryz.ntmps58
    go_wp2_with fail
    refine (unhide HC).mono ?_
    rintro e w1 ⟨rfl, c1, s1, g1⟩
    go_wp2_with fail
    go_end0
    exact ⟨rfl, c1, s1, g1⟩
  have HC := hide hsc
  have H2 := hide h2
  clear hsc h h1 h2 hok
  go_enter Tryz.func28, Tryz.ntmps28
  go_wp2_with fail
  refine (unhide HC).mono ?_
  rintro e w1 ⟨rfl, c1, s1, g1⟩
  go_wp2_with fail
  go_end0
  exact ⟨rfl, H2.out _ _ _ s1 g1⟩

set_option maxRecDepth 20000 in
set_option maxHeartbeats 1000000 in
theorem xCancel_any (col : Colr) (w : World) (X P : Nat) (m : Pl.Sc) (h : IsX col w X m P) (_hst : m.state ≤ 10) :
    Calls Tryz.prog 25 #[PtrTo X 0] w fun e w' => e = .returned (.tuple #[]) ∧ ∃ col', IsX col' w' X (Pl.cancel m) P ∧ Went col w w' col' := by
  have c0 := h.blk.cell 0
  simp only [List.getElem?_cons_zero] at c0
  obtain ⟨h1, h2⟩ := h.inner
  have hsc : Calls Tryz.prog 55 #[PtrTo P 0] w fun e w' => e = .returned (.tuple #[]) ∧ ∃ col', IsSc col' w' P (Pl.cancel m) ∧ Went (fun k => if k = X then .out else col k) w w' col' := by
    obtain ⟨ps, qs, nv, av, wv, hv, gv, r⟩ := h1
    have s0 := r.blk.cell 0
    simp only [scCells, I, List.getElem?_cons_zero] at s0
    clear h h2 c0
    by_cases hs0 : m.state = 0
    · have HP : Hid (Pl.cancel m = Pl.ended 5) := hide (by unfold Pl.cancel; rw [if_pos hs0])
      rw [hs0] at s0
      go_enter Tryz.func55, Tryz.ntmps55
      go_wp2_with fail
      refine (end_any _ w P _ (scCells_len _ _ _ _ _ _ _) 5 (by decide) r.blk r.inn.pcol r.inn.top).mono ?_
      rintro e w1 ⟨rfl, r1, k1⟩
      go_wp2_with fail
      go_end0
      rw [HP.out]
      obtain ⟨a, b⟩ := r.ends r1 k1
      exact ⟨rfl, _, a, b⟩
    · have HP : Hid (Pl.cancel m = m) := hide (by unfold Pl.cancel; rw [if_neg hs0])
      have hs1 : ((m.state : Int) == 0) = false := by simpa using hs0
      go_enter Tryz.func55, Tryz.ntmps55
      go_wp2_with fail
      go_end0
      rw [HP.out]
      exact ⟨rfl, _, r.is, Went.refl _ _⟩
  have HC := hide hsc
  have H2 := hide h2
  clear hsc h h1 h2
  go_enter Tryz.func25, Tryz.ntmps25
  go_wp2_with fail
  refine (unhide HC).mono ?_
  rintro e w1 ⟨rfl, c1, s1, g1⟩
  go_wp2_with fail
  go_end0
  exact ⟨rfl, H2.out _ _ _ s1 g1⟩
end Go.Proofs.YthicgffppmbamaaGreat

namespace Go.Proofs.YthicgffppmbamaaGreat
open Go.RowKit

set_option maxRecDepth 20000 in
theorem left_any (w : World) (P : Nat) (n : Nat) (c : w.cell? ⟨P, 18, none⟩ = some (.int .i64 (n : Int))) : Calls Tryz.prog 90 #[PtrTo P 14] w fun e w' => e = .returned (.int .i64 (n : Int)) ∧ w' = w := by
  go_enter Tryz.func90, Tryz.ntmps90
  go_wp2_with fail
  go_ret
  exact ⟨rfl, rfl⟩

theorem neq_nil (t e : TypeId) (h : Tryz.prog.underlying t = some (.slice e)) (u : World) : (binOp .neq t (.slice none 0 0) (.slice none 0 0)).run Tryz.prog u = .ok (.bool false) u := by
  have h1 : ∀ d, (Op.equalIn (d + 1) t (.slice none 0 0) (.slice none 0 0)).run Tryz.prog u = .ok true u := fun d => by simp [Op.equalIn, run_underlying h]
  simp only [binOp]
  simp [Op.equal, Op.maxDepth, h1 9999]
theorem neq_some (t e : TypeId) (h : Tryz.prog.underlying t = some (.slice e)) (a : Addr) (n c : Nat) (u : World) : (binOp .neq t (.slice (some a) n c) (.slice none 0 0)).run Tryz.prog u = .ok (.bool true) u := by
  have h1 : ∀ d, (Op.equalIn (d + 1) t (.slice (some a) n c) (.slice none 0 0)).run Tryz.prog u = .ok false u := fun d => by simp [Op.equalIn, run_underlying h]
  simp only [binOp]
  simp [Op.equal, Op.maxDepth, h1 9999]

/-- the next rows may be taken -/
structure NextOk (m : Pl.Sc) : Prop where
  most : m.nrows ≤ 1000000
  rows : RwOk m.rows
  cols : m.rows.columns ≤ 1000
  ready : Pl.rwReady m.rows ≤ 1000000000
  takes : Pl.rwCount m.rows m.nrows ≤ Pl.rwReady m.rows → TakesOk m.rows (Pl.rwCount m.rows m.nrows)

theorem rwNext_len {r : Pl.Rw} {most : Nat} {ls : List (List Int)} (h : (Pl.rwNext r most).1 = some ls) : ls.length = r.columns := by
  unfold Pl.rwNext at h
  split at h
  · cases h
  · simp only [Option.some.injEq] at h
    rw [← h]
    simp

set_option maxRecDepth 20000 in
set_option maxHeartbeats 2000000 in
theorem scNext_any (col : Colr) (w : World) (P : Nat) (m : Pl.Sc) (h : IsSc col w P m) (hok : NextOk m) (hleft : (Pl.rwNext m.rows m.nrows).2.left ≤ 1000000000) :
    Calls Tryz.prog 59 #[PtrTo P 0] w fun e w' => ((Pl.next m).2 = none ∧ e = .returned (.slice none 0 0) ∨ ∃ ls Lb vs, (Pl.next m).2 = some ls ∧ e = .returned (.slice (some ⟨Lb, 0, none⟩) ls.length ls.length) ∧ NxAt (fun g => w.heap.size ≤ g) w' Lb vs ls) ∧ IsSc col w' P (Pl.next m).1 ∧ Went col w w' col := by
  obtain ⟨ps, qs, nv, av, wv, hv, gv, hr⟩ := h
  have s5 := hr.blk.cell 5
  simp only [scCells, I, List.getElem?_cons_zero, List.getElem?_cons_succ] at s5
  have hnr := hok.most
  have HNX := hide (fun u (hu : Ext w u) => rowsNext_any col u P m ps qs nv av wv hv gv (hr.ext hu) m.nrows hok.most hok.rows hok.cols hok.ready hok.takes)
  have HLF := hide hleft
  clear hleft hok
  have hnn := neq_nil 51 _ Tryz.underlying51
  have hns := neq_some 51 _ Tryz.underlying51
  go_enter Tryz.func59, Tryz.ntmps59
  go_wp2_with fail
  have hx1 : w.drew.cell? ⟨P, 5, none⟩ = some (.int .i64 (m.nrows : Int)) := s5
  refine wp_region_late (n := 8) (fun u => u.cell? ⟨P, 5, none⟩ = some (.int .i64 (m.nrows : Int))) (by kernel_rfl) ?_
  refine Late.take (i := 0) (oi := ⟨some 4, .move (.tmp 0), 109, "scan.go:94", #[], none⟩) (v := ?_) [1, 2, 8] rfl (by kernel_rfl) (by kernel_rfl) (by decide) (by decide) (by kernel_rfl) (by kernel_rfl) (by kernel_rfl) (fun _ _ _ h => h) rfl ?_ hx1 ?_
  rotate_left
  · (intro u hu; have u0 : u.cell? ⟨P, 5, none⟩ = some (.int .i64 (m.nrows : Int)) := hu; go_simp; first | done | with_reducible rfl)
  try simp only [Act.put, List.setIfInBounds_toArray, List.set_cons_zero, List.set_cons_succ]
  refine Late.take (i := 1) (oi := ⟨some 5, .nilCheck (.tmp 4), 0, "scan.go:94", #[⟨0, .data⟩], none⟩) (v := ?_) [2, 8] rfl (by kernel_rfl) (by kernel_rfl) (by decide) (by decide) (by kernel_rfl) (by kernel_rfl) (by kernel_rfl) (fun _ _ _ h => h) rfl ?_ hx1 ?_
  rotate_left
  · (intro u hu; have u0 : u.cell? ⟨P, 5, none⟩ = some (.int .i64 (m.nrows : Int)) := hu; go_simp; first | done | with_reducible rfl)
  try simp only [Act.put, List.setIfInBounds_toArray, List.set_cons_zero, List.set_cons_succ]
  refine Late.take (i := 2) (oi := ⟨some 6, .fieldAddr 142 (.tmp 5) 7, 0, "scan.go:94", #[⟨1, .data⟩], none⟩) (v := ?_) [8] rfl (by kernel_rfl) (by kernel_rfl) (by decide) (by decide) (by kernel_rfl) (by kernel_rfl) (by kernel_rfl) (fun _ _ _ h => h) rfl ?_ hx1 ?_
  rotate_left
  · (intro u hu; have u0 : u.cell? ⟨P, 5, none⟩ = some (.int .i64 (m.nrows : Int)) := hu; go_simp; first | done | with_reducible rfl)
  try simp only [Act.put, List.setIfInBounds_toArray, List.set_cons_zero, List.set_cons_succ]
  refine Late.take (i := 3) (oi := ⟨some 7, .move (.tmp 0), 109, "scan.go:94", #[], none⟩) (v := ?_) [4, 5, 6, 7, 8] rfl (by kernel_rfl) (by kernel_rfl) (by decide) (by decide) (by kernel_rfl) (by kernel_rfl) (by kernel_rfl) (fun _ _ _ h => h) rfl ?_ hx1 ?_
  rotate_left
  · (intro u hu; have u0 : u.cell? ⟨P, 5, none⟩ = some (.int .i64 (m.nrows : Int)) := hu; go_simp; first | done | with_reducible rfl)
  try simp only [Act.put, List.setIfInBounds_toArray, List.set_cons_zero, List.set_cons_succ]
  refine Late.take (i := 4) (oi := ⟨some 8, .nilCheck (.tmp 7), 0, "scan.go:94", #[⟨3, .data⟩], none⟩) (v := ?_) [5, 6, 7, 8] rfl (by kernel_rfl) (by kernel_rfl) (by decide) (by decide) (by kernel_rfl) (by kernel_rfl) (by kernel_rfl) (fun _ _ _ h => h) rfl ?_ hx1 ?_
  rotate_left
  · (intro u hu; have u0 : u.cell? ⟨P, 5, none⟩ = some (.int .i64 (m.nrows : Int)) := hu; go_simp; first | done | with_reducible rfl)
  try simp only [Act.put, List.setIfInBounds_toArray, List.set_cons_zero, List.set_cons_succ]
  refine Late.take (i := 5) (oi := ⟨some 9, .fieldAddr 142 (.tmp 8) 3, 0, "scan.go:94", #[⟨4, .data⟩], none⟩) (v := ?_) [6, 7, 8] rfl (by kernel_rfl) (by kernel_rfl) (by decide) (by decide) (by kernel_rfl) (by kernel_rfl) (by kernel_rfl) (fun _ _ _ h => h) rfl ?_ hx1 ?_
  rotate_left
  · (intro u hu; have u0 : u.cell? ⟨P, 5, none⟩ = some (.int .i64 (m.nrows : Int)) := hu; go_simp; first | done | with_reducible rfl)
  try simp only [Act.put, List.setIfInBounds_toArray, List.set_cons_zero, List.set_cons_succ]
  refine Late.take (i := 6) (oi := ⟨some 10, .fieldAddr 24 (.tmp 9) 2, 0, "scan.go:94", #[⟨5, .data⟩], none⟩) (v := ?_) [7, 8] rfl (by kernel_rfl) (by kernel_rfl) (by decide) (by decide) (by kernel_rfl) (by kernel_rfl) (by kernel_rfl) (fun _ _ _ h => h) rfl ?_ hx1 ?_
  rotate_left
  · (intro u hu; have u0 : u.cell? ⟨P, 5, none⟩ = some (.int .i64 (m.nrows : Int)) := hu; go_simp; first | done | with_reducible rfl)
  try simp only [Act.put, List.setIfInBounds_toArray, List.set_cons_zero, List.set_cons_succ]
  refine Late.take (i := 7) (oi := ⟨some 11, .load 3 (.tmp 10), 3, "scan.go:94", #[⟨6, .data⟩], none⟩) (v := ?_) [8] rfl (by kernel_rfl) (by kernel_rfl) (by decide) (by decide) (by kernel_rfl) (by kernel_rfl) (by kernel_rfl) (fun _ _ _ h => h) rfl ?_ hx1 ?_
  rotate_left
  · (intro u hu; have u0 : u.cell? ⟨P, 5, none⟩ = some (.int .i64 (m.nrows : Int)) := hu; go_simp; first | done | with_reducible rfl)
  try simp only [Act.put, List.setIfInBounds_toArray, List.set_cons_zero, List.set_cons_succ]
  refine Late.one (i := 8) (o := ⟨some 12, .call { callee := .value (.func 89), args := #[.tmp 6, .tmp 11], argTypes := #[140, 3] }, 51, "scan.go:94", #[⟨2, .data⟩, ⟨7, .data⟩], none⟩) (by kernel_rfl) rfl (fun K hK => ?_)
  refine step_call_g rfl 89 #[PtrTo P 14, .int .i64 (m.nrows : Int)] (by go_simp) ?_
  refine ((unhide HNX) w.drew ((Kp.refl _ _).drew)).mono ?_
  have xd : Ext w w.drew := (Kp.refl _ _).drew
  have hmine : ∀ i, (i = P ∨ col i = .groups) → Mine col i := fun i e => by
    rcases e with e | e
    · show col i ≠ .out; rw [e, hr.inn.pcol]; simp
    · show col i ≠ .out; rw [e]; simp
  rintro e w1 (⟨hn0, rfl, x1⟩ | ⟨ls, Lb, vs, gv1, hn1, rfl, hx, hr1, k1⟩)
  · have h1 := hr.ext (xd.trans x1)
    have t5 := h1.blk.cell 5
    simp only [scCells, I, List.getElem?_cons_zero, List.getElem?_cons_succ] at t5
    refine ⟨_, rfl, hK _ _ (fun _ => t5) ?_⟩
    clear hK K
    try simp only [Act.put, List.setIfInBounds_toArray, List.set_cons_zero, List.set_cons_succ]
    refine Late.one (i := 9) (o := ⟨some 3, .assign (.tmp 12), 51, "scan.go:94", #[⟨8, .data⟩, ⟨8, .chain⟩, ⟨0, .phase⟩, ⟨1, .phase⟩, ⟨2, .phase⟩, ⟨3, .phase⟩, ⟨4, .phase⟩, ⟨5, .phase⟩, ⟨6, .phase⟩, ⟨7, .phase⟩, ⟨8, .phase⟩], none⟩) (by kernel_rfl) rfl (fun K hK => ?_)
    go_simp
    refine hK _ _ (fun _ => t5) ?_
    clear hK K
    try simp only [Act.put, List.setIfInBounds_toArray, List.set_cons_zero, List.set_cons_succ]
    refine Late.done (by kernel_rfl) ?_ _
    have HN : Hid (Pl.next m = (m, none)) := hide (by unfold Pl.next; simp only; rw [hn0])
    clear hn0
    go_wp2_with fail
    go_ret
    rw [HN.out]
    exact ⟨.inl ⟨rfl, rfl⟩, h1.is, Went.ext (xd.trans x1)⟩
  · have t5 := hr1.blk.cell 5
    have t18 := hr1.blk.cell 18
    simp only [scCells, I, List.getElem?_cons_zero, List.getElem?_cons_succ] at t5 t18
    refine ⟨_, rfl, hK _ _ (fun _ => t5) ?_⟩
    clear hK K
    try simp only [Act.put, List.setIfInBounds_toArray, List.set_cons_zero, List.set_cons_succ]
    refine Late.one (i := 9) (o := ⟨some 3, .assign (.tmp 12), 51, "scan.go:94", #[⟨8, .data⟩, ⟨8, .chain⟩, ⟨0, .phase⟩, ⟨1, .phase⟩, ⟨2, .phase⟩, ⟨3, .phase⟩, ⟨4, .phase⟩, ⟨5, .phase⟩, ⟨6, .phase⟩, ⟨7, .phase⟩, ⟨8, .phase⟩], none⟩) (by kernel_rfl) rfl (fun K hK => ?_)
    go_simp
    refine hK _ _ (fun _ => t5) ?_
    clear hK K
    try simp only [Act.put, List.setIfInBounds_toArray, List.set_cons_zero, List.set_cons_succ]
    refine Late.done (by kernel_rfl) ?_ _
    have hln := rwNext_len hn1
    have HX := hide hx
    have HN1 := hide hn1
    have kw : Kp (fun k => k = P ∨ col k = .groups) w w1 := (Kp.of_ext xd).trans k1
    have hwz : w.drew.heap.size = w.heap.size := rfl
    rw [hwz] at HX
    have HL := hide hln
    have hlf := HLF.out
    clear hx hn1 hln hwz t5 s5 hx1
    obtain ⟨lf, hlfe⟩ : ∃ lf, lf = (Pl.rwNext m.rows m.nrows).2.left := ⟨_, rfl⟩
    have HLE := hide hlfe
    rw [← hlfe] at hlf t18
    clear hlfe HLF
    have HLA := hide (left_any w1 P lf t18)
    by_cases hz : lf = 0
    · have HN : Hid (Pl.next m = (Pl.ended 1, some ls)) := hide (by unfold Pl.next; simp only; rw [HN1.out]; simp only; rw [if_pos (by rw [← HLE.out]; exact hz)])
      clear HLE
      subst hz
      have HE := hide (end_any col w1 P _ (scCells_len _ _ _ _ _ _ _) 1 (by decide) hr1.blk hr1.inn.pcol hr1.inn.top)
      go_wp2_with (first | (go_at_call 90; refine (unhide HLA).mono ?_; rintro e w2 ⟨rfl, rfl⟩) | (go_at_call 82; refine (unhide HE).mono ?_; rintro e w3 ⟨rfl, r3, k3⟩) | fail)
      go_ret
      rw [HN.out]
      refine ⟨.inr ⟨ls, Lb, vs, rfl, by rw [HL.out]; rfl, HX.out.kept k3 (fun g hg _ e => ?_)⟩, r3.is, kw.mono (fun i _ e => hmine i e) |>.trans (k3.mono (fun i _ e => hmine i (.inl e))), fun _ _ => rfl⟩
      have := hr.blk.lt
      have hg : w.heap.size ≤ g := hg
      omega
    · have HN : Hid (Pl.next m = ({ m with rows := (Pl.rwNext m.rows m.nrows).2 }, some ls)) := hide (by unfold Pl.next; simp only; rw [HN1.out]; simp only; rw [if_neg (by rw [← HLE.out]; exact hz)])
      clear HLE
      have hzi : ¬ (lf : Int) = 0 := by omega
      go_wp2_with (first | (go_at_call 90; refine (unhide HLA).mono ?_; rintro e w2 ⟨rfl, rfl⟩) | fail)
      go_ret
      rw [HN.out]
      exact ⟨.inr ⟨ls, Lb, vs, rfl, by rw [HL.out]; rfl, HX.out⟩, hr1.is, kw.mono (fun i _ e => hmine i e), fun _ _ => rfl⟩

set_option maxRecDepth 20000 in
set_option maxHeartbeats 1000000 in
theorem xNext_any (col : Colr) (w : World) (X P : Nat) (m : Pl.Sc) (h : IsX col w X m P) (hok : NextOk m) (hleft : (Pl.rwNext m.rows m.nrows).2.left ≤ 1000000000) :
    Calls Tryz.prog 29 #[PtrTo X 0] w fun e w' => ((Pl.next m).2 = none ∧ e = .returned (.slice none 0 0) ∨ ∃ ls Lb vs, (Pl.next m).2 = some ls ∧ e = .returned (.slice (some ⟨Lb, 0, none⟩) ls.length ls.length) ∧ NxAt (fun g => w.heap.size ≤ g) w' Lb vs ls) ∧ ∃ col', IsX col' w' X (Pl.next m).1 P ∧ Went col w w' col' := by
  have c0 := h.blk.cell 0
  simp only [List.getElem?_cons_zero] at c0
  obtain ⟨h1, h2⟩ := h.inner
  have HC := hide (scNext_any _ w P m h1 hok hleft)
  have H2 := hide h2
  clear h h1 h2 hok hleft
  go_enter Tryz.func29, Tryz.ntmps29
  go_wp2_with fail
  refine (unhide HC).mono ?_
  rintro e w1 ⟨(⟨hn, rfl⟩ | ⟨ls, Lb, vs, hn, rfl, hx⟩), s1, g1⟩
  · have HN := hide hn
    clear hn
    go_wp2_with fail
    go_ret
    exact ⟨.inl ⟨HN.out, rfl⟩, H2.out _ _ _ s1 g1⟩
  · have HN := hide hn
    have HX := hide hx
    clear hn hx
    go_wp2_with fail
    go_ret
    exact ⟨.inr ⟨ls, Lb, vs, HN.out, rfl, HX.out⟩, H2.out _ _ _ s1 g1⟩
end Go.Proofs.YthicgffppmbamaaGreat
