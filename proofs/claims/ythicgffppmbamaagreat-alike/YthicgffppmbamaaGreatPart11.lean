/- KsAct, KsArgs, KsRdA, KsActs, KsFin, KsEnds, KsAlike0, KsAlike. -/
import Derived.Lib.SmallJoins
import Derived.Deep.Strs
import Derived.Test.YthicgffppmbamaaGreatPart1
import Derived.Test.YthicgffppmbamaaGreatPart10
namespace Go.Proofs.YthicgffppmbamaaGreat
open Go.RowKit

theorem cut_string (l : List UInt8) (p n : Nat) : (ByteArray.mk l.toArray).extract p (p + n) = ⟨(bytesAt l p n).toArray⟩ := by
  apply ByteArray.ext
  rw [ByteArray.data_extract]
  simp [bytesAt, List.extract_eq_take_drop]
theorem Ids.find {m : Pl.Sc} (h : Ids m) (i : Nat) (hi : i < m.asked.length) : Pl.findId m.asked (m.asked[i].1 : Int) = some i := by
  unfold Pl.findId
  rw [List.findIdx?_eq_some_iff_getElem]
  refine ⟨hi, by simp, fun j hj => ?_⟩
  have hp := List.pairwise_iff_getElem.1 h.1 j i (by simp; omega) (by simpa using hi) hj
  simp only [List.getElem_map] at hp
  simp only [decide_eq_false_iff_not, Bool.not_eq_true]
  omega
theorem Kx.fine {d : Yp} {m : Pl.Sc} {N k F : Nat} (hd : DOk d) (h : KxD d m N k F) (hN : N ≤ 1000000000) : FineOk m d.W d.file.length := by
  by_cases hs : m.state = 0
  · obtain ⟨hg, hr, -⟩ := h.going hs
    have hset := h.mo.1.set hs
    have hw := hg.window (by rw [hset.1]; exact hd.W1)
    rw [hset.1] at hw
    have hpt : ∀ q ∈ m.asked, PtOk m.size m.tries q.2 := fun q hq => hg.core.parts q.2 (List.mem_append.2 (.inl (List.mem_map.2 ⟨q, hq, rfl⟩)))
    refine ⟨hw, fun q hq => by have := (hpt q hq).data; omega, fun q hq => ?_, fun i hi => ?_, fun q hq => ?_⟩
    · have h1 := (hpt q hq).data
      have h2 := h.within.asked q hq
      rw [h.size hs] at h2
      show _ ≤ (Ft d.names d.gs).length
      omega
    · have := List.pairwise_iff_getElem.1 h.ids.1 i (i + 1) (by simp; omega) (by simpa using hi) (by omega)
      simpa using this
    · have h1 := (h.ids.2 q hq).2
      have h2 := hg.core.lastId
      omega
  · have : m.asked = [] := by
      rcases h.ended_of hs with ⟨e, -⟩ | ⟨e, -⟩ <;> rw [e] <;> rfl
    refine ⟨by rw [this]; simp, ?_, ?_, ?_, ?_⟩ <;> simp [this]
theorem Kx.monoF {names : List (List UInt8)} {gs : List (List (List Int))} {cols : List Nat} {w t r : Nat} {m : Pl.Sc} {N k F F' : Nat} (h : Kx names gs cols w t r m N k F) (hF : F ≤ F') : Kx names gs cols w t r m N k F' :=
  ⟨h.sound, h.ids, h.within, ⟨h.mo.1.set, fun e => Nat.le_trans (h.mo.1.st4 e) hF, h.mo.1.no5, fun x hx => Nat.le_trans (h.mo.1.fails x hx) hF, h.mo.1.live⟩, h.mo.2⟩
/-- how far an act fails something -/
def failN (kd : Int) : Nat := if pickP kd 7 = 4 then 1 else 0
/-- an act that answers, or takes, brings the end nearer -/
def Acted (gs : List (List (List Int))) (kd : Int) (m m' : Pl.Sc) (k k' : Nat) : Prop := pickP kd 7 = 0 → (m.asked = [] ∧ Took gs m m' k k') ∨ (m.asked ≠ [] ∧ k' = k ∧ (m'.state = 0 → Phi gs m' k' + 1 ≤ Phi gs m k))
def InI (x : Int) : Prop := -9223372036854775808 ≤ x ∧ x ≤ 9223372036854775807

set_option maxRecDepth 20000 in
set_option maxHeartbeats 8000000 in
theorem act_any (O : Nat → Prop) (d : Yp) (e : Ym) (col : Colr) (w : World) (Y X P : Nat) (m : Pl.Sc) (vs : List Value) (k N F : Nat) (kd A B : Int) (hd : DOk d) (hk : KxD d m N k F) (hy : YAt O d e col w Y X P m vs k) (hN : N ≤ 1000000) (hkd : InI kd) (hA : InI A) (hB : InI B) :
    Calls Tryz.prog 20 #[PtrTo Y 0, .agg #[.int .i64 kd, .int .i64 A, .int .i64 B]] w fun r w' => r = .returned (.bool true) ∧ ∃ col' vs' m' k', YAt (grow O w w') d e col' w' Y X P m' vs' k' ∧ Kp O w w' ∧ KxD d m' (N + 24) k' (F + failN kd) ∧ Acted d.gs kd m m' k k' := by
  have x0 : Ext w (w.alloc (.cells #[.int .i64 kd, .int .i64 A, .int .i64 B] 60)) := (Kp.refl _ _).alloc _
  have bA := Blk.of_alloc w [.int .i64 kd, .int .i64 A, .int .i64 B] 60
  have z0 : Hid ((w.alloc (.cells #[.int .i64 kd, .int .i64 A, .int .i64 B] 60)).heap.size = w.heap.size + 1) := by show _ = _; simp
  have hy0 := hy.ext x0
  have c8 := hy0.blk.cell 8
  simp only [yCells, List.getElem?_cons_zero, List.getElem?_cons_succ] at c8
  have hfine := hk.fine hd (by omega)
  have hal : m.asked.length ≤ 4 := by have := hfine.win; have := hd.W4; omega
  have HAS := hide (xAsked_any col _ X P m hy0.isX (by omega))
  go_enter Tryz.func20, Tryz.ntmps20
  go_wp2_with fail
  generalize w.alloc (.cells #[.int .i64 kd, .int .i64 A, .int .i64 B] 60) = W0 at *
  refine (unhide HAS).mono ?_
  rintro r w1 ⟨lv, rfl, ol, x1, hlg⟩
  clear HAS
  have hy1 := hy0.ext x1
  have y4 := hy1.blk.cell 4
  have y2 := hy1.blk.cell 2
  simp only [yCells, I, List.getElem?_cons_zero, List.getElem?_cons_succ] at y4 y2
  have hfl4 : d.file.length ≤ 4000 := ft_len hd.fl.ok
  have HF := hide (fine_any w1 Y d.W d.file.length ⟨d.file.toArray⟩ m lv hfine hd.W4 hfl4 (by show d.file.toArray.size = _; simp) y4 y2 ol)
  clear c8
  obtain ⟨la, lc, rfl, hlc⟩ := ol.shape
  go_wp2_with fail
  refine (unhide HF).mono ?_
  rintro r w2 ⟨rfl, x2⟩
  clear HF
  have x02 : Ext w w2 := (x0.trans x1).trans x2
  have hy2 := hy1.ext x2
  have bA2 := bA.kept (x1.trans x2) id
  have a0 := bA2.cell 0
  have a1 := bA2.cell 1
  have a2 := bA2.cell 2
  simp only [List.getElem?_cons_zero, List.getElem?_cons_succ] at a0 a1 a2
  have ol2 := ol.ext x2
  have HPK := hide (fun u => kpick_any u kd 7 hkd.1 hkd.2 (by omega) (by omega))
  have hk7 := pickP_lt kd 7 (by omega)
  have HFA : Hid (failN kd = (if pickP kd 7 = 4 then 1 else 0)) := rfl
  have HAC : Hid (∀ m' k', Acted d.gs kd m m' k k' ↔ (pickP kd 7 = 0 → (m.asked = [] ∧ Took d.gs m m' k k') ∨ (m.asked ≠ [] ∧ k' = k ∧ (m'.state = 0 → Phi d.gs m' k' + 1 ≤ Phi d.gs m k)))) := fun _ _ => Iff.rfl
  generalize pickP kd 7 = kn at *
  have e8 := hy2.blk.cell 8
  have e2 := hy2.blk.cell 2
  simp only [yCells, I, List.getElem?_cons_zero, List.getElem?_cons_succ] at e8 e2
  have z02 := x02.size
  clear bA hy0 hy1 y4 y2 x1 x2 ol
  go_wp2_with fail
  refine ((unhide HPK) _).mono ?_
  rintro r w2' ⟨rfl, rfl⟩
  clear HPK
  by_cases h5 : kn = 5
  · subst h5
    have HT := hide (gTick_any col w2' X P m N ⟨hy2.isX, hk.sound.good⟩ (by omega))
    go_wp2_with fail
    refine (unhide HT).mono ?_
    rintro r w3 ⟨rfl, col', hX, hW⟩
    clear HT
    go_wp2_with fail
    go_ret
    obtain ⟨hy3, k3⟩ := hy2.scan hX.1 hW
    obtain ⟨t1, t2, t3⟩ := hk.tick (by omega)
    exact ⟨rfl, col', vs, Pl.tick m, k, hy3.mono (fun b hb => hb.imp id (fun h => ⟨by omega, h.2⟩)), (Kp.of_ext x02).trans k3, (t1.mono (by omega)).monoF (Nat.le_add_right _ _), (HAC.out _ _).2 (fun h => by omega)⟩
  · have h5i : ¬ (kn : Int) = 5 := by omega
    by_cases h6 : kn = 6
    · subst h6
      have HTk := hide (takes_any O d e col w2' Y X P m vs k N F hd hk hy2)
      go_wp2_with fail
      refine (unhide HTk).mono ?_
      rintro r w3 ⟨rfl, col', vs', k', hy3, k3, hk3, htk⟩
      clear HTk
      go_wp2_with fail
      go_ret
      exact ⟨rfl, col', vs', (Pl.next m).1, k', hy3.mono (fun b hb => hb.imp id (fun h => ⟨by omega, h.2⟩)), (Kp.of_ext x02).trans k3, (hk3.mono (by omega)).monoF (Nat.le_add_right _ _), (HAC.out _ _).2 (fun h => by omega)⟩
    · have h6i : ¬ (kn : Int) = 6 := by omega
      by_cases hl0 : m.asked.length = 0
      · have hl0i : (m.asked.length : Int) = 0 := by omega
        have HTk := hide (takes_any O d e col w2' Y X P m vs k N F hd hk hy2)
        have HL0 := hide hl0
        clear hl0
        go_wp2_with fail
        refine (unhide HTk).mono ?_
        rintro r w3 ⟨rfl, col', vs', k', hy3, k3, hk3, htk⟩
        clear HTk
        go_wp2_with fail
        go_ret
        exact ⟨rfl, col', vs', (Pl.next m).1, k', hy3.mono (fun b hb => hb.imp id (fun h => ⟨by omega, h.2⟩)), (Kp.of_ext x02).trans k3, (hk3.mono (by omega)).monoF (Nat.le_add_right _ _), (HAC.out _ _).2 (fun _ => .inl ⟨List.eq_nil_of_length_eq_zero HL0.out, htk⟩)⟩
      · have hl0i : ¬ (m.asked.length : Int) = 0 := by omega
        have hi := pickP_lt A m.asked.length (by omega)
        have HPA := hide (fun u => kpick_any u A m.asked.length hA.1 hA.2 (by omega) (by omega))
        generalize pickP A m.asked.length = i at *
        have hii : (i : Int) < (m.asked.length : Int) := by omega
        have ii0 : (0 : Int) ≤ (i : Int) := by omega
        obtain ⟨ga, ca, he, _, hga, hc⟩ := ol2.at (by omega)
        cases he
        have hck : ∀ j, j < 3 → w2'.cell? ⟨ga, i * 3 + j, none⟩ = (askCells m.asked[i])[j]? := fun j hj => by
          rw [hc (i * 3 + j) (by omega), fm_at askCells 3 (fun _ => rfl) m.asked i j hi hj]
        have d0 := hck 0 (by omega)
        have d1 := hck 1 (by omega)
        have d2 := hck 2 (by omega)
        simp only [askCells, I, List.getElem?_cons_zero, List.getElem?_cons_succ, Nat.add_zero] at d0 d1 d2
        have hq := List.getElem_mem hi
        have q1 := hfine.len _ hq
        have q2 := hfine.ends _ hq
        have q3 := hfine.small _ hq
        have hfd := hk.ids.find i hi
        have hpart : Pl.partAt m i = m.asked[i].2 := by unfold Pl.partAt; rw [List.getD_eq_getElem?_getD, List.getElem?_eq_getElem hi]; rfl
        have HAN := hide (fun n h1 h2 => Kx.answer hd.fl hk (m.asked[i].1 : Int) i n hfd h1 h2)
        have HFL := hide (hk.fail (m.asked[i].1 : Int) i hfd)
        rw [hpart] at HAN
        clear hck hc hpart hfd
        generalize m.asked[i].2.place + m.asked[i].2.data.length = pl at *
        generalize m.asked[i].2.length - m.asked[i].2.data.length = ll at *
        generalize m.asked[i].1 = qi at *
        have xR : Ext w2' (w2'.alloc (.cells #[.int .i64 (qi : Int), .int .i64 (pl : Int), .int .i64 (ll : Int)] 72)) := (Kp.refl _ _).alloc _
        have bR := Blk.of_alloc w2' [.int .i64 (qi : Int), .int .i64 (pl : Int), .int .i64 (ll : Int)] 72
        have hne : m.asked ≠ [] := fun h => hl0 (by rw [h]; rfl)
        have HNE := hide hne
        have hbz : (((m.asked.length : Nat) : Int) == 0) = false := by simpa using hl0i
        clear hl0
        go_upto_region 12 with (first | (go_at_call 21; refine ((unhide HPA) _).mono ?_; rintro r w2x ⟨rfl, hwx⟩; rw [hwx]; clear hwx) | fail)
        have g8 := xR.cell e8 id
        have g2 := xR.cell e2 id
        have ga2 := xR.cell a2 id
        have r0 := bR.cell 0
        have r1 := bR.cell 1
        have r2 := bR.cell 2
        simp only [List.getElem?_cons_zero, List.getElem?_cons_succ] at r0 r1 r2
        have zR : Hid ((w2'.alloc (.cells #[.int .i64 (qi : Int), .int .i64 (pl : Int), .int .i64 (ll : Int)] 72)).heap.size = w2'.heap.size + 1) := by show _ = _; simp
        generalize w2'.alloc (.cells #[.int .i64 (qi : Int), .int .i64 (pl : Int), .int .i64 (ll : Int)] 72) = W3 at *
        have hy3 := hy2.ext xR
        have x03 := x02.trans xR
        have z03 := x03.size
        by_cases h4 : kn = 4
        · subst h4
          have HFC := hide (gFail_any col W3.drew X P m N ⟨(hy3.isX.kept (S := fun _ => False) ((Kp.refl _ _).drew) (fun _ f => f.elim)), hk.sound.good⟩ (qi : Int))
          go_wp2_with fail
          have hS0 : W3.drew.cell? ⟨Y, 8, none⟩ = some (PtrTo X 0) ∧ W3.drew.cell? ⟨w2'.heap.size, 0, none⟩ = some (.int .i64 (qi : Int)) := ⟨g8, r0⟩
          refine wp_region_late (n := 6) (fun u => u.cell? ⟨Y, 8, none⟩ = some (PtrTo X 0) ∧ u.cell? ⟨w2'.heap.size, 0, none⟩ = some (.int .i64 (qi : Int))) (by kernel_rfl) ?_
          refine Late.tk (i := 0) (oi := ⟨some 61, .move (.tmp 0), 48, "keep.go:226", #[], none⟩) (v := ?_) [1, 2, 3, 6] rfl hS0 ?_ ?_
          rotate_left
          · (intro u hu; obtain ⟨u0, u1⟩ := hu; go_simp; first | done | with_reducible rfl)
          try simp only [Act.put, lA, lZ, lS]
          refine Late.tk (i := 1) (oi := ⟨some 62, .nilCheck (.tmp 61), 0, "keep.go:226", #[⟨0, .data⟩], none⟩) (v := ?_) [2, 3, 6] rfl hS0 ?_ ?_
          rotate_left
          · (intro u hu; obtain ⟨u0, u1⟩ := hu; go_simp; first | done | with_reducible rfl)
          try simp only [Act.put, lA, lZ, lS]
          refine Late.tk (i := 2) (oi := ⟨some 63, .fieldAddr 53 (.tmp 62) 4, 0, "keep.go:226", #[⟨1, .data⟩], none⟩) (v := ?_) [3, 6] rfl hS0 ?_ ?_
          rotate_left
          · (intro u hu; obtain ⟨u0, u1⟩ := hu; go_simp; first | done | with_reducible rfl)
          try simp only [Act.put, lA, lZ, lS]
          refine Late.tk (i := 3) (oi := ⟨some 64, .load 50 (.tmp 63), 50, "keep.go:226", #[⟨2, .data⟩], none⟩) (v := ?_) [6] rfl hS0 ?_ ?_
          rotate_left
          · (intro u hu; obtain ⟨u0, u1⟩ := hu; go_simp; first | done | with_reducible rfl)
          try simp only [Act.put, lA, lZ, lS]
          refine Late.tk (i := 4) (oi := ⟨some 65, .fieldAddr 72 (.tmp 8) 0, 0, "keep.go:226", #[], none⟩) (v := ?_) [5, 6] rfl hS0 ?_ ?_
          rotate_left
          · (intro u hu; obtain ⟨u0, u1⟩ := hu; go_simp; first | done | with_reducible rfl)
          try simp only [Act.put, lA, lZ, lS]
          refine Late.tk (i := 5) (oi := ⟨some 66, .load 3 (.tmp 65), 3, "keep.go:226", #[⟨4, .data⟩], none⟩) (v := ?_) [6] rfl hS0 ?_ ?_
          rotate_left
          · (intro u hu; obtain ⟨u0, u1⟩ := hu; go_simp; first | done | with_reducible rfl)
          try simp only [Act.put, lA, lZ, lS]
          refine Late.one (i := 6) (o := ⟨some 67, .call { callee := .value (.func 27), args := #[.tmp 64, .tmp 66], argTypes := #[50, 3] }, 63, "keep.go:226", #[⟨3, .data⟩, ⟨5, .data⟩], none⟩) (by kernel_rfl) rfl (fun K hK => ?_)
          refine step_call_g rfl 27 #[PtrTo X 0, .int .i64 (qi : Int)] (by go_simp) ?_
          refine (unhide HFC).mono ?_
          rintro r w4 ⟨rfl, col', hX, hW⟩
          obtain ⟨f1, f2⟩ := HFL.out
          have xd : Ext W3 W3.drew := (Kp.refl _ _).drew
          obtain ⟨hy4, k4⟩ := (hy3.ext xd).scan hX.1 hW
          have p8 := hy4.blk.cell 8
          simp only [yCells, List.getElem?_cons_zero, List.getElem?_cons_succ] at p8
          have hcR : col w2'.heap.size = .out := hy2.isX.top _ (Nat.le_refl _)
          have p0 := hW.kept.cell (xd.cell r0 id) (fun h => h hcR)
          rw [f1]
          refine ⟨_, rfl, hK _ _ (fun _ => ⟨p8, p0⟩) ?_⟩
          clear hK K
          try simp only [Act.put, lA, lZ, lS]
          refine Late.one (i := 7) (o := ⟨some 10, .assign (.tmp 67), 63, "keep.go:226", #[⟨6, .data⟩, ⟨6, .chain⟩, ⟨0, .phase⟩, ⟨1, .phase⟩, ⟨2, .phase⟩, ⟨3, .phase⟩, ⟨4, .phase⟩, ⟨5, .phase⟩, ⟨6, .phase⟩], none⟩) (by kernel_rfl) rfl (fun K hK => ?_)
          go_simp
          refine hK _ _ (fun _ => ⟨p8, p0⟩) ?_
          clear hK K
          try simp only [Act.put, lA, lZ, lS]
          refine Late.done (by kernel_rfl) ?_ _
          have HY4 := hide hy4
          have HK4 := hide k4
          clear hy4 k4 hX hW
          go_wp2_with fail
          go_ret
          have z4 := HK4.out.size
          refine ⟨rfl, col', vs, (Pl.fail m (qi : Int)).1, k, HY4.out.mono (fun b hb => hb.imp id (fun h => ⟨by have h1 : W3.heap.size ≤ b := h.1; omega, h.2⟩)), (Kp.of_ext (x03.trans xd)).trans HK4.out, ?_, (HAC.out _ _).2 (fun h => by omega)⟩
          rw [HFA.out]
          exact f2.mono (by omega)
        · have h4i : ¬ (kn : Int) = 4 := by omega
          have pl0 : (0 : Int) ≤ (pl : Int) := by omega
          by_cases h3 : kn = 3
          · subst h3
            have hbl := pickP_lt B ll (by omega)
            have HPB := hide (fun u => kpick_any u B ll hB.1 hB.2 (by omega) (by omega))
            generalize pickP B ll = pb at *
            have pl1 : (pl : Int) ≤ (pl : Int) + (1 + (pb : Int)) := by omega
            have pl2 : (pl : Int) + (1 + (pb : Int)) ≤ (d.file.length : Int) := by omega
            have ew : IntKind.i64.wrap ((pl : Int) + (1 + (pb : Int))) = (pl : Int) + (1 + (pb : Int)) := by simp [IntKind.wrap, IntKind.bits, IntKind.signed]; omega
            have HCut : Hid ((ByteArray.mk d.file.toArray).extract pl ((pl : Int) + (1 + (pb : Int))).toNat = ⟨(bytesAt d.file pl (1 + pb)).toArray⟩) := by
              show _ = _
              rw [show ((pl : Int) + (1 + (pb : Int))).toNat = pl + (1 + pb) by omega]
              exact cut_string _ _ _
            have HAC2 := hide (gAnswer_any col W3.drew X P m N ⟨(hy3.isX.kept (S := fun _ => False) ((Kp.refl _ _).drew) (fun _ f => f.elim)), hk.sound.good⟩ (by omega) (qi : Int) (bytesAt d.file pl (1 + pb)) (by unfold bytesAt; rw [List.length_take]; omega))
            go_wp2_with (go_at_call 21; refine ((unhide HPB) _).mono ?_; rintro r w3x ⟨rfl, hwx⟩; rw [hwx]; clear hwx)
            have hS0 : W3.drew.cell? ⟨Y, 8, none⟩ = some (PtrTo X 0) ∧ W3.drew.cell? ⟨Y, 2, none⟩ = some (.string ⟨d.file.toArray⟩) ∧ W3.drew.cell? ⟨w2'.heap.size, 0, none⟩ = some (.int .i64 (qi : Int)) ∧ W3.drew.cell? ⟨w2'.heap.size, 1, none⟩ = some (.int .i64 (pl : Int)) := ⟨g8, g2, r0, r1⟩
            refine wp_region_late (n := 17) (fun u => u.cell? ⟨Y, 8, none⟩ = some (PtrTo X 0) ∧ u.cell? ⟨Y, 2, none⟩ = some (.string ⟨d.file.toArray⟩) ∧ u.cell? ⟨w2'.heap.size, 0, none⟩ = some (.int .i64 (qi : Int)) ∧ u.cell? ⟨w2'.heap.size, 1, none⟩ = some (.int .i64 (pl : Int))) (by kernel_rfl) ?_
            refine Late.tk (i := 0) (oi := ⟨some 70, .move (.tmp 0), 48, "keep.go:229", #[], none⟩) (v := ?_) [1, 2, 3, 17] rfl hS0 ?_ ?_
            rotate_left
            · (intro u hu; obtain ⟨u0, u1, u2, u3⟩ := hu; go_simp; first | done | with_reducible rfl)
            try simp only [Act.put, lA, lZ, lS]
            refine Late.tk (i := 1) (oi := ⟨some 71, .nilCheck (.tmp 70), 0, "keep.go:229", #[⟨0, .data⟩], none⟩) (v := ?_) [2, 3, 17] rfl hS0 ?_ ?_
            rotate_left
            · (intro u hu; obtain ⟨u0, u1, u2, u3⟩ := hu; go_simp; first | done | with_reducible rfl)
            try simp only [Act.put, lA, lZ, lS]
            refine Late.tk (i := 2) (oi := ⟨some 72, .fieldAddr 53 (.tmp 71) 4, 0, "keep.go:229", #[⟨1, .data⟩], none⟩) (v := ?_) [3, 17] rfl hS0 ?_ ?_
            rotate_left
            · (intro u hu; obtain ⟨u0, u1, u2, u3⟩ := hu; go_simp; first | done | with_reducible rfl)
            try simp only [Act.put, lA, lZ, lS]
            refine Late.tk (i := 3) (oi := ⟨some 73, .load 50 (.tmp 72), 50, "keep.go:229", #[⟨2, .data⟩], none⟩) (v := ?_) [17] rfl hS0 ?_ ?_
            rotate_left
            · (intro u hu; obtain ⟨u0, u1, u2, u3⟩ := hu; go_simp; first | done | with_reducible rfl)
            try simp only [Act.put, lA, lZ, lS]
            refine Late.tk (i := 4) (oi := ⟨some 74, .fieldAddr 72 (.tmp 8) 0, 0, "keep.go:229", #[], none⟩) (v := ?_) [5, 17] rfl hS0 ?_ ?_
            rotate_left
            · (intro u hu; obtain ⟨u0, u1, u2, u3⟩ := hu; go_simp; first | done | with_reducible rfl)
            try simp only [Act.put, lA, lZ, lS]
            refine Late.tk (i := 5) (oi := ⟨some 75, .load 3 (.tmp 74), 3, "keep.go:229", #[⟨4, .data⟩], none⟩) (v := ?_) [17] rfl hS0 ?_ ?_
            rotate_left
            · (intro u hu; obtain ⟨u0, u1, u2, u3⟩ := hu; go_simp; first | done | with_reducible rfl)
            try simp only [Act.put, lA, lZ, lS]
            refine Late.tk (i := 6) (oi := ⟨some 76, .move (.tmp 0), 48, "keep.go:229", #[], none⟩) (v := ?_) [7, 8, 9, 16, 17] rfl hS0 ?_ ?_
            rotate_left
            · (intro u hu; obtain ⟨u0, u1, u2, u3⟩ := hu; go_simp; first | done | with_reducible rfl)
            try simp only [Act.put, lA, lZ, lS]
            refine Late.tk (i := 7) (oi := ⟨some 77, .nilCheck (.tmp 76), 0, "keep.go:229", #[⟨6, .data⟩], none⟩) (v := ?_) [8, 9, 16, 17] rfl hS0 ?_ ?_
            rotate_left
            · (intro u hu; obtain ⟨u0, u1, u2, u3⟩ := hu; go_simp; first | done | with_reducible rfl)
            try simp only [Act.put, lA, lZ, lS]
            refine Late.tk (i := 8) (oi := ⟨some 78, .fieldAddr 53 (.tmp 77) 1, 0, "keep.go:229", #[⟨7, .data⟩], none⟩) (v := ?_) [9, 16, 17] rfl hS0 ?_ ?_
            rotate_left
            · (intro u hu; obtain ⟨u0, u1, u2, u3⟩ := hu; go_simp; first | done | with_reducible rfl)
            try simp only [Act.put, lA, lZ, lS]
            refine Late.tk (i := 9) (oi := ⟨some 79, .load 9 (.tmp 78), 9, "keep.go:229", #[⟨8, .data⟩], none⟩) (v := ?_) [16, 17] rfl hS0 ?_ ?_
            rotate_left
            · (intro u hu; obtain ⟨u0, u1, u2, u3⟩ := hu; go_simp; first | done | with_reducible rfl)
            try simp only [Act.put, lA, lZ, lS]
            refine Late.tk (i := 10) (oi := ⟨some 80, .fieldAddr 72 (.tmp 8) 1, 0, "keep.go:229", #[], none⟩) (v := ?_) [11, 16, 17] rfl hS0 ?_ ?_
            rotate_left
            · (intro u hu; obtain ⟨u0, u1, u2, u3⟩ := hu; go_simp; first | done | with_reducible rfl)
            try simp only [Act.put, lA, lZ, lS]
            refine Late.tk (i := 11) (oi := ⟨some 81, .load 3 (.tmp 80), 3, "keep.go:229", #[⟨10, .data⟩], none⟩) (v := ?_) [16, 17] rfl hS0 ?_ ?_
            rotate_left
            · (intro u hu; obtain ⟨u0, u1, u2, u3⟩ := hu; go_simp; first | done | with_reducible rfl)
            try simp only [Act.put, lA, lZ, lS]
            refine Late.tk (i := 12) (oi := ⟨some 82, .fieldAddr 72 (.tmp 8) 1, 0, "keep.go:229", #[], none⟩) (v := ?_) [13, 15, 16, 17] rfl hS0 ?_ ?_
            rotate_left
            · (intro u hu; obtain ⟨u0, u1, u2, u3⟩ := hu; go_simp; first | done | with_reducible rfl)
            try simp only [Act.put, lA, lZ, lS]
            refine Late.tk (i := 13) (oi := ⟨some 83, .load 3 (.tmp 82), 3, "keep.go:229", #[⟨12, .data⟩], none⟩) (v := ?_) [15, 16, 17] rfl hS0 ?_ ?_
            rotate_left
            · (intro u hu; obtain ⟨u0, u1, u2, u3⟩ := hu; go_simp; first | done | with_reducible rfl)
            try simp only [Act.put, lA, lZ, lS]
            refine Late.tk (i := 14) (oi := ⟨some 84, .move (.tmp 9), 3, "keep.go:229", #[], none⟩) (v := ?_) [15, 16, 17] rfl hS0 ?_ ?_
            rotate_left
            · (intro u hu; obtain ⟨u0, u1, u2, u3⟩ := hu; go_simp; first | done | with_reducible rfl)
            try simp only [Act.put, lA, lZ, lS]
            refine Late.tk (i := 15) (oi := ⟨some 85, .binOp .add 3 (.tmp 83) (.tmp 84) 3, 3, "keep.go:229", #[⟨13, .data⟩, ⟨14, .data⟩], none⟩) (v := ?_) [16, 17] rfl hS0 ?_ ?_
            rotate_left
            · (intro u hu; obtain ⟨u0, u1, u2, u3⟩ := hu; go_simp; first | done | with_reducible rfl)
            try simp only [Act.put, lA, lZ, lS]
            refine Late.tk (i := 16) (oi := ⟨some 86, .slice 9 (.tmp 79) (some (.tmp 81)) (some (.tmp 85)) none, 9, "keep.go:229", #[⟨9, .data⟩, ⟨11, .data⟩, ⟨15, .data⟩], none⟩) (v := ?_) [17] rfl hS0 ?_ ?_
            rotate_left
            · (intro u hu; skip; go_simp; first | done | with_reducible rfl)
            try simp only [Act.put, lA, lZ, lS]
            refine Late.one (i := 17) (o := ⟨some 87, .call { callee := .value (.func 26), args := #[.tmp 73, .tmp 75, .tmp 86], argTypes := #[50, 3, 9] }, 63, "keep.go:229", #[⟨3, .data⟩, ⟨5, .data⟩, ⟨16, .data⟩], none⟩) (by kernel_rfl) rfl (fun K hK => ?_)
            refine step_call_g rfl 26 #[PtrTo X 0, .int .i64 (qi : Int), tx (bytesAt d.file pl (1 + pb))] (by go_simp; exact HCut.out) ?_
            refine (unhide HAC2).mono ?_
            rintro r w4 ⟨rfl, col', hX, hW⟩
            obtain ⟨f1, f2, f3⟩ := HAN.out (1 + pb) (by omega) (by omega)
            have xd : Ext W3 W3.drew := (Kp.refl _ _).drew
            obtain ⟨hy4, k4⟩ := (hy3.ext xd).scan hX.1 hW
            have p8 := hy4.blk.cell 8
            have p2 := hy4.blk.cell 2
            simp only [yCells, List.getElem?_cons_zero, List.getElem?_cons_succ] at p8 p2
            have hcR : col w2'.heap.size = .out := hy2.isX.top _ (Nat.le_refl _)
            have p0 := hW.kept.cell (xd.cell r0 id) (fun h => h hcR)
            have p1 := hW.kept.cell (xd.cell r1 id) (fun h => h hcR)
            change (Pl.answer m (qi : Int) (bytesAt d.file pl (1 + pb))).2 = 0 at f1
            rw [f1]
            refine ⟨_, rfl, hK _ _ (fun _ => ⟨p8, p2, p0, p1⟩) ?_⟩
            clear hK K
            try simp only [Act.put, lA, lZ, lS]
            refine Late.one (i := 18) (o := ⟨some 11, .assign (.tmp 87), 63, "keep.go:229", #[⟨17, .data⟩, ⟨17, .chain⟩, ⟨0, .phase⟩, ⟨1, .phase⟩, ⟨2, .phase⟩, ⟨3, .phase⟩, ⟨4, .phase⟩, ⟨5, .phase⟩, ⟨6, .phase⟩, ⟨7, .phase⟩, ⟨8, .phase⟩, ⟨9, .phase⟩, ⟨10, .phase⟩, ⟨11, .phase⟩, ⟨12, .phase⟩, ⟨13, .phase⟩, ⟨14, .phase⟩, ⟨15, .phase⟩, ⟨16, .phase⟩, ⟨17, .phase⟩], none⟩) (by kernel_rfl) rfl (fun K hK => ?_)
            go_simp
            refine hK _ _ (fun _ => ⟨p8, p2, p0, p1⟩) ?_
            clear hK K
            try simp only [Act.put, lA, lZ, lS]
            refine Late.done (by kernel_rfl) ?_ _
            have HY4 := hide hy4
            have HK4 := hide k4
            clear hy4 k4 hX hW
            go_wp2_with fail
            go_ret
            have z4 := HK4.out.size
            refine ⟨rfl, col', vs, (Pl.answer m (qi : Int) (bytesAt d.file pl (1 + pb))).1, k, HY4.out.mono (fun b hb => hb.imp id (fun h => ⟨by have h1 : W3.heap.size ≤ b := h.1; omega, h.2⟩)), (Kp.of_ext (x03.trans xd)).trans HK4.out, f2.monoF (Nat.le_add_right _ _), (HAC.out _ _).2 (fun h => by omega)⟩
          · have h3i : ¬ (kn : Int) = 3 := by omega
            have pl1 : (pl : Int) ≤ (pl : Int) + (ll : Int) := by omega
            have pl2 : (pl : Int) + (ll : Int) ≤ (d.file.length : Int) := by omega
            have ew : IntKind.i64.wrap ((pl : Int) + (ll : Int)) = (pl : Int) + (ll : Int) := by simp [IntKind.wrap, IntKind.bits, IntKind.signed]; omega
            have HCut : Hid ((ByteArray.mk d.file.toArray).extract pl ((pl : Int) + (ll : Int)).toNat = ⟨(bytesAt d.file pl ll).toArray⟩) := by
              show _ = _
              rw [show ((pl : Int) + (ll : Int)).toNat = pl + ll by omega]
              exact cut_string _ _ _
            have HAC2 := hide (gAnswer_any col W3.drew X P m N ⟨(hy3.isX.kept (S := fun _ => False) ((Kp.refl _ _).drew) (fun _ f => f.elim)), hk.sound.good⟩ (by omega) (qi : Int) (bytesAt d.file pl ll) (by unfold bytesAt; rw [List.length_take]; omega))
            go_wp2_with fail
            have hS0 : W3.drew.cell? ⟨Y, 8, none⟩ = some (PtrTo X 0) ∧ W3.drew.cell? ⟨Y, 2, none⟩ = some (.string ⟨d.file.toArray⟩) ∧ W3.drew.cell? ⟨w2'.heap.size, 0, none⟩ = some (.int .i64 (qi : Int)) ∧ W3.drew.cell? ⟨w2'.heap.size, 1, none⟩ = some (.int .i64 (pl : Int)) := ⟨g8, g2, r0, r1⟩
            refine wp_region_late (n := 17) (fun u => u.cell? ⟨Y, 8, none⟩ = some (PtrTo X 0) ∧ u.cell? ⟨Y, 2, none⟩ = some (.string ⟨d.file.toArray⟩) ∧ u.cell? ⟨w2'.heap.size, 0, none⟩ = some (.int .i64 (qi : Int)) ∧ u.cell? ⟨w2'.heap.size, 1, none⟩ = some (.int .i64 (pl : Int))) (by kernel_rfl) ?_
            refine Late.tk (i := 0) (oi := ⟨some 70, .move (.tmp 0), 48, "keep.go:229", #[], none⟩) (v := ?_) [1, 2, 3, 17] rfl hS0 ?_ ?_
            rotate_left
            · (intro u hu; obtain ⟨u0, u1, u2, u3⟩ := hu; go_simp; first | done | with_reducible rfl)
            try simp only [Act.put, lA, lZ, lS]
            refine Late.tk (i := 1) (oi := ⟨some 71, .nilCheck (.tmp 70), 0, "keep.go:229", #[⟨0, .data⟩], none⟩) (v := ?_) [2, 3, 17] rfl hS0 ?_ ?_
            rotate_left
            · (intro u hu; obtain ⟨u0, u1, u2, u3⟩ := hu; go_simp; first | done | with_reducible rfl)
            try simp only [Act.put, lA, lZ, lS]
            refine Late.tk (i := 2) (oi := ⟨some 72, .fieldAddr 53 (.tmp 71) 4, 0, "keep.go:229", #[⟨1, .data⟩], none⟩) (v := ?_) [3, 17] rfl hS0 ?_ ?_
            rotate_left
            · (intro u hu; obtain ⟨u0, u1, u2, u3⟩ := hu; go_simp; first | done | with_reducible rfl)
            try simp only [Act.put, lA, lZ, lS]
            refine Late.tk (i := 3) (oi := ⟨some 73, .load 50 (.tmp 72), 50, "keep.go:229", #[⟨2, .data⟩], none⟩) (v := ?_) [17] rfl hS0 ?_ ?_
            rotate_left
            · (intro u hu; obtain ⟨u0, u1, u2, u3⟩ := hu; go_simp; first | done | with_reducible rfl)
            try simp only [Act.put, lA, lZ, lS]
            refine Late.tk (i := 4) (oi := ⟨some 74, .fieldAddr 72 (.tmp 8) 0, 0, "keep.go:229", #[], none⟩) (v := ?_) [5, 17] rfl hS0 ?_ ?_
            rotate_left
            · (intro u hu; obtain ⟨u0, u1, u2, u3⟩ := hu; go_simp; first | done | with_reducible rfl)
            try simp only [Act.put, lA, lZ, lS]
            refine Late.tk (i := 5) (oi := ⟨some 75, .load 3 (.tmp 74), 3, "keep.go:229", #[⟨4, .data⟩], none⟩) (v := ?_) [17] rfl hS0 ?_ ?_
            rotate_left
            · (intro u hu; obtain ⟨u0, u1, u2, u3⟩ := hu; go_simp; first | done | with_reducible rfl)
            try simp only [Act.put, lA, lZ, lS]
            refine Late.tk (i := 6) (oi := ⟨some 76, .move (.tmp 0), 48, "keep.go:229", #[], none⟩) (v := ?_) [7, 8, 9, 16, 17] rfl hS0 ?_ ?_
            rotate_left
            · (intro u hu; obtain ⟨u0, u1, u2, u3⟩ := hu; go_simp; first | done | with_reducible rfl)
            try simp only [Act.put, lA, lZ, lS]
            refine Late.tk (i := 7) (oi := ⟨some 77, .nilCheck (.tmp 76), 0, "keep.go:229", #[⟨6, .data⟩], none⟩) (v := ?_) [8, 9, 16, 17] rfl hS0 ?_ ?_
            rotate_left
            · (intro u hu; obtain ⟨u0, u1, u2, u3⟩ := hu; go_simp; first | done | with_reducible rfl)
            try simp only [Act.put, lA, lZ, lS]
            refine Late.tk (i := 8) (oi := ⟨some 78, .fieldAddr 53 (.tmp 77) 1, 0, "keep.go:229", #[⟨7, .data⟩], none⟩) (v := ?_) [9, 16, 17] rfl hS0 ?_ ?_
            rotate_left
            · (intro u hu; obtain ⟨u0, u1, u2, u3⟩ := hu; go_simp; first | done | with_reducible rfl)
            try simp only [Act.put, lA, lZ, lS]
            refine Late.tk (i := 9) (oi := ⟨some 79, .load 9 (.tmp 78), 9, "keep.go:229", #[⟨8, .data⟩], none⟩) (v := ?_) [16, 17] rfl hS0 ?_ ?_
            rotate_left
            · (intro u hu; obtain ⟨u0, u1, u2, u3⟩ := hu; go_simp; first | done | with_reducible rfl)
            try simp only [Act.put, lA, lZ, lS]
            refine Late.tk (i := 10) (oi := ⟨some 80, .fieldAddr 72 (.tmp 8) 1, 0, "keep.go:229", #[], none⟩) (v := ?_) [11, 16, 17] rfl hS0 ?_ ?_
            rotate_left
            · (intro u hu; obtain ⟨u0, u1, u2, u3⟩ := hu; go_simp; first | done | with_reducible rfl)
            try simp only [Act.put, lA, lZ, lS]
            refine Late.tk (i := 11) (oi := ⟨some 81, .load 3 (.tmp 80), 3, "keep.go:229", #[⟨10, .data⟩], none⟩) (v := ?_) [16, 17] rfl hS0 ?_ ?_
            rotate_left
            · (intro u hu; obtain ⟨u0, u1, u2, u3⟩ := hu; go_simp; first | done | with_reducible rfl)
            try simp only [Act.put, lA, lZ, lS]
            refine Late.tk (i := 12) (oi := ⟨some 82, .fieldAddr 72 (.tmp 8) 1, 0, "keep.go:229", #[], none⟩) (v := ?_) [13, 15, 16, 17] rfl hS0 ?_ ?_
            rotate_left
            · (intro u hu; obtain ⟨u0, u1, u2, u3⟩ := hu; go_simp; first | done | with_reducible rfl)
            try simp only [Act.put, lA, lZ, lS]
            refine Late.tk (i := 13) (oi := ⟨some 83, .load 3 (.tmp 82), 3, "keep.go:229", #[⟨12, .data⟩], none⟩) (v := ?_) [15, 16, 17] rfl hS0 ?_ ?_
            rotate_left
            · (intro u hu; obtain ⟨u0, u1, u2, u3⟩ := hu; go_simp; first | done | with_reducible rfl)
            try simp only [Act.put, lA, lZ, lS]
            refine Late.tk (i := 14) (oi := ⟨some 84, .move (.tmp 9), 3, "keep.go:229", #[], none⟩) (v := ?_) [15, 16, 17] rfl hS0 ?_ ?_
            rotate_left
            · (intro u hu; obtain ⟨u0, u1, u2, u3⟩ := hu; go_simp; first | done | with_reducible rfl)
            try simp only [Act.put, lA, lZ, lS]
            refine Late.tk (i := 15) (oi := ⟨some 85, .binOp .add 3 (.tmp 83) (.tmp 84) 3, 3, "keep.go:229", #[⟨13, .data⟩, ⟨14, .data⟩], none⟩) (v := ?_) [16, 17] rfl hS0 ?_ ?_
            rotate_left
            · (intro u hu; obtain ⟨u0, u1, u2, u3⟩ := hu; go_simp; first | done | with_reducible rfl)
            try simp only [Act.put, lA, lZ, lS]
            refine Late.tk (i := 16) (oi := ⟨some 86, .slice 9 (.tmp 79) (some (.tmp 81)) (some (.tmp 85)) none, 9, "keep.go:229", #[⟨9, .data⟩, ⟨11, .data⟩, ⟨15, .data⟩], none⟩) (v := ?_) [17] rfl hS0 ?_ ?_
            rotate_left
            · (intro u hu; skip; go_simp; first | done | with_reducible rfl)
            try simp only [Act.put, lA, lZ, lS]
            refine Late.one (i := 17) (o := ⟨some 87, .call { callee := .value (.func 26), args := #[.tmp 73, .tmp 75, .tmp 86], argTypes := #[50, 3, 9] }, 63, "keep.go:229", #[⟨3, .data⟩, ⟨5, .data⟩, ⟨16, .data⟩], none⟩) (by kernel_rfl) rfl (fun K hK => ?_)
            refine step_call_g rfl 26 #[PtrTo X 0, .int .i64 (qi : Int), tx (bytesAt d.file pl ll)] (by go_simp; exact HCut.out) ?_
            refine (unhide HAC2).mono ?_
            rintro r w4 ⟨rfl, col', hX, hW⟩
            obtain ⟨f1, f2, f3⟩ := HAN.out ll (by omega) (by omega)
            have xd : Ext W3 W3.drew := (Kp.refl _ _).drew
            obtain ⟨hy4, k4⟩ := (hy3.ext xd).scan hX.1 hW
            have p8 := hy4.blk.cell 8
            have p2 := hy4.blk.cell 2
            simp only [yCells, List.getElem?_cons_zero, List.getElem?_cons_succ] at p8 p2
            have hcR : col w2'.heap.size = .out := hy2.isX.top _ (Nat.le_refl _)
            have p0 := hW.kept.cell (xd.cell r0 id) (fun h => h hcR)
            have p1 := hW.kept.cell (xd.cell r1 id) (fun h => h hcR)
            change (Pl.answer m (qi : Int) (bytesAt d.file pl ll)).2 = 0 at f1
            rw [f1]
            refine ⟨_, rfl, hK _ _ (fun _ => ⟨p8, p2, p0, p1⟩) ?_⟩
            clear hK K
            try simp only [Act.put, lA, lZ, lS]
            refine Late.one (i := 18) (o := ⟨some 11, .assign (.tmp 87), 63, "keep.go:229", #[⟨17, .data⟩, ⟨17, .chain⟩, ⟨0, .phase⟩, ⟨1, .phase⟩, ⟨2, .phase⟩, ⟨3, .phase⟩, ⟨4, .phase⟩, ⟨5, .phase⟩, ⟨6, .phase⟩, ⟨7, .phase⟩, ⟨8, .phase⟩, ⟨9, .phase⟩, ⟨10, .phase⟩, ⟨11, .phase⟩, ⟨12, .phase⟩, ⟨13, .phase⟩, ⟨14, .phase⟩, ⟨15, .phase⟩, ⟨16, .phase⟩, ⟨17, .phase⟩], none⟩) (by kernel_rfl) rfl (fun K hK => ?_)
            go_simp
            refine hK _ _ (fun _ => ⟨p8, p2, p0, p1⟩) ?_
            clear hK K
            try simp only [Act.put, lA, lZ, lS]
            refine Late.done (by kernel_rfl) ?_ _
            have HY4 := hide hy4
            have HK4 := hide k4
            clear hy4 k4 hX hW
            go_wp2_with fail
            go_ret
            have z4 := HK4.out.size
            refine ⟨rfl, col', vs, (Pl.answer m (qi : Int) (bytesAt d.file pl ll)).1, k, HY4.out.mono (fun b hb => hb.imp id (fun h => ⟨by have h1 : W3.heap.size ≤ b := h.1; omega, h.2⟩)), (Kp.of_ext (x03.trans xd)).trans HK4.out, f2.monoF (Nat.le_add_right _ _), (HAC.out _ _).2 (fun h => .inr ⟨HNE.out, rfl, f3 ?_⟩)⟩
            first | trivial | rfl
end Go.Proofs.YthicgffppmbamaaGreat

namespace Go.Proofs.YthicgffppmbamaaGreat
open Go.RowKit Go.ChangeShapes Go.WideShapes Go.Deep
section
variable {H : Type} {enc : TypeId × Value → H} {W : World}
theorem inI_of {k : Int} (h : (Lit.int .i64 k).wf = true) : InI k := by
  simp only [Lit.wf, Bool.and_eq_true, decide_eq_true_eq] at h
  have e1 : IntKind.i64.min = -9223372036854775808 := by decide
  have e2 : IntKind.i64.max = 9223372036854775807 := by decide
  rw [e1, e2] at h
  exact h
theorem rdI_rng {fuel : Nat} {v : Value} {d : DataW H} {pl : List MemPlace} (h : DataW.trod enc Tryz.prog W 0 (fun _ => true) true fuel 46 [v] = some (d, pl)) (hf : FitsIn 46 d) : ∃ xs : List Int, RdI W.heap.size W v xs ∧ xs.length ≤ 17592186043904 ∧ ∀ x ∈ xs, InI x := by
  obtain ⟨vs, hr, hl, n, he⟩ := rd_open Tryz.underlying46 cells3 bytes3 (by omega) h hf
  have e : vs = (vs.map intOf).map I := by
    rw [List.map_map]
    conv => lhs; rw [← List.map_id vs]
    refine List.map_congr_left (fun u hu => ?_)
    obtain ⟨x, hx, _⟩ := he u hu
    obtain ⟨k, hk, _⟩ := DataW.trod_int Tryz.underlying3 hx
    simp only [List.cons.injEq, and_true] at hk
    subst hk
    rfl
  refine ⟨vs.map intOf, by unfold RdI; rw [← e]; exact hr, ?_, fun x hx => ?_⟩
  · rw [List.length_map]
    rw [reach_eq] at hl
    omega
  · obtain ⟨u, hu, rfl⟩ := List.mem_map.1 hx
    obtain ⟨y, hy, _⟩ := he u hu
    obtain ⟨k, hk, -, hwf⟩ := DataW.trod_int Tryz.underlying3 hy
    simp only [List.cons.injEq, and_true] at hk
    subst hk
    exact inI_of hwf
end
end Go.Proofs.YthicgffppmbamaaGreat

namespace Go.Proofs.YthicgffppmbamaaGreat
open Go.RowKit

/-- a list of acts that is read -/
def RdA (B : Nat) (w : World) (v : Value) (l : List (Int × Int × Int)) : Prop :=
  ∃ ao cap, v = .slice ao l.length cap ∧ l.length ≤ cap ∧ l.length ≤ 17592186044416 ∧ (0 < l.length → ∃ b off, ao = some ⟨b, off, none⟩ ∧ b < B ∧ ∀ j (h : j < l.length), w.cell? ⟨b, off + j * 3, none⟩ = some (.int .i64 l[j].1) ∧ w.cell? ⟨b, off + j * 3 + 1, none⟩ = some (.int .i64 l[j].2.1) ∧ w.cell? ⟨b, off + j * 3 + 2, none⟩ = some (.int .i64 l[j].2.2)) ∧
    ∀ a ∈ l, InI a.1 ∧ InI a.2.1 ∧ InI a.2.2

end Go.Proofs.YthicgffppmbamaaGreat

namespace Go.Proofs.YthicgffppmbamaaGreat
open Go.RowKit Go.ChangeShapes Go.WideShapes Go.Deep
section
variable {H : Type} {enc : TypeId × Value → H} {W : World}
theorem bytesAct : Tryz.prog.bytesOf 60 = 24 := by kernel_rfl
theorem cellsAct : Tryz.prog.cellsOf 60 = 3 := by kernel_rfl
/-- from 'for each there is one' to a list of them -/
theorem pick_list {α β : Type} (Q : α → β → Prop) (vs : List α) (h : ∀ u ∈ vs, ∃ y, Q u y) : ∃ ys : List β, vs.length = ys.length ∧ ∀ (i : Nat) (u : α) (y : β), vs[i]? = some u → ys[i]? = some y → Q u y := by
  induction vs with
  | nil => exact ⟨[], rfl, fun i u y hu => by simp at hu⟩
  | cons v r ih =>
    obtain ⟨y0, h0⟩ := h v (by simp)
    obtain ⟨ys, hl, hq⟩ := ih (fun u hu => h u (by simp [hu]))
    refine ⟨y0 :: ys, by simp [hl], fun i u y hu hy => ?_⟩
    cases i with
    | zero => simp at hu hy; subst hu; subst hy; exact h0
    | succ i => simp at hu hy; exact hq i u y hu hy
set_option maxRecDepth 100000 in
theorem rdA_open {fuel : Nat} {v : Value} {d : DataW H} {pl : List MemPlace} (h : DataW.trod enc Tryz.prog W 0 (fun _ => true) true fuel 57 [v] = some (d, pl)) (hf : FitsIn 57 d) : ∃ s : List (Int × Int × Int), RdA W.heap.size W v s := by
  rcases open_slice Tryz.underlying57 h with ⟨hcs, _⟩ | ⟨a, len, cap, m, n, D, Pl, hcs, _, hl, _, hm, hx, he⟩
  · simp only [List.cons.injEq, and_true] at hcs
    subst hcs
    exact ⟨[], none, 0, rfl, Nat.le_refl _, Nat.zero_le _, fun h => absurd h (by simp), fun a ha => by cases ha⟩
  · simp only [List.cons.injEq, and_true] at hcs
    subst hcs
    simp only [if_true] at hm
    rw [hm] at hx he
    clear hm
    simp only [Prod.mk.injEq] at hx
    obtain ⟨rfl, _⟩ := hx
    have hsz := hf.slice Tryz.underlying57
    simp only [List.length_map, List.length_range, bytesAct, reach_eq] at hsz
    have hone : ∀ i ∈ List.range len, ∃ y : Int × Int × Int, (W.cell? (a.add (i * 3)) = some (.int .i64 y.1) ∧ W.cell? ((a.add (i * 3)).add 1) = some (.int .i64 y.2.1) ∧ W.cell? ((a.add (i * 3)).add 2) = some (.int .i64 y.2.2)) ∧ InI y.1 ∧ InI y.2.1 ∧ InI y.2.2 := fun i hi => by
      rw [List.mem_range] at hi
      obtain ⟨cs, hc, ht⟩ := he i (by omega)
      rw [cellsAct] at hc
      obtain ⟨_, hcl, hcc⟩ := World.cells?_some hc
      obtain ⟨y0, y1, y2, k, hy, _, h0, h1, h2⟩ := trod_struct3 Tryz.underlying60 ht
      match cs, hcl with
      | [c0, c1, c2], _ =>
        have hc3 : Tryz.prog.cellsOf 3 = 1 := by kernel_rfl
        simp only [hc3, List.drop_zero, List.take_succ_cons, List.take_zero, List.drop_succ_cons] at h0 h1 h2
        obtain ⟨p, e0, -, w0⟩ := DataW.trod_int Tryz.underlying3 h0
        obtain ⟨q, e1, -, w1⟩ := DataW.trod_int Tryz.underlying3 h1
        obtain ⟨r, e2, -, w2⟩ := DataW.trod_int Tryz.underlying3 h2
        simp only [List.cons.injEq, and_true] at e0 e1 e2
        subst e0
        subst e1
        subst e2
        refine ⟨(p, q, r), ⟨?_, ?_, ?_⟩, inI_of w0, inI_of w1, inI_of w2⟩
        · have := hcc 0 (by omega)
          simpa [Addr.add] using this
        · simpa using hcc 1 (by omega)
        · simpa using hcc 2 (by omega)
    obtain ⟨ts, htl, hq⟩ := pick_list _ (List.range len) hone
    rw [List.length_range] at htl
    have hget : ∀ j (hj : j < ts.length), (W.cell? (a.add (j * 3)) = some (.int .i64 ts[j].1) ∧ W.cell? ((a.add (j * 3)).add 1) = some (.int .i64 ts[j].2.1) ∧ W.cell? ((a.add (j * 3)).add 2) = some (.int .i64 ts[j].2.2)) ∧ InI ts[j].1 ∧ InI ts[j].2.1 ∧ InI ts[j].2.2 := fun j hj =>
      hq j j ts[j] (by rw [List.getElem?_range (by omega)]) (List.getElem?_eq_getElem hj)
    refine ⟨ts, some a, cap, by rw [← htl], by omega, by omega, fun hp => ?_, fun x hx => ?_⟩
    · obtain ⟨⟨c0, -⟩, -⟩ := hget 0 hp
      obtain ⟨b, off, spot⟩ := a
      have hspot : spot = none := by
        have := World.cell?_spot c0
        simpa [Addr.add] using this
      subst hspot
      refine ⟨b, off, rfl, ?_, fun j hj => ?_⟩
      · have := World.block_lt_of_cell? _ _ c0
        simpa [Addr.add] using this
      · obtain ⟨⟨c1, c2, c3⟩, -⟩ := hget j hj
        rw [Addr.add_lit] at c1 c2 c3
        rw [Addr.add_lit] at c2 c3
        exact ⟨c1, c2, c3⟩
    · obtain ⟨j, hj, rfl⟩ := List.mem_iff_getElem.1 hx
      exact (hget j hj).2
end
end Go.Proofs.YthicgffppmbamaaGreat

namespace Go.Proofs.YthicgffppmbamaaGreat
open Go.RowKit

theorem pickP_zero : pickP 0 7 = 0 := by decide
theorem failN_zero : failN 0 = 0 := by unfold failN; rw [pickP_zero]; rfl
/-- each round brings the end nearer -/
theorem round_less {d : Yp} {m m1 m2 : Pl.Sc} {N N2 k k1 k2 F F2 : Nat} (hs : m.state = 0) (_hk : KxD d m N k F) (hk2 : KxD d m2 N2 k2 F2) (hN : N2 ≤ 100000000000) (ha : Acted d.gs 0 m m1 k k1) (ht : Took d.gs m1 m2 k1 k2) (h3 : (Pl.tick m2).state = 0) : Phi d.gs (Pl.tick m2) k2 + 1 ≤ Phi d.gs m k := by
  obtain ⟨-, t2, t3⟩ := hk2.tick hN
  rw [t2] at h3
  have t3 := t3 h3
  have hm1 : m1.state = 0 ∧ ((m2 = m1 ∧ k2 = k1) ∨ Phi d.gs m2 k2 + 1 ≤ Phi d.gs m1 k1) := by
    rcases ht with ⟨rfl, rfl, -⟩ | ⟨h, -, h'⟩
    · exact ⟨h3, .inl ⟨rfl, rfl⟩⟩
    · exact ⟨h, .inr (h' h3).1⟩
  obtain ⟨h1, h2⟩ := hm1
  rcases ha pickP_zero with ⟨has, hto⟩ | ⟨-, rfl, hp⟩
  · rcases hto with ⟨rfl, rfl, hp⟩ | ⟨-, -, hp⟩
    · rcases h2 with ⟨rfl, rfl⟩ | h2
      · have hw : m2.waiting ≠ [] := fun e => hp hs (by unfold partsOf; rw [has, e]; rfl)
        have : 1 ≤ m2.waiting.length := by
          cases hwe : m2.waiting with
          | nil => exact absurd hwe hw
          | cons a b => simp
        omega
      · omega
    · have := (hp h1).1
      rcases h2 with ⟨rfl, rfl⟩ | h2 <;> omega
  · have := hp h1
    rcases h2 with ⟨rfl, rfl⟩ | h2 <;> omega

set_option maxRecDepth 20000 in
set_option maxHeartbeats 4000000 in
theorem finishes_any (O : Nat → Prop) (d : Yp) (e : Ym) (col : Colr) (w : World) (Y X P : Nat) (m : Pl.Sc) (vs : List Value) (k N F : Nat) (hd : DOk d) (hk : KxD d m N k F) (hy : YAt O d e col w Y X P m vs k) (hN : N ≤ 100000) :
    Calls Tryz.prog 17 #[PtrTo Y 0] w fun r w' => r = .returned (.bool true) ∧ ∃ col' vs' m' k' N', YAt (grow O w w') d e col' w' Y X P m' vs' k' ∧ Kp O w w' ∧ KxD d m' N' k' F ∧ m'.state ≠ 0 ∧ N' ≤ N + 20000 := by
  go_enter Tryz.func17, Tryz.ntmps17
  go_wp2_with fail
  go_loopw [3] (fun i wr => ∃ (j : Nat) (col' : Colr) (vs' : List Value) (m' : Pl.Sc) (k' N' : Nat), i = .int .i64 j ∧ j ≤ 301 ∧ N' ≤ N + 32 * j ∧ YAt (grow O w wr) d e col' wr Y X P m' vs' k' ∧ Kp O w wr ∧ KxD d m' N' k' F ∧ (m'.state = 0 → Phi d.gs m' k' + j ≤ 300)) (fun i _ => 400 - (intOf i).toNat)
  case atStart => exact ⟨0, col, vs, m, k, N, rfl, by omega, by omega, hy.mono (fun b hb => .inl hb), Kp.refl _ _, hk, fun hs => hk.phi_le hd.fl hs⟩
  case round =>
    obtain ⟨j, col1, vs1, m1, k1, N1, rfl, hj, hN1, hy1, kO, hk1, hph⟩ := hrel
    have hj2 : (j : Int) < 2000 := by omega
    have c8 := hy1.blk.cell 8
    simp only [yCells, List.getElem?_cons_zero, List.getElem?_cons_succ] at c8
    have HST := hide (xState_any col1 wr X P m1 hy1.isX)
    have z1 := kO.size
    by_cases hs : m1.state = 0
    · rw [hs] at HST
      have hph := hph hs
      have HAC := hide (act_any (grow O w wr) d e col1 wr Y X P m1 vs1 k1 N1 F 0 0 0 hd hk1 hy1 (by omega) ⟨by omega, by omega⟩ ⟨by omega, by omega⟩ ⟨by omega, by omega⟩)
      rw [failN_zero] at HAC
      go_wp2_with (first | (go_at_call 18; refine (unhide HST).mono ?_; rintro r w2 ⟨rfl, hw2⟩; rw [hw2]; clear hw2) | fail)
      refine (unhide HAC).mono ?_
      rintro r w2 ⟨rfl, col2, vs2, m2, k2, hy2, kO2, hk2, hac⟩
      clear HAC c8
      have HTK := hide (takes_any _ d e col2 w2 Y X P m2 vs2 k2 (N1 + 24) F hd hk2 hy2)
      go_wp2_with fail
      refine (unhide HTK).mono ?_
      rintro r w3 ⟨rfl, col3, vs3, k3, hy3, kO3, hk3, htk⟩
      clear HTK
      have c83 := hy3.blk.cell 8
      simp only [yCells, List.getElem?_cons_zero, List.getElem?_cons_succ] at c83
      generalize (Pl.next m2).1 = m3 at *
      have HTI := hide (gTick_any col3 w3 X P m3 (N1 + 24) ⟨hy3.isX, hk3.sound.good⟩ (by omega))
      go_wp2_with fail
      refine (unhide HTI).mono ?_
      rintro r w4 ⟨rfl, col4, hX4, hW4⟩
      obtain ⟨hy4, kO4⟩ := hy3.scan hX4.1 hW4
      have z2 := kO2.size
      have z3 := kO3.size
      have z4 := kO4.size
      have hkt := hk3.tick (by omega)
      have hless := round_less (d := d) hs hk1 hk3 (by omega) hac htk
      have HH := hide (And.intro hy4 (And.intro kO4 (And.intro hkt hless)))
      clear hy4 kO4 hkt hless hX4 hW4 HTI c83
      go_wp2_with fail
      refine ⟨⟨j + 1, col4, vs3, Pl.tick m3, k3, N1 + 24 + 4, by go_num, by omega, by omega, ?_, ?_, HH.out.2.2.1.1, fun h => ?_⟩, by simp [intOf]; omega⟩
      · refine HH.out.1.mono (fun b hb => ?_)
        rcases hb with ((((hb | hb) | hb) | hb) | hb)
        · exact .inl hb
        · exact .inr (by omega)
        · exact .inr (by omega)
        · exact .inr (by omega)
        · exact .inr (by omega)
      · exact kO.grow (kO2.grow (kO3.grow HH.out.2.1))
      · have := HH.out.2.2.2 h
        omega
    · have hsi : ¬ (m1.state : Int) = 0 := by omega
      go_wp2_with (first | (go_at_call 18; refine (unhide HST).mono ?_; rintro r w2 ⟨rfl, hw2⟩; rw [hw2]; clear hw2) | fail)
      go_ret
      exact ⟨rfl, col1, vs1, m1, k1, N1, hy1, kO, hk1, hs, by omega⟩
end Go.Proofs.YthicgffppmbamaaGreat

namespace Go.Proofs.YthicgffppmbamaaGreat
open Go.RowKit

theorem ypOf_dok (l : List Int) : DOk (ypOf l) := by
  have h := sSet_in l
  have hc := sCl_ok l
  refine ⟨ypOf_fl l, ?_, ?_, ?_, ?_, ?_, ?_, hc.2.2.2.1, hc.2.2.2.2⟩
  · show 1 ≤ 1 + _; omega
  · show 1 + _ ≤ 4; omega
  · show 1 ≤ 1 + _; omega
  · show 1 + _ ≤ 4; omega
  · show 1 ≤ 1 + _; omega
  · show 1 + _ ≤ 20; omega
/-- what is looked at, at the end -/
structure EndAt (d : Yp) (w : World) (Y X n : Nat) (nv gv : Value) (Lb : Nat) (va : Option Addr) (vc : Nat) : Prop where
  c0 : w.cell? ⟨Y, 0, none⟩ = some nv
  c1 : w.cell? ⟨Y, 1, none⟩ = some gv
  c5 : w.cell? ⟨Y, 5, none⟩ = some (.int .i64 (d.T : Int))
  c8 : w.cell? ⟨Y, 8, none⟩ = some (PtrTo X 0)
  c9 : w.cell? ⟨Y, 9, none⟩ = some (.slice (some ⟨Lb, 0, none⟩) d.cols.length d.cols.length)
  g0 : w.cell? ⟨Lb, 0, none⟩ = some (.slice va n vc)
theorem YAt.ends {O : Nat → Prop} {d : Yp} {e : Ym} {col : Colr} {w : World} {Y X P : Nat} {m : Pl.Sc} {vs : List Value} {k : Nat} (h : YAt O d e col w Y X P m vs k) (hd : DOk d) (hk : k ≤ totalOf d.gs) : ∃ (na : Option Addr) (nn nc : Nat) (ga : Option Addr) (gn gc : Nat) (va : Option Addr) (vc : Nat), e.nv = .slice na nn nc ∧ e.gv = .slice ga gn gc ∧ EndAt d w Y X k (.slice na nn nc) (.slice ga gn gc) e.Lb va vc := by
  obtain ⟨na, nn, nc, hnvE⟩ := slice_of h.nam
  obtain ⟨gvs, hgr, -, -⟩ := id h.tab
  obtain ⟨ga, gn, gc, hgvE⟩ := slice_of hgr
  have hvl : vs.length = d.cols.length := by rw [h.got.len]; unfold gotOf; simp
  have hc1 := hd.c1
  have hgo := h.got.own 0 vs[0] ((colOf d.gs d.cols 0).take k) (List.getElem?_eq_getElem (by omega)) (by rw [← gotMid_zero d k 0, gotMid_at d k 0 0 0 (by omega)]; rfl)
  have hgb := h.got.blk.cell 0
  rw [List.getElem?_eq_getElem (by omega)] at hgb
  obtain ⟨va, vc, hv, -⟩ := hgo.shape
  have hl : ((colOf d.gs d.cols 0).take k).length = k := by rw [List.length_take, colOf_len hd 0 (by omega)]; omega
  rw [hl] at hv
  rw [hv] at hgb
  refine ⟨na, nn, nc, ga, gn, gc, va, vc, hnvE, hgvE, ?_, ?_, ?_, ?_, ?_, hgb⟩
  · have := h.blk.cell 0; simp only [yCells, List.getElem?_cons_zero, hnvE] at this; exact this
  · have := h.blk.cell 1; simp only [yCells, List.getElem?_cons_zero, List.getElem?_cons_succ, hgvE] at this; exact this
  · have := h.blk.cell 5; simp only [yCells, I, List.getElem?_cons_zero, List.getElem?_cons_succ] at this; exact this
  · have := h.blk.cell 8; simp only [yCells, List.getElem?_cons_zero, List.getElem?_cons_succ] at this; exact this
  · have := h.blk.cell 9; simp only [yCells, List.getElem?_cons_zero, List.getElem?_cons_succ] at this; exact this
theorem YAt.total {O : Nat → Prop} {d : Yp} {e : Ym} {col : Colr} {w : World} {Y X P : Nat} {m : Pl.Sc} {vs : List Value} {k : Nat} (h : YAt O d e col w Y X P m vs k) (hd : DOk d) (u : World) (hu : Ext w u) : Calls Tryz.prog 19 #[.agg #[e.nv, e.gv]] u fun r w' => r = .returned (.int .i64 (totalOf d.gs : Nat)) ∧ Ext u w' := by
  obtain ⟨hg6, hgi⟩ := hd.grp
  obtain ⟨na, nn, nc, hnvE⟩ := slice_of h.nam
  exact total_any (Low e Y) u e.nv e.gv d.gs ⟨na, nn, nc, hnvE⟩ (h.tab.kept hu (fun _ _ f => f)) hg6 (fun G hG => ⟨(hgi G hG).2.1, (hgi G hG).2.2⟩)

end Go.Proofs.YthicgffppmbamaaGreat

namespace Go.Proofs.YthicgffppmbamaaGreat
open Go.RowKit
section
variable {O : Nat → Prop} {d : Yp} {e : Ym} {col : Colr} {w w' : World} {Y X P : Nat} {m : Pl.Sc} {vs : List Value} {k : Nat}
theorem YAt.put {d' : Yp} (h : YAt O d e col w Y X P m vs k) (j : Nat) (v : Value) (hc : (yCells d e X).set j v = yCells d' e X) (hss : d'.ss = d.ss) (hgs : d'.gs = d.gs) (hcl : d'.cols = d.cols) : YAt O d' e col (w.setCell ⟨Y, j, none⟩ v) Y X P m vs k := by
  have ks := kp_set' w Y j v
  have hl : ∀ b, Low e Y b → ¬ (fun q => q = Y) b := fun b hb e => hb.2.2 e
  have hg : gotOf d' k = gotOf d k := by unfold gotOf; rw [hgs, hcl]
  refine ⟨by have := h.blk.set j v; rw [hc] at this; exact this, h.yB, h.low, by rw [hss]; exact h.nam.kept ks hl, by rw [hgs]; exact h.tab.kept ks hl, by rw [hcl]; exact h.cls.kept ks hl, h.isX.kept ks (fun i hi => by have : i = Y := hi; rw [this]; exact h.low Y h.yB), ?_, h.own⟩
  rw [hg]
  exact h.got.kept ks (fun g hg _ hi => by have h1 := hg.1; have h2 := h.yB; have : g = Y := hi; omega)
/-- another scan takes the place of the one that it had -/
theorem YAt.reopen {col' : Colr} {X' P' : Nat} {m' : Pl.Sc} (h : YAt O d e col w Y X P m vs k) (x : Ext w w') (hx : IsX col' w' X' m' P') (hlow : ∀ b, b < w.heap.size → col' b = .out) : YAt (grow O w w') d e col' (w'.setCell ⟨Y, 8, none⟩ (PtrTo X' 0)) Y X' P' m' vs k := by
  have ks := kp_set' w' Y 8 (PtrTo X' 0)
  have hl : ∀ b, Low e Y b → ¬ (fun q => q = Y) b := fun b hb e => hb.2.2 e
  have hBw : e.B ≤ w.heap.size := by have := h.got.new.1; have := h.got.blk.lt; omega
  have hYw := h.blk.lt
  have hz := x.size
  refine ⟨?_, h.yB, fun b hb => hlow b (by omega), (h.nam.kept x (fun _ _ f => f)).kept ks hl, (h.tab.kept x (fun _ _ f => f)).kept ks hl, (h.cls.kept x (fun _ _ f => f)).kept ks hl, hx.kept ks (fun i hi => by have : i = Y := hi; rw [this]; exact hlow Y hYw), ?_, fun b hb => ?_⟩
  · have := (h.blk.kept x id).set 8 (PtrTo X' 0)
    exact this
  · have g1 : NxAt (fun g => e.B ≤ g ∧ col' g = .out) w e.Lb vs (gotOf d k) := h.got.recol (fun g hg hlt => ⟨hg.1, hlow g hlt⟩)
    exact (g1.ext x).kept ks (fun g hg _ hi => by have h1 := hg.1; have h2 := h.yB; have : g = Y := hi; omega)
  · rcases hb with hb | hb | hb | hb
    · exact .inl (h.own b (.inl hb))
    · refine .inr ⟨Nat.le_of_not_lt (fun hlt => hb (hlow b hlt)), Nat.lt_of_not_le (fun hle => hb (hx.top b hle))⟩
    · exact .inl (h.own b (.inr (.inr (.inl hb))))
    · exact .inl (h.own b (.inr (.inr (.inr hb))))
/-- blocks below a bound, and from another one on, that are not its own -/
theorem YAt.apart {S : Nat → Prop} (h : YAt O d e col w Y X P m vs k) (x : Kp S w w') (hO : ∀ b, S b → ¬ O b) (hA : ∀ b, S b → b < e.A ∨ e.B ≤ b) : YAt O d e col w' Y X P m vs k := h.kept x (fun b hb => ⟨hO b hb, hA b hb⟩)
end
end Go.Proofs.YthicgffppmbamaaGreat

namespace Go.Proofs.YthicgffppmbamaaGreat
open Go.RowKit

theorem failN_of {kd : Int} (h : ¬ pickP kd 7 = 4) : failN kd = 0 := by unfold failN; rw [if_neg h]
theorem failN_five : failN 5 = 0 := by decide

set_option maxRecDepth 20000 in
set_option maxHeartbeats 8000000 in
theorem alikeLaw_any (w : World) (lv sv tv : Value) (l : List Int) (wn gp : Int) (s t : List (Int × Int × Int)) (hr : RdI w.heap.size w lv l) (hlen : l.length ≤ 17592186043904) (hrng : ∀ x ∈ l, InI x) (hwn : InI wn) (hgp : InI gp) (hs : RdA w.heap.size w sv s) (ht : RdA w.heap.size w tv t) :
    Calls Tryz.prog 7 #[lv, .int .i64 wn, .int .i64 gp, sv, tv] w fun r w' => r = .returned (.bool true) ∧ Ext w w' := by
  have HO := hide (opened_any w lv l hr hlen hrng)
  have HO2 := hide (fun u (hu : Ext w u) => opened_any u lv l ((hr.kept hu (fun _ f => f.elim)).mono hu.size) hlen hrng)
  have hd := ypOf_dok l
  have hin := sSet_in l
  have hko := ypOf_open l (ypOf l).W (ypOf l).G hd.W4 (by show (sS4 l).1 ≤ 32; omega)
  have hpw := pickP_lt wn 4 (by omega)
  have hpg := pickP_lt gp 33 (by omega)
  have HPW := hide (fun u => kpick_any u wn 4 hwn.1 hwn.2 (by omega) (by omega))
  have HPG := hide (fun u => kpick_any u gp 33 hgp.1 hgp.2 (by omega) (by omega))
  have hko2 := ypOf_open l (1 + pickP wn 4) (pickP gp 33) (by omega) (by omega)
  generalize pickP wn 4 = pw at *
  generalize pickP gp 33 = pg at *
  have hcl := sCl_ok l
  have HWN := hide (wNames_map l)
  have hdE : Hid ((ypOf l).ss = names4B.take (sN l) ∧ (ypOf l).cols = sCl l) := ⟨rfl, rfl⟩
  have hfl : (ypOf l).file.length ≤ 4000 := ft_len (ypOf_fl l).ok
  have hf10 := file_ge (ypOf l)
  obtain ⟨la, lc, rfl, -, -, -⟩ := RdI.open hr
  obtain ⟨sa, sc, rfl, hsc, hsl, hscell, hsin⟩ := hs
  obtain ⟨ta, tc, rfl, htc, htl, htcell, htin⟩ := ht
  go_enter Tryz.func7, Tryz.ntmps7
  go_wp2_with fail
  refine (unhide HO).mono ?_
  rintro r w1 ⟨Yx, Xx, Px, cx, ex, vx, rfl, hx1, x1, eA1, eB1⟩
  clear HO
  go_wp2_with fail
  refine ((unhide HO2) w1 x1).mono ?_
  rintro r w2 ⟨Yy, Xy, Py, cy, ey, vy, rfl, hy2, x2, eA2, eB2⟩
  clear HO2
  generalize hdd : ypOf l = d at *
  have HD := hide hdd
  clear hdd
  have hx2 := hx1.ext x2
  have z1 := x1.size
  have z2 := x2.size
  obtain ⟨na, nc, hnvE, hnc, hn3⟩ := hy2.nam.get
  obtain ⟨ca, cc, hcvE, hcc, hc3⟩ := hy2.cls.get
  rw [List.length_map] at hnvE hnc hn3 hcvE hcc hc3
  have hcl1 := hd.c1
  have hcl4 := hd.c4
  have hcb1 : ∀ c ∈ d.cols, c < d.ss.length := fun c hc => by have := hd.fl.cols c hc; unfold Yp.names at this; rw [List.length_map] at this; exact this
  have hss1 : 1 ≤ d.ss.length := by
    have := hcb1 (d.cols[0]'(by omega)) (List.getElem_mem _)
    omega
  obtain ⟨nb, noff, rfl, hnC, hnb, hncell⟩ := hn3 (by omega)
  obtain ⟨cb, coff, rfl, hcC, hcb, hccell⟩ := hc3 (by omega)
  have y0 := hy2.blk.cell 0
  have y3 := hy2.blk.cell 3
  simp only [yCells, List.getElem?_cons_zero, List.getElem?_cons_succ, hnvE, hcvE] at y0 y3
  have HE := hide (And.intro hnvE hcvE)
  have HX2 := hide hx2
  have HY2 := hide hy2
  clear hnvE hcvE hn3 hc3 hx2 hy2 hx1
  go_wp2_with fail
  go_loopw [13, 14] (fun nvv i wr => ∃ (j : Nat), i = .int .i64 j ∧ j ≤ d.cols.length ∧ Own wr 1 nvv j ((d.cols.take j).map (nmOf d.ss)) ∧ (∀ g, nvv.ownBlock = some g → w2.heap.size ≤ g) ∧ Ext w2 wr) (fun _ i _ => 10 - (intOf i).toNat)
  case atStart => exact ⟨0, rfl, by omega, Own.nil _ _, (fun g e => by simp [Value.ownBlock] at e), Kp.refl _ _⟩
  case round =>
    obtain ⟨j, rfl, hj, ho, hog, hxr⟩ := hrel
    obtain ⟨oa, oc, rfl, hoc⟩ := ho.shape
    have r3 := hxr.cell y3 id
    by_cases hjl : j < d.cols.length
    · have hjl2 : (j : Int) < (d.cols.length : Int) := by omega
      have jj0 : (0 : Int) ≤ (j : Int) := by omega
      have r0 := hxr.cell y0 id
      have hcj := hcb1 d.cols[j] (List.getElem_mem hjl)
      have q1 := hccell j hjl
      rw [List.getElem?_map, List.getElem?_eq_getElem hjl] at q1
      simp only [Option.map_some, I] at q1
      have rc := hxr.cell q1 id
      have q2 := hncell d.cols[j] hcj
      rw [List.getElem?_map, List.getElem?_eq_getElem hcj] at q2
      simp only [Option.map_some] at q2
      have rn := hxr.cell q2 id
      have HNM : Hid (nmOf d.ss d.cols[j] = .string (d.ss[d.cols[j]]'hcj)) := by
        show _ = _
        unfold nmOf
        rw [List.getD_eq_getElem?_getD, List.getElem?_eq_getElem hcj]
        rfl
      have HTK : Hid (d.cols.take (j + 1) = d.cols.take j ++ [d.cols[j]]) := hide (List.take_succ_eq_append_getElem hjl)
      generalize d.ss[d.cols[j]]'hcj = y at *
      generalize d.cols[j] = cj at *
      clear q1 q2
      have cj0 : (0 : Int) ≤ (cj : Int) := by omega
      have cjn : (cj : Int) < (d.ss.length : Int) := by omega
      go_wp2_with fail
      have hS0 : wr.drew.cell? ⟨Yy, 0, none⟩ = some (.slice (some ⟨nb, noff, none⟩) d.ss.length nc) ∧ wr.drew.cell? ⟨Yy, 3, none⟩ = some (.slice (some ⟨cb, coff, none⟩) d.cols.length cc) ∧ wr.drew.cell? ⟨cb, coff + j, none⟩ = some (.int .i64 (cj : Int)) ∧ wr.drew.cell? ⟨nb, noff + cj, none⟩ = some (.string y) := ⟨r0, r3, rc, rn⟩
      refine wp_region_late (n := 17) (fun u => u.cell? ⟨Yy, 0, none⟩ = some (.slice (some ⟨nb, noff, none⟩) d.ss.length nc) ∧ u.cell? ⟨Yy, 3, none⟩ = some (.slice (some ⟨cb, coff, none⟩) d.cols.length cc) ∧ u.cell? ⟨cb, coff + j, none⟩ = some (.int .i64 (cj : Int)) ∧ u.cell? ⟨nb, noff + cj, none⟩ = some (.string y)) (by kernel_rfl) ?_
      refine Late.tk (i := 0) (oi := ⟨some 44, .move (.tmp 13), 22, "keep.go:295", #[], none⟩) (v := ?_) [17] rfl hS0 ?_ ?_
      rotate_left
      · (intro u hu; obtain ⟨u0, u1, u2, u3⟩ := hu; go_simp; first | done | with_reducible rfl)
      try simp only [Act.put, lA, lZ, lS]
      refine Late.tk (i := 1) (oi := ⟨some 45, .move (.tmp 12), 48, "keep.go:295", #[], none⟩) (v := ?_) [17] rfl hS0 ?_ ?_
      rotate_left
      · (intro u hu; obtain ⟨u0, u1, u2, u3⟩ := hu; go_simp; first | done | with_reducible rfl)
      try simp only [Act.put, lA, lZ, lS]
      refine Late.tk (i := 2) (oi := ⟨some 46, .nilCheck (.tmp 45), 0, "keep.go:295", #[⟨1, .data⟩], none⟩) (v := ?_) [17] rfl hS0 ?_ ?_
      rotate_left
      · (intro u hu; obtain ⟨u0, u1, u2, u3⟩ := hu; go_simp; first | done | with_reducible rfl)
      try simp only [Act.put, lA, lZ, lS]
      refine Late.tk (i := 3) (oi := ⟨some 47, .fieldAddr 53 (.tmp 46) 0, 0, "keep.go:295", #[⟨2, .data⟩], none⟩) (v := ?_) [17] rfl hS0 ?_ ?_
      rotate_left
      · (intro u hu; obtain ⟨u0, u1, u2, u3⟩ := hu; go_simp; first | done | with_reducible rfl)
      try simp only [Act.put, lA, lZ, lS]
      refine Late.tk (i := 4) (oi := ⟨some 48, .fieldAddr 42 (.tmp 47) 0, 0, "keep.go:295", #[⟨3, .data⟩], none⟩) (v := ?_) [17] rfl hS0 ?_ ?_
      rotate_left
      · (intro u hu; obtain ⟨u0, u1, u2, u3⟩ := hu; go_simp; first | done | with_reducible rfl)
      try simp only [Act.put, lA, lZ, lS]
      refine Late.tk (i := 5) (oi := ⟨some 49, .load 22 (.tmp 48), 22, "keep.go:295", #[⟨4, .data⟩], none⟩) (v := ?_) [17] rfl hS0 ?_ ?_
      rotate_left
      · (intro u hu; obtain ⟨u0, u1, u2, u3⟩ := hu; go_simp; first | done | with_reducible rfl)
      try simp only [Act.put, lA, lZ, lS]
      refine Late.tk (i := 6) (oi := ⟨some 50, .move (.tmp 12), 48, "keep.go:295", #[], none⟩) (v := ?_) [17] rfl hS0 ?_ ?_
      rotate_left
      · (intro u hu; obtain ⟨u0, u1, u2, u3⟩ := hu; go_simp; first | done | with_reducible rfl)
      try simp only [Act.put, lA, lZ, lS]
      refine Late.tk (i := 7) (oi := ⟨some 51, .nilCheck (.tmp 50), 0, "keep.go:295", #[⟨6, .data⟩], none⟩) (v := ?_) [17] rfl hS0 ?_ ?_
      rotate_left
      · (intro u hu; obtain ⟨u0, u1, u2, u3⟩ := hu; go_simp; first | done | with_reducible rfl)
      try simp only [Act.put, lA, lZ, lS]
      refine Late.tk (i := 8) (oi := ⟨some 52, .fieldAddr 53 (.tmp 51) 2, 0, "keep.go:295", #[⟨7, .data⟩], none⟩) (v := ?_) [17] rfl hS0 ?_ ?_
      rotate_left
      · (intro u hu; obtain ⟨u0, u1, u2, u3⟩ := hu; go_simp; first | done | with_reducible rfl)
      try simp only [Act.put, lA, lZ, lS]
      refine Late.tk (i := 9) (oi := ⟨some 53, .load 46 (.tmp 52), 46, "keep.go:295", #[⟨8, .data⟩], none⟩) (v := ?_) [17] rfl hS0 ?_ ?_
      rotate_left
      · (intro u hu; obtain ⟨u0, u1, u2, u3⟩ := hu; go_simp; first | done | with_reducible rfl)
      try simp only [Act.put, lA, lZ, lS]
      refine Late.tk (i := 10) (oi := ⟨some 54, .move (.tmp 14), 3, "keep.go:295", #[], none⟩) (v := ?_) [17] rfl hS0 ?_ ?_
      rotate_left
      · (intro u hu; obtain ⟨u0, u1, u2, u3⟩ := hu; go_simp; first | done | with_reducible rfl)
      try simp only [Act.put, lA, lZ, lS]
      refine Late.tk (i := 11) (oi := ⟨some 55, .indexAddr 46 (.tmp 53) (.tmp 54), 0, "keep.go:295", #[⟨9, .data⟩, ⟨10, .data⟩], none⟩) (v := ?_) [17] rfl hS0 ?_ ?_
      rotate_left
      · (intro u hu; obtain ⟨u0, u1, u2, u3⟩ := hu; go_simp; first | done | with_reducible rfl)
      try simp only [Act.put, lA, lZ, lS]
      refine Late.tk (i := 12) (oi := ⟨some 56, .load 3 (.tmp 55), 3, "keep.go:295", #[⟨11, .data⟩], none⟩) (v := ?_) [17] rfl hS0 ?_ ?_
      rotate_left
      · (intro u hu; obtain ⟨u0, u1, u2, u3⟩ := hu; go_simp; first | done | with_reducible rfl)
      try simp only [Act.put, lA, lZ, lS]
      refine Late.tk (i := 13) (oi := ⟨some 57, .indexAddr 22 (.tmp 49) (.tmp 56), 0, "keep.go:295", #[⟨5, .data⟩, ⟨12, .data⟩], none⟩) (v := ?_) [17] rfl hS0 ?_ ?_
      rotate_left
      · (intro u hu; obtain ⟨u0, u1, u2, u3⟩ := hu; go_simp; first | done | with_reducible rfl)
      try simp only [Act.put, lA, lZ, lS]
      refine Late.tk (i := 14) (oi := ⟨some 58, .load 9 (.tmp 57), 9, "keep.go:295", #[⟨13, .data⟩], none⟩) (v := ?_) [17] rfl hS0 ?_ ?_
      rotate_left
      · (intro u hu; obtain ⟨u0, u1, u2, u3⟩ := hu; go_simp; first | done | with_reducible rfl)
      try simp only [Act.put, lA, lZ, lS]
      have xd : Ext wr wr.drew := (Kp.refl _ _).drew
      refine Late.one (i := 15) (o := ⟨some 59, .buildSlice 22 1 #[(0, .tmp 58)], 22, "keep.go:295", #[⟨14, .data⟩], none⟩) (by kernel_rfl) rfl (fun K hK => ?_)
      go_simp
      refine hK _ _ (fun _ => ⟨(xd.alloc _).cell r0 id, (xd.alloc _).cell r3 id, (xd.alloc _).cell rc id, (xd.alloc _).cell rn id⟩) ?_
      clear hK K
      try simp only [Act.put, lA, lZ, lS]
      refine Late.one (i := 16) (o := ⟨some 60, .call { callee := .builtin .append, args := #[.tmp 44, .tmp 59], argTypes := #[22, 22] }, 22, "keep.go:295", #[⟨0, .data⟩, ⟨15, .data⟩], none⟩) (by kernel_rfl) rfl (fun K hK => ?_)
      refine step_append_g rfl _ _ 22 22 rfl 9 (.string ByteArray.empty) 1 16 Tryz.underlying22 kiS rfl (.slice oa j oc) _ _ (by rfl) (ho.ext (((Kp.refl _ _).alloc _).drew)) _ (by rfl) 1 _ (src_elemD _ _ _ Tryz.underlying22 _ [.string y] rfl (one_cell _ rfl)) (by omega) (by omega) ?_
      intro v5 w5 o5 k5 s5
      have xa : Ext wr (wr.alloc (.cells #[.string y] 9)).drew := ((Kp.refl _ _).alloc _).drew
      have hx5 : Ext w2 w5 := (hxr.trans xa).then k5 (fun i hi e => by have := hog i e; omega)
      have n5 : ∀ b, b < w2.heap.size → ¬ Of (.slice oa j oc) b := fun b hb e => by have := hog b e; omega
      have hYb := HY2.out.blk.lt
      obtain ⟨va5, vc5, rfl, -⟩ := o5.shape
      refine hK _ _ (fun _ => ⟨hx5.cell y0 id, hx5.cell y3 id, k5.cell (xa.cell rc id) (n5 cb hcb), k5.cell (xa.cell rn id) (n5 nb hnb)⟩) ?_
      clear hK K
      try simp only [Act.put, lA, lZ, lS]
      refine Late.one (i := 17) (o := ⟨some 13, .assign (.tmp 60), 22, "keep.go:295", #[⟨16, .data⟩, ⟨16, .chain⟩, ⟨0, .phase⟩, ⟨1, .phase⟩, ⟨2, .phase⟩, ⟨3, .phase⟩, ⟨4, .phase⟩, ⟨5, .phase⟩, ⟨6, .phase⟩, ⟨7, .phase⟩, ⟨8, .phase⟩, ⟨9, .phase⟩, ⟨10, .phase⟩, ⟨11, .phase⟩, ⟨12, .phase⟩, ⟨13, .phase⟩, ⟨14, .phase⟩, ⟨15, .phase⟩, ⟨16, .phase⟩], none⟩) (by kernel_rfl) rfl (fun K hK => ?_)
      go_simp
      refine hK _ _ (fun h => absurd rfl h) ?_
      clear hK K
      try simp only [Act.put, lA, lZ, lS]
      refine Late.done (by kernel_rfl) ?_ _
      go_wp2_with fail
      refine ⟨⟨j + 1, by go_num, by omega, by rw [HTK.out, List.map_append, List.map_cons, List.map_nil, HNM.out]; exact o5, fun g e => ?_, hx5⟩, by simp [intOf]; omega⟩
      rcases sep_new s5 e with e' | e'
      · exact hog g e'
      · have h1 := xa.size; have h2 := hxr.size; omega
    · obtain rfl : j = d.cols.length := by omega
      rw [List.take_length] at ho
      have hjl2 : ¬ (d.cols.length : Int) < (d.cols.length : Int) := by omega
      have hyr := HY2.out.ext hxr
      have hxxr := HX2.out.ext hxr
      have c4 := hyr.blk.cell 4
      have f4 := hyr.blk.free 4
      simp only [yCells, I, List.getElem?_cons_zero, List.getElem?_cons_succ] at c4
      have hy3 := hyr.put (d' := { d with W := 1 + pw }) 4 (.int .i64 (1 + (pw : Int))) (by simp [yCells, I, Yp.file, Yp.names]) rfl rfl rfl
      have c7 := hy3.blk.cell 7
      have f7 := hy3.blk.free 7
      simp only [yCells, I, List.getElem?_cons_zero, List.getElem?_cons_succ] at c7
      have hy4 := hy3.put (d' := { d with W := 1 + pw, G := pg }) 7 (.int .i64 (pg : Int)) (by simp [yCells, I, Yp.file, Yp.names]) rfl rfl rfl
      have ks1 := kp_set' wr Yy 4 (.int .i64 (1 + (pw : Int)))
      have ks2 := kp_set' (wr.setCell ⟨Yy, 4, none⟩ (.int .i64 (1 + (pw : Int)))) Yy 7 (.int .i64 (pg : Int))
      go_upto_region 11 with (first | (go_at_call 21; refine ((unhide HPW) _).mono ?_; rintro r wq ⟨rfl, hwq⟩; rw [hwq]; clear hwq) | fail)
      clear c4 f4 hy3
      go_upto_region 12 with (first | (go_at_call 21; refine ((unhide HPG) _).mono ?_; rintro r wq ⟨rfl, hwq⟩; rw [hwq]; clear hwq) | fail)
      have kss : Kp (fun q => q = Yy) wr _ := ks1.trans ks2
      clear ks1 ks2 c7 f7
      have hYyw := HY2.out.blk.lt
      have zr := hxr.size
      generalize (wr.setCell ⟨Yy, 4, none⟩ (.int .i64 (1 + (pw : Int)))).setCell ⟨Yy, 7, none⟩ (.int .i64 (pg : Int)) = W4 at *
      have z4 := kss.size
      have ho4 := ho.kept kss (fun g e => by have := hog g e; show ¬ g = Yy; omega)
      have g2 := hy4.blk.cell 2
      have g4 := hy4.blk.cell 4
      have g5 := hy4.blk.cell 5
      have g6 := hy4.blk.cell 6
      have g7 := hy4.blk.cell 7
      simp only [yCells, I, Yp.file, Yp.names, List.getElem?_cons_zero, List.getElem?_cons_succ, Int.natCast_add, Int.natCast_one] at g2 g4 g5 g6 g7
      change W4.cell? ⟨Yy, 2, none⟩ = some (.string ⟨d.file.toArray⟩) at g2
      have hok : Pl.okSet ((d.file.length : Nat) : Int) (1 + (pw : Int)) (d.T : Int) (d.R : Int) (pg : Int) = true := by
        have h1 := hd.T1
        have h2 := hd.T4
        have h3 := hd.R1
        have h4 := hd.R20
        unfold Pl.okSet
        rw [Bool.and_eq_true, Bool.and_eq_true, decide_eq_true_eq, decide_eq_true_eq]
        refine ⟨⟨by omega, by omega⟩, (Pl.okS_iff _ _ _ _).2 ?_⟩
        omega
      have hwn2 : d.cols.map (nmOf d.ss) = (d.cols.map fun c => d.ss.getD c ByteArray.empty).map Value.string := by rw [List.map_map]; rfl
      have hwb : (d.cols.map fun c => d.ss.getD c ByteArray.empty).map bytesOf = sWn l := by rw [hdE.out.1, hdE.out.2]; exact HWN.out
      have hrd := (ho4.rdP (by omega) (fun _ => True) (fun _ _ => trivial)).rd
      rw [hwn2] at hrd
      have xd : Ext W4 W4.drew := (Kp.refl _ _).drew
      have HOP := hide (xOpen_any W4.heap.size W4.drew (.slice oa d.cols.length oc) _ ((d.file.length : Nat) : Int) (1 + (pw : Int)) (d.T : Int) (d.R : Int) (pg : Int) (hrd.kept xd (fun _ f => f.elim)))
      rw [hwb] at HOP
      clear hrd hwn2 hwb
      have hS0 : W4.drew.cell? ⟨Yy, 2, none⟩ = some (.string ⟨d.file.toArray⟩) ∧ W4.drew.cell? ⟨Yy, 4, none⟩ = some (.int .i64 (1 + (pw : Int))) ∧ W4.drew.cell? ⟨Yy, 5, none⟩ = some (.int .i64 (d.T : Int)) ∧ W4.drew.cell? ⟨Yy, 6, none⟩ = some (.int .i64 (d.R : Int)) ∧ W4.drew.cell? ⟨Yy, 7, none⟩ = some (.int .i64 (pg : Int)) := ⟨g2, g4, g5, g6, g7⟩
      refine wp_region_late (n := 15) (fun u => u.cell? ⟨Yy, 2, none⟩ = some (.string ⟨d.file.toArray⟩) ∧ u.cell? ⟨Yy, 4, none⟩ = some (.int .i64 (1 + (pw : Int))) ∧ u.cell? ⟨Yy, 5, none⟩ = some (.int .i64 (d.T : Int)) ∧ u.cell? ⟨Yy, 6, none⟩ = some (.int .i64 (d.R : Int)) ∧ u.cell? ⟨Yy, 7, none⟩ = some (.int .i64 (pg : Int))) (by kernel_rfl) ?_
      refine Late.tk (i := 0) (oi := ⟨some 75, .move (.tmp 12), 48, "keep.go:299", #[], none⟩) (v := ?_) [15] rfl hS0 ?_ ?_
      rotate_left
      · (intro u hu; obtain ⟨u0, u1, u2, u3, u4⟩ := hu; go_simp; first | done | with_reducible rfl)
      try simp only [Act.put, lA, lZ, lS]
      refine Late.tk (i := 1) (oi := ⟨some 76, .nilCheck (.tmp 75), 0, "keep.go:299", #[⟨0, .data⟩], none⟩) (v := ?_) [15] rfl hS0 ?_ ?_
      rotate_left
      · (intro u hu; obtain ⟨u0, u1, u2, u3, u4⟩ := hu; go_simp; first | done | with_reducible rfl)
      try simp only [Act.put, lA, lZ, lS]
      refine Late.tk (i := 2) (oi := ⟨some 77, .fieldAddr 53 (.tmp 76) 1, 0, "keep.go:299", #[⟨1, .data⟩], none⟩) (v := ?_) [15] rfl hS0 ?_ ?_
      rotate_left
      · (intro u hu; obtain ⟨u0, u1, u2, u3, u4⟩ := hu; go_simp; first | done | with_reducible rfl)
      try simp only [Act.put, lA, lZ, lS]
      refine Late.tk (i := 3) (oi := ⟨some 78, .load 9 (.tmp 77), 9, "keep.go:299", #[⟨2, .data⟩], none⟩) (v := ?_) [15] rfl hS0 ?_ ?_
      rotate_left
      · (intro u hu; obtain ⟨u0, u1, u2, u3, u4⟩ := hu; go_simp; first | done | with_reducible rfl)
      try simp only [Act.put, lA, lZ, lS]
      refine Late.tk (i := 4) (oi := ⟨some 79, .call { callee := .builtin .len, args := #[.tmp 78], argTypes := #[9] }, 3, "keep.go:299", #[⟨3, .data⟩], none⟩) (v := ?_) [15] rfl hS0 ?_ ?_
      rotate_left
      · (intro u hu; obtain ⟨u0, u1, u2, u3, u4⟩ := hu; go_simp; first | done | with_reducible rfl)
      try simp only [Act.put, lA, lZ, lS]
      refine Late.tk (i := 5) (oi := ⟨some 80, .move (.tmp 13), 22, "keep.go:299", #[], none⟩) (v := ?_) [15] rfl hS0 ?_ ?_
      rotate_left
      · (intro u hu; obtain ⟨u0, u1, u2, u3, u4⟩ := hu; go_simp; first | done | with_reducible rfl)
      try simp only [Act.put, lA, lZ, lS]
      refine Late.tk (i := 6) (oi := ⟨some 81, .move (.tmp 12), 48, "keep.go:299", #[], none⟩) (v := ?_) [15] rfl hS0 ?_ ?_
      rotate_left
      · (intro u hu; obtain ⟨u0, u1, u2, u3, u4⟩ := hu; go_simp; first | done | with_reducible rfl)
      try simp only [Act.put, lA, lZ, lS]
      refine Late.tk (i := 7) (oi := ⟨some 82, .nilCheck (.tmp 81), 0, "keep.go:299", #[⟨6, .data⟩], none⟩) (v := ?_) [15] rfl hS0 ?_ ?_
      rotate_left
      · (intro u hu; obtain ⟨u0, u1, u2, u3, u4⟩ := hu; go_simp; first | done | with_reducible rfl)
      try simp only [Act.put, lA, lZ, lS]
      refine Late.tk (i := 8) (oi := ⟨some 83, .fieldAddr 53 (.tmp 82) 3, 0, "keep.go:299", #[⟨7, .data⟩], none⟩) (v := ?_) [15] rfl hS0 ?_ ?_
      rotate_left
      · (intro u hu; obtain ⟨u0, u1, u2, u3, u4⟩ := hu; go_simp; first | done | with_reducible rfl)
      try simp only [Act.put, lA, lZ, lS]
      refine Late.tk (i := 9) (oi := ⟨some 84, .load 24 (.tmp 83), 24, "keep.go:299", #[⟨8, .data⟩], none⟩) (v := ?_) [15] rfl hS0 ?_ ?_
      rotate_left
      · (intro u hu; obtain ⟨u0, u1, u2, u3, u4⟩ := hu; go_simp; first | done | with_reducible rfl)
      try simp only [Act.put, lA, lZ, lS]
      refine Late.one (i := 10) (o := ⟨some 85, .call { callee := .value (.func 22), args := #[.tmp 79, .tmp 80, .tmp 84], argTypes := #[3, 22, 24] }, 64, "keep.go:299", #[⟨4, .data⟩, ⟨5, .data⟩, ⟨9, .data⟩], none⟩) (by kernel_rfl) rfl (fun K hK => ?_)
      refine step_call_g rfl 22 #[.int .i64 (d.file.length : Nat), .slice oa d.cols.length oc, setV (1 + (pw : Int)) (d.T : Int) (d.R : Int) (pg : Int)] (by go_simp) ?_
      refine (unhide HOP).mono ?_
      rintro r w5 ⟨x5, ⟨hb, -⟩ | ⟨-, X2, P2, c2, rfl, hX2, hlow2⟩⟩
      · rw [hok] at hb; cases hb
      have hXE : (1 + (pw : Int)).toNat = 1 + pw := by omega
      simp only [Int.toNat_natCast, hXE] at hX2
      have x45 : Ext W4 w5 := xd.trans x5
      have hS5 : w5.cell? ⟨Yy, 2, none⟩ = some (.string ⟨d.file.toArray⟩) ∧ w5.cell? ⟨Yy, 4, none⟩ = some (.int .i64 (1 + (pw : Int))) ∧ w5.cell? ⟨Yy, 5, none⟩ = some (.int .i64 (d.T : Int)) ∧ w5.cell? ⟨Yy, 6, none⟩ = some (.int .i64 (d.R : Int)) ∧ w5.cell? ⟨Yy, 7, none⟩ = some (.int .i64 (pg : Int)) := ⟨x45.cell g2 id, x45.cell g4 id, x45.cell g5 id, x45.cell g6 id, x45.cell g7 id⟩
      refine ⟨_, rfl, hK _ _ (fun _ => hS5) ?_⟩
      clear hK K
      try simp only [Act.put, lA, lZ, lS]
      refine Late.tk (i := 11) (oi := ⟨some 74, .move (.tmp 85), 64, "keep.go:299", #[⟨10, .data⟩], none⟩) (v := ?_) [15] rfl hS5 ?_ ?_
      rotate_left
      · (intro u hu; obtain ⟨u0, u1, u2, u3, u4⟩ := hu; go_simp; first | done | with_reducible rfl)
      try simp only [Act.put, lA, lZ, lS]
      refine Late.tk (i := 12) (oi := ⟨some 86, .extract (.tmp 74) 0, 50, "keep.go:299", #[⟨11, .data⟩], none⟩) (v := ?_) [15] rfl hS5 ?_ ?_
      rotate_left
      · (intro u hu; obtain ⟨u0, u1, u2, u3, u4⟩ := hu; go_simp; first | done | with_reducible rfl)
      try simp only [Act.put, lA, lZ, lS]
      refine Late.tk (i := 13) (oi := ⟨some 87, .extract (.tmp 74) 1, 63, "keep.go:299", #[⟨11, .data⟩, { on := 14, ground := Go.Ground.gcOnly Go.Departure.lateStores }], none⟩) (v := ?_) [15] rfl hS5 ?_ ?_
      rotate_left
      · (intro u hu; obtain ⟨u0, u1, u2, u3, u4⟩ := hu; go_simp; first | done | with_reducible rfl)
      try simp only [Act.put, lA, lZ, lS]
      refine Late.tk (i := 14) (oi := ⟨some 15, .assign (.tmp 86), 50, "keep.go:299", #[⟨12, .data⟩, ⟨10, .chain⟩, ⟨0, .phase⟩, ⟨1, .phase⟩, ⟨2, .phase⟩, ⟨3, .phase⟩, ⟨4, .phase⟩, ⟨5, .phase⟩, ⟨6, .phase⟩, ⟨7, .phase⟩, ⟨8, .phase⟩, ⟨9, .phase⟩, ⟨10, .phase⟩, ⟨11, .phase⟩, ⟨12, .phase⟩, { on := 13, ground := Go.Ground.textOnly Go.Departure.lateStores }], none⟩) (v := ?_) [15] rfl hS5 ?_ ?_
      rotate_left
      · (intro u hu; obtain ⟨u0, u1, u2, u3, u4⟩ := hu; go_simp; first | done | with_reducible rfl)
      try simp only [Act.put, lA, lZ, lS]
      refine Late.one (i := 15) (o := ⟨some 16, .assign (.tmp 87), 63, "keep.go:299", #[⟨13, .data⟩, ⟨14, .chain⟩, ⟨0, .phase⟩, ⟨1, .phase⟩, ⟨2, .phase⟩, ⟨3, .phase⟩, ⟨4, .phase⟩, ⟨5, .phase⟩, ⟨6, .phase⟩, ⟨7, .phase⟩, ⟨8, .phase⟩, ⟨9, .phase⟩, ⟨10, .phase⟩, ⟨11, .phase⟩, ⟨12, .phase⟩, ⟨13, .phase⟩, ⟨14, .phase⟩], none⟩) (by kernel_rfl) rfl (fun K hK => ?_)
      go_simp
      refine hK _ _ (fun h => absurd rfl h) ?_
      clear hK K
      try simp only [Act.put, lA, lZ, lS]
      refine Late.done (by kernel_rfl) ?_ _
      have hy5 := (hy4.ext xd).reopen x5 hX2 hlow2
      have hYy : w1.heap.size ≤ Yy := by
        rcases HY2.out.own Yy (.inl rfl) with h | h
        · exact h.elim
        · exact h.1
      have z5 := x45.size
      have hxx5 := (hxxr.apart kss (fun b hb ho => by
        have hb : b = Yy := hb
        rcases ho with ho | ho
        · exact ho
        · omega) (fun b hb => by
        have hb : b = Yy := hb
        omega)).ext x45
      have kw5 : Ext w w5 := ((x1.trans (x2.trans hxr)).then kss (fun i hi e => by have e : i = Yy := e; omega)).trans x45
      have c85 := (hy4.ext x45).blk.cell 8
      have f85 := (hy4.ext x45).blk.free 8
      simp only [yCells, List.getElem?_cons_zero, List.getElem?_cons_succ] at c85
      have ks8 := kp_set' w5 Yy 8 (PtrTo X2 0)
      have hxx6 := hxx5.apart ks8 (fun b hb ho => by
        have hb : b = Yy := hb
        rcases ho with ho | ho
        · exact ho
        · omega) (fun b hb => by
        have hb : b = Yy := hb
        omega)
      have kw6 : Ext w (w5.setCell ⟨Yy, 8, none⟩ (PtrTo X2 0)) := kw5.then ks8 (fun i hi e => by have e : i = Yy := e; omega)
      have z6 := size_set w5 ⟨Yy, 8, none⟩ (PtrTo X2 0)
      have hx6 : YAt (fun b => w.heap.size ≤ b ∧ b < w1.heap.size) d ex cx (w5.setCell ⟨Yy, 8, none⟩ (PtrTo X2 0)) Yx Xx Px _ vx 0 := hxx6.mono (fun b hb => by
        rcases hb with hb | hb
        · exact hb.elim
        · exact hb)
      have hy6 : YAt (fun b => w1.heap.size ≤ b ∧ b < (w5.setCell ⟨Yy, 8, none⟩ (PtrTo X2 0)).heap.size) { d with W := 1 + pw, G := pg } ey c2 (w5.setCell ⟨Yy, 8, none⟩ (PtrTo X2 0)) Yy X2 P2 _ vy 0 := hy5.mono (fun b hb => by
        rw [z6]
        rcases hb with (hb | hb) | hb
        · exact hb.elim
        · omega
        · have h1 : W4.heap.size ≤ b := hb.1
          have h2 := hb.2
          omega)
      have HX6 := hide hx6
      have HY6 := hide hy6
      have HK6 := hide kw6
      have HD2 : Hid (DOk { d with W := 1 + pw, G := pg }) := ⟨hd.fl, by show 1 ≤ 1 + pw; omega, by show 1 + pw ≤ 4; omega, hd.T1, hd.T4, hd.R1, hd.R20, hd.c1, hd.c4⟩
      clear hxx6 hxx5 hxxr hx6 hy6 kw6 kw5 hy5 hy4 hyr ks8 hS0 hS5 g2 g4 g5 g6 g7 ho ho4 r3 HOP kss x5 hX2 hlow2
      have z15 : w2.heap.size ≤ w5.heap.size := by omega
      have HKO := hide hko
      have HKO2 := hide hko2
      clear hko hko2
      go_wp2_with fail
      change Code.wp _ _ _ _ (w5.setCell ⟨Yy, 8, none⟩ (PtrTo X2 0))
      clear c85 f85
      have zS : w2.heap.size ≤ (w5.setCell ⟨Yy, 8, none⟩ (PtrTo X2 0)).heap.size := by omega
      clear z6
      generalize w5.setCell ⟨Yy, 8, none⟩ (PtrTo X2 0) = wS at *
      go_loopw [17] (fun i wr => ∃ (j : Nat) (col' : Colr) (vs' : List Value) (m' : Pl.Sc) (k' N' : Nat), i = .int .i64 j ∧ j ≤ s.length ∧ j ≤ 60 ∧ N' ≤ 1 + 24 * j ∧ YAt (grow (fun b => w.heap.size ≤ b ∧ b < w1.heap.size) wS wr) d ex col' wr Yx Xx Px m' vs' k' ∧ Kp (fun b => w.heap.size ≤ b ∧ b < w1.heap.size) wS wr ∧ KxD d m' N' k' 0) (fun i _ => 70 - (intOf i).toNat)
      case atStart => exact ⟨0, _, _, _, 0, 1, rfl, by omega, by omega, by omega, HX6.out.mono (fun b hb => .inl hb), Kp.refl _ _, HKO.out⟩
      case round =>
        obtain ⟨j, col1, vs1, m1, k1, N1, rfl, hj, hj60, hN1, hy1, kO, hk1⟩ := hrel
        have x7 : Ext w wr := HK6.out.then kO (fun i hi e => by omega)
        have z7 := kO.size
        by_cases hjl : j < s.length ∧ j < 60
        · have hj1 : (j : Int) < (s.length : Int) := by omega
          have hj2 : (j : Int) < 60 := by omega
          have jj0 : (0 : Int) ≤ (j : Int) := by omega
          have dj1 : decide ((j : Int) < (s.length : Int)) = true := decide_eq_true hj1
          have dj2 : decide ((j : Int) < 60) = true := decide_eq_true hj2
          obtain ⟨sb, soff, rfl, hsb, hcell⟩ := hscell (by omega)
          obtain ⟨q0, q1, q2⟩ := hcell j hjl.1
          obtain ⟨i0, i1, i2⟩ := hsin s[j] (List.getElem_mem hjl.1)
          generalize s[j] = a at *
          have e0 := x7.cell q0 id
          have e1 := x7.cell q1 id
          have e2 := x7.cell q2 id
          have HPK := hide (fun u => kpick_any u a.1 7 i0.1 i0.2 (by omega) (by omega))
          have HFN : Hid (¬ pickP a.1 7 = 4 → failN a.1 = 0) := failN_of
          generalize a.1 = kd at *
          generalize a.2.1 = A at *
          generalize a.2.2 = B at *
          have xB : Ext wr (wr.alloc (.cells #[.int .i64 kd, .int .i64 A, .int .i64 B] 60)) := (Kp.refl _ _).alloc _
          have zB : Hid ((wr.alloc (.cells #[.int .i64 kd, .int .i64 A, .int .i64 B] 60)).heap.size = wr.heap.size + 1) := by show _ = _; simp
          clear q0 q1 q2 hcell
          by_cases h4 : pickP kd 7 = 4
          · rw [h4] at HPK
            have xB2 : Ext wr (wr.alloc (.cells #[.int .i64 0, .int .i64 A, .int .i64 B] 60)) := (Kp.refl _ _).alloc _
            have zB2 : Hid ((wr.alloc (.cells #[.int .i64 0, .int .i64 A, .int .i64 B] 60)).heap.size = wr.heap.size + 1) := by show _ = _; simp
            have HAC := hide (act_any _ d ex col1 _ Yx Xx Px m1 vs1 k1 N1 0 0 A B hd hk1 (hy1.ext xB2) (by omega) ⟨by omega, by omega⟩ i1 i2)
            rw [show failN 0 = 0 by decide] at HAC
            clear hy1 hk1
            go_wp2_with (first | (go_at_call 21; refine ((unhide HPK) _).mono ?_; rintro r wq ⟨rfl, hwq⟩; rw [hwq]; clear hwq) | fail)
            refine (unhide HAC).mono ?_
            rintro r w8 ⟨rfl, col8, vs8, m8, k8, hy8, kO8, hk8, -⟩
            clear HAC
            have HH := hide (And.intro hy8 (And.intro kO8 hk8))
            have z8 := kO8.size
            have zz := zB2.out
            clear hy8 kO8 hk8
            go_wp2_with fail
            refine ⟨⟨j + 1, col8, vs8, m8, k8, N1 + 24, by go_num, by omega, by omega, by omega, ?_, ?_, HH.out.2.2⟩, by simp [intOf]; omega⟩
            · exact HH.out.1.mono (fun b hb => by
                rcases hb with (hb | hb) | hb
                · exact .inl hb
                · exact .inr (by omega)
                · exact .inr (by have h1 := hb.1; have h2 := hb.2; omega))
            · exact (kO.trans (Kp.of_ext xB2)).then HH.out.2.1 (fun i hi e => by
                rcases e with e | e
                · exact e
                · omega)
          · have h4i : ¬ ((pickP kd 7 : Nat) : Int) = 4 := by omega
            have HAC := hide (act_any _ d ex col1 _ Yx Xx Px m1 vs1 k1 N1 0 kd A B hd hk1 (hy1.ext xB) (by omega) i0 i1 i2)
            rw [HFN.out h4] at HAC
            clear hy1 hk1 h4
            go_wp2_with (first | (go_at_call 21; refine ((unhide HPK) _).mono ?_; rintro r wq ⟨rfl, hwq⟩; rw [hwq]; clear hwq) | fail)
            refine (unhide HAC).mono ?_
            rintro r w8 ⟨rfl, col8, vs8, m8, k8, hy8, kO8, hk8, -⟩
            clear HAC
            have HH := hide (And.intro hy8 (And.intro kO8 hk8))
            have z8 := kO8.size
            have zz := zB.out
            clear hy8 kO8 hk8
            go_wp2_with fail
            refine ⟨⟨j + 1, col8, vs8, m8, k8, N1 + 24, by go_num, by omega, by omega, by omega, ?_, ?_, HH.out.2.2⟩, by simp [intOf]; omega⟩
            · exact HH.out.1.mono (fun b hb => by
                rcases hb with (hb | hb) | hb
                · exact .inl hb
                · exact .inr (by omega)
                · exact .inr (by have h1 := hb.1; have h2 := hb.2; omega))
            · exact (kO.trans (Kp.of_ext xB)).then HH.out.2.1 (fun i hi e => by
                rcases e with e | e
                · exact e
                · omega)
        · have hyT := HY6.out.apart kO (fun b hb ho => by omega) (fun b hb => by omega)
          have HYT := hide hyT
          have HXT := hide hy1
          have HKX := hide hk1
          have HKT := hide x7
          have hNx : N1 ≤ 2000 := by omega
          clear hyT hy1 hk1 x7
          generalize col1 = colx at *
          generalize m1 = mx at *
          generalize vs1 = vsx at *
          generalize k1 = kx at *
          generalize N1 = Nx at *
          have hsp : (decide ((j : Int) < (s.length : Int)) = true ∧ decide ((j : Int) < 60) = false ∧ (j : Int) < (s.length : Int) ∧ ¬ (j : Int) < 60) ∨ (decide ((j : Int) < (s.length : Int)) = false ∧ True ∧ ¬ (j : Int) < (s.length : Int) ∧ True) := by
            by_cases hj1 : j < s.length
            · exact .inl ⟨decide_eq_true (by omega), decide_eq_false (by omega), by omega, by omega⟩
            · exact .inr ⟨decide_eq_false (by omega), trivial, by omega, trivial⟩
          have zT := kO.size
          rcases hsp with ⟨dj1, dj2, dj3, dj4⟩ | ⟨dj1, dj2, dj3, dj4⟩
          all_goals (
            go_wp2_with fail
            clear kO z7 dj1 dj2 dj3 dj4 hjl hj hj60 hN1
            generalize wr = wT at *
            go_loopw [20] (fun i wr => ∃ (j : Nat) (col' : Colr) (vs' : List Value) (m' : Pl.Sc) (k' N' : Nat), i = .int .i64 j ∧ j ≤ t.length ∧ j ≤ 60 ∧ N' ≤ 1 + 24 * j ∧ YAt (grow (fun b => w1.heap.size ≤ b ∧ b < wS.heap.size) wT wr) { d with W := 1 + pw, G := pg } ey col' wr Yy X2 P2 m' vs' k' ∧ Kp (fun b => w1.heap.size ≤ b ∧ b < wS.heap.size) wT wr ∧ KxD { d with W := 1 + pw, G := pg } m' N' k' 0) (fun i _ => 70 - (intOf i).toNat)
            case atStart => exact ⟨0, _, _, _, 0, 1, rfl, by omega, by omega, by omega, HYT.out.mono (fun b hb => .inl hb), Kp.refl _ _, HKO2.out⟩
            case round =>
              obtain ⟨j, col1, vs1, m1, k1, N1, rfl, hj, hj60, hN1, hy1, kO, hk1⟩ := hrel
              have x7 : Ext w wr := HKT.out.then kO (fun i hi e => by omega)
              have z7 := kO.size
              by_cases hjl : j < t.length ∧ j < 60
              · have hj1 : (j : Int) < (t.length : Int) := by omega
                have hj2 : (j : Int) < 60 := by omega
                have jj0 : (0 : Int) ≤ (j : Int) := by omega
                have dj1 : decide ((j : Int) < (t.length : Int)) = true := decide_eq_true hj1
                have dj2 : decide ((j : Int) < 60) = true := decide_eq_true hj2
                obtain ⟨sb, soff, rfl, hsb, hcell⟩ := htcell (by omega)
                obtain ⟨q0, q1, q2⟩ := hcell j hjl.1
                obtain ⟨i0, i1, i2⟩ := htin t[j] (List.getElem_mem hjl.1)
                generalize t[j] = a at *
                have e0 := x7.cell q0 id
                have e1 := x7.cell q1 id
                have e2 := x7.cell q2 id
                have HPK := hide (fun u => kpick_any u a.1 7 i0.1 i0.2 (by omega) (by omega))
                have HFN : Hid (¬ pickP a.1 7 = 4 → failN a.1 = 0) := failN_of
                generalize a.1 = kd at *
                generalize a.2.1 = A at *
                generalize a.2.2 = B at *
                have xB : Ext wr (wr.alloc (.cells #[.int .i64 kd, .int .i64 A, .int .i64 B] 60)) := (Kp.refl _ _).alloc _
                have zB : Hid ((wr.alloc (.cells #[.int .i64 kd, .int .i64 A, .int .i64 B] 60)).heap.size = wr.heap.size + 1) := by show _ = _; simp
                clear q0 q1 q2 hcell
                by_cases h4 : pickP kd 7 = 4
                · rw [h4] at HPK
                  have xB2 : Ext wr (wr.alloc (.cells #[.int .i64 5, .int .i64 A, .int .i64 B] 60)) := (Kp.refl _ _).alloc _
                  have zB2 : Hid ((wr.alloc (.cells #[.int .i64 5, .int .i64 A, .int .i64 B] 60)).heap.size = wr.heap.size + 1) := by show _ = _; simp
                  have HAC := hide (act_any _ { d with W := 1 + pw, G := pg } ey col1 _ Yy X2 P2 m1 vs1 k1 N1 0 5 A B HD2.out hk1 (hy1.ext xB2) (by omega) ⟨by omega, by omega⟩ i1 i2)
                  rw [show failN 5 = 0 by decide] at HAC
                  clear hy1 hk1
                  go_wp2_with (first | (go_at_call 21; refine ((unhide HPK) _).mono ?_; rintro r wq ⟨rfl, hwq⟩; rw [hwq]; clear hwq) | fail)
                  refine (unhide HAC).mono ?_
                  rintro r w8 ⟨rfl, col8, vs8, m8, k8, hy8, kO8, hk8, -⟩
                  clear HAC
                  have HH := hide (And.intro hy8 (And.intro kO8 hk8))
                  have z8 := kO8.size
                  have zz := zB2.out
                  clear hy8 kO8 hk8
                  go_wp2_with fail
                  refine ⟨⟨j + 1, col8, vs8, m8, k8, N1 + 24, by go_num, by omega, by omega, by omega, ?_, ?_, HH.out.2.2⟩, by simp [intOf]; omega⟩
                  · exact HH.out.1.mono (fun b hb => by
                      rcases hb with (hb | hb) | hb
                      · exact .inl hb
                      · exact .inr (by omega)
                      · exact .inr (by have h1 := hb.1; have h2 := hb.2; omega))
                  · exact (kO.trans (Kp.of_ext xB2)).then HH.out.2.1 (fun i hi e => by
                      rcases e with e | e
                      · exact e
                      · omega)
                · have h4i : ¬ ((pickP kd 7 : Nat) : Int) = 4 := by omega
                  have HAC := hide (act_any _ { d with W := 1 + pw, G := pg } ey col1 _ Yy X2 P2 m1 vs1 k1 N1 0 kd A B HD2.out hk1 (hy1.ext xB) (by omega) i0 i1 i2)
                  rw [HFN.out h4] at HAC
                  clear hy1 hk1 h4
                  go_wp2_with (first | (go_at_call 21; refine ((unhide HPK) _).mono ?_; rintro r wq ⟨rfl, hwq⟩; rw [hwq]; clear hwq) | fail)
                  refine (unhide HAC).mono ?_
                  rintro r w8 ⟨rfl, col8, vs8, m8, k8, hy8, kO8, hk8, -⟩
                  clear HAC
                  have HH := hide (And.intro hy8 (And.intro kO8 hk8))
                  have z8 := kO8.size
                  have zz := zB.out
                  clear hy8 kO8 hk8
                  go_wp2_with fail
                  refine ⟨⟨j + 1, col8, vs8, m8, k8, N1 + 24, by go_num, by omega, by omega, by omega, ?_, ?_, HH.out.2.2⟩, by simp [intOf]; omega⟩
                  · exact HH.out.1.mono (fun b hb => by
                      rcases hb with (hb | hb) | hb
                      · exact .inl hb
                      · exact .inr (by omega)
                      · exact .inr (by have h1 := hb.1; have h2 := hb.2; omega))
                  · exact (kO.trans (Kp.of_ext xB)).then HH.out.2.1 (fun i hi e => by
                      rcases e with e | e
                      · exact e
                      · omega)
              · have hsp : (decide ((j : Int) < (t.length : Int)) = true ∧ decide ((j : Int) < 60) = false ∧ (j : Int) < (t.length : Int) ∧ ¬ (j : Int) < 60) ∨ (decide ((j : Int) < (t.length : Int)) = false ∧ True ∧ ¬ (j : Int) < (t.length : Int) ∧ True) := by
                  by_cases hj1 : j < t.length
                  · exact .inl ⟨decide_eq_true (by omega), decide_eq_false (by omega), by omega, by omega⟩
                  · exact .inr ⟨decide_eq_false (by omega), trivial, by omega, trivial⟩
                rcases hsp with ⟨dj1, dj2, dj3, dj4⟩ | ⟨dj1, dj2, dj3, dj4⟩
                all_goals (
                  have hxU := HXT.out.apart kO (fun b hb ho => by
                    rcases ho with ho | ho
                    · omega
                    · omega) (fun b hb => by omega)
                  have HYU := hide hy1
                  have HKU := hide hk1
                  have zU := kO.size
                  have HFX := hide (finishes_any _ d ex colx wr Yx Xx Px mx vsx kx Nx 0 hd HKX.out hxU (by omega))
                  have hnU := hN1
                  clear hy1 hk1 hxU
                  go_wp2_with fail
                  refine (unhide HFX).mono ?_
                  rintro r w6 ⟨rfl, col6, vs6, m6, k6, N6, hx6, kO6, hk6, hs6, -⟩
                  clear HFX
                  have z66 := kO6.size
                  have hyU := HYU.out.apart kO6 (fun b hb ho => by
                    rcases hb with hb | hb <;> rcases ho with ho | ho <;> omega) (fun b hb => by
                    rcases hb with hb | hb <;> omega)
                  have HFY := hide (finishes_any _ { d with W := 1 + pw, G := pg } ey col1 w6 Yy X2 P2 m1 vs1 k1 N1 0 HD2.out HKU.out hyU (by omega))
                  clear hyU
                  go_wp2_with fail
                  refine (unhide HFY).mono ?_
                  rintro r w7 ⟨rfl, col7, vs7, m7, k7, N7, hy7, kO7, hk7, hs7, -⟩
                  clear HFY
                  have z77 := kO7.size
                  have hx7 := hx6.apart kO7 (fun b hb ho => by
                    rcases hb with hb | hb <;> rcases ho with (ho | ho) | ho <;> omega) (fun b hb => by
                    rcases hb with hb | hb <;> omega)
                  have xw7 : Ext w w7 := ((HKT.out.then kO (fun i hi e => by omega)).then kO6 (fun i hi e => by
                    rcases e with e | e <;> omega)).then kO7 (fun i hi e => by
                    rcases e with e | e <;> omega)
                  rcases hk6.ended_of hs6 with ⟨rfl, hkx⟩ | ⟨-, hT⟩
                  · rcases hk7.ended_of hs7 with ⟨rfl, hky⟩ | ⟨-, hT⟩
                    · obtain ⟨_, _, _, _, _, _, xa, xc, _, _, hex⟩ := hx7.ends hd (by omega)
                      have hky' : k7 = totalOf d.gs := hky
                      obtain ⟨_, _, _, _, _, _, ya, yc, _, _, hey⟩ := hy7.ends HD2.out (Nat.le_of_eq hky)
                      rw [hkx] at hex
                      rw [hky'] at hey
                      obtain ⟨-, -, -, p8, p9, pg0⟩ := hex
                      obtain ⟨-, -, -, q8, q9, qg0⟩ := hey
                      have HSX : Hid (∀ u, Ext w7 u → Calls Tryz.prog 18 #[PtrTo Xx 0] u fun r w' => r = .returned (.int .i64 1) ∧ w' = u) := fun u hu => xState_any col6 u Xx Px (Pl.ended 1) (hx7.isX.kept hu (fun _ f => f.elim))
                      have HSY : Hid (∀ u, Ext w7 u → Calls Tryz.prog 18 #[PtrTo X2 0] u fun r w' => r = .returned (.int .i64 1) ∧ w' = u) := fun u hu => xState_any col7 u X2 P2 (Pl.ended 1) (hy7.isX.kept hu (fun _ f => f.elim))
                      have HX7 := hide xw7
                      have hcn : 0 < d.cols.length := by omega
                      clear hx7 hy7 hk6 hk7 kO6 kO7 hkx hky hky' xw7 hs6 hs7 hx6
                      go_wp2_with fail
                      have hS0 : w7.drew.cell? ⟨Yx, 8, none⟩ = some (PtrTo Xx 0) ∧ w7.drew.cell? ⟨Yx, 9, none⟩ = some (.slice (some ⟨ex.Lb, 0, none⟩) d.cols.length d.cols.length) ∧ w7.drew.cell? ⟨ex.Lb, 0, none⟩ = some (.slice xa (totalOf d.gs) xc) ∧ w7.drew.cell? ⟨Yy, 8, none⟩ = some (PtrTo X2 0) ∧ w7.drew.cell? ⟨Yy, 9, none⟩ = some (.slice (some ⟨ey.Lb, 0, none⟩) d.cols.length d.cols.length) ∧ w7.drew.cell? ⟨ey.Lb, 0, none⟩ = some (.slice ya (totalOf d.gs) yc) := ⟨p8, p9, pg0, q8, q9, qg0⟩
                      have xd7 : Ext w7 w7.drew := (Kp.refl _ _).drew
                      refine wp_region_late (n := 37) (fun u => u.cell? ⟨Yx, 8, none⟩ = some (PtrTo Xx 0) ∧ u.cell? ⟨Yx, 9, none⟩ = some (.slice (some ⟨ex.Lb, 0, none⟩) d.cols.length d.cols.length) ∧ u.cell? ⟨ex.Lb, 0, none⟩ = some (.slice xa (totalOf d.gs) xc) ∧ u.cell? ⟨Yy, 8, none⟩ = some (PtrTo X2 0) ∧ u.cell? ⟨Yy, 9, none⟩ = some (.slice (some ⟨ey.Lb, 0, none⟩) d.cols.length d.cols.length) ∧ u.cell? ⟨ey.Lb, 0, none⟩ = some (.slice ya (totalOf d.gs) yc)) (by kernel_rfl) ?_
                      refine Late.tk (i := 0) (oi := ⟨some 150, .move (.tmp 23), 4, "keep.go:326", #[], none⟩) (v := ?_) [37] rfl hS0 ?_ ?_
                      rotate_left
                      · (intro u hu; obtain ⟨u0, u1, u2, u3, u4, u5⟩ := hu; go_simp; first | done | with_reducible rfl)
                      try simp only [Act.put, lA, lZ, lS]
                      refine Late.tk (i := 1) (oi := ⟨some 151, .move (.tmp 150), 4, "keep.go:326", #[⟨0, .data⟩], none⟩) (v := ?_) [37] rfl hS0 ?_ ?_
                      rotate_left
                      · (intro u hu; obtain ⟨u0, u1, u2, u3, u4, u5⟩ := hu; go_simp; first | done | with_reducible rfl)
                      try simp only [Act.put, lA, lZ, lS]
                      refine Late.tkW (i := 2) (oi := ⟨some 152, .move (.tmp 24), 4, "keep.go:326", #[⟨1, .guard⟩], some (1, true)⟩) (v := ?_) [37] rfl hS0 ?_ ?_
                      rotate_left
                      · (intro u hu; obtain ⟨u0, u1, u2, u3, u4, u5⟩ := hu; go_simp; first | done | with_reducible rfl)
                      try simp only [Act.put, lA, lZ, lS]
                      refine Late.tk (i := 3) (oi := ⟨some 153, .pick (.tmp 151) (.tmp 152) (.const (.bool false)), 4, "keep.go:326", #[⟨1, .data⟩, ⟨2, .data⟩], none⟩) (v := ?_) [37] rfl hS0 ?_ ?_
                      rotate_left
                      · (intro u hu; obtain ⟨u0, u1, u2, u3, u4, u5⟩ := hu; go_simp; first | done | with_reducible rfl)
                      try simp only [Act.put, lA, lZ, lS]
                      refine Late.tk (i := 4) (oi := ⟨some 154, .move (.tmp 153), 4, "keep.go:326", #[⟨3, .data⟩, ⟨1, .chain⟩], none⟩) (v := ?_) [37] rfl hS0 ?_ ?_
                      rotate_left
                      · (intro u hu; obtain ⟨u0, u1, u2, u3, u4, u5⟩ := hu; go_simp; first | done | with_reducible rfl)
                      try simp only [Act.put, lA, lZ, lS]
                      refine Late.tkW (i := 5) (oi := ⟨some 155, .move (.tmp 11), 48, "keep.go:326", #[⟨4, .guard⟩], some (4, true)⟩) (v := ?_) [37] rfl hS0 ?_ ?_
                      rotate_left
                      · (intro u hu; obtain ⟨u0, u1, u2, u3, u4, u5⟩ := hu; go_simp; first | done | with_reducible rfl)
                      try simp only [Act.put, lA, lZ, lS]
                      refine Late.tkW (i := 6) (oi := ⟨some 156, .nilCheck (.tmp 155), 0, "keep.go:326", #[⟨5, .data⟩, ⟨4, .guard⟩], some (4, true)⟩) (v := ?_) [37] rfl hS0 ?_ ?_
                      rotate_left
                      · (intro u hu; obtain ⟨u0, u1, u2, u3, u4, u5⟩ := hu; go_simp; first | done | with_reducible rfl)
                      try simp only [Act.put, lA, lZ, lS]
                      refine Late.tkW (i := 7) (oi := ⟨some 157, .fieldAddr 53 (.tmp 156) 4, 0, "keep.go:326", #[⟨6, .data⟩, ⟨4, .guard⟩], some (4, true)⟩) (v := ?_) [37] rfl hS0 ?_ ?_
                      rotate_left
                      · (intro u hu; obtain ⟨u0, u1, u2, u3, u4, u5⟩ := hu; go_simp; first | done | with_reducible rfl)
                      try simp only [Act.put, lA, lZ, lS]
                      refine Late.tkW (i := 8) (oi := ⟨some 158, .load 50 (.tmp 157), 50, "keep.go:326", #[⟨7, .data⟩, ⟨4, .guard⟩], some (4, true)⟩) (v := ?_) [37] rfl hS0 ?_ ?_
                      rotate_left
                      · (intro u hu; obtain ⟨u0, u1, u2, u3, u4, u5⟩ := hu; go_simp; first | done | with_reducible rfl)
                      try simp only [Act.put, lA, lZ, lS]
                      refine Late.one (i := 9) (o := ⟨some 159, .call { callee := .value (.func 18), args := #[.tmp 158], argTypes := #[50] }, 3, "keep.go:326", #[⟨8, .data⟩, ⟨4, .chain⟩, ⟨4, .guard⟩], some (4, true)⟩) (by kernel_rfl) rfl (fun K hK => ?_)
                      refine step_call_w (by rfl) 18 #[PtrTo Xx 0] (by go_simp) ?_
                      refine ((unhide HSX) w7.drew xd7).mono ?_
                      rintro r w8 ⟨rfl, rfl⟩
                      refine ⟨_, rfl, hK _ _ (fun _ => hS0) ?_⟩
                      clear hK K
                      try simp only [Act.put, lA, lZ, lS]
                      refine Late.tkW (i := 10) (oi := ⟨some 160, .binOp .eql 3 (.tmp 159) (.const (.int .i64 1)) 3, 4, "keep.go:326", #[⟨9, .data⟩, ⟨4, .guard⟩], some (4, true)⟩) (v := ?_) [37] rfl hS0 ?_ ?_
                      rotate_left
                      · (intro u hu; obtain ⟨u0, u1, u2, u3, u4, u5⟩ := hu; go_simp; first | done | with_reducible rfl)
                      try simp only [Act.put, lA, lZ, lS]
                      refine Late.tk (i := 11) (oi := ⟨some 161, .pick (.tmp 154) (.tmp 160) (.const (.bool false)), 4, "keep.go:326", #[⟨4, .data⟩, ⟨10, .data⟩], none⟩) (v := ?_) [37] rfl hS0 ?_ ?_
                      rotate_left
                      · (intro u hu; obtain ⟨u0, u1, u2, u3, u4, u5⟩ := hu; go_simp; first | done | with_reducible rfl)
                      try simp only [Act.put, lA, lZ, lS]
                      refine Late.tk (i := 12) (oi := ⟨some 162, .move (.tmp 161), 4, "keep.go:326", #[⟨11, .data⟩, ⟨9, .chain⟩], none⟩) (v := ?_) [37] rfl hS0 ?_ ?_
                      rotate_left
                      · (intro u hu; obtain ⟨u0, u1, u2, u3, u4, u5⟩ := hu; go_simp; first | done | with_reducible rfl)
                      try simp only [Act.put, lA, lZ, lS]
                      refine Late.tkW (i := 13) (oi := ⟨some 163, .move (.tmp 12), 48, "keep.go:326", #[⟨12, .guard⟩], some (12, true)⟩) (v := ?_) [37] rfl hS0 ?_ ?_
                      rotate_left
                      · (intro u hu; obtain ⟨u0, u1, u2, u3, u4, u5⟩ := hu; go_simp; first | done | with_reducible rfl)
                      try simp only [Act.put, lA, lZ, lS]
                      refine Late.tkW (i := 14) (oi := ⟨some 164, .nilCheck (.tmp 163), 0, "keep.go:326", #[⟨13, .data⟩, ⟨12, .guard⟩], some (12, true)⟩) (v := ?_) [37] rfl hS0 ?_ ?_
                      rotate_left
                      · (intro u hu; obtain ⟨u0, u1, u2, u3, u4, u5⟩ := hu; go_simp; first | done | with_reducible rfl)
                      try simp only [Act.put, lA, lZ, lS]
                      refine Late.tkW (i := 15) (oi := ⟨some 165, .fieldAddr 53 (.tmp 164) 4, 0, "keep.go:326", #[⟨14, .data⟩, ⟨12, .guard⟩], some (12, true)⟩) (v := ?_) [37] rfl hS0 ?_ ?_
                      rotate_left
                      · (intro u hu; obtain ⟨u0, u1, u2, u3, u4, u5⟩ := hu; go_simp; first | done | with_reducible rfl)
                      try simp only [Act.put, lA, lZ, lS]
                      refine Late.tkW (i := 16) (oi := ⟨some 166, .load 50 (.tmp 165), 50, "keep.go:326", #[⟨15, .data⟩, ⟨12, .guard⟩], some (12, true)⟩) (v := ?_) [37] rfl hS0 ?_ ?_
                      rotate_left
                      · (intro u hu; obtain ⟨u0, u1, u2, u3, u4, u5⟩ := hu; go_simp; first | done | with_reducible rfl)
                      try simp only [Act.put, lA, lZ, lS]
                      refine Late.one (i := 17) (o := ⟨some 167, .call { callee := .value (.func 18), args := #[.tmp 166], argTypes := #[50] }, 3, "keep.go:326", #[⟨16, .data⟩, ⟨12, .chain⟩, ⟨12, .guard⟩], some (12, true)⟩) (by kernel_rfl) rfl (fun K hK => ?_)
                      refine step_call_w (by rfl) 18 #[PtrTo X2 0] (by go_simp) ?_
                      refine ((unhide HSY) w7.drew xd7).mono ?_
                      rintro r w8 ⟨rfl, rfl⟩
                      refine ⟨_, rfl, hK _ _ (fun _ => hS0) ?_⟩
                      clear hK K
                      try simp only [Act.put, lA, lZ, lS]
                      refine Late.tkW (i := 18) (oi := ⟨some 168, .binOp .eql 3 (.tmp 167) (.const (.int .i64 1)) 3, 4, "keep.go:326", #[⟨17, .data⟩, ⟨12, .guard⟩], some (12, true)⟩) (v := ?_) [37] rfl hS0 ?_ ?_
                      rotate_left
                      · (intro u hu; obtain ⟨u0, u1, u2, u3, u4, u5⟩ := hu; go_simp; first | done | with_reducible rfl)
                      try simp only [Act.put, lA, lZ, lS]
                      refine Late.tk (i := 19) (oi := ⟨some 169, .pick (.tmp 162) (.tmp 168) (.const (.bool false)), 4, "keep.go:326", #[⟨12, .data⟩, ⟨18, .data⟩], none⟩) (v := ?_) [37] rfl hS0 ?_ ?_
                      rotate_left
                      · (intro u hu; obtain ⟨u0, u1, u2, u3, u4, u5⟩ := hu; go_simp; first | done | with_reducible rfl)
                      try simp only [Act.put, lA, lZ, lS]
                      refine Late.tk (i := 20) (oi := ⟨some 170, .move (.tmp 169), 4, "keep.go:326", #[⟨19, .data⟩, ⟨17, .chain⟩], none⟩) (v := ?_) [37] rfl hS0 ?_ ?_
                      rotate_left
                      · (intro u hu; obtain ⟨u0, u1, u2, u3, u4, u5⟩ := hu; go_simp; first | done | with_reducible rfl)
                      try simp only [Act.put, lA, lZ, lS]
                      refine Late.tkW (i := 21) (oi := ⟨some 171, .move (.tmp 11), 48, "keep.go:326", #[⟨20, .guard⟩], some (20, true)⟩) (v := ?_) [37] rfl hS0 ?_ ?_
                      rotate_left
                      · (intro u hu; obtain ⟨u0, u1, u2, u3, u4, u5⟩ := hu; go_simp; first | done | with_reducible rfl)
                      try simp only [Act.put, lA, lZ, lS]
                      refine Late.tkW (i := 22) (oi := ⟨some 172, .nilCheck (.tmp 171), 0, "keep.go:326", #[⟨21, .data⟩, ⟨20, .guard⟩], some (20, true)⟩) (v := ?_) [37] rfl hS0 ?_ ?_
                      rotate_left
                      · (intro u hu; obtain ⟨u0, u1, u2, u3, u4, u5⟩ := hu; go_simp; first | done | with_reducible rfl)
                      try simp only [Act.put, lA, lZ, lS]
                      refine Late.tkW (i := 23) (oi := ⟨some 173, .fieldAddr 53 (.tmp 172) 5, 0, "keep.go:326", #[⟨22, .data⟩, ⟨20, .guard⟩], some (20, true)⟩) (v := ?_) [37] rfl hS0 ?_ ?_
                      rotate_left
                      · (intro u hu; obtain ⟨u0, u1, u2, u3, u4, u5⟩ := hu; go_simp; first | done | with_reducible rfl)
                      try simp only [Act.put, lA, lZ, lS]
                      refine Late.tkW (i := 24) (oi := ⟨some 174, .load 51 (.tmp 173), 51, "keep.go:326", #[⟨23, .data⟩, ⟨20, .guard⟩], some (20, true)⟩) (v := ?_) [37] rfl hS0 ?_ ?_
                      rotate_left
                      · (intro u hu; obtain ⟨u0, u1, u2, u3, u4, u5⟩ := hu; go_simp; first | done | with_reducible rfl)
                      try simp only [Act.put, lA, lZ, lS]
                      refine Late.tkW (i := 25) (oi := ⟨some 175, .indexAddr 51 (.tmp 174) (.const (.int .i64 0)), 0, "keep.go:326", #[⟨24, .data⟩, ⟨20, .guard⟩], some (20, true)⟩) (v := ?_) [37] rfl hS0 ?_ ?_
                      rotate_left
                      · (intro u hu; obtain ⟨u0, u1, u2, u3, u4, u5⟩ := hu; go_simp; first | done | with_reducible rfl)
                      try simp only [Act.put, lA, lZ, lS]
                      refine Late.tkW (i := 26) (oi := ⟨some 176, .load 46 (.tmp 175), 46, "keep.go:326", #[⟨25, .data⟩, ⟨20, .guard⟩], some (20, true)⟩) (v := ?_) [37] rfl hS0 ?_ ?_
                      rotate_left
                      · (intro u hu; obtain ⟨u0, u1, u2, u3, u4, u5⟩ := hu; go_simp; first | done | with_reducible rfl)
                      try simp only [Act.put, lA, lZ, lS]
                      refine Late.tkW (i := 27) (oi := ⟨some 177, .call { callee := .builtin .len, args := #[.tmp 176], argTypes := #[46] }, 3, "keep.go:326", #[⟨26, .data⟩, ⟨20, .guard⟩], some (20, true)⟩) (v := ?_) [37] rfl hS0 ?_ ?_
                      rotate_left
                      · (intro u hu; obtain ⟨u0, u1, u2, u3, u4, u5⟩ := hu; go_simp; first | done | with_reducible rfl)
                      try simp only [Act.put, lA, lZ, lS]
                      refine Late.tkW (i := 28) (oi := ⟨some 178, .move (.tmp 12), 48, "keep.go:326", #[⟨20, .guard⟩], some (20, true)⟩) (v := ?_) [37] rfl hS0 ?_ ?_
                      rotate_left
                      · (intro u hu; obtain ⟨u0, u1, u2, u3, u4, u5⟩ := hu; go_simp; first | done | with_reducible rfl)
                      try simp only [Act.put, lA, lZ, lS]
                      refine Late.tkW (i := 29) (oi := ⟨some 179, .nilCheck (.tmp 178), 0, "keep.go:326", #[⟨28, .data⟩, ⟨20, .guard⟩], some (20, true)⟩) (v := ?_) [37] rfl hS0 ?_ ?_
                      rotate_left
                      · (intro u hu; obtain ⟨u0, u1, u2, u3, u4, u5⟩ := hu; go_simp; first | done | with_reducible rfl)
                      try simp only [Act.put, lA, lZ, lS]
                      refine Late.tkW (i := 30) (oi := ⟨some 180, .fieldAddr 53 (.tmp 179) 5, 0, "keep.go:326", #[⟨29, .data⟩, ⟨20, .guard⟩], some (20, true)⟩) (v := ?_) [37] rfl hS0 ?_ ?_
                      rotate_left
                      · (intro u hu; obtain ⟨u0, u1, u2, u3, u4, u5⟩ := hu; go_simp; first | done | with_reducible rfl)
                      try simp only [Act.put, lA, lZ, lS]
                      refine Late.tkW (i := 31) (oi := ⟨some 181, .load 51 (.tmp 180), 51, "keep.go:326", #[⟨30, .data⟩, ⟨20, .guard⟩], some (20, true)⟩) (v := ?_) [37] rfl hS0 ?_ ?_
                      rotate_left
                      · (intro u hu; obtain ⟨u0, u1, u2, u3, u4, u5⟩ := hu; go_simp; first | done | with_reducible rfl)
                      try simp only [Act.put, lA, lZ, lS]
                      refine Late.tkW (i := 32) (oi := ⟨some 182, .indexAddr 51 (.tmp 181) (.const (.int .i64 0)), 0, "keep.go:326", #[⟨31, .data⟩, ⟨20, .guard⟩], some (20, true)⟩) (v := ?_) [37] rfl hS0 ?_ ?_
                      rotate_left
                      · (intro u hu; obtain ⟨u0, u1, u2, u3, u4, u5⟩ := hu; go_simp; first | done | with_reducible rfl)
                      try simp only [Act.put, lA, lZ, lS]
                      refine Late.tkW (i := 33) (oi := ⟨some 183, .load 46 (.tmp 182), 46, "keep.go:326", #[⟨32, .data⟩, ⟨20, .guard⟩], some (20, true)⟩) (v := ?_) [37] rfl hS0 ?_ ?_
                      rotate_left
                      · (intro u hu; obtain ⟨u0, u1, u2, u3, u4, u5⟩ := hu; go_simp; first | done | with_reducible rfl)
                      try simp only [Act.put, lA, lZ, lS]
                      refine Late.tkW (i := 34) (oi := ⟨some 184, .call { callee := .builtin .len, args := #[.tmp 183], argTypes := #[46] }, 3, "keep.go:326", #[⟨33, .data⟩, ⟨20, .guard⟩], some (20, true)⟩) (v := ?_) [37] rfl hS0 ?_ ?_
                      rotate_left
                      · (intro u hu; obtain ⟨u0, u1, u2, u3, u4, u5⟩ := hu; go_simp; first | done | with_reducible rfl)
                      try simp only [Act.put, lA, lZ, lS]
                      refine Late.tkW (i := 35) (oi := ⟨some 185, .binOp .eql 3 (.tmp 177) (.tmp 184) 3, 4, "keep.go:326", #[⟨27, .data⟩, ⟨34, .data⟩, ⟨20, .guard⟩], some (20, true)⟩) (v := ?_) [37] rfl hS0 ?_ ?_
                      rotate_left
                      · (intro u hu; obtain ⟨u0, u1, u2, u3, u4, u5⟩ := hu; go_simp; first | done | with_reducible rfl)
                      try simp only [Act.put, lA, lZ, lS]
                      refine Late.tk (i := 36) (oi := ⟨some 186, .pick (.tmp 170) (.tmp 185) (.const (.bool false)), 4, "keep.go:326", #[⟨20, .data⟩, ⟨35, .data⟩], none⟩) (v := ?_) [37] rfl hS0 ?_ ?_
                      rotate_left
                      · (intro u hu; obtain ⟨u0, u1, u2, u3, u4, u5⟩ := hu; go_simp; first | done | with_reducible rfl)
                      try simp only [Act.put, lA, lZ, lS]
                      refine Late.one (i := 37) (o := ⟨some 10, .assign (.tmp 186), 4, "keep.go:326", #[⟨36, .data⟩, ⟨20, .chain⟩, ⟨0, .phase⟩, ⟨1, .phase⟩, ⟨2, .phase⟩, ⟨3, .phase⟩, ⟨4, .phase⟩, ⟨5, .phase⟩, ⟨6, .phase⟩, ⟨7, .phase⟩, ⟨8, .phase⟩, ⟨9, .phase⟩, ⟨10, .phase⟩, ⟨11, .phase⟩, ⟨12, .phase⟩, ⟨13, .phase⟩, ⟨14, .phase⟩, ⟨15, .phase⟩, ⟨16, .phase⟩, ⟨17, .phase⟩, ⟨18, .phase⟩, ⟨19, .phase⟩, ⟨20, .phase⟩, ⟨21, .phase⟩, ⟨22, .phase⟩, ⟨23, .phase⟩, ⟨24, .phase⟩, ⟨25, .phase⟩, ⟨26, .phase⟩, ⟨27, .phase⟩, ⟨28, .phase⟩, ⟨29, .phase⟩, ⟨30, .phase⟩, ⟨31, .phase⟩, ⟨32, .phase⟩, ⟨33, .phase⟩, ⟨34, .phase⟩, ⟨35, .phase⟩, ⟨36, .phase⟩], none⟩) (by kernel_rfl) rfl (fun K hK => ?_)
                      go_simp
                      refine hK _ _ (fun h => absurd rfl h) ?_
                      clear hK K
                      try simp only [Act.put, lA, lZ, lS]
                      refine Late.done (by kernel_rfl) ?_ _
                      go_wp2_with fail
                      go_ret
                      exact ⟨rfl, HX7.out.trans xd7⟩
                    · have h1 := hd.T1
                      have h2 : d.T ≤ 0 := hT
                      omega
                  · have h1 := hd.T1
                    omega)
          )
end Go.Proofs.YthicgffppmbamaaGreat
