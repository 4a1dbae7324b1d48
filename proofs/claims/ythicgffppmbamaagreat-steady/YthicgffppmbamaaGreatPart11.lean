/- KsAct, KsFin, KsRead, KsArgs, KsSteady, KsActs. -/
import Derived.Deep.RegionHeld3
import Derived.Lib.SmallJoins
import Derived.Deep.Strs
import Derived.Test.YthicgffppmbamaaGreatPart1
import Derived.Test.YthicgffppmbamaaGreatPart10
namespace Go.Proofs.YthicgffppmbamaaGreat
open Go.RowKit

theorem cut_string (l : List UInt8) (p n : Nat) : (ByteArray.mk l.toArray).extract p (p + n) = ⟨(bytesAt l p n).toArray⟩ := by
  apply ByteArray.ext
  rw [ByteArray.data_extract]
  simp [bytesAt, List.extract_eq_take_drop]
theorem Ids.find {m : Pl.Sc} (h : Ids m) (i : Nat) (hi : i < m.asked.length) : Pl.findId m.asked (m.asked[i].1 : Int) = some i := by
  unfold Pl.findId
  rw [List.findIdx?_eq_some_iff_getElem]
  refine ⟨hi, by simp, fun j hj => ?_⟩
  have hp := List.pairwise_iff_getElem.1 h.1 j i (by simp; omega) (by simpa using hi) hj
  simp only [List.getElem_map] at hp
  simp only [decide_eq_false_iff_not, Bool.not_eq_true]
  omega
theorem Kx.fine {d : Yp} {m : Pl.Sc} {N k F : Nat} (hd : DOk d) (h : KxD d m N k F) (hN : N ≤ 1000000000) : FineOk m d.W d.file.length := by
  by_cases hs : m.state = 0
  · obtain ⟨hg, hr, -⟩ := h.going hs
    have hset := h.mo.1.set hs
    have hw := hg.window (by rw [hset.1]; exact hd.W1)
    rw [hset.1] at hw
    have hpt : ∀ q ∈ m.asked, PtOk m.size m.tries q.2 := fun q hq => hg.core.parts q.2 (List.mem_append.2 (.inl (List.mem_map.2 ⟨q, hq, rfl⟩)))
    refine ⟨hw, fun q hq => by have := (hpt q hq).data; omega, fun q hq => ?_, fun i hi => ?_, fun q hq => ?_⟩
    · have h1 := (hpt q hq).data
      have h2 := h.within.asked q hq
      rw [h.size hs] at h2
      show _ ≤ (Ft d.names d.gs).length
      omega
    · have := List.pairwise_iff_getElem.1 h.ids.1 i (i + 1) (by simp; omega) (by simpa using hi) (by omega)
      simpa using this
    · have h1 := (h.ids.2 q hq).2
      have h2 := hg.core.lastId
      omega
  · have : m.asked = [] := by
      rcases h.ended_of hs with ⟨e, -⟩ | ⟨e, -⟩ <;> rw [e] <;> rfl
    refine ⟨by rw [this]; simp, ?_, ?_, ?_, ?_⟩ <;> simp [this]
theorem Kx.monoF {names : List (List UInt8)} {gs : List (List (List Int))} {cols : List Nat} {w t r : Nat} {m : Pl.Sc} {N k F F' : Nat} (h : Kx names gs cols w t r m N k F) (hF : F ≤ F') : Kx names gs cols w t r m N k F' :=
  ⟨h.sound, h.ids, h.within, ⟨h.mo.1.set, fun e => Nat.le_trans (h.mo.1.st4 e) hF, h.mo.1.no5, fun x hx => Nat.le_trans (h.mo.1.fails x hx) hF, h.mo.1.live⟩, h.mo.2⟩
/-- how far an act fails something -/
def failN (kd : Int) : Nat := if pickP kd 7 = 4 then 1 else 0
/-- an act that answers, or takes, brings the end nearer -/
def Acted (gs : List (List (List Int))) (kd : Int) (m m' : Pl.Sc) (k k' : Nat) : Prop := pickP kd 7 = 0 → (m.asked = [] ∧ Took gs m m' k k') ∨ (m.asked ≠ [] ∧ k' = k ∧ (m'.state = 0 → Phi gs m' k' + 1 ≤ Phi gs m k))
def InI (x : Int) : Prop := -9223372036854775808 ≤ x ∧ x ≤ 9223372036854775807

set_option maxRecDepth 20000 in
set_option maxHeartbeats 8000000 in
theorem act_any (O : Nat → Prop) (d : Yp) (e : Ym) (col : Colr) (w : World) (Y X P : Nat) (m : Pl.Sc) (vs : List Value) (k N F : Nat) (kd A B : Int) (hd : DOk d) (hk : KxD d m N k F) (hy : YAt O d e col w Y X P m vs k) (hN : N ≤ 1000000) (hkd : InI kd) (hA : InI A) (hB : InI B) :
    Calls Tryz.prog 20 #[PtrTo Y 0, .agg #[.int .i64 kd, .int .i64 A, .int .i64 B]] w fun r w' => r = .returned (.bool true) ∧ ∃ col' vs' m' k', YAt (grow O w w') d e col' w' Y X P m' vs' k' ∧ Kp O w w' ∧ KxD d m' (N + 24) k' (F + failN kd) ∧ Acted d.gs kd m m' k k' := by
  have x0 : Ext w (w.alloc (.cells #[.int .i64 kd, .int .i64 A, .int .i64 B] 60)) := (Kp.refl _ _).alloc _
  have bA := Blk.of_alloc w [.int .i64 kd, .int .i64 A, .int .i64 B] 60
  have z0 : Hid ((w.alloc (.cells #[.int .i64 kd, .int .i64 A, .int .i64 B] 60)).heap.size = w.heap.size + 1) := by show _ = _; simp
  have hy0 := hy.ext x0
  have c8 := hy0.blk.cell 8
  simp only [yCells, List.getElem?_cons_zero, List.getElem?_cons_succ] at c8
  have hfine := hk.fine hd (by omega)
  have hal : m.asked.length ≤ 4 := by have := hfine.win; have := hd.W4; omega
  have HAS := hide (xAsked_any col _ X P m hy0.isX (by omega))
  go_enter Tryz.func20, Tryz.ntmps20
  go_wp2_with fail
  generalize w.alloc (.cells #[.int .i64 kd, .int .i64 A, .int .i64 B] 60) = W0 at *
  refine (unhide HAS).mono ?_
  rintro r w1 ⟨lv, rfl, ol, x1, hlg⟩
  clear HAS
  have hy1 := hy0.ext x1
  have y4 := hy1.blk.cell 4
  have y2 := hy1.blk.cell 2
  simp only [yCells, I, List.getElem?_cons_zero, List.getElem?_cons_succ] at y4 y2
  have hfl4 : d.file.length ≤ 4000 := ft_len hd.fl.ok
  have HF := hide (fine_any w1 Y d.W d.file.length ⟨d.file.toArray⟩ m lv hfine hd.W4 hfl4 (by show d.file.toArray.size = _; simp) y4 y2 ol)
  clear c8
  obtain ⟨la, lc, rfl, hlc⟩ := ol.shape
  go_wp2_with fail
  refine (unhide HF).mono ?_
  rintro r w2 ⟨rfl, x2⟩
  clear HF
  have x02 : Ext w w2 := (x0.trans x1).trans x2
  have hy2 := hy1.ext x2
  have bA2 := bA.kept (x1.trans x2) id
  have a0 := bA2.cell 0
  have a1 := bA2.cell 1
  have a2 := bA2.cell 2
  simp only [List.getElem?_cons_zero, List.getElem?_cons_succ] at a0 a1 a2
  have ol2 := ol.ext x2
  have HPK := hide (fun u => kpick_any u kd 7 hkd.1 hkd.2 (by omega) (by omega))
  have hk7 := pickP_lt kd 7 (by omega)
  have HFA : Hid (failN kd = (if pickP kd 7 = 4 then 1 else 0)) := rfl
  have HAC : Hid (∀ m' k', Acted d.gs kd m m' k k' ↔ (pickP kd 7 = 0 → (m.asked = [] ∧ Took d.gs m m' k k') ∨ (m.asked ≠ [] ∧ k' = k ∧ (m'.state = 0 → Phi d.gs m' k' + 1 ≤ Phi d.gs m k)))) := fun _ _ => Iff.rfl
  generalize pickP kd 7 = kn at *
  have e8 := hy2.blk.cell 8
  have e2 := hy2.blk.cell 2
  simp only [yCells, I, List.getElem?_cons_zero, List.getElem?_cons_succ] at e8 e2
  have z02 := x02.size
  clear bA hy0 hy1 y4 y2 x1 x2 ol
  go_wp2_with fail
  refine ((unhide HPK) _).mono ?_
  rintro r w2' ⟨rfl, rfl⟩
  clear HPK
  by_cases h5 : kn = 5
  · subst h5
    have HT := hide (gTick_any col w2' X P m N ⟨hy2.isX, hk.sound.good⟩ (by omega))
    go_wp2_with fail
    refine (unhide HT).mono ?_
    rintro r w3 ⟨rfl, col', hX, hW⟩
    clear HT
    go_wp2_with fail
    go_ret
    obtain ⟨hy3, k3⟩ := hy2.scan hX.1 hW
    obtain ⟨t1, t2, t3⟩ := hk.tick (by omega)
    exact ⟨rfl, col', vs, Pl.tick m, k, hy3.mono (fun b hb => hb.imp id (fun h => ⟨by omega, h.2⟩)), (Kp.of_ext x02).trans k3, (t1.mono (by omega)).monoF (Nat.le_add_right _ _), (HAC.out _ _).2 (fun h => by omega)⟩
  · have h5i : ¬ (kn : Int) = 5 := by omega
    by_cases h6 : kn = 6
    · subst h6
      have HTk := hide (takes_any O d e col w2' Y X P m vs k N F hd hk hy2)
      go_wp2_with fail
      refine (unhide HTk).mono ?_
      rintro r w3 ⟨rfl, col', vs', k', hy3, k3, hk3, htk⟩
      clear HTk
      go_wp2_with fail
      go_ret
      exact ⟨rfl, col', vs', (Pl.next m).1, k', hy3.mono (fun b hb => hb.imp id (fun h => ⟨by omega, h.2⟩)), (Kp.of_ext x02).trans k3, (hk3.mono (by omega)).monoF (Nat.le_add_right _ _), (HAC.out _ _).2 (fun h => by omega)⟩
    · have h6i : ¬ (kn : Int) = 6 := by omega
      by_cases hl0 : m.asked.length = 0
      · have hl0i : (m.asked.length : Int) = 0 := by omega
        have HTk := hide (takes_any O d e col w2' Y X P m vs k N F hd hk hy2)
        have HL0 := hide hl0
        clear hl0
        go_wp2_with fail
        refine (unhide HTk).mono ?_
        rintro r w3 ⟨rfl, col', vs', k', hy3, k3, hk3, htk⟩
        clear HTk
        go_wp2_with fail
        go_ret
        exact ⟨rfl, col', vs', (Pl.next m).1, k', hy3.mono (fun b hb => hb.imp id (fun h => ⟨by omega, h.2⟩)), (Kp.of_ext x02).trans k3, (hk3.mono (by omega)).monoF (Nat.le_add_right _ _), (HAC.out _ _).2 (fun _ => .inl ⟨List.eq_nil_of_length_eq_zero HL0.out, htk⟩)⟩
      · have hl0i : ¬ (m.asked.length : Int) = 0 := by omega
        have hi := pickP_lt A m.asked.length (by omega)
        have HPA := hide (fun u => kpick_any u A m.asked.length hA.1 hA.2 (by omega) (by omega))
        generalize pickP A m.asked.length = i at *
        have hii : (i : Int) < (m.asked.length : Int) := by omega
        have ii0 : (0 : Int) ≤ (i : Int) := by omega
        obtain ⟨ga, ca, he, _, hga, hc⟩ := ol2.at (by omega)
        cases he
        have hck : ∀ j, j < 3 → w2'.cell? ⟨ga, i * 3 + j, none⟩ = (askCells m.asked[i])[j]? := fun j hj => by
          rw [hc (i * 3 + j) (by omega), fm_at askCells 3 (fun _ => rfl) m.asked i j hi hj]
        have d0 := hck 0 (by omega)
        have d1 := hck 1 (by omega)
        have d2 := hck 2 (by omega)
        simp only [askCells, I, List.getElem?_cons_zero, List.getElem?_cons_succ, Nat.add_zero] at d0 d1 d2
        have hq := List.getElem_mem hi
        have q1 := hfine.len _ hq
        have q2 := hfine.ends _ hq
        have q3 := hfine.small _ hq
        have hfd := hk.ids.find i hi
        have hpart : Pl.partAt m i = m.asked[i].2 := by unfold Pl.partAt; rw [List.getD_eq_getElem?_getD, List.getElem?_eq_getElem hi]; rfl
        have HAN := hide (fun n h1 h2 => Kx.answer hd.fl hk (m.asked[i].1 : Int) i n hfd h1 h2)
        have HFL := hide (hk.fail (m.asked[i].1 : Int) i hfd)
        rw [hpart] at HAN
        clear hck hc hpart hfd
        generalize m.asked[i].2.place + m.asked[i].2.data.length = pl at *
        generalize m.asked[i].2.length - m.asked[i].2.data.length = ll at *
        generalize m.asked[i].1 = qi at *
        have xR : Ext w2' (w2'.alloc (.cells #[.int .i64 (qi : Int), .int .i64 (pl : Int), .int .i64 (ll : Int)] 72)) := (Kp.refl _ _).alloc _
        have bR := Blk.of_alloc w2' [.int .i64 (qi : Int), .int .i64 (pl : Int), .int .i64 (ll : Int)] 72
        have hne : m.asked ≠ [] := fun h => hl0 (by rw [h]; rfl)
        have HNE := hide hne
        have hbz : (((m.asked.length : Nat) : Int) == 0) = false := by simpa using hl0i
        clear hl0
        go_upto_region 12 with (first | (go_at_call 21; refine ((unhide HPA) _).mono ?_; rintro r w2x ⟨rfl, hwx⟩; rw [hwx]; clear hwx) | fail)
        have g8 := xR.cell e8 id
        have g2 := xR.cell e2 id
        have ga2 := xR.cell a2 id
        have r0 := bR.cell 0
        have r1 := bR.cell 1
        have r2 := bR.cell 2
        simp only [List.getElem?_cons_zero, List.getElem?_cons_succ] at r0 r1 r2
        have zR : Hid ((w2'.alloc (.cells #[.int .i64 (qi : Int), .int .i64 (pl : Int), .int .i64 (ll : Int)] 72)).heap.size = w2'.heap.size + 1) := by show _ = _; simp
        generalize w2'.alloc (.cells #[.int .i64 (qi : Int), .int .i64 (pl : Int), .int .i64 (ll : Int)] 72) = W3 at *
        have hy3 := hy2.ext xR
        have x03 := x02.trans xR
        have z03 := x03.size
        by_cases h4 : kn = 4
        · subst h4
          have HFC := hide (gFail_any col W3.drew X P m N ⟨(hy3.isX.kept (S := fun _ => False) ((Kp.refl _ _).drew) (fun _ f => f.elim)), hk.sound.good⟩ (qi : Int))
          go_wp2_with fail
          have hS0 : W3.drew.cell? ⟨Y, 8, none⟩ = some (PtrTo X 0) ∧ W3.drew.cell? ⟨w2'.heap.size, 0, none⟩ = some (.int .i64 (qi : Int)) := ⟨g8, r0⟩
          refine wp_region_late (n := 6) (fun u => u.cell? ⟨Y, 8, none⟩ = some (PtrTo X 0) ∧ u.cell? ⟨w2'.heap.size, 0, none⟩ = some (.int .i64 (qi : Int))) (by kernel_rfl) ?_
          refine Late.take (i := 0) (oi := ⟨some 61, .move (.tmp 0), 48, "keep.go:226", #[], none⟩) (v := ?_) [1, 2, 3, 6] rfl (by kernel_rfl) (by kernel_rfl) (by decide) (by decide) (by kernel_rfl) (by kernel_rfl) (by kernel_rfl) (fun _ _ _ h => h) rfl ?_ hS0 ?_
          rotate_left
          · (intro u hu; obtain ⟨u0, u1⟩ := hu; go_simp; first | done | with_reducible rfl)
          try simp only [Act.put, List.setIfInBounds_toArray, List.set_cons_zero, List.set_cons_succ]
          refine Late.take (i := 1) (oi := ⟨some 62, .nilCheck (.tmp 61), 0, "keep.go:226", #[⟨0, .data⟩], none⟩) (v := ?_) [2, 3, 6] rfl (by kernel_rfl) (by kernel_rfl) (by decide) (by decide) (by kernel_rfl) (by kernel_rfl) (by kernel_rfl) (fun _ _ _ h => h) rfl ?_ hS0 ?_
          rotate_left
          · (intro u hu; obtain ⟨u0, u1⟩ := hu; go_simp; first | done | with_reducible rfl)
          try simp only [Act.put, List.setIfInBounds_toArray, List.set_cons_zero, List.set_cons_succ]
          refine Late.take (i := 2) (oi := ⟨some 63, .fieldAddr 53 (.tmp 62) 4, 0, "keep.go:226", #[⟨1, .data⟩], none⟩) (v := ?_) [3, 6] rfl (by kernel_rfl) (by kernel_rfl) (by decide) (by decide) (by kernel_rfl) (by kernel_rfl) (by kernel_rfl) (fun _ _ _ h => h) rfl ?_ hS0 ?_
          rotate_left
          · (intro u hu; obtain ⟨u0, u1⟩ := hu; go_simp; first | done | with_reducible rfl)
          try simp only [Act.put, List.setIfInBounds_toArray, List.set_cons_zero, List.set_cons_succ]
          refine Late.take (i := 3) (oi := ⟨some 64, .load 50 (.tmp 63), 50, "keep.go:226", #[⟨2, .data⟩], none⟩) (v := ?_) [6] rfl (by kernel_rfl) (by kernel_rfl) (by decide) (by decide) (by kernel_rfl) (by kernel_rfl) (by kernel_rfl) (fun _ _ _ h => h) rfl ?_ hS0 ?_
          rotate_left
          · (intro u hu; obtain ⟨u0, u1⟩ := hu; go_simp; first | done | with_reducible rfl)
          try simp only [Act.put, List.setIfInBounds_toArray, List.set_cons_zero, List.set_cons_succ]
          refine Late.take (i := 4) (oi := ⟨some 65, .fieldAddr 72 (.tmp 8) 0, 0, "keep.go:226", #[], none⟩) (v := ?_) [5, 6] rfl (by kernel_rfl) (by kernel_rfl) (by decide) (by decide) (by kernel_rfl) (by kernel_rfl) (by kernel_rfl) (fun _ _ _ h => h) rfl ?_ hS0 ?_
          rotate_left
          · (intro u hu; obtain ⟨u0, u1⟩ := hu; go_simp; first | done | with_reducible rfl)
          try simp only [Act.put, List.setIfInBounds_toArray, List.set_cons_zero, List.set_cons_succ]
          refine Late.take (i := 5) (oi := ⟨some 66, .load 3 (.tmp 65), 3, "keep.go:226", #[⟨4, .data⟩], none⟩) (v := ?_) [6] rfl (by kernel_rfl) (by kernel_rfl) (by decide) (by decide) (by kernel_rfl) (by kernel_rfl) (by kernel_rfl) (fun _ _ _ h => h) rfl ?_ hS0 ?_
          rotate_left
          · (intro u hu; obtain ⟨u0, u1⟩ := hu; go_simp; first | done | with_reducible rfl)
          try simp only [Act.put, List.setIfInBounds_toArray, List.set_cons_zero, List.set_cons_succ]
          refine Late.one (i := 6) (o := ⟨some 67, .call { callee := .value (.func 27), args := #[.tmp 64, .tmp 66], argTypes := #[50, 3] }, 63, "keep.go:226", #[⟨3, .data⟩, ⟨5, .data⟩], none⟩) (by kernel_rfl) rfl (fun K hK => ?_)
          refine step_call_g rfl 27 #[PtrTo X 0, .int .i64 (qi : Int)] (by go_simp) ?_
          refine (unhide HFC).mono ?_
          rintro r w4 ⟨rfl, col', hX, hW⟩
          obtain ⟨f1, f2⟩ := HFL.out
          have xd : Ext W3 W3.drew := (Kp.refl _ _).drew
          obtain ⟨hy4, k4⟩ := (hy3.ext xd).scan hX.1 hW
          have p8 := hy4.blk.cell 8
          simp only [yCells, List.getElem?_cons_zero, List.getElem?_cons_succ] at p8
          have hcR : col w2'.heap.size = .out := hy2.isX.top _ (Nat.le_refl _)
          have p0 := hW.kept.cell (xd.cell r0 id) (fun h => h hcR)
          rw [f1]
          refine ⟨_, rfl, hK _ _ (fun _ => ⟨p8, p0⟩) ?_⟩
          clear hK K
          try simp only [Act.put, List.setIfInBounds_toArray, List.set_cons_zero, List.set_cons_succ]
          refine Late.one (i := 7) (o := ⟨some 10, .assign (.tmp 67), 63, "keep.go:226", #[⟨6, .data⟩, ⟨6, .chain⟩, ⟨0, .phase⟩, ⟨1, .phase⟩, ⟨2, .phase⟩, ⟨3, .phase⟩, ⟨4, .phase⟩, ⟨5, .phase⟩, ⟨6, .phase⟩], none⟩) (by kernel_rfl) rfl (fun K hK => ?_)
          go_simp
          refine hK _ _ (fun _ => ⟨p8, p0⟩) ?_
          clear hK K
          try simp only [Act.put, List.setIfInBounds_toArray, List.set_cons_zero, List.set_cons_succ]
          refine Late.done (by kernel_rfl) ?_ _
          have HY4 := hide hy4
          have HK4 := hide k4
          clear hy4 k4 hX hW
          go_wp2_with fail
          go_ret
          have z4 := HK4.out.size
          refine ⟨rfl, col', vs, (Pl.fail m (qi : Int)).1, k, HY4.out.mono (fun b hb => hb.imp id (fun h => ⟨by have h1 : W3.heap.size ≤ b := h.1; omega, h.2⟩)), (Kp.of_ext (x03.trans xd)).trans HK4.out, ?_, (HAC.out _ _).2 (fun h => by omega)⟩
          rw [HFA.out]
          exact f2.mono (by omega)
        · have h4i : ¬ (kn : Int) = 4 := by omega
          have pl0 : (0 : Int) ≤ (pl : Int) := by omega
          by_cases h3 : kn = 3
          · subst h3
            have hbl := pickP_lt B ll (by omega)
            have HPB := hide (fun u => kpick_any u B ll hB.1 hB.2 (by omega) (by omega))
            generalize pickP B ll = pb at *
            have pl1 : (pl : Int) ≤ (pl : Int) + (1 + (pb : Int)) := by omega
            have pl2 : (pl : Int) + (1 + (pb : Int)) ≤ (d.file.length : Int) := by omega
            have ew : IntKind.i64.wrap ((pl : Int) + (1 + (pb : Int))) = (pl : Int) + (1 + (pb : Int)) := by simp [IntKind.wrap, IntKind.bits, IntKind.signed]; omega
            have HCut : Hid ((ByteArray.mk d.file.toArray).extract pl ((pl : Int) + (1 + (pb : Int))).toNat = ⟨(bytesAt d.file pl (1 + pb)).toArray⟩) := by
              show _ = _
              rw [show ((pl : Int) + (1 + (pb : Int))).toNat = pl + (1 + pb) by omega]
              exact cut_string _ _ _
            have HAC2 := hide (gAnswer_any col W3.drew X P m N ⟨(hy3.isX.kept (S := fun _ => False) ((Kp.refl _ _).drew) (fun _ f => f.elim)), hk.sound.good⟩ (by omega) (qi : Int) (bytesAt d.file pl (1 + pb)) (by unfold bytesAt; rw [List.length_take]; omega))
            go_wp2_with (go_at_call 21; refine ((unhide HPB) _).mono ?_; rintro r w3x ⟨rfl, hwx⟩; rw [hwx]; clear hwx)
            have hS0 : W3.drew.cell? ⟨Y, 8, none⟩ = some (PtrTo X 0) ∧ W3.drew.cell? ⟨Y, 2, none⟩ = some (.string ⟨d.file.toArray⟩) ∧ W3.drew.cell? ⟨w2'.heap.size, 0, none⟩ = some (.int .i64 (qi : Int)) ∧ W3.drew.cell? ⟨w2'.heap.size, 1, none⟩ = some (.int .i64 (pl : Int)) := ⟨g8, g2, r0, r1⟩
            refine wp_region_late (n := 17) (fun u => u.cell? ⟨Y, 8, none⟩ = some (PtrTo X 0) ∧ u.cell? ⟨Y, 2, none⟩ = some (.string ⟨d.file.toArray⟩) ∧ u.cell? ⟨w2'.heap.size, 0, none⟩ = some (.int .i64 (qi : Int)) ∧ u.cell? ⟨w2'.heap.size, 1, none⟩ = some (.int .i64 (pl : Int))) (by kernel_rfl) ?_
            refine Late.take (i := 0) (oi := ⟨some 70, .move (.tmp 0), 48, "keep.go:229", #[], none⟩) (v := ?_) [1, 2, 3, 17] rfl (by kernel_rfl) (by kernel_rfl) (by decide) (by decide) (by kernel_rfl) (by kernel_rfl) (by kernel_rfl) (fun _ _ _ h => h) rfl ?_ hS0 ?_
            rotate_left
            · (intro u hu; obtain ⟨u0, u1, u2, u3⟩ := hu; go_simp; first | done | with_reducible rfl)
            try simp only [Act.put, List.setIfInBounds_toArray, List.set_cons_zero, List.set_cons_succ]
            refine Late.take (i := 1) (oi := ⟨some 71, .nilCheck (.tmp 70), 0, "keep.go:229", #[⟨0, .data⟩], none⟩) (v := ?_) [2, 3, 17] rfl (by kernel_rfl) (by kernel_rfl) (by decide) (by decide) (by kernel_rfl) (by kernel_rfl) (by kernel_rfl) (fun _ _ _ h => h) rfl ?_ hS0 ?_
            rotate_left
            · (intro u hu; obtain ⟨u0, u1, u2, u3⟩ := hu; go_simp; first | done | with_reducible rfl)
            try simp only [Act.put, List.setIfInBounds_toArray, List.set_cons_zero, List.set_cons_succ]
            refine Late.take (i := 2) (oi := ⟨some 72, .fieldAddr 53 (.tmp 71) 4, 0, "keep.go:229", #[⟨1, .data⟩], none⟩) (v := ?_) [3, 17] rfl (by kernel_rfl) (by kernel_rfl) (by decide) (by decide) (by kernel_rfl) (by kernel_rfl) (by kernel_rfl) (fun _ _ _ h => h) rfl ?_ hS0 ?_
            rotate_left
            · (intro u hu; obtain ⟨u0, u1, u2, u3⟩ := hu; go_simp; first | done | with_reducible rfl)
            try simp only [Act.put, List.setIfInBounds_toArray, List.set_cons_zero, List.set_cons_succ]
            refine Late.take (i := 3) (oi := ⟨some 73, .load 50 (.tmp 72), 50, "keep.go:229", #[⟨2, .data⟩], none⟩) (v := ?_) [17] rfl (by kernel_rfl) (by kernel_rfl) (by decide) (by decide) (by kernel_rfl) (by kernel_rfl) (by kernel_rfl) (fun _ _ _ h => h) rfl ?_ hS0 ?_
            rotate_left
            · (intro u hu; obtain ⟨u0, u1, u2, u3⟩ := hu; go_simp; first | done | with_reducible rfl)
            try simp only [Act.put, List.setIfInBounds_toArray, List.set_cons_zero, List.set_cons_succ]
            refine Late.take (i := 4) (oi := ⟨some 74, .fieldAddr 72 (.tmp 8) 0, 0, "keep.go:229", #[], none⟩) (v := ?_) [5, 17] rfl (by kernel_rfl) (by kernel_rfl) (by decide) (by decide) (by kernel_rfl) (by kernel_rfl) (by kernel_rfl) (fun _ _ _ h => h) rfl ?_ hS0 ?_
            rotate_left
            · (intro u hu; obtain ⟨u0, u1, u2, u3⟩ := hu; go_simp; first | done | with_reducible rfl)
            try simp only [Act.put, List.setIfInBounds_toArray, List.set_cons_zero, List.set_cons_succ]
            refine Late.take (i := 5) (oi := ⟨some 75, .load 3 (.tmp 74), 3, "keep.go:229", #[⟨4, .data⟩], none⟩) (v := ?_) [17] rfl (by kernel_rfl) (by kernel_rfl) (by decide) (by decide) (by kernel_rfl) (by kernel_rfl) (by kernel_rfl) (fun _ _ _ h => h) rfl ?_ hS0 ?_
            rotate_left
            · (intro u hu; obtain ⟨u0, u1, u2, u3⟩ := hu; go_simp; first | done | with_reducible rfl)
            try simp only [Act.put, List.setIfInBounds_toArray, List.set_cons_zero, List.set_cons_succ]
            refine Late.take (i := 6) (oi := ⟨some 76, .move (.tmp 0), 48, "keep.go:229", #[], none⟩) (v := ?_) [7, 8, 9, 16, 17] rfl (by kernel_rfl) (by kernel_rfl) (by decide) (by decide) (by kernel_rfl) (by kernel_rfl) (by kernel_rfl) (fun _ _ _ h => h) rfl ?_ hS0 ?_
            rotate_left
            · (intro u hu; obtain ⟨u0, u1, u2, u3⟩ := hu; go_simp; first | done | with_reducible rfl)
            try simp only [Act.put, List.setIfInBounds_toArray, List.set_cons_zero, List.set_cons_succ]
            refine Late.take (i := 7) (oi := ⟨some 77, .nilCheck (.tmp 76), 0, "keep.go:229", #[⟨6, .data⟩], none⟩) (v := ?_) [8, 9, 16, 17] rfl (by kernel_rfl) (by kernel_rfl) (by decide) (by decide) (by kernel_rfl) (by kernel_rfl) (by kernel_rfl) (fun _ _ _ h => h) rfl ?_ hS0 ?_
            rotate_left
            · (intro u hu; obtain ⟨u0, u1, u2, u3⟩ := hu; go_simp; first | done | with_reducible rfl)
            try simp only [Act.put, List.setIfInBounds_toArray, List.set_cons_zero, List.set_cons_succ]
            refine Late.take (i := 8) (oi := ⟨some 78, .fieldAddr 53 (.tmp 77) 1, 0, "keep.go:229", #[⟨7, .data⟩], none⟩) (v := ?_) [9, 16, 17] rfl (by kernel_rfl) (by kernel_rfl) (by decide) (by decide) (by kernel_rfl) (by kernel_rfl) (by kernel_rfl) (fun _ _ _ h => h) rfl ?_ hS0 ?_
            rotate_left
            · (intro u hu; obtain ⟨u0, u1, u2, u3⟩ := hu; go_simp; first | done | with_reducible rfl)
            try simp only [Act.put, List.setIfInBounds_toArray, List.set_cons_zero, List.set_cons_succ]
            refine Late.take (i := 9) (oi := ⟨some 79, .load 9 (.tmp 78), 9, "keep.go:229", #[⟨8, .data⟩], none⟩) (v := ?_) [16, 17] rfl (by kernel_rfl) (by kernel_rfl) (by decide) (by decide) (by kernel_rfl) (by kernel_rfl) (by kernel_rfl) (fun _ _ _ h => h) rfl ?_ hS0 ?_
            rotate_left
            · (intro u hu; obtain ⟨u0, u1, u2, u3⟩ := hu; go_simp; first | done | with_reducible rfl)
            try simp only [Act.put, List.setIfInBounds_toArray, List.set_cons_zero, List.set_cons_succ]
            refine Late.take (i := 10) (oi := ⟨some 80, .fieldAddr 72 (.tmp 8) 1, 0, "keep.go:229", #[], none⟩) (v := ?_) [11, 16, 17] rfl (by kernel_rfl) (by kernel_rfl) (by decide) (by decide) (by kernel_rfl) (by kernel_rfl) (by kernel_rfl) (fun _ _ _ h => h) rfl ?_ hS0 ?_
            rotate_left
            · (intro u hu; obtain ⟨u0, u1, u2, u3⟩ := hu; go_simp; first | done | with_reducible rfl)
            try simp only [Act.put, List.setIfInBounds_toArray, List.set_cons_zero, List.set_cons_succ]
            refine Late.take (i := 11) (oi := ⟨some 81, .load 3 (.tmp 80), 3, "keep.go:229", #[⟨10, .data⟩], none⟩) (v := ?_) [16, 17] rfl (by kernel_rfl) (by kernel_rfl) (by decide) (by decide) (by kernel_rfl) (by kernel_rfl) (by kernel_rfl) (fun _ _ _ h => h) rfl ?_ hS0 ?_
            rotate_left
            · (intro u hu; obtain ⟨u0, u1, u2, u3⟩ := hu; go_simp; first | done | with_reducible rfl)
            try simp only [Act.put, List.setIfInBounds_toArray, List.set_cons_zero, List.set_cons_succ]
            refine Late.take (i := 12) (oi := ⟨some 82, .fieldAddr 72 (.tmp 8) 1, 0, "keep.go:229", #[], none⟩) (v := ?_) [13, 15, 16, 17] rfl (by kernel_rfl) (by kernel_rfl) (by decide) (by decide) (by kernel_rfl) (by kernel_rfl) (by kernel_rfl) (fun _ _ _ h => h) rfl ?_ hS0 ?_
            rotate_left
            · (intro u hu; obtain ⟨u0, u1, u2, u3⟩ := hu; go_simp; first | done | with_reducible rfl)
            try simp only [Act.put, List.setIfInBounds_toArray, List.set_cons_zero, List.set_cons_succ]
            refine Late.take (i := 13) (oi := ⟨some 83, .load 3 (.tmp 82), 3, "keep.go:229", #[⟨12, .data⟩], none⟩) (v := ?_) [15, 16, 17] rfl (by kernel_rfl) (by kernel_rfl) (by decide) (by decide) (by kernel_rfl) (by kernel_rfl) (by kernel_rfl) (fun _ _ _ h => h) rfl ?_ hS0 ?_
            rotate_left
            · (intro u hu; obtain ⟨u0, u1, u2, u3⟩ := hu; go_simp; first | done | with_reducible rfl)
            try simp only [Act.put, List.setIfInBounds_toArray, List.set_cons_zero, List.set_cons_succ]
            refine Late.take (i := 14) (oi := ⟨some 84, .move (.tmp 9), 3, "keep.go:229", #[], none⟩) (v := ?_) [15, 16, 17] rfl (by kernel_rfl) (by kernel_rfl) (by decide) (by decide) (by kernel_rfl) (by kernel_rfl) (by kernel_rfl) (fun _ _ _ h => h) rfl ?_ hS0 ?_
            rotate_left
            · (intro u hu; obtain ⟨u0, u1, u2, u3⟩ := hu; go_simp; first | done | with_reducible rfl)
            try simp only [Act.put, List.setIfInBounds_toArray, List.set_cons_zero, List.set_cons_succ]
            refine Late.take (i := 15) (oi := ⟨some 85, .binOp .add 3 (.tmp 83) (.tmp 84) 3, 3, "keep.go:229", #[⟨13, .data⟩, ⟨14, .data⟩], none⟩) (v := ?_) [16, 17] rfl (by kernel_rfl) (by kernel_rfl) (by decide) (by decide) (by kernel_rfl) (by kernel_rfl) (by kernel_rfl) (fun _ _ _ h => h) rfl ?_ hS0 ?_
            rotate_left
            · (intro u hu; obtain ⟨u0, u1, u2, u3⟩ := hu; go_simp; first | done | with_reducible rfl)
            try simp only [Act.put, List.setIfInBounds_toArray, List.set_cons_zero, List.set_cons_succ]
            refine Late.take (i := 16) (oi := ⟨some 86, .slice 9 (.tmp 79) (some (.tmp 81)) (some (.tmp 85)) none, 9, "keep.go:229", #[⟨9, .data⟩, ⟨11, .data⟩, ⟨15, .data⟩], none⟩) (v := ?_) [17] rfl (by kernel_rfl) (by kernel_rfl) (by decide) (by decide) (by kernel_rfl) (by kernel_rfl) (by kernel_rfl) (fun _ _ _ h => h) rfl ?_ hS0 ?_
            rotate_left
            · (intro u hu; skip; go_simp; first | done | with_reducible rfl)
            try simp only [Act.put, List.setIfInBounds_toArray, List.set_cons_zero, List.set_cons_succ]
            refine Late.one (i := 17) (o := ⟨some 87, .call { callee := .value (.func 26), args := #[.tmp 73, .tmp 75, .tmp 86], argTypes := #[50, 3, 9] }, 63, "keep.go:229", #[⟨3, .data⟩, ⟨5, .data⟩, ⟨16, .data⟩], none⟩) (by kernel_rfl) rfl (fun K hK => ?_)
            refine step_call_g rfl 26 #[PtrTo X 0, .int .i64 (qi : Int), tx (bytesAt d.file pl (1 + pb))] (by go_simp; exact HCut.out) ?_
            refine (unhide HAC2).mono ?_
            rintro r w4 ⟨rfl, col', hX, hW⟩
            obtain ⟨f1, f2, f3⟩ := HAN.out (1 + pb) (by omega) (by omega)
            have xd : Ext W3 W3.drew := (Kp.refl _ _).drew
            obtain ⟨hy4, k4⟩ := (hy3.ext xd).scan hX.1 hW
            have p8 := hy4.blk.cell 8
            have p2 := hy4.blk.cell 2
            simp only [yCells, List.getElem?_cons_zero, List.getElem?_cons_succ] at p8 p2
            have hcR : col w2'.heap.size = .out := hy2.isX.top _ (Nat.le_refl _)
            have p0 := hW.kept.cell (xd.cell r0 id) (fun h => h hcR)
            have p1 := hW.kept.cell (xd.cell r1 id) (fun h => h hcR)
            change (Pl.answer m (qi : Int) (bytesAt d.file pl (1 + pb))).2 = 0 at f1
            rw [f1]
            refine ⟨_, rfl, hK _ _ (fun _ => ⟨p8, p2, p0, p1⟩) ?_⟩
            clear hK K
            try simp only [Act.put, List.setIfInBounds_toArray, List.set_cons_zero, List.set_cons_succ]
            refine Late.one (i := 18) (o := ⟨some 11, .assign (.tmp 87), 63, "keep.go:229", #[⟨17, .data⟩, ⟨17, .chain⟩, ⟨0, .phase⟩, ⟨1, .phase⟩, ⟨2, .phase⟩, ⟨3, .phase⟩, ⟨4, .phase⟩, ⟨5, .phase⟩, ⟨6, .phase⟩, ⟨7, .phase⟩, ⟨8, .phase⟩, ⟨9, .phase⟩, ⟨10, .phase⟩, ⟨11, .phase⟩, ⟨12, .phase⟩, ⟨13, .phase⟩, ⟨14, .phase⟩, ⟨15, .phase⟩, ⟨16, .phase⟩, ⟨17, .phase⟩], none⟩) (by kernel_rfl) rfl (fun K hK => ?_)
            go_simp
            refine hK _ _ (fun _ => ⟨p8, p2, p0, p1⟩) ?_
            clear hK K
            try simp only [Act.put, List.setIfInBounds_toArray, List.set_cons_zero, List.set_cons_succ]
            refine Late.done (by kernel_rfl) ?_ _
            have HY4 := hide hy4
            have HK4 := hide k4
            clear hy4 k4 hX hW
            go_wp2_with fail
            go_ret
            have z4 := HK4.out.size
            refine ⟨rfl, col', vs, (Pl.answer m (qi : Int) (bytesAt d.file pl (1 + pb))).1, k, HY4.out.mono (fun b hb => hb.imp id (fun h => ⟨by have h1 : W3.heap.size ≤ b := h.1; omega, h.2⟩)), (Kp.of_ext (x03.trans xd)).trans HK4.out, f2.monoF (Nat.le_add_right _ _), (HAC.out _ _).2 (fun h => by omega)⟩
          · have h3i : ¬ (kn : Int) = 3 := by omega
            have pl1 : (pl : Int) ≤ (pl : Int) + (ll : Int) := by omega
            have pl2 : (pl : Int) + (ll : Int) ≤ (d.file.length : Int) := by omega
            have ew : IntKind.i64.wrap ((pl : Int) + (ll : Int)) = (pl : Int) + (ll : Int) := by simp [IntKind.wrap, IntKind.bits, IntKind.signed]; omega
            have HCut : Hid ((ByteArray.mk d.file.toArray).extract pl ((pl : Int) + (ll : Int)).toNat = ⟨(bytesAt d.file pl ll).toArray⟩) := by
              show _ = _
              rw [show ((pl : Int) + (ll : Int)).toNat = pl + ll by omega]
              exact cut_string _ _ _
            have HAC2 := hide (gAnswer_any col W3.drew X P m N ⟨(hy3.isX.kept (S := fun _ => False) ((Kp.refl _ _).drew) (fun _ f => f.elim)), hk.sound.good⟩ (by omega) (qi : Int) (bytesAt d.file pl ll) (by unfold bytesAt; rw [List.length_take]; omega))
            go_wp2_with fail
            have hS0 : W3.drew.cell? ⟨Y, 8, none⟩ = some (PtrTo X 0) ∧ W3.drew.cell? ⟨Y, 2, none⟩ = some (.string ⟨d.file.toArray⟩) ∧ W3.drew.cell? ⟨w2'.heap.size, 0, none⟩ = some (.int .i64 (qi : Int)) ∧ W3.drew.cell? ⟨w2'.heap.size, 1, none⟩ = some (.int .i64 (pl : Int)) := ⟨g8, g2, r0, r1⟩
            refine wp_region_late (n := 17) (fun u => u.cell? ⟨Y, 8, none⟩ = some (PtrTo X 0) ∧ u.cell? ⟨Y, 2, none⟩ = some (.string ⟨d.file.toArray⟩) ∧ u.cell? ⟨w2'.heap.size, 0, none⟩ = some (.int .i64 (qi : Int)) ∧ u.cell? ⟨w2'.heap.size, 1, none⟩ = some (.int .i64 (pl : Int))) (by kernel_rfl) ?_
            refine Late.take (i := 0) (oi := ⟨some 70, .move (.tmp 0), 48, "keep.go:229", #[], none⟩) (v := ?_) [1, 2, 3, 17] rfl (by kernel_rfl) (by kernel_rfl) (by decide) (by decide) (by kernel_rfl) (by kernel_rfl) (by kernel_rfl) (fun _ _ _ h => h) rfl ?_ hS0 ?_
            rotate_left
            · (intro u hu; obtain ⟨u0, u1, u2, u3⟩ := hu; go_simp; first | done | with_reducible rfl)
            try simp only [Act.put, List.setIfInBounds_toArray, List.set_cons_zero, List.set_cons_succ]
            refine Late.take (i := 1) (oi := ⟨some 71, .nilCheck (.tmp 70), 0, "keep.go:229", #[⟨0, .data⟩], none⟩) (v := ?_) [2, 3, 17] rfl (by kernel_rfl) (by kernel_rfl) (by decide) (by decide) (by kernel_rfl) (by kernel_rfl) (by kernel_rfl) (fun _ _ _ h => h) rfl ?_ hS0 ?_
            rotate_left
            · (intro u hu; obtain ⟨u0, u1, u2, u3⟩ := hu; go_simp; first | done | with_reducible rfl)
            try simp only [Act.put, List.setIfInBounds_toArray, List.set_cons_zero, List.set_cons_succ]
            refine Late.take (i := 2) (oi := ⟨some 72, .fieldAddr 53 (.tmp 71) 4, 0, "keep.go:229", #[⟨1, .data⟩], none⟩) (v := ?_) [3, 17] rfl (by kernel_rfl) (by kernel_rfl) (by decide) (by decide) (by kernel_rfl) (by kernel_rfl) (by kernel_rfl) (fun _ _ _ h => h) rfl ?_ hS0 ?_
            rotate_left
            · (intro u hu; obtain ⟨u0, u1, u2, u3⟩ := hu; go_simp; first | done | with_reducible rfl)
            try simp only [Act.put, List.setIfInBounds_toArray, List.set_cons_zero, List.set_cons_succ]
            refine Late.take (i := 3) (oi := ⟨some 73, .load 50 (.tmp 72), 50, "keep.go:229", #[⟨2, .data⟩], none⟩) (v := ?_) [17] rfl (by kernel_rfl) (by kernel_rfl) (by decide) (by decide) (by kernel_rfl) (by kernel_rfl) (by kernel_rfl) (fun _ _ _ h => h) rfl ?_ hS0 ?_
            rotate_left
            · (intro u hu; obtain ⟨u0, u1, u2, u3⟩ := hu; go_simp; first | done | with_reducible rfl)
            try simp only [Act.put, List.setIfInBounds_toArray, List.set_cons_zero, List.set_cons_succ]
            refine Late.take (i := 4) (oi := ⟨some 74, .fieldAddr 72 (.tmp 8) 0, 0, "keep.go:229", #[], none⟩) (v := ?_) [5, 17] rfl (by kernel_rfl) (by kernel_rfl) (by decide) (by decide) (by kernel_rfl) (by kernel_rfl) (by kernel_rfl) (fun _ _ _ h => h) rfl ?_ hS0 ?_
            rotate_left
            · (intro u hu; obtain ⟨u0, u1, u2, u3⟩ := hu; go_simp; first | done | with_reducible rfl)
            try simp only [Act.put, List.setIfInBounds_toArray, List.set_cons_zero, List.set_cons_succ]
            refine Late.take (i := 5) (oi := ⟨some 75, .load 3 (.tmp 74), 3, "keep.go:229", #[⟨4, .data⟩], none⟩) (v := ?_) [17] rfl (by kernel_rfl) (by kernel_rfl) (by decide) (by decide) (by kernel_rfl) (by kernel_rfl) (by kernel_rfl) (fun _ _ _ h => h) rfl ?_ hS0 ?_
            rotate_left
            · (intro u hu; obtain ⟨u0, u1, u2, u3⟩ := hu; go_simp; first | done | with_reducible rfl)
            try simp only [Act.put, List.setIfInBounds_toArray, List.set_cons_zero, List.set_cons_succ]
            refine Late.take (i := 6) (oi := ⟨some 76, .move (.tmp 0), 48, "keep.go:229", #[], none⟩) (v := ?_) [7, 8, 9, 16, 17] rfl (by kernel_rfl) (by kernel_rfl) (by decide) (by decide) (by kernel_rfl) (by kernel_rfl) (by kernel_rfl) (fun _ _ _ h => h) rfl ?_ hS0 ?_
            rotate_left
            · (intro u hu; obtain ⟨u0, u1, u2, u3⟩ := hu; go_simp; first | done | with_reducible rfl)
            try simp only [Act.put, List.setIfInBounds_toArray, List.set_cons_zero, List.set_cons_succ]
            refine Late.take (i := 7) (oi := ⟨some 77, .nilCheck (.tmp 76), 0, "keep.go:229", #[⟨6, .data⟩], none⟩) (v := ?_) [8, 9, 16, 17] rfl (by kernel_rfl) (by kernel_rfl) (by decide) (by decide) (by kernel_rfl) (by kernel_rfl) (by kernel_rfl) (fun _ _ _ h => h) rfl ?_ hS0 ?_
            rotate_left
            · (intro u hu; obtain ⟨u0, u1, u2, u3⟩ := hu; go_simp; first | done | with_reducible rfl)
            try simp only [Act.put, List.setIfInBounds_toArray, List.set_cons_zero, List.set_cons_succ]
            refine Late.take (i := 8) (oi := ⟨some 78, .fieldAddr 53 (.tmp 77) 1, 0, "keep.go:229", #[⟨7, .data⟩], none⟩) (v := ?_) [9, 16, 17] rfl (by kernel_rfl) (by kernel_rfl) (by decide) (by decide) (by kernel_rfl) (by kernel_rfl) (by kernel_rfl) (fun _ _ _ h => h) rfl ?_ hS0 ?_
            rotate_left
            · (intro u hu; obtain ⟨u0, u1, u2, u3⟩ := hu; go_simp; first | done | with_reducible rfl)
            try simp only [Act.put, List.setIfInBounds_toArray, List.set_cons_zero, List.set_cons_succ]
            refine Late.take (i := 9) (oi := ⟨some 79, .load 9 (.tmp 78), 9, "keep.go:229", #[⟨8, .data⟩], none⟩) (v := ?_) [16, 17] rfl (by kernel_rfl) (by kernel_rfl) (by decide) (by decide) (by kernel_rfl) (by kernel_rfl) (by kernel_rfl) (fun _ _ _ h => h) rfl ?_ hS0 ?_
            rotate_left
            · (intro u hu; obtain ⟨u0, u1, u2, u3⟩ := hu; go_simp; first | done | with_reducible rfl)
            try simp only [Act.put, List.setIfInBounds_toArray, List.set_cons_zero, List.set_cons_succ]
            refine Late.take (i := 10) (oi := ⟨some 80, .fieldAddr 72 (.tmp 8) 1, 0, "keep.go:229", #[], none⟩) (v := ?_) [11, 16, 17] rfl (by kernel_rfl) (by kernel_rfl) (by decide) (by decide) (by kernel_rfl) (by kernel_rfl) (by kernel_rfl) (fun _ _ _ h => h) rfl ?_ hS0 ?_
            rotate_left
            · (intro u hu; obtain ⟨u0, u1, u2, u3⟩ := hu; go_simp; first | done | with_reducible rfl)
            try simp only [Act.put, List.setIfInBounds_toArray, List.set_cons_zero, List.set_cons_succ]
            refine Late.take (i := 11) (oi := ⟨some 81, .load 3 (.tmp 80), 3, "keep.go:229", #[⟨10, .data⟩], none⟩) (v := ?_) [16, 17] rfl (by kernel_rfl) (by kernel_rfl) (by decide) (by decide) (by kernel_rfl) (by kernel_rfl) (by kernel_rfl) (fun _ _ _ h => h) rfl ?_ hS0 ?_
            rotate_left
            · (intro u hu; obtain ⟨u0, u1, u2, u3⟩ := hu; go_simp; first | done | with_reducible rfl)
            try simp only [Act.put, List.setIfInBounds_toArray, List.set_cons_zero, List.set_cons_succ]
            refine Late.take (i := 12) (oi := ⟨some 82, .fieldAddr 72 (.tmp 8) 1, 0, "keep.go:229", #[], none⟩) (v := ?_) [13, 15, 16, 17] rfl (by kernel_rfl) (by kernel_rfl) (by decide) (by decide) (by kernel_rfl) (by kernel_rfl) (by kernel_rfl) (fun _ _ _ h => h) rfl ?_ hS0 ?_
            rotate_left
            · (intro u hu; obtain ⟨u0, u1, u2, u3⟩ := hu; go_simp; first | done | with_reducible rfl)
            try simp only [Act.put, List.setIfInBounds_toArray, List.set_cons_zero, List.set_cons_succ]
            refine Late.take (i := 13) (oi := ⟨some 83, .load 3 (.tmp 82), 3, "keep.go:229", #[⟨12, .data⟩], none⟩) (v := ?_) [15, 16, 17] rfl (by kernel_rfl) (by kernel_rfl) (by decide) (by decide) (by kernel_rfl) (by kernel_rfl) (by kernel_rfl) (fun _ _ _ h => h) rfl ?_ hS0 ?_
            rotate_left
            · (intro u hu; obtain ⟨u0, u1, u2, u3⟩ := hu; go_simp; first | done | with_reducible rfl)
            try simp only [Act.put, List.setIfInBounds_toArray, List.set_cons_zero, List.set_cons_succ]
            refine Late.take (i := 14) (oi := ⟨some 84, .move (.tmp 9), 3, "keep.go:229", #[], none⟩) (v := ?_) [15, 16, 17] rfl (by kernel_rfl) (by kernel_rfl) (by decide) (by decide) (by kernel_rfl) (by kernel_rfl) (by kernel_rfl) (fun _ _ _ h => h) rfl ?_ hS0 ?_
            rotate_left
            · (intro u hu; obtain ⟨u0, u1, u2, u3⟩ := hu; go_simp; first | done | with_reducible rfl)
            try simp only [Act.put, List.setIfInBounds_toArray, List.set_cons_zero, List.set_cons_succ]
            refine Late.take (i := 15) (oi := ⟨some 85, .binOp .add 3 (.tmp 83) (.tmp 84) 3, 3, "keep.go:229", #[⟨13, .data⟩, ⟨14, .data⟩], none⟩) (v := ?_) [16, 17] rfl (by kernel_rfl) (by kernel_rfl) (by decide) (by decide) (by kernel_rfl) (by kernel_rfl) (by kernel_rfl) (fun _ _ _ h => h) rfl ?_ hS0 ?_
            rotate_left
            · (intro u hu; obtain ⟨u0, u1, u2, u3⟩ := hu; go_simp; first | done | with_reducible rfl)
            try simp only [Act.put, List.setIfInBounds_toArray, List.set_cons_zero, List.set_cons_succ]
            refine Late.take (i := 16) (oi := ⟨some 86, .slice 9 (.tmp 79) (some (.tmp 81)) (some (.tmp 85)) none, 9, "keep.go:229", #[⟨9, .data⟩, ⟨11, .data⟩, ⟨15, .data⟩], none⟩) (v := ?_) [17] rfl (by kernel_rfl) (by kernel_rfl) (by decide) (by decide) (by kernel_rfl) (by kernel_rfl) (by kernel_rfl) (fun _ _ _ h => h) rfl ?_ hS0 ?_
            rotate_left
            · (intro u hu; skip; go_simp; first | done | with_reducible rfl)
            try simp only [Act.put, List.setIfInBounds_toArray, List.set_cons_zero, List.set_cons_succ]
            refine Late.one (i := 17) (o := ⟨some 87, .call { callee := .value (.func 26), args := #[.tmp 73, .tmp 75, .tmp 86], argTypes := #[50, 3, 9] }, 63, "keep.go:229", #[⟨3, .data⟩, ⟨5, .data⟩, ⟨16, .data⟩], none⟩) (by kernel_rfl) rfl (fun K hK => ?_)
            refine step_call_g rfl 26 #[PtrTo X 0, .int .i64 (qi : Int), tx (bytesAt d.file pl ll)] (by go_simp; exact HCut.out) ?_
            refine (unhide HAC2).mono ?_
            rintro r w4 ⟨rfl, col', hX, hW⟩
            obtain ⟨f1, f2, f3⟩ := HAN.out ll (by omega) (by omega)
            have xd : Ext W3 W3.drew := (Kp.refl _ _).drew
            obtain ⟨hy4, k4⟩ := (hy3.ext xd).scan hX.1 hW
            have p8 := hy4.blk.cell 8
            have p2 := hy4.blk.cell 2
            simp only [yCells, List.getElem?_cons_zero, List.getElem?_cons_succ] at p8 p2
            have hcR : col w2'.heap.size = .out := hy2.isX.top _ (Nat.le_refl _)
            have p0 := hW.kept.cell (xd.cell r0 id) (fun h => h hcR)
            have p1 := hW.kept.cell (xd.cell r1 id) (fun h => h hcR)
            change (Pl.answer m (qi : Int) (bytesAt d.file pl ll)).2 = 0 at f1
            rw [f1]
            refine ⟨_, rfl, hK _ _ (fun _ => ⟨p8, p2, p0, p1⟩) ?_⟩
            clear hK K
            try simp only [Act.put, List.setIfInBounds_toArray, List.set_cons_zero, List.set_cons_succ]
            refine Late.one (i := 18) (o := ⟨some 11, .assign (.tmp 87), 63, "keep.go:229", #[⟨17, .data⟩, ⟨17, .chain⟩, ⟨0, .phase⟩, ⟨1, .phase⟩, ⟨2, .phase⟩, ⟨3, .phase⟩, ⟨4, .phase⟩, ⟨5, .phase⟩, ⟨6, .phase⟩, ⟨7, .phase⟩, ⟨8, .phase⟩, ⟨9, .phase⟩, ⟨10, .phase⟩, ⟨11, .phase⟩, ⟨12, .phase⟩, ⟨13, .phase⟩, ⟨14, .phase⟩, ⟨15, .phase⟩, ⟨16, .phase⟩, ⟨17, .phase⟩], none⟩) (by kernel_rfl) rfl (fun K hK => ?_)
            go_simp
            refine hK _ _ (fun _ => ⟨p8, p2, p0, p1⟩) ?_
            clear hK K
            try simp only [Act.put, List.setIfInBounds_toArray, List.set_cons_zero, List.set_cons_succ]
            refine Late.done (by kernel_rfl) ?_ _
            have HY4 := hide hy4
            have HK4 := hide k4
            clear hy4 k4 hX hW
            go_wp2_with fail
            go_ret
            have z4 := HK4.out.size
            refine ⟨rfl, col', vs, (Pl.answer m (qi : Int) (bytesAt d.file pl ll)).1, k, HY4.out.mono (fun b hb => hb.imp id (fun h => ⟨by have h1 : W3.heap.size ≤ b := h.1; omega, h.2⟩)), (Kp.of_ext (x03.trans xd)).trans HK4.out, f2.monoF (Nat.le_add_right _ _), (HAC.out _ _).2 (fun h => .inr ⟨HNE.out, rfl, f3 ?_⟩)⟩
            first | trivial | rfl
end Go.Proofs.YthicgffppmbamaaGreat

namespace Go.Proofs.YthicgffppmbamaaGreat
open Go.RowKit

theorem pickP_zero : pickP 0 7 = 0 := by decide
theorem failN_zero : failN 0 = 0 := by unfold failN; rw [pickP_zero]; rfl
/-- each round brings the end nearer -/
theorem round_less {d : Yp} {m m1 m2 : Pl.Sc} {N N2 k k1 k2 F F2 : Nat} (hs : m.state = 0) (_hk : KxD d m N k F) (hk2 : KxD d m2 N2 k2 F2) (hN : N2 ≤ 100000000000) (ha : Acted d.gs 0 m m1 k k1) (ht : Took d.gs m1 m2 k1 k2) (h3 : (Pl.tick m2).state = 0) : Phi d.gs (Pl.tick m2) k2 + 1 ≤ Phi d.gs m k := by
  obtain ⟨-, t2, t3⟩ := hk2.tick hN
  rw [t2] at h3
  have t3 := t3 h3
  have hm1 : m1.state = 0 ∧ ((m2 = m1 ∧ k2 = k1) ∨ Phi d.gs m2 k2 + 1 ≤ Phi d.gs m1 k1) := by
    rcases ht with ⟨rfl, rfl, -⟩ | ⟨h, -, h'⟩
    · exact ⟨h3, .inl ⟨rfl, rfl⟩⟩
    · exact ⟨h, .inr (h' h3).1⟩
  obtain ⟨h1, h2⟩ := hm1
  rcases ha pickP_zero with ⟨has, hto⟩ | ⟨-, rfl, hp⟩
  · rcases hto with ⟨rfl, rfl, hp⟩ | ⟨-, -, hp⟩
    · rcases h2 with ⟨rfl, rfl⟩ | h2
      · have hw : m2.waiting ≠ [] := fun e => hp hs (by unfold partsOf; rw [has, e]; rfl)
        have : 1 ≤ m2.waiting.length := by
          cases hwe : m2.waiting with
          | nil => exact absurd hwe hw
          | cons a b => simp
        omega
      · omega
    · have := (hp h1).1
      rcases h2 with ⟨rfl, rfl⟩ | h2 <;> omega
  · have := hp h1
    rcases h2 with ⟨rfl, rfl⟩ | h2 <;> omega

set_option maxRecDepth 20000 in
set_option maxHeartbeats 4000000 in
theorem finishes_any (O : Nat → Prop) (d : Yp) (e : Ym) (col : Colr) (w : World) (Y X P : Nat) (m : Pl.Sc) (vs : List Value) (k N F : Nat) (hd : DOk d) (hk : KxD d m N k F) (hy : YAt O d e col w Y X P m vs k) (hN : N ≤ 100000) :
    Calls Tryz.prog 17 #[PtrTo Y 0] w fun r w' => r = .returned (.bool true) ∧ ∃ col' vs' m' k' N', YAt (grow O w w') d e col' w' Y X P m' vs' k' ∧ Kp O w w' ∧ KxD d m' N' k' F ∧ m'.state ≠ 0 ∧ N' ≤ N + 20000 := by
  go_enter Tryz.func17, Tryz.ntmps17
  go_wp2_with fail
  go_loopw [3] (fun i wr => ∃ (j : Nat) (col' : Colr) (vs' : List Value) (m' : Pl.Sc) (k' N' : Nat), i = .int .i64 j ∧ j ≤ 301 ∧ N' ≤ N + 32 * j ∧ YAt (grow O w wr) d e col' wr Y X P m' vs' k' ∧ Kp O w wr ∧ KxD d m' N' k' F ∧ (m'.state = 0 → Phi d.gs m' k' + j ≤ 300)) (fun i _ => 400 - (intOf i).toNat)
  case atStart => exact ⟨0, col, vs, m, k, N, rfl, by omega, by omega, hy.mono (fun b hb => .inl hb), Kp.refl _ _, hk, fun hs => hk.phi_le hd.fl hs⟩
  case round =>
    obtain ⟨j, col1, vs1, m1, k1, N1, rfl, hj, hN1, hy1, kO, hk1, hph⟩ := hrel
    have hj2 : (j : Int) < 2000 := by omega
    have c8 := hy1.blk.cell 8
    simp only [yCells, List.getElem?_cons_zero, List.getElem?_cons_succ] at c8
    have HST := hide (xState_any col1 wr X P m1 hy1.isX)
    have z1 := kO.size
    by_cases hs : m1.state = 0
    · rw [hs] at HST
      have hph := hph hs
      have HAC := hide (act_any (grow O w wr) d e col1 wr Y X P m1 vs1 k1 N1 F 0 0 0 hd hk1 hy1 (by omega) ⟨by omega, by omega⟩ ⟨by omega, by omega⟩ ⟨by omega, by omega⟩)
      rw [failN_zero] at HAC
      go_wp2_with (first | (go_at_call 18; refine (unhide HST).mono ?_; rintro r w2 ⟨rfl, hw2⟩; rw [hw2]; clear hw2) | fail)
      refine (unhide HAC).mono ?_
      rintro r w2 ⟨rfl, col2, vs2, m2, k2, hy2, kO2, hk2, hac⟩
      clear HAC c8
      have HTK := hide (takes_any _ d e col2 w2 Y X P m2 vs2 k2 (N1 + 24) F hd hk2 hy2)
      go_wp2_with fail
      refine (unhide HTK).mono ?_
      rintro r w3 ⟨rfl, col3, vs3, k3, hy3, kO3, hk3, htk⟩
      clear HTK
      have c83 := hy3.blk.cell 8
      simp only [yCells, List.getElem?_cons_zero, List.getElem?_cons_succ] at c83
      generalize (Pl.next m2).1 = m3 at *
      have HTI := hide (gTick_any col3 w3 X P m3 (N1 + 24) ⟨hy3.isX, hk3.sound.good⟩ (by omega))
      go_wp2_with fail
      refine (unhide HTI).mono ?_
      rintro r w4 ⟨rfl, col4, hX4, hW4⟩
      obtain ⟨hy4, kO4⟩ := hy3.scan hX4.1 hW4
      have z2 := kO2.size
      have z3 := kO3.size
      have z4 := kO4.size
      have hkt := hk3.tick (by omega)
      have hless := round_less (d := d) hs hk1 hk3 (by omega) hac htk
      have HH := hide (And.intro hy4 (And.intro kO4 (And.intro hkt hless)))
      clear hy4 kO4 hkt hless hX4 hW4 HTI c83
      go_wp2_with fail
      refine ⟨⟨j + 1, col4, vs3, Pl.tick m3, k3, N1 + 24 + 4, by go_num, by omega, by omega, ?_, ?_, HH.out.2.2.1.1, fun h => ?_⟩, by simp [intOf]; omega⟩
      · refine HH.out.1.mono (fun b hb => ?_)
        rcases hb with ((((hb | hb) | hb) | hb) | hb)
        · exact .inl hb
        · exact .inr (by omega)
        · exact .inr (by omega)
        · exact .inr (by omega)
        · exact .inr (by omega)
      · exact kO.grow (kO2.grow (kO3.grow HH.out.2.1))
      · have := HH.out.2.2.2 h
        omega
    · have hsi : ¬ (m1.state : Int) = 0 := by omega
      go_wp2_with (first | (go_at_call 18; refine (unhide HST).mono ?_; rintro r w2 ⟨rfl, hw2⟩; rw [hw2]; clear hw2) | fail)
      go_ret
      exact ⟨rfl, col1, vs1, m1, k1, N1, hy1, kO, hk1, hs, by omega⟩
end Go.Proofs.YthicgffppmbamaaGreat

namespace Go.Proofs.YthicgffppmbamaaGreat
open Go.RowKit

theorem ypOf_dok (l : List Int) : DOk (ypOf l) := by
  have h := sSet_in l
  have hc := sCl_ok l
  refine ⟨ypOf_fl l, ?_, ?_, ?_, ?_, ?_, ?_, hc.2.2.2.1, hc.2.2.2.2⟩
  · show 1 ≤ 1 + _; omega
  · show 1 + _ ≤ 4; omega
  · show 1 ≤ 1 + _; omega
  · show 1 + _ ≤ 4; omega
  · show 1 ≤ 1 + _; omega
  · show 1 + _ ≤ 20; omega
/-- what is looked at, at the end -/
structure EndAt (d : Yp) (w : World) (Y X n : Nat) (nv gv : Value) (Lb : Nat) (va : Option Addr) (vc : Nat) : Prop where
  c0 : w.cell? ⟨Y, 0, none⟩ = some nv
  c1 : w.cell? ⟨Y, 1, none⟩ = some gv
  c5 : w.cell? ⟨Y, 5, none⟩ = some (.int .i64 (d.T : Int))
  c8 : w.cell? ⟨Y, 8, none⟩ = some (PtrTo X 0)
  c9 : w.cell? ⟨Y, 9, none⟩ = some (.slice (some ⟨Lb, 0, none⟩) d.cols.length d.cols.length)
  g0 : w.cell? ⟨Lb, 0, none⟩ = some (.slice va n vc)
theorem YAt.ends {O : Nat → Prop} {d : Yp} {e : Ym} {col : Colr} {w : World} {Y X P : Nat} {m : Pl.Sc} {vs : List Value} {k : Nat} (h : YAt O d e col w Y X P m vs k) (hd : DOk d) (hk : k ≤ totalOf d.gs) : ∃ (na : Option Addr) (nn nc : Nat) (ga : Option Addr) (gn gc : Nat) (va : Option Addr) (vc : Nat), e.nv = .slice na nn nc ∧ e.gv = .slice ga gn gc ∧ EndAt d w Y X k (.slice na nn nc) (.slice ga gn gc) e.Lb va vc := by
  obtain ⟨na, nn, nc, hnvE⟩ := slice_of h.nam
  obtain ⟨gvs, hgr, -, -⟩ := id h.tab
  obtain ⟨ga, gn, gc, hgvE⟩ := slice_of hgr
  have hvl : vs.length = d.cols.length := by rw [h.got.len]; unfold gotOf; simp
  have hc1 := hd.c1
  have hgo := h.got.own 0 vs[0] ((colOf d.gs d.cols 0).take k) (List.getElem?_eq_getElem (by omega)) (by rw [← gotMid_zero d k 0, gotMid_at d k 0 0 0 (by omega)]; rfl)
  have hgb := h.got.blk.cell 0
  rw [List.getElem?_eq_getElem (by omega)] at hgb
  obtain ⟨va, vc, hv, -⟩ := hgo.shape
  have hl : ((colOf d.gs d.cols 0).take k).length = k := by rw [List.length_take, colOf_len hd 0 (by omega)]; omega
  rw [hl] at hv
  rw [hv] at hgb
  refine ⟨na, nn, nc, ga, gn, gc, va, vc, hnvE, hgvE, ?_, ?_, ?_, ?_, ?_, hgb⟩
  · have := h.blk.cell 0; simp only [yCells, List.getElem?_cons_zero, hnvE] at this; exact this
  · have := h.blk.cell 1; simp only [yCells, List.getElem?_cons_zero, List.getElem?_cons_succ, hgvE] at this; exact this
  · have := h.blk.cell 5; simp only [yCells, I, List.getElem?_cons_zero, List.getElem?_cons_succ] at this; exact this
  · have := h.blk.cell 8; simp only [yCells, List.getElem?_cons_zero, List.getElem?_cons_succ] at this; exact this
  · have := h.blk.cell 9; simp only [yCells, List.getElem?_cons_zero, List.getElem?_cons_succ] at this; exact this
theorem YAt.total {O : Nat → Prop} {d : Yp} {e : Ym} {col : Colr} {w : World} {Y X P : Nat} {m : Pl.Sc} {vs : List Value} {k : Nat} (h : YAt O d e col w Y X P m vs k) (hd : DOk d) (u : World) (hu : Ext w u) : Calls Tryz.prog 19 #[.agg #[e.nv, e.gv]] u fun r w' => r = .returned (.int .i64 (totalOf d.gs : Nat)) ∧ Ext u w' := by
  obtain ⟨hg6, hgi⟩ := hd.grp
  obtain ⟨na, nn, nc, hnvE⟩ := slice_of h.nam
  exact total_any (Low e Y) u e.nv e.gv d.gs ⟨na, nn, nc, hnvE⟩ (h.tab.kept hu (fun _ _ f => f)) hg6 (fun G hG => ⟨(hgi G hG).2.1, (hgi G hG).2.2⟩)

set_option maxRecDepth 20000 in
set_option maxHeartbeats 4000000 in
theorem readLaw_any (w : World) (lv : Value) (l : List Int) (hr : RdI w.heap.size w lv l) (hlen : l.length ≤ 17592186043904) (hrng : ∀ x ∈ l, InI x) :
    Calls Tryz.prog 5 #[lv] w fun r w' => r = .returned (.bool true) ∧ Ext w w' := by
  have HO := hide (opened_any w lv l hr hlen hrng)
  have hd := ypOf_dok l
  have hin := sSet_in l
  have hko := ypOf_open l (ypOf l).W (ypOf l).G hd.W4 (by show (sS4 l).1 ≤ 32; omega)
  obtain ⟨la, lc, rfl, -, -, -⟩ := RdI.open hr
  go_enter Tryz.func5, Tryz.ntmps5
  go_wp2_with fail
  refine (unhide HO).mono ?_
  rintro r w1 ⟨Y, X, P, col, em, vs, rfl, hy, x1, -, -⟩
  clear HO
  generalize ypOf l = d at *
  have HF := hide (finishes_any _ d em col w1 Y X P _ vs 0 1 0 hd hko hy (by omega))
  go_wp2_with fail
  refine (unhide HF).mono ?_
  rintro r w2 ⟨rfl, col2, vs2, m2, k2, N2, hy2, kO2, hk2, hs2, -⟩
  clear HF
  have x2 : Ext w w2 := Kp.grow x1 kO2
  rcases hk2.ended_of hs2 with ⟨rfl, hk⟩ | ⟨-, hT⟩
  · obtain ⟨na, nn, nc, ga, gn, gc, va, vc, hnv, hgv, he⟩ := hy2.ends hd (by omega)
    have HT := hide (fun u hu => hy2.total hd u hu)
    rw [hnv, hgv] at HT
    have HST : Hid (∀ u, Ext w2 u → Calls Tryz.prog 18 #[PtrTo X 0] u fun r w' => r = .returned (.int .i64 1) ∧ w' = u) := fun u hu => xState_any col2 u X P (Pl.ended 1) (hy2.isX.kept hu (fun _ f => f.elim))
    have HX2 := hide x2
    rw [hk] at he
    obtain ⟨c0, c1, c5, c8, c9, g0⟩ := he
    have hcl := hd.c1
    have hcp : (0 : Int) < (d.cols.length : Int) := by omega
    have hcn : 0 < d.cols.length := by omega
    clear hy2 hk2 kO2 hy hko hk x2 hs2 hnv hgv
    go_wp2_with fail
    have hS0 : w2.drew.cell? ⟨Y, 0, none⟩ = some (.slice na nn nc) ∧ w2.drew.cell? ⟨Y, 1, none⟩ = some (.slice ga gn gc) ∧ w2.drew.cell? ⟨Y, 8, none⟩ = some (PtrTo X 0) ∧ w2.drew.cell? ⟨Y, 9, none⟩ = some (.slice (some ⟨em.Lb, 0, none⟩) d.cols.length d.cols.length) ∧ w2.drew.cell? ⟨em.Lb, 0, none⟩ = some (.slice va (totalOf d.gs) vc) := ⟨c0, c1, c8, c9, g0⟩
    have xd : Ext w2 w2.drew := (Kp.refl _ _).drew
    refine wp_region_late (n := 24) (fun u => u.cell? ⟨Y, 0, none⟩ = some (.slice na nn nc) ∧ u.cell? ⟨Y, 1, none⟩ = some (.slice ga gn gc) ∧ u.cell? ⟨Y, 8, none⟩ = some (PtrTo X 0) ∧ u.cell? ⟨Y, 9, none⟩ = some (.slice (some ⟨em.Lb, 0, none⟩) d.cols.length d.cols.length) ∧ u.cell? ⟨em.Lb, 0, none⟩ = some (.slice va (totalOf d.gs) vc)) (by kernel_rfl) ?_
    refine Late.take (i := 0) (oi := ⟨some 11, .move (.tmp 4), 4, "keep.go:256", #[], none⟩) (v := ?_) [24] rfl (by kernel_rfl) (by kernel_rfl) (by decide) (by decide) (by kernel_rfl) (by kernel_rfl) (by kernel_rfl) (fun _ _ _ h => h) rfl ?_ hS0 ?_
    rotate_left
    · (intro u hu; obtain ⟨u0, u1, u8, u9, ug⟩ := hu; go_simp; first | done | with_reducible rfl)
    try simp only [Act.put, List.setIfInBounds_toArray, List.set_cons_zero, List.set_cons_succ]
    refine Late.take (i := 1) (oi := ⟨some 12, .move (.tmp 11), 4, "keep.go:256", #[⟨0, .data⟩], none⟩) (v := ?_) [24] rfl (by kernel_rfl) (by kernel_rfl) (by decide) (by decide) (by kernel_rfl) (by kernel_rfl) (by kernel_rfl) (fun _ _ _ h => h) rfl ?_ hS0 ?_
    rotate_left
    · (intro u hu; obtain ⟨u0, u1, u8, u9, ug⟩ := hu; go_simp; first | done | with_reducible rfl)
    try simp only [Act.put, List.setIfInBounds_toArray, List.set_cons_zero, List.set_cons_succ]
    refine Late.takeW (i := 2) (oi := ⟨some 13, .move (.tmp 3), 48, "keep.go:256", #[⟨1, .guard⟩], some (1, true)⟩) (v := ?_) [24] rfl (by kernel_rfl) (by kernel_rfl) (by decide) (by decide) (by kernel_rfl) (by kernel_rfl) (by kernel_rfl) (fun _ _ _ h => h) (by rfl) ?_ hS0 ?_
    rotate_left
    · (intro u hu; obtain ⟨u0, u1, u8, u9, ug⟩ := hu; go_simp; first | done | with_reducible rfl)
    try simp only [Act.put, List.setIfInBounds_toArray, List.set_cons_zero, List.set_cons_succ]
    refine Late.takeW (i := 3) (oi := ⟨some 14, .nilCheck (.tmp 13), 0, "keep.go:256", #[⟨2, .data⟩, ⟨1, .guard⟩], some (1, true)⟩) (v := ?_) [24] rfl (by kernel_rfl) (by kernel_rfl) (by decide) (by decide) (by kernel_rfl) (by kernel_rfl) (by kernel_rfl) (fun _ _ _ h => h) (by rfl) ?_ hS0 ?_
    rotate_left
    · (intro u hu; obtain ⟨u0, u1, u8, u9, ug⟩ := hu; go_simp; first | done | with_reducible rfl)
    try simp only [Act.put, List.setIfInBounds_toArray, List.set_cons_zero, List.set_cons_succ]
    refine Late.takeW (i := 4) (oi := ⟨some 15, .fieldAddr 53 (.tmp 14) 4, 0, "keep.go:256", #[⟨3, .data⟩, ⟨1, .guard⟩], some (1, true)⟩) (v := ?_) [24] rfl (by kernel_rfl) (by kernel_rfl) (by decide) (by decide) (by kernel_rfl) (by kernel_rfl) (by kernel_rfl) (fun _ _ _ h => h) (by rfl) ?_ hS0 ?_
    rotate_left
    · (intro u hu; obtain ⟨u0, u1, u8, u9, ug⟩ := hu; go_simp; first | done | with_reducible rfl)
    try simp only [Act.put, List.setIfInBounds_toArray, List.set_cons_zero, List.set_cons_succ]
    refine Late.takeW (i := 5) (oi := ⟨some 16, .load 50 (.tmp 15), 50, "keep.go:256", #[⟨4, .data⟩, ⟨1, .guard⟩], some (1, true)⟩) (v := ?_) [24] rfl (by kernel_rfl) (by kernel_rfl) (by decide) (by decide) (by kernel_rfl) (by kernel_rfl) (by kernel_rfl) (fun _ _ _ h => h) (by rfl) ?_ hS0 ?_
    rotate_left
    · (intro u hu; obtain ⟨u0, u1, u8, u9, ug⟩ := hu; go_simp; first | done | with_reducible rfl)
    try simp only [Act.put, List.setIfInBounds_toArray, List.set_cons_zero, List.set_cons_succ]
    refine Late.one (i := 6) (o := ⟨some 17, .call { callee := .value (.func 18), args := #[.tmp 16], argTypes := #[50] }, 3, "keep.go:256", #[⟨5, .data⟩, ⟨1, .chain⟩, ⟨1, .guard⟩], some (1, true)⟩) (by kernel_rfl) rfl (fun K hK => ?_)
    refine step_call_w (by rfl) 18 #[PtrTo X 0] (by go_simp) ?_
    refine ((unhide HST) w2.drew xd).mono ?_
    rintro r w3 ⟨rfl, rfl⟩
    refine ⟨_, rfl, hK _ _ (fun _ => hS0) ?_⟩
    clear hK K
    try simp only [Act.put, List.setIfInBounds_toArray, List.set_cons_zero, List.set_cons_succ]
    refine Late.takeW (i := 7) (oi := ⟨some 18, .binOp .eql 3 (.tmp 17) (.const (.int .i64 1)) 3, 4, "keep.go:256", #[⟨6, .data⟩, ⟨1, .guard⟩], some (1, true)⟩) (v := ?_) [24] rfl (by kernel_rfl) (by kernel_rfl) (by decide) (by decide) (by kernel_rfl) (by kernel_rfl) (by kernel_rfl) (fun _ _ _ h => h) (by rfl) ?_ hS0 ?_
    rotate_left
    · (intro u hu; obtain ⟨u0, u1, u8, u9, ug⟩ := hu; go_simp; first | done | with_reducible rfl)
    try simp only [Act.put, List.setIfInBounds_toArray, List.set_cons_zero, List.set_cons_succ]
    refine Late.take (i := 8) (oi := ⟨some 19, .pick (.tmp 12) (.tmp 18) (.const (.bool false)), 4, "keep.go:256", #[⟨1, .data⟩, ⟨7, .data⟩], none⟩) (v := ?_) [24] rfl (by kernel_rfl) (by kernel_rfl) (by decide) (by decide) (by kernel_rfl) (by kernel_rfl) (by kernel_rfl) (fun _ _ _ h => h) rfl ?_ hS0 ?_
    rotate_left
    · (intro u hu; obtain ⟨u0, u1, u8, u9, ug⟩ := hu; go_simp; first | done | with_reducible rfl)
    try simp only [Act.put, List.setIfInBounds_toArray, List.set_cons_zero, List.set_cons_succ]
    refine Late.take (i := 9) (oi := ⟨some 20, .move (.tmp 19), 4, "keep.go:256", #[⟨8, .data⟩, ⟨6, .chain⟩], none⟩) (v := ?_) [24] rfl (by kernel_rfl) (by kernel_rfl) (by decide) (by decide) (by kernel_rfl) (by kernel_rfl) (by kernel_rfl) (fun _ _ _ h => h) rfl ?_ hS0 ?_
    rotate_left
    · (intro u hu; obtain ⟨u0, u1, u8, u9, ug⟩ := hu; go_simp; first | done | with_reducible rfl)
    try simp only [Act.put, List.setIfInBounds_toArray, List.set_cons_zero, List.set_cons_succ]
    refine Late.takeW (i := 10) (oi := ⟨some 21, .move (.tmp 3), 48, "keep.go:256", #[⟨9, .guard⟩], some (9, true)⟩) (v := ?_) [24] rfl (by kernel_rfl) (by kernel_rfl) (by decide) (by decide) (by kernel_rfl) (by kernel_rfl) (by kernel_rfl) (fun _ _ _ h => h) (by rfl) ?_ hS0 ?_
    rotate_left
    · (intro u hu; obtain ⟨u0, u1, u8, u9, ug⟩ := hu; go_simp; first | done | with_reducible rfl)
    try simp only [Act.put, List.setIfInBounds_toArray, List.set_cons_zero, List.set_cons_succ]
    refine Late.takeW (i := 11) (oi := ⟨some 22, .nilCheck (.tmp 21), 0, "keep.go:256", #[⟨10, .data⟩, ⟨9, .guard⟩], some (9, true)⟩) (v := ?_) [24] rfl (by kernel_rfl) (by kernel_rfl) (by decide) (by decide) (by kernel_rfl) (by kernel_rfl) (by kernel_rfl) (fun _ _ _ h => h) (by rfl) ?_ hS0 ?_
    rotate_left
    · (intro u hu; obtain ⟨u0, u1, u8, u9, ug⟩ := hu; go_simp; first | done | with_reducible rfl)
    try simp only [Act.put, List.setIfInBounds_toArray, List.set_cons_zero, List.set_cons_succ]
    refine Late.takeW (i := 12) (oi := ⟨some 23, .fieldAddr 53 (.tmp 22) 5, 0, "keep.go:256", #[⟨11, .data⟩, ⟨9, .guard⟩], some (9, true)⟩) (v := ?_) [24] rfl (by kernel_rfl) (by kernel_rfl) (by decide) (by decide) (by kernel_rfl) (by kernel_rfl) (by kernel_rfl) (fun _ _ _ h => h) (by rfl) ?_ hS0 ?_
    rotate_left
    · (intro u hu; obtain ⟨u0, u1, u8, u9, ug⟩ := hu; go_simp; first | done | with_reducible rfl)
    try simp only [Act.put, List.setIfInBounds_toArray, List.set_cons_zero, List.set_cons_succ]
    refine Late.takeW (i := 13) (oi := ⟨some 24, .load 51 (.tmp 23), 51, "keep.go:256", #[⟨12, .data⟩, ⟨9, .guard⟩], some (9, true)⟩) (v := ?_) [24] rfl (by kernel_rfl) (by kernel_rfl) (by decide) (by decide) (by kernel_rfl) (by kernel_rfl) (by kernel_rfl) (fun _ _ _ h => h) (by rfl) ?_ hS0 ?_
    rotate_left
    · (intro u hu; obtain ⟨u0, u1, u8, u9, ug⟩ := hu; go_simp; first | done | with_reducible rfl)
    try simp only [Act.put, List.setIfInBounds_toArray, List.set_cons_zero, List.set_cons_succ]
    refine Late.takeW (i := 14) (oi := ⟨some 25, .indexAddr 51 (.tmp 24) (.const (.int .i64 0)), 0, "keep.go:256", #[⟨13, .data⟩, ⟨9, .guard⟩], some (9, true)⟩) (v := ?_) [24] rfl (by kernel_rfl) (by kernel_rfl) (by decide) (by decide) (by kernel_rfl) (by kernel_rfl) (by kernel_rfl) (fun _ _ _ h => h) (by rfl) ?_ hS0 ?_
    rotate_left
    · (intro u hu; obtain ⟨u0, u1, u8, u9, ug⟩ := hu; go_simp; first | done | with_reducible rfl)
    try simp only [Act.put, List.setIfInBounds_toArray, List.set_cons_zero, List.set_cons_succ]
    refine Late.takeW (i := 15) (oi := ⟨some 26, .load 46 (.tmp 25), 46, "keep.go:256", #[⟨14, .data⟩, ⟨9, .guard⟩], some (9, true)⟩) (v := ?_) [24] rfl (by kernel_rfl) (by kernel_rfl) (by decide) (by decide) (by kernel_rfl) (by kernel_rfl) (by kernel_rfl) (fun _ _ _ h => h) (by rfl) ?_ hS0 ?_
    rotate_left
    · (intro u hu; obtain ⟨u0, u1, u8, u9, ug⟩ := hu; go_simp; first | done | with_reducible rfl)
    try simp only [Act.put, List.setIfInBounds_toArray, List.set_cons_zero, List.set_cons_succ]
    refine Late.takeW (i := 16) (oi := ⟨some 27, .call { callee := .builtin .len, args := #[.tmp 26], argTypes := #[46] }, 3, "keep.go:256", #[⟨15, .data⟩, ⟨9, .guard⟩], some (9, true)⟩) (v := ?_) [24] rfl (by kernel_rfl) (by kernel_rfl) (by decide) (by decide) (by kernel_rfl) (by kernel_rfl) (by kernel_rfl) (fun _ _ _ h => h) (by rfl) ?_ hS0 ?_
    rotate_left
    · (intro u hu; obtain ⟨u0, u1, u8, u9, ug⟩ := hu; go_simp; first | done | with_reducible rfl)
    try simp only [Act.put, List.setIfInBounds_toArray, List.set_cons_zero, List.set_cons_succ]
    refine Late.takeW (i := 17) (oi := ⟨some 28, .move (.tmp 3), 48, "keep.go:256", #[⟨9, .guard⟩], some (9, true)⟩) (v := ?_) [24] rfl (by kernel_rfl) (by kernel_rfl) (by decide) (by decide) (by kernel_rfl) (by kernel_rfl) (by kernel_rfl) (fun _ _ _ h => h) (by rfl) ?_ hS0 ?_
    rotate_left
    · (intro u hu; obtain ⟨u0, u1, u8, u9, ug⟩ := hu; go_simp; first | done | with_reducible rfl)
    try simp only [Act.put, List.setIfInBounds_toArray, List.set_cons_zero, List.set_cons_succ]
    refine Late.takeW (i := 18) (oi := ⟨some 29, .nilCheck (.tmp 28), 0, "keep.go:256", #[⟨17, .data⟩, ⟨9, .guard⟩], some (9, true)⟩) (v := ?_) [24] rfl (by kernel_rfl) (by kernel_rfl) (by decide) (by decide) (by kernel_rfl) (by kernel_rfl) (by kernel_rfl) (fun _ _ _ h => h) (by rfl) ?_ hS0 ?_
    rotate_left
    · (intro u hu; obtain ⟨u0, u1, u8, u9, ug⟩ := hu; go_simp; first | done | with_reducible rfl)
    try simp only [Act.put, List.setIfInBounds_toArray, List.set_cons_zero, List.set_cons_succ]
    refine Late.takeW (i := 19) (oi := ⟨some 30, .fieldAddr 53 (.tmp 29) 0, 0, "keep.go:256", #[⟨18, .data⟩, ⟨9, .guard⟩], some (9, true)⟩) (v := ?_) [24] rfl (by kernel_rfl) (by kernel_rfl) (by decide) (by decide) (by kernel_rfl) (by kernel_rfl) (by kernel_rfl) (fun _ _ _ h => h) (by rfl) ?_ hS0 ?_
    rotate_left
    · (intro u hu; obtain ⟨u0, u1, u8, u9, ug⟩ := hu; go_simp; first | done | with_reducible rfl)
    try simp only [Act.put, List.setIfInBounds_toArray, List.set_cons_zero, List.set_cons_succ]
    refine Late.takeW (i := 20) (oi := ⟨some 31, .load 42 (.tmp 30), 42, "keep.go:256", #[⟨19, .data⟩, ⟨9, .guard⟩], some (9, true)⟩) (v := ?_) [24] rfl (by kernel_rfl) (by kernel_rfl) (by decide) (by decide) (by kernel_rfl) (by kernel_rfl) (by kernel_rfl) (fun _ _ _ h => h) (by rfl) ?_ hS0 ?_
    rotate_left
    · (intro u hu; obtain ⟨u0, u1, u8, u9, ug⟩ := hu; go_simp; first | done | with_reducible rfl)
    try simp only [Act.put, List.setIfInBounds_toArray, List.set_cons_zero, List.set_cons_succ]
    refine Late.one (i := 21) (o := ⟨some 32, .call { callee := .value (.func 19), args := #[.tmp 31], argTypes := #[42] }, 3, "keep.go:256", #[⟨20, .data⟩, ⟨9, .chain⟩, ⟨9, .guard⟩], some (9, true)⟩) (by kernel_rfl) rfl (fun K hK => ?_)
    refine step_call_w (by rfl) 19 #[.agg #[.slice na nn nc, .slice ga gn gc]] (by go_simp) ?_
    refine ((unhide HT) w2.drew xd).mono ?_
    rintro r w3 ⟨rfl, x3⟩
    have x23 : Ext w2 w3 := xd.trans x3
    have hS3 : w3.cell? ⟨Y, 0, none⟩ = some (.slice na nn nc) ∧ w3.cell? ⟨Y, 1, none⟩ = some (.slice ga gn gc) ∧ w3.cell? ⟨Y, 8, none⟩ = some (PtrTo X 0) ∧ w3.cell? ⟨Y, 9, none⟩ = some (.slice (some ⟨em.Lb, 0, none⟩) d.cols.length d.cols.length) ∧ w3.cell? ⟨em.Lb, 0, none⟩ = some (.slice va (totalOf d.gs) vc) := ⟨x23.cell c0 id, x23.cell c1 id, x23.cell c8 id, x23.cell c9 id, x23.cell g0 id⟩
    refine ⟨_, rfl, hK _ _ (fun _ => hS3) ?_⟩
    clear hK K
    try simp only [Act.put, List.setIfInBounds_toArray, List.set_cons_zero, List.set_cons_succ]
    refine Late.takeW (i := 22) (oi := ⟨some 33, .binOp .eql 3 (.tmp 27) (.tmp 32) 3, 4, "keep.go:256", #[⟨16, .data⟩, ⟨21, .data⟩, ⟨9, .guard⟩], some (9, true)⟩) (v := ?_) [24] rfl (by kernel_rfl) (by kernel_rfl) (by decide) (by decide) (by kernel_rfl) (by kernel_rfl) (by kernel_rfl) (fun _ _ _ h => h) (by rfl) ?_ hS3 ?_
    rotate_left
    · (intro u hu; obtain ⟨u0, u1, u8, u9, ug⟩ := hu; go_simp; first | done | with_reducible rfl)
    try simp only [Act.put, List.setIfInBounds_toArray, List.set_cons_zero, List.set_cons_succ]
    refine Late.take (i := 23) (oi := ⟨some 34, .pick (.tmp 20) (.tmp 33) (.const (.bool false)), 4, "keep.go:256", #[⟨9, .data⟩, ⟨22, .data⟩], none⟩) (v := ?_) [24] rfl (by kernel_rfl) (by kernel_rfl) (by decide) (by decide) (by kernel_rfl) (by kernel_rfl) (by kernel_rfl) (fun _ _ _ h => h) rfl ?_ hS3 ?_
    rotate_left
    · (intro u hu; obtain ⟨u0, u1, u8, u9, ug⟩ := hu; go_simp; first | done | with_reducible rfl)
    try simp only [Act.put, List.setIfInBounds_toArray, List.set_cons_zero, List.set_cons_succ]
    refine Late.one (i := 24) (o := ⟨some 2, .assign (.tmp 34), 4, "keep.go:256", #[⟨23, .data⟩, ⟨21, .chain⟩, ⟨0, .phase⟩, ⟨1, .phase⟩, ⟨2, .phase⟩, ⟨3, .phase⟩, ⟨4, .phase⟩, ⟨5, .phase⟩, ⟨6, .phase⟩, ⟨7, .phase⟩, ⟨8, .phase⟩, ⟨9, .phase⟩, ⟨10, .phase⟩, ⟨11, .phase⟩, ⟨12, .phase⟩, ⟨13, .phase⟩, ⟨14, .phase⟩, ⟨15, .phase⟩, ⟨16, .phase⟩, ⟨17, .phase⟩, ⟨18, .phase⟩, ⟨19, .phase⟩, ⟨20, .phase⟩, ⟨21, .phase⟩, ⟨22, .phase⟩, ⟨23, .phase⟩], none⟩) (by kernel_rfl) rfl (fun K hK => ?_)
    go_simp
    refine hK _ _ (fun h => absurd rfl h) ?_
    clear hK K
    try simp only [Act.put, List.setIfInBounds_toArray, List.set_cons_zero, List.set_cons_succ]
    refine Late.done (by kernel_rfl) ?_ _
    go_wp2_with fail
    go_ret
    exact ⟨rfl, HX2.out.trans x23⟩
  · have := hd.T1
    omega
end Go.Proofs.YthicgffppmbamaaGreat

namespace Go.Proofs.YthicgffppmbamaaGreat
open Go.RowKit Go.ChangeShapes Go.WideShapes Go.Deep
section
variable {H : Type} {enc : TypeId × Value → H} {W : World}
theorem inI_of {k : Int} (h : (Lit.int .i64 k).wf = true) : InI k := by
  simp only [Lit.wf, Bool.and_eq_true, decide_eq_true_eq] at h
  have e1 : IntKind.i64.min = -9223372036854775808 := by decide
  have e2 : IntKind.i64.max = 9223372036854775807 := by decide
  rw [e1, e2] at h
  exact h
theorem rdI_rng {fuel : Nat} {v : Value} {d : DataW H} {pl : List MemPlace} (h : DataW.trod enc Tryz.prog W 0 (fun _ => true) true fuel 46 [v] = some (d, pl)) (hf : FitsIn 46 d) : ∃ xs : List Int, RdI W.heap.size W v xs ∧ xs.length ≤ 17592186043904 ∧ ∀ x ∈ xs, InI x := by
  obtain ⟨vs, hr, hl, n, he⟩ := rd_open Tryz.underlying46 cells3 bytes3 (by omega) h hf
  have e : vs = (vs.map intOf).map I := by
    rw [List.map_map]
    conv => lhs; rw [← List.map_id vs]
    refine List.map_congr_left (fun u hu => ?_)
    obtain ⟨x, hx, _⟩ := he u hu
    obtain ⟨k, hk, _⟩ := DataW.trod_int Tryz.underlying3 hx
    simp only [List.cons.injEq, and_true] at hk
    subst hk
    rfl
  refine ⟨vs.map intOf, by unfold RdI; rw [← e]; exact hr, ?_, fun x hx => ?_⟩
  · rw [List.length_map]
    rw [reach_eq] at hl
    omega
  · obtain ⟨u, hu, rfl⟩ := List.mem_map.1 hx
    obtain ⟨y, hy, _⟩ := he u hu
    obtain ⟨k, hk, -, hwf⟩ := DataW.trod_int Tryz.underlying3 hy
    simp only [List.cons.injEq, and_true] at hk
    subst hk
    exact inI_of hwf
end
end Go.Proofs.YthicgffppmbamaaGreat

namespace Go.Proofs.YthicgffppmbamaaGreat
open Go.RowKit

/-- a list of acts that is read -/
def RdA (B : Nat) (w : World) (v : Value) (l : List (Int × Int × Int)) : Prop :=
  ∃ ao cap, v = .slice ao l.length cap ∧ l.length ≤ cap ∧ l.length ≤ 17592186044416 ∧ (0 < l.length → ∃ b off, ao = some ⟨b, off, none⟩ ∧ b < B ∧ ∀ j (h : j < l.length), w.cell? ⟨b, off + j * 3, none⟩ = some (.int .i64 l[j].1) ∧ w.cell? ⟨b, off + j * 3 + 1, none⟩ = some (.int .i64 l[j].2.1) ∧ w.cell? ⟨b, off + j * 3 + 2, none⟩ = some (.int .i64 l[j].2.2)) ∧
    ∀ a ∈ l, InI a.1 ∧ InI a.2.1 ∧ InI a.2.2

set_option maxRecDepth 20000 in
set_option maxHeartbeats 4000000 in
theorem steadyLaw_any (w : World) (lv sv : Value) (l : List Int) (s : List (Int × Int × Int)) (hr : RdI w.heap.size w lv l) (hlen : l.length ≤ 17592186043904) (hrng : ∀ x ∈ l, InI x) (hs : RdA w.heap.size w sv s) :
    Calls Tryz.prog 6 #[lv, sv] w fun r w' => r = .returned (.bool true) ∧ Ext w w' := by
  have HO := hide (opened_any w lv l hr hlen hrng)
  have hd := ypOf_dok l
  have hin := sSet_in l
  have hko := ypOf_open l (ypOf l).W (ypOf l).G hd.W4 (by show (sS4 l).1 ≤ 32; omega)
  obtain ⟨la, lc, rfl, -, -, -⟩ := RdI.open hr
  obtain ⟨sa, sc, rfl, hsc, hsl, hscell, hsin⟩ := hs
  go_enter Tryz.func6, Tryz.ntmps6
  go_wp2_with fail
  refine (unhide HO).mono ?_
  rintro r w1 ⟨Y, X, P, col, em, vs, rfl, hy, x1, -, -⟩
  clear HO
  generalize ypOf l = d at *
  have HY := hide hy
  have HK := hide hko
  have z1 := x1.size
  clear hy hko
  go_wp2_with fail
  go_loopw [6, 7] (fun f i wr => ∃ (j Fl : Nat) (col' : Colr) (vs' : List Value) (m' : Pl.Sc) (k' N' : Nat), i = .int .i64 j ∧ f = .int .i64 Fl ∧ j ≤ s.length ∧ j ≤ 120 ∧ Fl ≤ j ∧ N' ≤ 1 + 24 * j ∧ YAt (grow (grow (fun _ => False) w w1) w1 wr) d em col' wr Y X P m' vs' k' ∧ Kp (grow (fun _ => False) w w1) w1 wr ∧ KxD d m' N' k' Fl) (fun _ i _ => 130 - (intOf i).toNat)
  case atStart => exact ⟨0, 0, col, vs, _, 0, 1, rfl, rfl, by omega, by omega, by omega, by omega, HY.out.mono (fun b hb => .inl hb), Kp.refl _ _, HK.out⟩
  case round =>
    obtain ⟨j, Fl, col1, vs1, m1, k1, N1, rfl, rfl, hj, hj120, hFl, hN1, hy1, kO, hk1⟩ := hrel
    have x2 : Ext w wr := Kp.grow x1 kO
    by_cases hjl : j < s.length ∧ j < 120
    · have hj1 : (j : Int) < (s.length : Int) := by omega
      have hj2 : (j : Int) < 120 := by omega
      have jj0 : (0 : Int) ≤ (j : Int) := by omega
      have dj1 : decide ((j : Int) < (s.length : Int)) = true := decide_eq_true hj1
      have dj2 : decide ((j : Int) < 120) = true := decide_eq_true hj2
      obtain ⟨sb, soff, rfl, hsb, hcell⟩ := hscell (by omega)
      obtain ⟨q0, q1, q2⟩ := hcell j hjl.1
      obtain ⟨i0, i1, i2⟩ := hsin s[j] (List.getElem_mem hjl.1)
      generalize s[j] = a at *
      have c0 := x2.cell q0 id
      have c1 := x2.cell q1 id
      have c2 := x2.cell q2 id
      have HAC := hide (act_any _ d em col1 wr Y X P m1 vs1 k1 N1 Fl a.1 a.2.1 a.2.2 hd hk1 hy1 (by omega) i0 i1 i2)
      have HPK := hide (fun u => kpick_any u a.1 7 i0.1 i0.2 (by omega) (by omega))
      have HFN : Hid (failN a.1 = (if pickP a.1 7 = 4 then 1 else 0)) := rfl
      generalize a.1 = kd at *
      generalize a.2.1 = A at *
      generalize a.2.2 = B at *
      clear hcell hy1 hk1
      go_wp2_with fail
      refine (unhide HAC).mono ?_
      rintro r w3 ⟨rfl, col3, vs3, m3, k3, hy3, kO3, hk3, -⟩
      clear HAC
      have x3 : Ext w w3 := Kp.grow x1 (kO.grow kO3)
      have z3 := kO3.size
      have z2 := kO.size
      have e0 := x3.cell q0 id
      clear q0 q1 q2
      have hk3' : KxD d m3 (N1 + 24) k3 (Fl + (if pickP kd 7 = 4 then 1 else 0)) := by rw [← HFN.out]; exact hk3
      have HY3 := hide hy3
      have HK3 := hide hk3'
      clear hy3 hk3 hk3' c0 c1 c2
      by_cases h4 : pickP kd 7 = 4
      · rw [h4] at HPK HK3
        rw [if_pos rfl] at HK3
        clear h4
        go_wp2_with (first | (go_at_call 21; refine ((unhide HPK) _).mono ?_; rintro r w3x ⟨rfl, hwx⟩; rw [hwx]; clear hwx) | fail)
        refine ⟨⟨j + 1, Fl + 1, col3, vs3, m3, k3, N1 + 24, by go_num, by go_num, by omega, by omega, by omega, by omega, ?_, ?_, HK3.out⟩, by simp [intOf]; omega⟩
        · exact HY3.out.mono (fun b hb => grow_grow z2 z3 b hb)
        · exact kO.grow kO3
      · have h4i : ¬ ((pickP kd 7 : Nat) : Int) = 4 := by omega
        rw [if_neg h4, Nat.add_zero] at HK3
        clear h4
        go_wp2_with (first | (go_at_call 21; refine ((unhide HPK) _).mono ?_; rintro r w3x ⟨rfl, hwx⟩; rw [hwx]; clear hwx) | fail)
        refine ⟨⟨j + 1, Fl, col3, vs3, m3, k3, N1 + 24, by go_num, rfl, by omega, by omega, by omega, by omega, ?_, ?_, HK3.out⟩, by simp [intOf]; omega⟩
        · exact HY3.out.mono (fun b hb => grow_grow z2 z3 b hb)
        · exact kO.grow kO3
    · have hFN := hide (finishes_any _ d em col1 wr Y X P m1 vs1 k1 N1 Fl hd hk1 hy1 (by omega))
      have dj : (decide ((j : Int) < (s.length : Int)) && decide ((j : Int) < 120)) = false := by
        rw [Bool.and_eq_false_iff, decide_eq_false_iff_not, decide_eq_false_iff_not]
        omega
      clear hy1 hk1
      by_cases hj1 : j < s.length
      · have dj1 : decide ((j : Int) < (s.length : Int)) = true := decide_eq_true (by omega)
        have dj2 : decide ((j : Int) < 120) = false := decide_eq_false (by omega)
        have hj1i : (j : Int) < (s.length : Int) := by omega
        have hj2i : ¬ (j : Int) < 120 := by omega
        go_wp2_with fail
        refine (unhide hFN).mono ?_
        rintro r w3 ⟨rfl, col3, vs3, m3, k3, N3, hy3, kO3, hk3, hs3, -⟩
        clear hFN
        have x3 : Ext w w3 := Kp.grow x1 (kO.grow kO3)
        rcases hk3.ended_of hs3 with ⟨rfl, hk⟩ | ⟨rfl, hT⟩
        · obtain ⟨na, nn, nc, ga, gn, gc, va, vc, hnv, hgv, he⟩ := hy3.ends hd (by omega)
          have HT := hide (fun u hu => hy3.total hd u hu)
          rw [hnv, hgv] at HT
          have HST : Hid (Calls Tryz.prog 18 #[PtrTo X 0] w3 fun r w' => r = .returned (.int .i64 1) ∧ w' = w3) := xState_any col3 w3 X P (Pl.ended 1) hy3.isX
          have HX3 := hide x3
          rw [hk] at he
          obtain ⟨c0, c1, c5, c8, c9, g0⟩ := he
          have hcl := hd.c1
          have hcn : 0 < d.cols.length := by omega
          clear hy3 hk3 kO3 hk x3 hs3 hnv hgv kO x2
          go_wp2_with (first | (go_at_call 18; refine (unhide HST).mono ?_; rintro r w3x ⟨rfl, hwx⟩; rw [hwx]; clear hwx) | fail)
          have hS0 : w3.drew.cell? ⟨Y, 0, none⟩ = some (.slice na nn nc) ∧ w3.drew.cell? ⟨Y, 1, none⟩ = some (.slice ga gn gc) ∧ w3.drew.cell? ⟨Y, 9, none⟩ = some (.slice (some ⟨em.Lb, 0, none⟩) d.cols.length d.cols.length) ∧ w3.drew.cell? ⟨em.Lb, 0, none⟩ = some (.slice va (totalOf d.gs) vc) := ⟨c0, c1, c9, g0⟩
          have xd : Ext w3 w3.drew := (Kp.refl _ _).drew
          refine wp_region_late (n := 13) (fun u => u.cell? ⟨Y, 0, none⟩ = some (.slice na nn nc) ∧ u.cell? ⟨Y, 1, none⟩ = some (.slice ga gn gc) ∧ u.cell? ⟨Y, 9, none⟩ = some (.slice (some ⟨em.Lb, 0, none⟩) d.cols.length d.cols.length) ∧ u.cell? ⟨em.Lb, 0, none⟩ = some (.slice va (totalOf d.gs) vc)) (by kernel_rfl) ?_
          refine Late.take (i := 0) (oi := ⟨some 61, .move (.tmp 5), 48, "keep.go:281", #[], none⟩) (v := ?_) [13] rfl (by kernel_rfl) (by kernel_rfl) (by decide) (by decide) (by kernel_rfl) (by kernel_rfl) (by kernel_rfl) (fun _ _ _ h => h) rfl ?_ hS0 ?_
          rotate_left
          · (intro u hu; obtain ⟨u0, u1, u9, ug⟩ := hu; go_simp; first | done | with_reducible rfl)
          try simp only [Act.put, List.setIfInBounds_toArray, List.set_cons_zero, List.set_cons_succ]
          refine Late.take (i := 1) (oi := ⟨some 62, .nilCheck (.tmp 61), 0, "keep.go:281", #[⟨0, .data⟩], none⟩) (v := ?_) [13] rfl (by kernel_rfl) (by kernel_rfl) (by decide) (by decide) (by kernel_rfl) (by kernel_rfl) (by kernel_rfl) (fun _ _ _ h => h) rfl ?_ hS0 ?_
          rotate_left
          · (intro u hu; obtain ⟨u0, u1, u9, ug⟩ := hu; go_simp; first | done | with_reducible rfl)
          try simp only [Act.put, List.setIfInBounds_toArray, List.set_cons_zero, List.set_cons_succ]
          refine Late.take (i := 2) (oi := ⟨some 63, .fieldAddr 53 (.tmp 62) 5, 0, "keep.go:281", #[⟨1, .data⟩], none⟩) (v := ?_) [13] rfl (by kernel_rfl) (by kernel_rfl) (by decide) (by decide) (by kernel_rfl) (by kernel_rfl) (by kernel_rfl) (fun _ _ _ h => h) rfl ?_ hS0 ?_
          rotate_left
          · (intro u hu; obtain ⟨u0, u1, u9, ug⟩ := hu; go_simp; first | done | with_reducible rfl)
          try simp only [Act.put, List.setIfInBounds_toArray, List.set_cons_zero, List.set_cons_succ]
          refine Late.take (i := 3) (oi := ⟨some 64, .load 51 (.tmp 63), 51, "keep.go:281", #[⟨2, .data⟩], none⟩) (v := ?_) [13] rfl (by kernel_rfl) (by kernel_rfl) (by decide) (by decide) (by kernel_rfl) (by kernel_rfl) (by kernel_rfl) (fun _ _ _ h => h) rfl ?_ hS0 ?_
          rotate_left
          · (intro u hu; obtain ⟨u0, u1, u9, ug⟩ := hu; go_simp; first | done | with_reducible rfl)
          try simp only [Act.put, List.setIfInBounds_toArray, List.set_cons_zero, List.set_cons_succ]
          refine Late.take (i := 4) (oi := ⟨some 65, .indexAddr 51 (.tmp 64) (.const (.int .i64 0)), 0, "keep.go:281", #[⟨3, .data⟩], none⟩) (v := ?_) [13] rfl (by kernel_rfl) (by kernel_rfl) (by decide) (by decide) (by kernel_rfl) (by kernel_rfl) (by kernel_rfl) (fun _ _ _ h => h) rfl ?_ hS0 ?_
          rotate_left
          · (intro u hu; obtain ⟨u0, u1, u9, ug⟩ := hu; go_simp; first | done | with_reducible rfl)
          try simp only [Act.put, List.setIfInBounds_toArray, List.set_cons_zero, List.set_cons_succ]
          refine Late.take (i := 5) (oi := ⟨some 66, .load 46 (.tmp 65), 46, "keep.go:281", #[⟨4, .data⟩], none⟩) (v := ?_) [13] rfl (by kernel_rfl) (by kernel_rfl) (by decide) (by decide) (by kernel_rfl) (by kernel_rfl) (by kernel_rfl) (fun _ _ _ h => h) rfl ?_ hS0 ?_
          rotate_left
          · (intro u hu; obtain ⟨u0, u1, u9, ug⟩ := hu; go_simp; first | done | with_reducible rfl)
          try simp only [Act.put, List.setIfInBounds_toArray, List.set_cons_zero, List.set_cons_succ]
          refine Late.take (i := 6) (oi := ⟨some 67, .call { callee := .builtin .len, args := #[.tmp 66], argTypes := #[46] }, 3, "keep.go:281", #[⟨5, .data⟩], none⟩) (v := ?_) [13] rfl (by kernel_rfl) (by kernel_rfl) (by decide) (by decide) (by kernel_rfl) (by kernel_rfl) (by kernel_rfl) (fun _ _ _ h => h) rfl ?_ hS0 ?_
          rotate_left
          · (intro u hu; obtain ⟨u0, u1, u9, ug⟩ := hu; go_simp; first | done | with_reducible rfl)
          try simp only [Act.put, List.setIfInBounds_toArray, List.set_cons_zero, List.set_cons_succ]
          refine Late.take (i := 7) (oi := ⟨some 68, .move (.tmp 5), 48, "keep.go:281", #[], none⟩) (v := ?_) [13] rfl (by kernel_rfl) (by kernel_rfl) (by decide) (by decide) (by kernel_rfl) (by kernel_rfl) (by kernel_rfl) (fun _ _ _ h => h) rfl ?_ hS0 ?_
          rotate_left
          · (intro u hu; obtain ⟨u0, u1, u9, ug⟩ := hu; go_simp; first | done | with_reducible rfl)
          try simp only [Act.put, List.setIfInBounds_toArray, List.set_cons_zero, List.set_cons_succ]
          refine Late.take (i := 8) (oi := ⟨some 69, .nilCheck (.tmp 68), 0, "keep.go:281", #[⟨7, .data⟩], none⟩) (v := ?_) [13] rfl (by kernel_rfl) (by kernel_rfl) (by decide) (by decide) (by kernel_rfl) (by kernel_rfl) (by kernel_rfl) (fun _ _ _ h => h) rfl ?_ hS0 ?_
          rotate_left
          · (intro u hu; obtain ⟨u0, u1, u9, ug⟩ := hu; go_simp; first | done | with_reducible rfl)
          try simp only [Act.put, List.setIfInBounds_toArray, List.set_cons_zero, List.set_cons_succ]
          refine Late.take (i := 9) (oi := ⟨some 70, .fieldAddr 53 (.tmp 69) 0, 0, "keep.go:281", #[⟨8, .data⟩], none⟩) (v := ?_) [13] rfl (by kernel_rfl) (by kernel_rfl) (by decide) (by decide) (by kernel_rfl) (by kernel_rfl) (by kernel_rfl) (fun _ _ _ h => h) rfl ?_ hS0 ?_
          rotate_left
          · (intro u hu; obtain ⟨u0, u1, u9, ug⟩ := hu; go_simp; first | done | with_reducible rfl)
          try simp only [Act.put, List.setIfInBounds_toArray, List.set_cons_zero, List.set_cons_succ]
          refine Late.take (i := 10) (oi := ⟨some 71, .load 42 (.tmp 70), 42, "keep.go:281", #[⟨9, .data⟩], none⟩) (v := ?_) [13] rfl (by kernel_rfl) (by kernel_rfl) (by decide) (by decide) (by kernel_rfl) (by kernel_rfl) (by kernel_rfl) (fun _ _ _ h => h) rfl ?_ hS0 ?_
          rotate_left
          · (intro u hu; obtain ⟨u0, u1, u9, ug⟩ := hu; go_simp; first | done | with_reducible rfl)
          try simp only [Act.put, List.setIfInBounds_toArray, List.set_cons_zero, List.set_cons_succ]
          refine Late.one (i := 11) (o := ⟨some 72, .call { callee := .value (.func 19), args := #[.tmp 71], argTypes := #[42] }, 3, "keep.go:281", #[⟨10, .data⟩], none⟩) (by kernel_rfl) rfl (fun K hK => ?_)
          refine step_call_g rfl 19 #[.agg #[.slice na nn nc, .slice ga gn gc]] (by go_simp) ?_
          refine ((unhide HT) w3.drew xd).mono ?_
          rintro r w4 ⟨rfl, x4⟩
          have x34 : Ext w3 w4 := xd.trans x4
          have hS3 : w4.cell? ⟨Y, 0, none⟩ = some (.slice na nn nc) ∧ w4.cell? ⟨Y, 1, none⟩ = some (.slice ga gn gc) ∧ w4.cell? ⟨Y, 9, none⟩ = some (.slice (some ⟨em.Lb, 0, none⟩) d.cols.length d.cols.length) ∧ w4.cell? ⟨em.Lb, 0, none⟩ = some (.slice va (totalOf d.gs) vc) := ⟨x34.cell c0 id, x34.cell c1 id, x34.cell c9 id, x34.cell g0 id⟩
          refine ⟨_, rfl, hK _ _ (fun _ => hS3) ?_⟩
          clear hK K
          try simp only [Act.put, List.setIfInBounds_toArray, List.set_cons_zero, List.set_cons_succ]
          refine Late.take (i := 12) (oi := ⟨some 73, .binOp .eql 3 (.tmp 67) (.tmp 72) 3, 4, "keep.go:281", #[⟨6, .data⟩, ⟨11, .data⟩], none⟩) (v := ?_) [13] rfl (by kernel_rfl) (by kernel_rfl) (by decide) (by decide) (by kernel_rfl) (by kernel_rfl) (by kernel_rfl) (fun _ _ _ h => h) rfl ?_ hS3 ?_
          rotate_left
          · (intro u hu; obtain ⟨u0, u1, u9, ug⟩ := hu; go_simp; first | done | with_reducible rfl)
          try simp only [Act.put, List.setIfInBounds_toArray, List.set_cons_zero, List.set_cons_succ]
          refine Late.one (i := 13) (o := ⟨some 4, .assign (.tmp 73), 4, "keep.go:281", #[⟨12, .data⟩, ⟨11, .chain⟩, ⟨0, .phase⟩, ⟨1, .phase⟩, ⟨2, .phase⟩, ⟨3, .phase⟩, ⟨4, .phase⟩, ⟨5, .phase⟩, ⟨6, .phase⟩, ⟨7, .phase⟩, ⟨8, .phase⟩, ⟨9, .phase⟩, ⟨10, .phase⟩, ⟨11, .phase⟩, ⟨12, .phase⟩], none⟩) (by kernel_rfl) rfl (fun K hK => ?_)
          go_simp
          refine hK _ _ (fun h => absurd rfl h) ?_
          clear hK K
          try simp only [Act.put, List.setIfInBounds_toArray, List.set_cons_zero, List.set_cons_succ]
          refine Late.done (by kernel_rfl) ?_ _
          go_wp2_with fail
          go_ret
          exact ⟨rfl, HX3.out.trans x34⟩
        · have c5 := hy3.blk.cell 5
          have c8 := hy3.blk.cell 8
          simp only [yCells, I, List.getElem?_cons_zero, List.getElem?_cons_succ] at c5 c8
          have HST : Hid (Calls Tryz.prog 18 #[PtrTo X 0] w3 fun r w' => r = .returned (.int .i64 4) ∧ w' = w3) := xState_any col3 w3 X P (Pl.ended 4) hy3.isX
          have hTF : (d.T : Int) ≤ (Fl : Int) := by omega
          have HX3 := hide x3
          clear hy3 hk3 kO3 x3 hs3 kO x2
          go_wp2_with (first | (go_at_call 18; refine (unhide HST).mono ?_; rintro r w3x ⟨rfl, hwx⟩; rw [hwx]; clear hwx) | fail)
          go_ret
          exact ⟨rfl, HX3.out⟩
      · have dj1 : decide ((j : Int) < (s.length : Int)) = false := decide_eq_false (by omega)
        have hj1i : ¬ (j : Int) < (s.length : Int) := by omega
        go_wp2_with fail
        refine (unhide hFN).mono ?_
        rintro r w3 ⟨rfl, col3, vs3, m3, k3, N3, hy3, kO3, hk3, hs3, -⟩
        clear hFN
        have x3 : Ext w w3 := Kp.grow x1 (kO.grow kO3)
        rcases hk3.ended_of hs3 with ⟨rfl, hk⟩ | ⟨rfl, hT⟩
        · obtain ⟨na, nn, nc, ga, gn, gc, va, vc, hnv, hgv, he⟩ := hy3.ends hd (by omega)
          have HT := hide (fun u hu => hy3.total hd u hu)
          rw [hnv, hgv] at HT
          have HST : Hid (Calls Tryz.prog 18 #[PtrTo X 0] w3 fun r w' => r = .returned (.int .i64 1) ∧ w' = w3) := xState_any col3 w3 X P (Pl.ended 1) hy3.isX
          have HX3 := hide x3
          rw [hk] at he
          obtain ⟨c0, c1, c5, c8, c9, g0⟩ := he
          have hcl := hd.c1
          have hcn : 0 < d.cols.length := by omega
          clear hy3 hk3 kO3 hk x3 hs3 hnv hgv kO x2
          go_wp2_with (first | (go_at_call 18; refine (unhide HST).mono ?_; rintro r w3x ⟨rfl, hwx⟩; rw [hwx]; clear hwx) | fail)
          have hS0 : w3.drew.cell? ⟨Y, 0, none⟩ = some (.slice na nn nc) ∧ w3.drew.cell? ⟨Y, 1, none⟩ = some (.slice ga gn gc) ∧ w3.drew.cell? ⟨Y, 9, none⟩ = some (.slice (some ⟨em.Lb, 0, none⟩) d.cols.length d.cols.length) ∧ w3.drew.cell? ⟨em.Lb, 0, none⟩ = some (.slice va (totalOf d.gs) vc) := ⟨c0, c1, c9, g0⟩
          have xd : Ext w3 w3.drew := (Kp.refl _ _).drew
          refine wp_region_late (n := 13) (fun u => u.cell? ⟨Y, 0, none⟩ = some (.slice na nn nc) ∧ u.cell? ⟨Y, 1, none⟩ = some (.slice ga gn gc) ∧ u.cell? ⟨Y, 9, none⟩ = some (.slice (some ⟨em.Lb, 0, none⟩) d.cols.length d.cols.length) ∧ u.cell? ⟨em.Lb, 0, none⟩ = some (.slice va (totalOf d.gs) vc)) (by kernel_rfl) ?_
          refine Late.take (i := 0) (oi := ⟨some 61, .move (.tmp 5), 48, "keep.go:281", #[], none⟩) (v := ?_) [13] rfl (by kernel_rfl) (by kernel_rfl) (by decide) (by decide) (by kernel_rfl) (by kernel_rfl) (by kernel_rfl) (fun _ _ _ h => h) rfl ?_ hS0 ?_
          rotate_left
          · (intro u hu; obtain ⟨u0, u1, u9, ug⟩ := hu; go_simp; first | done | with_reducible rfl)
          try simp only [Act.put, List.setIfInBounds_toArray, List.set_cons_zero, List.set_cons_succ]
          refine Late.take (i := 1) (oi := ⟨some 62, .nilCheck (.tmp 61), 0, "keep.go:281", #[⟨0, .data⟩], none⟩) (v := ?_) [13] rfl (by kernel_rfl) (by kernel_rfl) (by decide) (by decide) (by kernel_rfl) (by kernel_rfl) (by kernel_rfl) (fun _ _ _ h => h) rfl ?_ hS0 ?_
          rotate_left
          · (intro u hu; obtain ⟨u0, u1, u9, ug⟩ := hu; go_simp; first | done | with_reducible rfl)
          try simp only [Act.put, List.setIfInBounds_toArray, List.set_cons_zero, List.set_cons_succ]
          refine Late.take (i := 2) (oi := ⟨some 63, .fieldAddr 53 (.tmp 62) 5, 0, "keep.go:281", #[⟨1, .data⟩], none⟩) (v := ?_) [13] rfl (by kernel_rfl) (by kernel_rfl) (by decide) (by decide) (by kernel_rfl) (by kernel_rfl) (by kernel_rfl) (fun _ _ _ h => h) rfl ?_ hS0 ?_
          rotate_left
          · (intro u hu; obtain ⟨u0, u1, u9, ug⟩ := hu; go_simp; first | done | with_reducible rfl)
          try simp only [Act.put, List.setIfInBounds_toArray, List.set_cons_zero, List.set_cons_succ]
          refine Late.take (i := 3) (oi := ⟨some 64, .load 51 (.tmp 63), 51, "keep.go:281", #[⟨2, .data⟩], none⟩) (v := ?_) [13] rfl (by kernel_rfl) (by kernel_rfl) (by decide) (by decide) (by kernel_rfl) (by kernel_rfl) (by kernel_rfl) (fun _ _ _ h => h) rfl ?_ hS0 ?_
          rotate_left
          · (intro u hu; obtain ⟨u0, u1, u9, ug⟩ := hu; go_simp; first | done | with_reducible rfl)
          try simp only [Act.put, List.setIfInBounds_toArray, List.set_cons_zero, List.set_cons_succ]
          refine Late.take (i := 4) (oi := ⟨some 65, .indexAddr 51 (.tmp 64) (.const (.int .i64 0)), 0, "keep.go:281", #[⟨3, .data⟩], none⟩) (v := ?_) [13] rfl (by kernel_rfl) (by kernel_rfl) (by decide) (by decide) (by kernel_rfl) (by kernel_rfl) (by kernel_rfl) (fun _ _ _ h => h) rfl ?_ hS0 ?_
          rotate_left
          · (intro u hu; obtain ⟨u0, u1, u9, ug⟩ := hu; go_simp; first | done | with_reducible rfl)
          try simp only [Act.put, List.setIfInBounds_toArray, List.set_cons_zero, List.set_cons_succ]
          refine Late.take (i := 5) (oi := ⟨some 66, .load 46 (.tmp 65), 46, "keep.go:281", #[⟨4, .data⟩], none⟩) (v := ?_) [13] rfl (by kernel_rfl) (by kernel_rfl) (by decide) (by decide) (by kernel_rfl) (by kernel_rfl) (by kernel_rfl) (fun _ _ _ h => h) rfl ?_ hS0 ?_
          rotate_left
          · (intro u hu; obtain ⟨u0, u1, u9, ug⟩ := hu; go_simp; first | done | with_reducible rfl)
          try simp only [Act.put, List.setIfInBounds_toArray, List.set_cons_zero, List.set_cons_succ]
          refine Late.take (i := 6) (oi := ⟨some 67, .call { callee := .builtin .len, args := #[.tmp 66], argTypes := #[46] }, 3, "keep.go:281", #[⟨5, .data⟩], none⟩) (v := ?_) [13] rfl (by kernel_rfl) (by kernel_rfl) (by decide) (by decide) (by kernel_rfl) (by kernel_rfl) (by kernel_rfl) (fun _ _ _ h => h) rfl ?_ hS0 ?_
          rotate_left
          · (intro u hu; obtain ⟨u0, u1, u9, ug⟩ := hu; go_simp; first | done | with_reducible rfl)
          try simp only [Act.put, List.setIfInBounds_toArray, List.set_cons_zero, List.set_cons_succ]
          refine Late.take (i := 7) (oi := ⟨some 68, .move (.tmp 5), 48, "keep.go:281", #[], none⟩) (v := ?_) [13] rfl (by kernel_rfl) (by kernel_rfl) (by decide) (by decide) (by kernel_rfl) (by kernel_rfl) (by kernel_rfl) (fun _ _ _ h => h) rfl ?_ hS0 ?_
          rotate_left
          · (intro u hu; obtain ⟨u0, u1, u9, ug⟩ := hu; go_simp; first | done | with_reducible rfl)
          try simp only [Act.put, List.setIfInBounds_toArray, List.set_cons_zero, List.set_cons_succ]
          refine Late.take (i := 8) (oi := ⟨some 69, .nilCheck (.tmp 68), 0, "keep.go:281", #[⟨7, .data⟩], none⟩) (v := ?_) [13] rfl (by kernel_rfl) (by kernel_rfl) (by decide) (by decide) (by kernel_rfl) (by kernel_rfl) (by kernel_rfl) (fun _ _ _ h => h) rfl ?_ hS0 ?_
          rotate_left
          · (intro u hu; obtain ⟨u0, u1, u9, ug⟩ := hu; go_simp; first | done | with_reducible rfl)
          try simp only [Act.put, List.setIfInBounds_toArray, List.set_cons_zero, List.set_cons_succ]
          refine Late.take (i := 9) (oi := ⟨some 70, .fieldAddr 53 (.tmp 69) 0, 0, "keep.go:281", #[⟨8, .data⟩], none⟩) (v := ?_) [13] rfl (by kernel_rfl) (by kernel_rfl) (by decide) (by decide) (by kernel_rfl) (by kernel_rfl) (by kernel_rfl) (fun _ _ _ h => h) rfl ?_ hS0 ?_
          rotate_left
          · (intro u hu; obtain ⟨u0, u1, u9, ug⟩ := hu; go_simp; first | done | with_reducible rfl)
          try simp only [Act.put, List.setIfInBounds_toArray, List.set_cons_zero, List.set_cons_succ]
          refine Late.take (i := 10) (oi := ⟨some 71, .load 42 (.tmp 70), 42, "keep.go:281", #[⟨9, .data⟩], none⟩) (v := ?_) [13] rfl (by kernel_rfl) (by kernel_rfl) (by decide) (by decide) (by kernel_rfl) (by kernel_rfl) (by kernel_rfl) (fun _ _ _ h => h) rfl ?_ hS0 ?_
          rotate_left
          · (intro u hu; obtain ⟨u0, u1, u9, ug⟩ := hu; go_simp; first | done | with_reducible rfl)
          try simp only [Act.put, List.setIfInBounds_toArray, List.set_cons_zero, List.set_cons_succ]
          refine Late.one (i := 11) (o := ⟨some 72, .call { callee := .value (.func 19), args := #[.tmp 71], argTypes := #[42] }, 3, "keep.go:281", #[⟨10, .data⟩], none⟩) (by kernel_rfl) rfl (fun K hK => ?_)
          refine step_call_g rfl 19 #[.agg #[.slice na nn nc, .slice ga gn gc]] (by go_simp) ?_
          refine ((unhide HT) w3.drew xd).mono ?_
          rintro r w4 ⟨rfl, x4⟩
          have x34 : Ext w3 w4 := xd.trans x4
          have hS3 : w4.cell? ⟨Y, 0, none⟩ = some (.slice na nn nc) ∧ w4.cell? ⟨Y, 1, none⟩ = some (.slice ga gn gc) ∧ w4.cell? ⟨Y, 9, none⟩ = some (.slice (some ⟨em.Lb, 0, none⟩) d.cols.length d.cols.length) ∧ w4.cell? ⟨em.Lb, 0, none⟩ = some (.slice va (totalOf d.gs) vc) := ⟨x34.cell c0 id, x34.cell c1 id, x34.cell c9 id, x34.cell g0 id⟩
          refine ⟨_, rfl, hK _ _ (fun _ => hS3) ?_⟩
          clear hK K
          try simp only [Act.put, List.setIfInBounds_toArray, List.set_cons_zero, List.set_cons_succ]
          refine Late.take (i := 12) (oi := ⟨some 73, .binOp .eql 3 (.tmp 67) (.tmp 72) 3, 4, "keep.go:281", #[⟨6, .data⟩, ⟨11, .data⟩], none⟩) (v := ?_) [13] rfl (by kernel_rfl) (by kernel_rfl) (by decide) (by decide) (by kernel_rfl) (by kernel_rfl) (by kernel_rfl) (fun _ _ _ h => h) rfl ?_ hS3 ?_
          rotate_left
          · (intro u hu; obtain ⟨u0, u1, u9, ug⟩ := hu; go_simp; first | done | with_reducible rfl)
          try simp only [Act.put, List.setIfInBounds_toArray, List.set_cons_zero, List.set_cons_succ]
          refine Late.one (i := 13) (o := ⟨some 4, .assign (.tmp 73), 4, "keep.go:281", #[⟨12, .data⟩, ⟨11, .chain⟩, ⟨0, .phase⟩, ⟨1, .phase⟩, ⟨2, .phase⟩, ⟨3, .phase⟩, ⟨4, .phase⟩, ⟨5, .phase⟩, ⟨6, .phase⟩, ⟨7, .phase⟩, ⟨8, .phase⟩, ⟨9, .phase⟩, ⟨10, .phase⟩, ⟨11, .phase⟩, ⟨12, .phase⟩], none⟩) (by kernel_rfl) rfl (fun K hK => ?_)
          go_simp
          refine hK _ _ (fun h => absurd rfl h) ?_
          clear hK K
          try simp only [Act.put, List.setIfInBounds_toArray, List.set_cons_zero, List.set_cons_succ]
          refine Late.done (by kernel_rfl) ?_ _
          go_wp2_with fail
          go_ret
          exact ⟨rfl, HX3.out.trans x34⟩
        · have c5 := hy3.blk.cell 5
          have c8 := hy3.blk.cell 8
          simp only [yCells, I, List.getElem?_cons_zero, List.getElem?_cons_succ] at c5 c8
          have HST : Hid (Calls Tryz.prog 18 #[PtrTo X 0] w3 fun r w' => r = .returned (.int .i64 4) ∧ w' = w3) := xState_any col3 w3 X P (Pl.ended 4) hy3.isX
          have hTF : (d.T : Int) ≤ (Fl : Int) := by omega
          have HX3 := hide x3
          clear hy3 hk3 kO3 x3 hs3 kO x2
          go_wp2_with (first | (go_at_call 18; refine (unhide HST).mono ?_; rintro r w3x ⟨rfl, hwx⟩; rw [hwx]; clear hwx) | fail)
          go_ret
          exact ⟨rfl, HX3.out⟩
end Go.Proofs.YthicgffppmbamaaGreat

namespace Go.Proofs.YthicgffppmbamaaGreat
open Go.RowKit Go.ChangeShapes Go.WideShapes Go.Deep
section
variable {H : Type} {enc : TypeId × Value → H} {W : World}
theorem bytesAct : Tryz.prog.bytesOf 60 = 24 := by kernel_rfl
theorem cellsAct : Tryz.prog.cellsOf 60 = 3 := by kernel_rfl
/-- from 'for each there is one' to a list of them -/
theorem pick_list {α β : Type} (Q : α → β → Prop) (vs : List α) (h : ∀ u ∈ vs, ∃ y, Q u y) : ∃ ys : List β, vs.length = ys.length ∧ ∀ (i : Nat) (u : α) (y : β), vs[i]? = some u → ys[i]? = some y → Q u y := by
  induction vs with
  | nil => exact ⟨[], rfl, fun i u y hu => by simp at hu⟩
  | cons v r ih =>
    obtain ⟨y0, h0⟩ := h v (by simp)
    obtain ⟨ys, hl, hq⟩ := ih (fun u hu => h u (by simp [hu]))
    refine ⟨y0 :: ys, by simp [hl], fun i u y hu hy => ?_⟩
    cases i with
    | zero => simp at hu hy; subst hu; subst hy; exact h0
    | succ i => simp at hu hy; exact hq i u y hu hy
set_option maxRecDepth 100000 in
theorem rdA_open {fuel : Nat} {v : Value} {d : DataW H} {pl : List MemPlace} (h : DataW.trod enc Tryz.prog W 0 (fun _ => true) true fuel 57 [v] = some (d, pl)) (hf : FitsIn 57 d) : ∃ s : List (Int × Int × Int), RdA W.heap.size W v s := by
  rcases open_slice Tryz.underlying57 h with ⟨hcs, _⟩ | ⟨a, len, cap, m, n, D, Pl, hcs, _, hl, _, hm, hx, he⟩
  · simp only [List.cons.injEq, and_true] at hcs
    subst hcs
    exact ⟨[], none, 0, rfl, Nat.le_refl _, Nat.zero_le _, fun h => absurd h (by simp), fun a ha => by cases ha⟩
  · simp only [List.cons.injEq, and_true] at hcs
    subst hcs
    simp only [if_true] at hm
    rw [hm] at hx he
    clear hm
    simp only [Prod.mk.injEq] at hx
    obtain ⟨rfl, _⟩ := hx
    have hsz := hf.slice Tryz.underlying57
    simp only [List.length_map, List.length_range, bytesAct, reach_eq] at hsz
    have hone : ∀ i ∈ List.range len, ∃ y : Int × Int × Int, (W.cell? (a.add (i * 3)) = some (.int .i64 y.1) ∧ W.cell? ((a.add (i * 3)).add 1) = some (.int .i64 y.2.1) ∧ W.cell? ((a.add (i * 3)).add 2) = some (.int .i64 y.2.2)) ∧ InI y.1 ∧ InI y.2.1 ∧ InI y.2.2 := fun i hi => by
      rw [List.mem_range] at hi
      obtain ⟨cs, hc, ht⟩ := he i (by omega)
      rw [cellsAct] at hc
      obtain ⟨_, hcl, hcc⟩ := World.cells?_some hc
      obtain ⟨y0, y1, y2, k, hy, _, h0, h1, h2⟩ := trod_struct3 Tryz.underlying60 ht
      match cs, hcl with
      | [c0, c1, c2], _ =>
        have hc3 : Tryz.prog.cellsOf 3 = 1 := by kernel_rfl
        simp only [hc3, List.drop_zero, List.take_succ_cons, List.take_zero, List.drop_succ_cons] at h0 h1 h2
        obtain ⟨p, e0, -, w0⟩ := DataW.trod_int Tryz.underlying3 h0
        obtain ⟨q, e1, -, w1⟩ := DataW.trod_int Tryz.underlying3 h1
        obtain ⟨r, e2, -, w2⟩ := DataW.trod_int Tryz.underlying3 h2
        simp only [List.cons.injEq, and_true] at e0 e1 e2
        subst e0
        subst e1
        subst e2
        refine ⟨(p, q, r), ⟨?_, ?_, ?_⟩, inI_of w0, inI_of w1, inI_of w2⟩
        · have := hcc 0 (by omega)
          simpa [Addr.add] using this
        · simpa using hcc 1 (by omega)
        · simpa using hcc 2 (by omega)
    obtain ⟨ts, htl, hq⟩ := pick_list _ (List.range len) hone
    rw [List.length_range] at htl
    have hget : ∀ j (hj : j < ts.length), (W.cell? (a.add (j * 3)) = some (.int .i64 ts[j].1) ∧ W.cell? ((a.add (j * 3)).add 1) = some (.int .i64 ts[j].2.1) ∧ W.cell? ((a.add (j * 3)).add 2) = some (.int .i64 ts[j].2.2)) ∧ InI ts[j].1 ∧ InI ts[j].2.1 ∧ InI ts[j].2.2 := fun j hj =>
      hq j j ts[j] (by rw [List.getElem?_range (by omega)]) (List.getElem?_eq_getElem hj)
    refine ⟨ts, some a, cap, by rw [← htl], by omega, by omega, fun hp => ?_, fun x hx => ?_⟩
    · obtain ⟨⟨c0, -⟩, -⟩ := hget 0 hp
      obtain ⟨b, off, spot⟩ := a
      have hspot : spot = none := by
        have := World.cell?_spot c0
        simpa [Addr.add] using this
      subst hspot
      refine ⟨b, off, rfl, ?_, fun j hj => ?_⟩
      · have := World.block_lt_of_cell? _ _ c0
        simpa [Addr.add] using this
      · obtain ⟨⟨c1, c2, c3⟩, -⟩ := hget j hj
        rw [Addr.add_lit] at c1 c2 c3
        rw [Addr.add_lit] at c2 c3
        exact ⟨c1, c2, c3⟩
    · obtain ⟨j, hj, rfl⟩ := List.mem_iff_getElem.1 hx
      exact (hget j hj).2
end
end Go.Proofs.YthicgffppmbamaaGreat
