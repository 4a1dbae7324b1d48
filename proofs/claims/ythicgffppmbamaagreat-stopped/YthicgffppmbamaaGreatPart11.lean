/- KsAct, KsArgs, KsRdA, KsActs, KsFin, KsEnds, PlNb, KsAlike0, KsStopped. -/
import Derived.Lib.SmallJoins
import Derived.Deep.Strs
import Derived.Test.YthicgffppmbamaaGreatPart1
import Derived.Test.YthicgffppmbamaaGreatPart10
namespace Go.Proofs.YthicgffppmbamaaGreat
open Go.RowKit

theorem cut_string (l : List UInt8) (p n : Nat) : (ByteArray.mk l.toArray).extract p (p + n) = ⟨(bytesAt l p n).toArray⟩ := by
  apply ByteArray.ext
  rw [ByteArray.data_extract]
  simp [bytesAt, List.extract_eq_take_drop]
theorem Ids.find {m : Pl.Sc} (h : Ids m) (i : Nat) (hi : i < m.asked.length) : Pl.findId m.asked (m.asked[i].1 : Int) = some i := by
  unfold Pl.findId
  rw [List.findIdx?_eq_some_iff_getElem]
  refine ⟨hi, by simp, fun j hj => ?_⟩
  have hp := List.pairwise_iff_getElem.1 h.1 j i (by simp; omega) (by simpa using hi) hj
  simp only [List.getElem_map] at hp
  simp only [decide_eq_false_iff_not, Bool.not_eq_true]
  omega
theorem Kx.fine {d : Yp} {m : Pl.Sc} {N k F : Nat} (hd : DOk d) (h : KxD d m N k F) (hN : N ≤ 1000000000) : FineOk m d.W d.file.length := by
  by_cases hs : m.state = 0
  · obtain ⟨hg, hr, -⟩ := h.going hs
    have hset := h.mo.1.set hs
    have hw := hg.window (by rw [hset.1]; exact hd.W1)
    rw [hset.1] at hw
    have hpt : ∀ q ∈ m.asked, PtOk m.size m.tries q.2 := fun q hq => hg.core.parts q.2 (List.mem_append.2 (.inl (List.mem_map.2 ⟨q, hq, rfl⟩)))
    refine ⟨hw, fun q hq => by have := (hpt q hq).data; omega, fun q hq => ?_, fun i hi => ?_, fun q hq => ?_⟩
    · have h1 := (hpt q hq).data
      have h2 := h.within.asked q hq
      rw [h.size hs] at h2
      show _ ≤ (Ft d.names d.gs).length
      omega
    · have := List.pairwise_iff_getElem.1 h.ids.1 i (i + 1) (by simp; omega) (by simpa using hi) (by omega)
      simpa using this
    · have h1 := (h.ids.2 q hq).2
      have h2 := hg.core.lastId
      omega
  · have : m.asked = [] := by
      rcases h.ended_of hs with ⟨e, -⟩ | ⟨e, -⟩ <;> rw [e] <;> rfl
    refine ⟨by rw [this]; simp, ?_, ?_, ?_, ?_⟩ <;> simp [this]
theorem Kx.monoF {names : List (List UInt8)} {gs : List (List (List Int))} {cols : List Nat} {w t r : Nat} {m : Pl.Sc} {N k F F' : Nat} (h : Kx names gs cols w t r m N k F) (hF : F ≤ F') : Kx names gs cols w t r m N k F' :=
  ⟨h.sound, h.ids, h.within, ⟨h.mo.1.set, fun e => Nat.le_trans (h.mo.1.st4 e) hF, h.mo.1.no5, fun x hx => Nat.le_trans (h.mo.1.fails x hx) hF, h.mo.1.live⟩, h.mo.2⟩
/-- how far an act fails something -/
def failN (kd : Int) : Nat := if pickP kd 7 = 4 then 1 else 0
/-- an act that answers, or takes, brings the end nearer -/
def Acted (gs : List (List (List Int))) (kd : Int) (m m' : Pl.Sc) (k k' : Nat) : Prop := pickP kd 7 = 0 → (m.asked = [] ∧ Took gs m m' k k') ∨ (m.asked ≠ [] ∧ k' = k ∧ (m'.state = 0 → Phi gs m' k' + 1 ≤ Phi gs m k))
def InI (x : Int) : Prop := -9223372036854775808 ≤ x ∧ x ≤ 9223372036854775807

set_option maxRecDepth 20000 in
set_option maxHeartbeats 8000000 in
theorem actI_any (O : Nat → Prop) (d : Yp) (e : Ym) (col : Colr) (w : World) (Y X P : Nat) (m : Pl.Sc) (vs : List Value) (k N F : Nat) (kd A B : Int) (Jv : Pl.Sc → Nat → Nat → Nat → Prop) (hI : InvOk d Jv) (hfl : pickP kd 7 = 4 → ∀ (id : Int) (i : Nat), Pl.findId m.asked id = some i → (Pl.fail m id).2 = 0 ∧ Jv (Pl.fail m id).1 N k (F + 1)) (hd : DOk d) (hk : Jv m N k F) (hy : YAt O d e col w Y X P m vs k) (hN : N ≤ 1000000) (hkd : InI kd) (hA : InI A) (hB : InI B) :
    Calls Tryz.prog 20 #[PtrTo Y 0, .agg #[.int .i64 kd, .int .i64 A, .int .i64 B]] w fun r w' => r = .returned (.bool true) ∧ ∃ col' vs' m' k', YAt (grow O w w') d e col' w' Y X P m' vs' k' ∧ Kp O w w' ∧ Jv m' (N + 24) k' (F + failN kd) ∧ Acted d.gs kd m m' k k' := by
  have x0 : Ext w (w.alloc (.cells #[.int .i64 kd, .int .i64 A, .int .i64 B] 60)) := (Kp.refl _ _).alloc _
  have bA := Blk.of_alloc w [.int .i64 kd, .int .i64 A, .int .i64 B] 60
  have z0 : Hid ((w.alloc (.cells #[.int .i64 kd, .int .i64 A, .int .i64 B] 60)).heap.size = w.heap.size + 1) := by show _ = _; simp
  have hy0 := hy.ext x0
  have c8 := hy0.blk.cell 8
  simp only [yCells, List.getElem?_cons_zero, List.getElem?_cons_succ] at c8
  have hfine := hI.fine hk (by omega)
  have hal : m.asked.length ≤ 4 := by have := hfine.win; have := hd.W4; omega
  have HAS := hide (xAsked_any col _ X P m hy0.isX (by omega))
  go_enter Tryz.func20, Tryz.ntmps20
  go_wp2_with fail
  generalize w.alloc (.cells #[.int .i64 kd, .int .i64 A, .int .i64 B] 60) = W0 at *
  refine (unhide HAS).mono ?_
  rintro r w1 ⟨lv, rfl, ol, x1, hlg⟩
  clear HAS
  have hy1 := hy0.ext x1
  have y4 := hy1.blk.cell 4
  have y2 := hy1.blk.cell 2
  simp only [yCells, I, List.getElem?_cons_zero, List.getElem?_cons_succ] at y4 y2
  have hfl4 : d.file.length ≤ 4000 := ft_len hd.fl.ok
  have HF := hide (fine_any w1 Y d.W d.file.length ⟨d.file.toArray⟩ m lv hfine hd.W4 hfl4 (by show d.file.toArray.size = _; simp) y4 y2 ol)
  clear c8
  obtain ⟨la, lc, rfl, hlc⟩ := ol.shape
  go_wp2_with fail
  refine (unhide HF).mono ?_
  rintro r w2 ⟨rfl, x2⟩
  clear HF
  have x02 : Ext w w2 := (x0.trans x1).trans x2
  have hy2 := hy1.ext x2
  have bA2 := bA.kept (x1.trans x2) id
  have a0 := bA2.cell 0
  have a1 := bA2.cell 1
  have a2 := bA2.cell 2
  simp only [List.getElem?_cons_zero, List.getElem?_cons_succ] at a0 a1 a2
  have ol2 := ol.ext x2
  have HPK := hide (fun u => kpick_any u kd 7 hkd.1 hkd.2 (by omega) (by omega))
  have hk7 := pickP_lt kd 7 (by omega)
  have HFA : Hid (failN kd = (if pickP kd 7 = 4 then 1 else 0)) := rfl
  have HAC : Hid (∀ m' k', Acted d.gs kd m m' k k' ↔ (pickP kd 7 = 0 → (m.asked = [] ∧ Took d.gs m m' k k') ∨ (m.asked ≠ [] ∧ k' = k ∧ (m'.state = 0 → Phi d.gs m' k' + 1 ≤ Phi d.gs m k)))) := fun _ _ => Iff.rfl
  generalize pickP kd 7 = kn at *
  have e8 := hy2.blk.cell 8
  have e2 := hy2.blk.cell 2
  simp only [yCells, I, List.getElem?_cons_zero, List.getElem?_cons_succ] at e8 e2
  have z02 := x02.size
  clear bA hy0 hy1 y4 y2 x1 x2 ol
  go_wp2_with fail
  refine ((unhide HPK) _).mono ?_
  rintro r w2' ⟨rfl, rfl⟩
  clear HPK
  by_cases h5 : kn = 5
  · subst h5
    have HT := hide (gTick_any col w2' X P m N ⟨hy2.isX, hI.good hk⟩ (by omega))
    go_wp2_with fail
    refine (unhide HT).mono ?_
    rintro r w3 ⟨rfl, col', hX, hW⟩
    clear HT
    go_wp2_with fail
    go_ret
    obtain ⟨hy3, k3⟩ := hy2.scan hX.1 hW
    obtain ⟨t1, t2, t3⟩ := hI.tick hk (by omega)
    exact ⟨rfl, col', vs, Pl.tick m, k, hy3.mono (fun b hb => hb.imp id (fun h => ⟨by omega, h.2⟩)), (Kp.of_ext x02).trans k3, hI.monoF (hI.mono t1 (by omega)) (Nat.le_add_right _ _), (HAC.out _ _).2 (fun h => by omega)⟩
  · have h5i : ¬ (kn : Int) = 5 := by omega
    by_cases h6 : kn = 6
    · subst h6
      have HTk := hide (takesI_any O d e col w2' Y X P m vs k N F Jv hI hd hk hy2)
      go_wp2_with fail
      refine (unhide HTk).mono ?_
      rintro r w3 ⟨rfl, col', vs', k', hy3, k3, hk3, htk⟩
      clear HTk
      go_wp2_with fail
      go_ret
      exact ⟨rfl, col', vs', (Pl.next m).1, k', hy3.mono (fun b hb => hb.imp id (fun h => ⟨by omega, h.2⟩)), (Kp.of_ext x02).trans k3, hI.monoF (hI.mono hk3 (by omega)) (Nat.le_add_right _ _), (HAC.out _ _).2 (fun h => by omega)⟩
    · have h6i : ¬ (kn : Int) = 6 := by omega
      by_cases hl0 : m.asked.length = 0
      · have hl0i : (m.asked.length : Int) = 0 := by omega
        have HTk := hide (takesI_any O d e col w2' Y X P m vs k N F Jv hI hd hk hy2)
        have HL0 := hide hl0
        clear hl0
        go_wp2_with fail
        refine (unhide HTk).mono ?_
        rintro r w3 ⟨rfl, col', vs', k', hy3, k3, hk3, htk⟩
        clear HTk
        go_wp2_with fail
        go_ret
        exact ⟨rfl, col', vs', (Pl.next m).1, k', hy3.mono (fun b hb => hb.imp id (fun h => ⟨by omega, h.2⟩)), (Kp.of_ext x02).trans k3, hI.monoF (hI.mono hk3 (by omega)) (Nat.le_add_right _ _), (HAC.out _ _).2 (fun _ => .inl ⟨List.eq_nil_of_length_eq_zero HL0.out, htk⟩)⟩
      · have hl0i : ¬ (m.asked.length : Int) = 0 := by omega
        have hi := pickP_lt A m.asked.length (by omega)
        have HPA := hide (fun u => kpick_any u A m.asked.length hA.1 hA.2 (by omega) (by omega))
        generalize pickP A m.asked.length = i at *
        have hii : (i : Int) < (m.asked.length : Int) := by omega
        have ii0 : (0 : Int) ≤ (i : Int) := by omega
        obtain ⟨ga, ca, he, _, hga, hc⟩ := ol2.at (by omega)
        cases he
        have hck : ∀ j, j < 3 → w2'.cell? ⟨ga, i * 3 + j, none⟩ = (askCells m.asked[i])[j]? := fun j hj => by
          rw [hc (i * 3 + j) (by omega), fm_at askCells 3 (fun _ => rfl) m.asked i j hi hj]
        have d0 := hck 0 (by omega)
        have d1 := hck 1 (by omega)
        have d2 := hck 2 (by omega)
        simp only [askCells, I, List.getElem?_cons_zero, List.getElem?_cons_succ, Nat.add_zero] at d0 d1 d2
        have hq := List.getElem_mem hi
        have q1 := hfine.len _ hq
        have q2 := hfine.ends _ hq
        have q3 := hfine.small _ hq
        have hfd := (hI.ids hk).find i hi
        have hpart : Pl.partAt m i = m.asked[i].2 := by unfold Pl.partAt; rw [List.getD_eq_getElem?_getD, List.getElem?_eq_getElem hi]; rfl
        have HAN := hide (fun n h1 h2 => hI.answer hk (m.asked[i].1 : Int) i n hfd h1 h2)
        have HFL := hide (fun h4 => hfl h4 (m.asked[i].1 : Int) i hfd)
        rw [hpart] at HAN
        clear hck hc hpart hfd
        generalize m.asked[i].2.place + m.asked[i].2.data.length = pl at *
        generalize m.asked[i].2.length - m.asked[i].2.data.length = ll at *
        generalize m.asked[i].1 = qi at *
        have xR : Ext w2' (w2'.alloc (.cells #[.int .i64 (qi : Int), .int .i64 (pl : Int), .int .i64 (ll : Int)] 72)) := (Kp.refl _ _).alloc _
        have bR := Blk.of_alloc w2' [.int .i64 (qi : Int), .int .i64 (pl : Int), .int .i64 (ll : Int)] 72
        have hne : m.asked ≠ [] := fun h => hl0 (by rw [h]; rfl)
        have HNE := hide hne
        have hbz : (((m.asked.length : Nat) : Int) == 0) = false := by simpa using hl0i
        clear hl0
        go_upto_region 12 with (first | (go_at_call 21; refine ((unhide HPA) _).mono ?_; rintro r w2x ⟨rfl, hwx⟩; rw [hwx]; clear hwx) | fail)
        have g8 := xR.cell e8 id
        have g2 := xR.cell e2 id
        have ga2 := xR.cell a2 id
        have r0 := bR.cell 0
        have r1 := bR.cell 1
        have r2 := bR.cell 2
        simp only [List.getElem?_cons_zero, List.getElem?_cons_succ] at r0 r1 r2
        have zR : Hid ((w2'.alloc (.cells #[.int .i64 (qi : Int), .int .i64 (pl : Int), .int .i64 (ll : Int)] 72)).heap.size = w2'.heap.size + 1) := by show _ = _; simp
        generalize w2'.alloc (.cells #[.int .i64 (qi : Int), .int .i64 (pl : Int), .int .i64 (ll : Int)] 72) = W3 at *
        have hy3 := hy2.ext xR
        have x03 := x02.trans xR
        have z03 := x03.size
        by_cases h4 : kn = 4
        · subst h4
          have HFC := hide (gFail_any col W3.drew X P m N ⟨(hy3.isX.kept (S := fun _ => False) ((Kp.refl _ _).drew) (fun _ f => f.elim)), hI.good hk⟩ (qi : Int))
          go_wp2_with fail
          have hS0 : W3.drew.cell? ⟨Y, 8, none⟩ = some (PtrTo X 0) ∧ W3.drew.cell? ⟨w2'.heap.size, 0, none⟩ = some (.int .i64 (qi : Int)) := ⟨g8, r0⟩
          refine wp_region_late (n := 6) (fun u => u.cell? ⟨Y, 8, none⟩ = some (PtrTo X 0) ∧ u.cell? ⟨w2'.heap.size, 0, none⟩ = some (.int .i64 (qi : Int))) (by kernel_rfl) ?_
          refine Late.tk (i := 0) (oi := ⟨some 61, .move (.tmp 0), 48, "keep.go:226", #[], none⟩) (v := ?_) [1, 2, 3, 6] rfl hS0 ?_ ?_
          rotate_left
          · (intro u hu; obtain ⟨u0, u1⟩ := hu; go_simp; first | done | with_reducible rfl)
          try simp only [Act.put, lA, lZ, lS]
          refine Late.tk (i := 1) (oi := ⟨some 62, .nilCheck (.tmp 61), 0, "keep.go:226", #[⟨0, .data⟩], none⟩) (v := ?_) [2, 3, 6] rfl hS0 ?_ ?_
          rotate_left
          · (intro u hu; obtain ⟨u0, u1⟩ := hu; go_simp; first | done | with_reducible rfl)
          try simp only [Act.put, lA, lZ, lS]
          refine Late.tk (i := 2) (oi := ⟨some 63, .fieldAddr 53 (.tmp 62) 4, 0, "keep.go:226", #[⟨1, .data⟩], none⟩) (v := ?_) [3, 6] rfl hS0 ?_ ?_
          rotate_left
          · (intro u hu; obtain ⟨u0, u1⟩ := hu; go_simp; first | done | with_reducible rfl)
          try simp only [Act.put, lA, lZ, lS]
          refine Late.tk (i := 3) (oi := ⟨some 64, .load 50 (.tmp 63), 50, "keep.go:226", #[⟨2, .data⟩], none⟩) (v := ?_) [6] rfl hS0 ?_ ?_
          rotate_left
          · (intro u hu; obtain ⟨u0, u1⟩ := hu; go_simp; first | done | with_reducible rfl)
          try simp only [Act.put, lA, lZ, lS]
          refine Late.tk (i := 4) (oi := ⟨some 65, .fieldAddr 72 (.tmp 8) 0, 0, "keep.go:226", #[], none⟩) (v := ?_) [5, 6] rfl hS0 ?_ ?_
          rotate_left
          · (intro u hu; obtain ⟨u0, u1⟩ := hu; go_simp; first | done | with_reducible rfl)
          try simp only [Act.put, lA, lZ, lS]
          refine Late.tk (i := 5) (oi := ⟨some 66, .load 3 (.tmp 65), 3, "keep.go:226", #[⟨4, .data⟩], none⟩) (v := ?_) [6] rfl hS0 ?_ ?_
          rotate_left
          · (intro u hu; obtain ⟨u0, u1⟩ := hu; go_simp; first | done | with_reducible rfl)
          try simp only [Act.put, lA, lZ, lS]
          refine Late.one (i := 6) (o := ⟨some 67, .call { callee := .value (.func 27), args := #[.tmp 64, .tmp 66], argTypes := #[50, 3] }, 63, "keep.go:226", #[⟨3, .data⟩, ⟨5, .data⟩], none⟩) (by kernel_rfl) rfl (fun K hK => ?_)
          refine step_call_g rfl 27 #[PtrTo X 0, .int .i64 (qi : Int)] (by go_simp) ?_
          refine (unhide HFC).mono ?_
          rintro r w4 ⟨rfl, col', hX, hW⟩
          obtain ⟨f1, f2⟩ := HFL.out (by first | trivial | rfl)
          have xd : Ext W3 W3.drew := (Kp.refl _ _).drew
          obtain ⟨hy4, k4⟩ := (hy3.ext xd).scan hX.1 hW
          have p8 := hy4.blk.cell 8
          simp only [yCells, List.getElem?_cons_zero, List.getElem?_cons_succ] at p8
          have hcR : col w2'.heap.size = .out := hy2.isX.top _ (Nat.le_refl _)
          have p0 := hW.kept.cell (xd.cell r0 id) (fun h => h hcR)
          rw [f1]
          refine ⟨_, rfl, hK _ _ (fun _ => ⟨p8, p0⟩) ?_⟩
          clear hK K
          try simp only [Act.put, lA, lZ, lS]
          refine Late.one (i := 7) (o := ⟨some 10, .assign (.tmp 67), 63, "keep.go:226", #[⟨6, .data⟩, ⟨6, .chain⟩, ⟨0, .phase⟩, ⟨1, .phase⟩, ⟨2, .phase⟩, ⟨3, .phase⟩, ⟨4, .phase⟩, ⟨5, .phase⟩, ⟨6, .phase⟩], none⟩) (by kernel_rfl) rfl (fun K hK => ?_)
          go_simp
          refine hK _ _ (fun _ => ⟨p8, p0⟩) ?_
          clear hK K
          try simp only [Act.put, lA, lZ, lS]
          refine Late.done (by kernel_rfl) ?_ _
          have HY4 := hide hy4
          have HK4 := hide k4
          clear hy4 k4 hX hW
          go_wp2_with fail
          go_ret
          have z4 := HK4.out.size
          refine ⟨rfl, col', vs, (Pl.fail m (qi : Int)).1, k, HY4.out.mono (fun b hb => hb.imp id (fun h => ⟨by have h1 : W3.heap.size ≤ b := h.1; omega, h.2⟩)), (Kp.of_ext (x03.trans xd)).trans HK4.out, ?_, (HAC.out _ _).2 (fun h => by omega)⟩
          rw [HFA.out]
          exact hI.mono f2 (by omega)
        · have h4i : ¬ (kn : Int) = 4 := by omega
          have pl0 : (0 : Int) ≤ (pl : Int) := by omega
          by_cases h3 : kn = 3
          · subst h3
            have hbl := pickP_lt B ll (by omega)
            have HPB := hide (fun u => kpick_any u B ll hB.1 hB.2 (by omega) (by omega))
            generalize pickP B ll = pb at *
            have pl1 : (pl : Int) ≤ (pl : Int) + (1 + (pb : Int)) := by omega
            have pl2 : (pl : Int) + (1 + (pb : Int)) ≤ (d.file.length : Int) := by omega
            have ew : IntKind.i64.wrap ((pl : Int) + (1 + (pb : Int))) = (pl : Int) + (1 + (pb : Int)) := by simp [IntKind.wrap, IntKind.bits, IntKind.signed]; omega
            have HCut : Hid ((ByteArray.mk d.file.toArray).extract pl ((pl : Int) + (1 + (pb : Int))).toNat = ⟨(bytesAt d.file pl (1 + pb)).toArray⟩) := by
              show _ = _
              rw [show ((pl : Int) + (1 + (pb : Int))).toNat = pl + (1 + pb) by omega]
              exact cut_string _ _ _
            have HAC2 := hide (gAnswer_any col W3.drew X P m N ⟨(hy3.isX.kept (S := fun _ => False) ((Kp.refl _ _).drew) (fun _ f => f.elim)), hI.good hk⟩ (by omega) (qi : Int) (bytesAt d.file pl (1 + pb)) (by unfold bytesAt; rw [List.length_take]; omega))
            go_wp2_with (go_at_call 21; refine ((unhide HPB) _).mono ?_; rintro r w3x ⟨rfl, hwx⟩; rw [hwx]; clear hwx)
            have hS0 : W3.drew.cell? ⟨Y, 8, none⟩ = some (PtrTo X 0) ∧ W3.drew.cell? ⟨Y, 2, none⟩ = some (.string ⟨d.file.toArray⟩) ∧ W3.drew.cell? ⟨w2'.heap.size, 0, none⟩ = some (.int .i64 (qi : Int)) ∧ W3.drew.cell? ⟨w2'.heap.size, 1, none⟩ = some (.int .i64 (pl : Int)) := ⟨g8, g2, r0, r1⟩
            refine wp_region_late (n := 17) (fun u => u.cell? ⟨Y, 8, none⟩ = some (PtrTo X 0) ∧ u.cell? ⟨Y, 2, none⟩ = some (.string ⟨d.file.toArray⟩) ∧ u.cell? ⟨w2'.heap.size, 0, none⟩ = some (.int .i64 (qi : Int)) ∧ u.cell? ⟨w2'.heap.size, 1, none⟩ = some (.int .i64 (pl : Int))) (by kernel_rfl) ?_
            refine Late.tk (i := 0) (oi := ⟨some 70, .move (.tmp 0), 48, "keep.go:229", #[], none⟩) (v := ?_) [1, 2, 3, 17] rfl hS0 ?_ ?_
            rotate_left
            · (intro u hu; obtain ⟨u0, u1, u2, u3⟩ := hu; go_simp; first | done | with_reducible rfl)
            try simp only [Act.put, lA, lZ, lS]
            refine Late.tk (i := 1) (oi := ⟨some 71, .nilCheck (.tmp 70), 0, "keep.go:229", #[⟨0, .data⟩], none⟩) (v := ?_) [2, 3, 17] rfl hS0 ?_ ?_
            rotate_left
            · (intro u hu; obtain ⟨u0, u1, u2, u3⟩ := hu; go_simp; first | done | with_reducible rfl)
            try simp only [Act.put, lA, lZ, lS]
            refine Late.tk (i := 2) (oi := ⟨some 72, .fieldAddr 53 (.tmp 71) 4, 0, "keep.go:229", #[⟨1, .data⟩], none⟩) (v := ?_) [3, 17] rfl hS0 ?_ ?_
            rotate_left
            · (intro u hu; obtain ⟨u0, u1, u2, u3⟩ := hu; go_simp; first | done | with_reducible rfl)
            try simp only [Act.put, lA, lZ, lS]
            refine Late.tk (i := 3) (oi := ⟨some 73, .load 50 (.tmp 72), 50, "keep.go:229", #[⟨2, .data⟩], none⟩) (v := ?_) [17] rfl hS0 ?_ ?_
            rotate_left
            · (intro u hu; obtain ⟨u0, u1, u2, u3⟩ := hu; go_simp; first | done | with_reducible rfl)
            try simp only [Act.put, lA, lZ, lS]
            refine Late.tk (i := 4) (oi := ⟨some 74, .fieldAddr 72 (.tmp 8) 0, 0, "keep.go:229", #[], none⟩) (v := ?_) [5, 17] rfl hS0 ?_ ?_
            rotate_left
            · (intro u hu; obtain ⟨u0, u1, u2, u3⟩ := hu; go_simp; first | done | with_reducible rfl)
            try simp only [Act.put, lA, lZ, lS]
            refine Late.tk (i := 5) (oi := ⟨some 75, .load 3 (.tmp 74), 3, "keep.go:229", #[⟨4, .data⟩], none⟩) (v := ?_) [17] rfl hS0 ?_ ?_
            rotate_left
            · (intro u hu; obtain ⟨u0, u1, u2, u3⟩ := hu; go_simp; first | done | with_reducible rfl)
            try simp only [Act.put, lA, lZ, lS]
            refine Late.tk (i := 6) (oi := ⟨some 76, .move (.tmp 0), 48, "keep.go:229", #[], none⟩) (v := ?_) [7, 8, 9, 16, 17] rfl hS0 ?_ ?_
            rotate_left
            · (intro u hu; obtain ⟨u0, u1, u2, u3⟩ := hu; go_simp; first | done | with_reducible rfl)
            try simp only [Act.put, lA, lZ, lS]
            refine Late.tk (i := 7) (oi := ⟨some 77, .nilCheck (.tmp 76), 0, "keep.go:229", #[⟨6, .data⟩], none⟩) (v := ?_) [8, 9, 16, 17] rfl hS0 ?_ ?_
            rotate_left
            · (intro u hu; obtain ⟨u0, u1, u2, u3⟩ := hu; go_simp; first | done | with_reducible rfl)
            try simp only [Act.put, lA, lZ, lS]
            refine Late.tk (i := 8) (oi := ⟨some 78, .fieldAddr 53 (.tmp 77) 1, 0, "keep.go:229", #[⟨7, .data⟩], none⟩) (v := ?_) [9, 16, 17] rfl hS0 ?_ ?_
            rotate_left
            · (intro u hu; obtain ⟨u0, u1, u2, u3⟩ := hu; go_simp; first | done | with_reducible rfl)
            try simp only [Act.put, lA, lZ, lS]
            refine Late.tk (i := 9) (oi := ⟨some 79, .load 9 (.tmp 78), 9, "keep.go:229", #[⟨8, .data⟩], none⟩) (v := ?_) [16, 17] rfl hS0 ?_ ?_
            rotate_left
            · (intro u hu; obtain ⟨u0, u1, u2, u3⟩ := hu; go_simp; first | done | with_reducible rfl)
            try simp only [Act.put, lA, lZ, lS]
            refine Late.tk (i := 10) (oi := ⟨some 80, .fieldAddr 72 (.tmp 8) 1, 0, "keep.go:229", #[], none⟩) (v := ?_) [11, 16, 17] rfl hS0 ?_ ?_
            rotate_left
            · (intro u hu; obtain ⟨u0, u1, u2, u3⟩ := hu; go_simp; first | done | with_reducible rfl)
            try simp only [Act.put, lA, lZ, lS]
            refine Late.tk (i := 11) (oi := ⟨some 81, .load 3 (.tmp 80), 3, "keep.go:229", #[⟨10, .data⟩], none⟩) (v := ?_) [16, 17] rfl hS0 ?_ ?_
            rotate_left
            · (intro u hu; obtain ⟨u0, u1, u2, u3⟩ := hu; go_simp; first | done | with_reducible rfl)
            try simp only [Act.put, lA, lZ, lS]
            refine Late.tk (i := 12) (oi := ⟨some 82, .fieldAddr 72 (.tmp 8) 1, 0, "keep.go:229", #[], none⟩) (v := ?_) [13, 15, 16, 17] rfl hS0 ?_ ?_
            rotate_left
            · (intro u hu; obtain ⟨u0, u1, u2, u3⟩ := hu; go_simp; first | done | with_reducible rfl)
            try simp only [Act.put, lA, lZ, lS]
            refine Late.tk (i := 13) (oi := ⟨some 83, .load 3 (.tmp 82), 3, "keep.go:229", #[⟨12, .data⟩], none⟩) (v := ?_) [15, 16, 17] rfl hS0 ?_ ?_
            rotate_left
            · (intro u hu; obtain ⟨u0, u1, u2, u3⟩ := hu; go_simp; first | done | with_reducible rfl)
            try simp only [Act.put, lA, lZ, lS]
            refine Late.tk (i := 14) (oi := ⟨some 84, .move (.tmp 9), 3, "keep.go:229", #[], none⟩) (v := ?_) [15, 16, 17] rfl hS0 ?_ ?_
            rotate_left
            · (intro u hu; obtain ⟨u0, u1, u2, u3⟩ := hu; go_simp; first | done | with_reducible rfl)
            try simp only [Act.put, lA, lZ, lS]
            refine Late.tk (i := 15) (oi := ⟨some 85, .binOp .add 3 (.tmp 83) (.tmp 84) 3, 3, "keep.go:229", #[⟨13, .data⟩, ⟨14, .data⟩], none⟩) (v := ?_) [16, 17] rfl hS0 ?_ ?_
            rotate_left
            · (intro u hu; obtain ⟨u0, u1, u2, u3⟩ := hu; go_simp; first | done | with_reducible rfl)
            try simp only [Act.put, lA, lZ, lS]
            refine Late.tk (i := 16) (oi := ⟨some 86, .slice 9 (.tmp 79) (some (.tmp 81)) (some (.tmp 85)) none, 9, "keep.go:229", #[⟨9, .data⟩, ⟨11, .data⟩, ⟨15, .data⟩], none⟩) (v := ?_) [17] rfl hS0 ?_ ?_
            rotate_left
            · (intro u hu; skip; go_simp; first | done | with_reducible rfl)
            try simp only [Act.put, lA, lZ, lS]
            refine Late.one (i := 17) (o := ⟨some 87, .call { callee := .value (.func 26), args := #[.tmp 73, .tmp 75, .tmp 86], argTypes := #[50, 3, 9] }, 63, "keep.go:229", #[⟨3, .data⟩, ⟨5, .data⟩, ⟨16, .data⟩], none⟩) (by kernel_rfl) rfl (fun K hK => ?_)
            refine step_call_g rfl 26 #[PtrTo X 0, .int .i64 (qi : Int), tx (bytesAt d.file pl (1 + pb))] (by go_simp; exact HCut.out) ?_
            refine (unhide HAC2).mono ?_
            rintro r w4 ⟨rfl, col', hX, hW⟩
            obtain ⟨f1, f2, f3⟩ := HAN.out (1 + pb) (by omega) (by omega)
            have xd : Ext W3 W3.drew := (Kp.refl _ _).drew
            obtain ⟨hy4, k4⟩ := (hy3.ext xd).scan hX.1 hW
            have p8 := hy4.blk.cell 8
            have p2 := hy4.blk.cell 2
            simp only [yCells, List.getElem?_cons_zero, List.getElem?_cons_succ] at p8 p2
            have hcR : col w2'.heap.size = .out := hy2.isX.top _ (Nat.le_refl _)
            have p0 := hW.kept.cell (xd.cell r0 id) (fun h => h hcR)
            have p1 := hW.kept.cell (xd.cell r1 id) (fun h => h hcR)
            change (Pl.answer m (qi : Int) (bytesAt d.file pl (1 + pb))).2 = 0 at f1
            rw [f1]
            refine ⟨_, rfl, hK _ _ (fun _ => ⟨p8, p2, p0, p1⟩) ?_⟩
            clear hK K
            try simp only [Act.put, lA, lZ, lS]
            refine Late.one (i := 18) (o := ⟨some 11, .assign (.tmp 87), 63, "keep.go:229", #[⟨17, .data⟩, ⟨17, .chain⟩, ⟨0, .phase⟩, ⟨1, .phase⟩, ⟨2, .phase⟩, ⟨3, .phase⟩, ⟨4, .phase⟩, ⟨5, .phase⟩, ⟨6, .phase⟩, ⟨7, .phase⟩, ⟨8, .phase⟩, ⟨9, .phase⟩, ⟨10, .phase⟩, ⟨11, .phase⟩, ⟨12, .phase⟩, ⟨13, .phase⟩, ⟨14, .phase⟩, ⟨15, .phase⟩, ⟨16, .phase⟩, ⟨17, .phase⟩], none⟩) (by kernel_rfl) rfl (fun K hK => ?_)
            go_simp
            refine hK _ _ (fun _ => ⟨p8, p2, p0, p1⟩) ?_
            clear hK K
            try simp only [Act.put, lA, lZ, lS]
            refine Late.done (by kernel_rfl) ?_ _
            have HY4 := hide hy4
            have HK4 := hide k4
            clear hy4 k4 hX hW
            go_wp2_with fail
            go_ret
            have z4 := HK4.out.size
            refine ⟨rfl, col', vs, (Pl.answer m (qi : Int) (bytesAt d.file pl (1 + pb))).1, k, HY4.out.mono (fun b hb => hb.imp id (fun h => ⟨by have h1 : W3.heap.size ≤ b := h.1; omega, h.2⟩)), (Kp.of_ext (x03.trans xd)).trans HK4.out, hI.monoF f2 (Nat.le_add_right _ _), (HAC.out _ _).2 (fun h => by omega)⟩
          · have h3i : ¬ (kn : Int) = 3 := by omega
            have pl1 : (pl : Int) ≤ (pl : Int) + (ll : Int) := by omega
            have pl2 : (pl : Int) + (ll : Int) ≤ (d.file.length : Int) := by omega
            have ew : IntKind.i64.wrap ((pl : Int) + (ll : Int)) = (pl : Int) + (ll : Int) := by simp [IntKind.wrap, IntKind.bits, IntKind.signed]; omega
            have HCut : Hid ((ByteArray.mk d.file.toArray).extract pl ((pl : Int) + (ll : Int)).toNat = ⟨(bytesAt d.file pl ll).toArray⟩) := by
              show _ = _
              rw [show ((pl : Int) + (ll : Int)).toNat = pl + ll by omega]
              exact cut_string _ _ _
            have HAC2 := hide (gAnswer_any col W3.drew X P m N ⟨(hy3.isX.kept (S := fun _ => False) ((Kp.refl _ _).drew) (fun _ f => f.elim)), hI.good hk⟩ (by omega) (qi : Int) (bytesAt d.file pl ll) (by unfold bytesAt; rw [List.length_take]; omega))
            go_wp2_with fail
            have hS0 : W3.drew.cell? ⟨Y, 8, none⟩ = some (PtrTo X 0) ∧ W3.drew.cell? ⟨Y, 2, none⟩ = some (.string ⟨d.file.toArray⟩) ∧ W3.drew.cell? ⟨w2'.heap.size, 0, none⟩ = some (.int .i64 (qi : Int)) ∧ W3.drew.cell? ⟨w2'.heap.size, 1, none⟩ = some (.int .i64 (pl : Int)) := ⟨g8, g2, r0, r1⟩
            refine wp_region_late (n := 17) (fun u => u.cell? ⟨Y, 8, none⟩ = some (PtrTo X 0) ∧ u.cell? ⟨Y, 2, none⟩ = some (.string ⟨d.file.toArray⟩) ∧ u.cell? ⟨w2'.heap.size, 0, none⟩ = some (.int .i64 (qi : Int)) ∧ u.cell? ⟨w2'.heap.size, 1, none⟩ = some (.int .i64 (pl : Int))) (by kernel_rfl) ?_
            refine Late.tk (i := 0) (oi := ⟨some 70, .move (.tmp 0), 48, "keep.go:229", #[], none⟩) (v := ?_) [1, 2, 3, 17] rfl hS0 ?_ ?_
            rotate_left
            · (intro u hu; obtain ⟨u0, u1, u2, u3⟩ := hu; go_simp; first | done | with_reducible rfl)
            try simp only [Act.put, lA, lZ, lS]
            refine Late.tk (i := 1) (oi := ⟨some 71, .nilCheck (.tmp 70), 0, "keep.go:229", #[⟨0, .data⟩], none⟩) (v := ?_) [2, 3, 17] rfl hS0 ?_ ?_
            rotate_left
            · (intro u hu; obtain ⟨u0, u1, u2, u3⟩ := hu; go_simp; first | done | with_reducible rfl)
            try simp only [Act.put, lA, lZ, lS]
            refine Late.tk (i := 2) (oi := ⟨some 72, .fieldAddr 53 (.tmp 71) 4, 0, "keep.go:229", #[⟨1, .data⟩], none⟩) (v := ?_) [3, 17] rfl hS0 ?_ ?_
            rotate_left
            · (intro u hu; obtain ⟨u0, u1, u2, u3⟩ := hu; go_simp; first | done | with_reducible rfl)
            try simp only [Act.put, lA, lZ, lS]
            refine Late.tk (i := 3) (oi := ⟨some 73, .load 50 (.tmp 72), 50, "keep.go:229", #[⟨2, .data⟩], none⟩) (v := ?_) [17] rfl hS0 ?_ ?_
            rotate_left
            · (intro u hu; obtain ⟨u0, u1, u2, u3⟩ := hu; go_simp; first | done | with_reducible rfl)
            try simp only [Act.put, lA, lZ, lS]
            refine Late.tk (i := 4) (oi := ⟨some 74, .fieldAddr 72 (.tmp 8) 0, 0, "keep.go:229", #[], none⟩) (v := ?_) [5, 17] rfl hS0 ?_ ?_
            rotate_left
            · (intro u hu; obtain ⟨u0, u1, u2, u3⟩ := hu; go_simp; first | done | with_reducible rfl)
            try simp only [Act.put, lA, lZ, lS]
            refine Late.tk (i := 5) (oi := ⟨some 75, .load 3 (.tmp 74), 3, "keep.go:229", #[⟨4, .data⟩], none⟩) (v := ?_) [17] rfl hS0 ?_ ?_
            rotate_left
            · (intro u hu; obtain ⟨u0, u1, u2, u3⟩ := hu; go_simp; first | done | with_reducible rfl)
            try simp only [Act.put, lA, lZ, lS]
            refine Late.tk (i := 6) (oi := ⟨some 76, .move (.tmp 0), 48, "keep.go:229", #[], none⟩) (v := ?_) [7, 8, 9, 16, 17] rfl hS0 ?_ ?_
            rotate_left
            · (intro u hu; obtain ⟨u0, u1, u2, u3⟩ := hu; go_simp; first | done | with_reducible rfl)
            try simp only [Act.put, lA, lZ, lS]
            refine Late.tk (i := 7) (oi := ⟨some 77, .nilCheck (.tmp 76), 0, "keep.go:229", #[⟨6, .data⟩], none⟩) (v := ?_) [8, 9, 16, 17] rfl hS0 ?_ ?_
            rotate_left
            · (intro u hu; obtain ⟨u0, u1, u2, u3⟩ := hu; go_simp; first | done | with_reducible rfl)
            try simp only [Act.put, lA, lZ, lS]
            refine Late.tk (i := 8) (oi := ⟨some 78, .fieldAddr 53 (.tmp 77) 1, 0, "keep.go:229", #[⟨7, .data⟩], none⟩) (v := ?_) [9, 16, 17] rfl hS0 ?_ ?_
            rotate_left
            · (intro u hu; obtain ⟨u0, u1, u2, u3⟩ := hu; go_simp; first | done | with_reducible rfl)
            try simp only [Act.put, lA, lZ, lS]
            refine Late.tk (i := 9) (oi := ⟨some 79, .load 9 (.tmp 78), 9, "keep.go:229", #[⟨8, .data⟩], none⟩) (v := ?_) [16, 17] rfl hS0 ?_ ?_
            rotate_left
            · (intro u hu; obtain ⟨u0, u1, u2, u3⟩ := hu; go_simp; first | done | with_reducible rfl)
            try simp only [Act.put, lA, lZ, lS]
            refine Late.tk (i := 10) (oi := ⟨some 80, .fieldAddr 72 (.tmp 8) 1, 0, "keep.go:229", #[], none⟩) (v := ?_) [11, 16, 17] rfl hS0 ?_ ?_
            rotate_left
            · (intro u hu; obtain ⟨u0, u1, u2, u3⟩ := hu; go_simp; first | done | with_reducible rfl)
            try simp only [Act.put, lA, lZ, lS]
            refine Late.tk (i := 11) (oi := ⟨some 81, .load 3 (.tmp 80), 3, "keep.go:229", #[⟨10, .data⟩], none⟩) (v := ?_) [16, 17] rfl hS0 ?_ ?_
            rotate_left
            · (intro u hu; obtain ⟨u0, u1, u2, u3⟩ := hu; go_simp; first | done | with_reducible rfl)
            try simp only [Act.put, lA, lZ, lS]
            refine Late.tk (i := 12) (oi := ⟨some 82, .fieldAddr 72 (.tmp 8) 1, 0, "keep.go:229", #[], none⟩) (v := ?_) [13, 15, 16, 17] rfl hS0 ?_ ?_
            rotate_left
            · (intro u hu; obtain ⟨u0, u1, u2, u3⟩ := hu; go_simp; first | done | with_reducible rfl)
            try simp only [Act.put, lA, lZ, lS]
            refine Late.tk (i := 13) (oi := ⟨some 83, .load 3 (.tmp 82), 3, "keep.go:229", #[⟨12, .data⟩], none⟩) (v := ?_) [15, 16, 17] rfl hS0 ?_ ?_
            rotate_left
            · (intro u hu; obtain ⟨u0, u1, u2, u3⟩ := hu; go_simp; first | done | with_reducible rfl)
            try simp only [Act.put, lA, lZ, lS]
            refine Late.tk (i := 14) (oi := ⟨some 84, .move (.tmp 9), 3, "keep.go:229", #[], none⟩) (v := ?_) [15, 16, 17] rfl hS0 ?_ ?_
            rotate_left
            · (intro u hu; obtain ⟨u0, u1, u2, u3⟩ := hu; go_simp; first | done | with_reducible rfl)
            try simp only [Act.put, lA, lZ, lS]
            refine Late.tk (i := 15) (oi := ⟨some 85, .binOp .add 3 (.tmp 83) (.tmp 84) 3, 3, "keep.go:229", #[⟨13, .data⟩, ⟨14, .data⟩], none⟩) (v := ?_) [16, 17] rfl hS0 ?_ ?_
            rotate_left
            · (intro u hu; obtain ⟨u0, u1, u2, u3⟩ := hu; go_simp; first | done | with_reducible rfl)
            try simp only [Act.put, lA, lZ, lS]
            refine Late.tk (i := 16) (oi := ⟨some 86, .slice 9 (.tmp 79) (some (.tmp 81)) (some (.tmp 85)) none, 9, "keep.go:229", #[⟨9, .data⟩, ⟨11, .data⟩, ⟨15, .data⟩], none⟩) (v := ?_) [17] rfl hS0 ?_ ?_
            rotate_left
            · (intro u hu; skip; go_simp; first | done | with_reducible rfl)
            try simp only [Act.put, lA, lZ, lS]
            refine Late.one (i := 17) (o := ⟨some 87, .call { callee := .value (.func 26), args := #[.tmp 73, .tmp 75, .tmp 86], argTypes := #[50, 3, 9] }, 63, "keep.go:229", #[⟨3, .data⟩, ⟨5, .data⟩, ⟨16, .data⟩], none⟩) (by kernel_rfl) rfl (fun K hK => ?_)
            refine step_call_g rfl 26 #[PtrTo X 0, .int .i64 (qi : Int), tx (bytesAt d.file pl ll)] (by go_simp; exact HCut.out) ?_
            refine (unhide HAC2).mono ?_
            rintro r w4 ⟨rfl, col', hX, hW⟩
            obtain ⟨f1, f2, f3⟩ := HAN.out ll (by omega) (by omega)
            have xd : Ext W3 W3.drew := (Kp.refl _ _).drew
            obtain ⟨hy4, k4⟩ := (hy3.ext xd).scan hX.1 hW
            have p8 := hy4.blk.cell 8
            have p2 := hy4.blk.cell 2
            simp only [yCells, List.getElem?_cons_zero, List.getElem?_cons_succ] at p8 p2
            have hcR : col w2'.heap.size = .out := hy2.isX.top _ (Nat.le_refl _)
            have p0 := hW.kept.cell (xd.cell r0 id) (fun h => h hcR)
            have p1 := hW.kept.cell (xd.cell r1 id) (fun h => h hcR)
            change (Pl.answer m (qi : Int) (bytesAt d.file pl ll)).2 = 0 at f1
            rw [f1]
            refine ⟨_, rfl, hK _ _ (fun _ => ⟨p8, p2, p0, p1⟩) ?_⟩
            clear hK K
            try simp only [Act.put, lA, lZ, lS]
            refine Late.one (i := 18) (o := ⟨some 11, .assign (.tmp 87), 63, "keep.go:229", #[⟨17, .data⟩, ⟨17, .chain⟩, ⟨0, .phase⟩, ⟨1, .phase⟩, ⟨2, .phase⟩, ⟨3, .phase⟩, ⟨4, .phase⟩, ⟨5, .phase⟩, ⟨6, .phase⟩, ⟨7, .phase⟩, ⟨8, .phase⟩, ⟨9, .phase⟩, ⟨10, .phase⟩, ⟨11, .phase⟩, ⟨12, .phase⟩, ⟨13, .phase⟩, ⟨14, .phase⟩, ⟨15, .phase⟩, ⟨16, .phase⟩, ⟨17, .phase⟩], none⟩) (by kernel_rfl) rfl (fun K hK => ?_)
            go_simp
            refine hK _ _ (fun _ => ⟨p8, p2, p0, p1⟩) ?_
            clear hK K
            try simp only [Act.put, lA, lZ, lS]
            refine Late.done (by kernel_rfl) ?_ _
            have HY4 := hide hy4
            have HK4 := hide k4
            clear hy4 k4 hX hW
            go_wp2_with fail
            go_ret
            have z4 := HK4.out.size
            refine ⟨rfl, col', vs, (Pl.answer m (qi : Int) (bytesAt d.file pl ll)).1, k, HY4.out.mono (fun b hb => hb.imp id (fun h => ⟨by have h1 : W3.heap.size ≤ b := h.1; omega, h.2⟩)), (Kp.of_ext (x03.trans xd)).trans HK4.out, hI.monoF f2 (Nat.le_add_right _ _), (HAC.out _ _).2 (fun h => .inr ⟨HNE.out, rfl, f3 ?_⟩)⟩
            first | trivial | rfl
theorem kxOk {d : Yp} (hd : DOk d) : InvOk d (KxD d) :=
  ⟨fun h => h.sound.good, fun h => h.ids, fun h hN => h.fine hd hN, fun h hN => h.mono hN, fun h hF => h.monoF hF, fun h => h.next hd.fl hd.R1 hd.W1, fun h hN => h.tick hN, fun h id i n a b c => Kx.answer hd.fl h id i n a b c, fun h hs => h.phi_le hd.fl hs⟩
theorem takes_any (O : Nat → Prop) (d : Yp) (e : Ym) (col : Colr) (w : World) (Y X P : Nat) (m : Pl.Sc) (vs : List Value) (k N F : Nat) (hd : DOk d) (hk : KxD d m N k F) (hy : YAt O d e col w Y X P m vs k) :
    Calls Tryz.prog 30 #[PtrTo Y 0] w fun r w' => r = .returned (.bool true) ∧ ∃ col' vs' k', YAt (grow O w w') d e col' w' Y X P (Pl.next m).1 vs' k' ∧ Kp O w w' ∧ KxD d (Pl.next m).1 N k' F ∧ Took d.gs m (Pl.next m).1 k k' := takesI_any O d e col w Y X P m vs k N F (KxD d) (kxOk hd) hd hk hy
theorem act_any (O : Nat → Prop) (d : Yp) (e : Ym) (col : Colr) (w : World) (Y X P : Nat) (m : Pl.Sc) (vs : List Value) (k N F : Nat) (kd A B : Int) (hd : DOk d) (hk : KxD d m N k F) (hy : YAt O d e col w Y X P m vs k) (hN : N ≤ 1000000) (hkd : InI kd) (hA : InI A) (hB : InI B) :
    Calls Tryz.prog 20 #[PtrTo Y 0, .agg #[.int .i64 kd, .int .i64 A, .int .i64 B]] w fun r w' => r = .returned (.bool true) ∧ ∃ col' vs' m' k', YAt (grow O w w') d e col' w' Y X P m' vs' k' ∧ Kp O w w' ∧ KxD d m' (N + 24) k' (F + failN kd) ∧ Acted d.gs kd m m' k k' :=
  actI_any O d e col w Y X P m vs k N F kd A B (KxD d) (kxOk hd) (fun _ id i hi => hk.fail id i hi) hd hk hy hN hkd hA hB
end Go.Proofs.YthicgffppmbamaaGreat

namespace Go.Proofs.YthicgffppmbamaaGreat
open Go.RowKit Go.ChangeShapes Go.WideShapes Go.Deep
section
variable {H : Type} {enc : TypeId × Value → H} {W : World}
theorem inI_of {k : Int} (h : (Lit.int .i64 k).wf = true) : InI k := by
  simp only [Lit.wf, Bool.and_eq_true, decide_eq_true_eq] at h
  have e1 : IntKind.i64.min = -9223372036854775808 := by decide
  have e2 : IntKind.i64.max = 9223372036854775807 := by decide
  rw [e1, e2] at h
  exact h
theorem rdI_rng {fuel : Nat} {v : Value} {d : DataW H} {pl : List MemPlace} (h : DataW.trod enc Tryz.prog W 0 (fun _ => true) true fuel 46 [v] = some (d, pl)) (hf : FitsIn 46 d) : ∃ xs : List Int, RdI W.heap.size W v xs ∧ xs.length ≤ 17592186043904 ∧ ∀ x ∈ xs, InI x := by
  obtain ⟨vs, hr, hl, n, he⟩ := rd_open Tryz.underlying46 cells3 bytes3 (by omega) h hf
  have e : vs = (vs.map intOf).map I := by
    rw [List.map_map]
    conv => lhs; rw [← List.map_id vs]
    refine List.map_congr_left (fun u hu => ?_)
    obtain ⟨x, hx, _⟩ := he u hu
    obtain ⟨k, hk, _⟩ := DataW.trod_int Tryz.underlying3 hx
    simp only [List.cons.injEq, and_true] at hk
    subst hk
    rfl
  refine ⟨vs.map intOf, by unfold RdI; rw [← e]; exact hr, ?_, fun x hx => ?_⟩
  · rw [List.length_map]
    rw [reach_eq] at hl
    omega
  · obtain ⟨u, hu, rfl⟩ := List.mem_map.1 hx
    obtain ⟨y, hy, _⟩ := he u hu
    obtain ⟨k, hk, -, hwf⟩ := DataW.trod_int Tryz.underlying3 hy
    simp only [List.cons.injEq, and_true] at hk
    subst hk
    exact inI_of hwf
end
end Go.Proofs.YthicgffppmbamaaGreat

namespace Go.Proofs.YthicgffppmbamaaGreat
open Go.RowKit

/-- a list of acts that is read -/
def RdA (B : Nat) (w : World) (v : Value) (l : List (Int × Int × Int)) : Prop :=
  ∃ ao cap, v = .slice ao l.length cap ∧ l.length ≤ cap ∧ l.length ≤ 17592186044416 ∧ (0 < l.length → ∃ b off, ao = some ⟨b, off, none⟩ ∧ b < B ∧ ∀ j (h : j < l.length), w.cell? ⟨b, off + j * 3, none⟩ = some (.int .i64 l[j].1) ∧ w.cell? ⟨b, off + j * 3 + 1, none⟩ = some (.int .i64 l[j].2.1) ∧ w.cell? ⟨b, off + j * 3 + 2, none⟩ = some (.int .i64 l[j].2.2)) ∧
    ∀ a ∈ l, InI a.1 ∧ InI a.2.1 ∧ InI a.2.2

end Go.Proofs.YthicgffppmbamaaGreat

namespace Go.Proofs.YthicgffppmbamaaGreat
open Go.RowKit Go.ChangeShapes Go.WideShapes Go.Deep
section
variable {H : Type} {enc : TypeId × Value → H} {W : World}
theorem bytesAct : Tryz.prog.bytesOf 60 = 24 := by kernel_rfl
theorem cellsAct : Tryz.prog.cellsOf 60 = 3 := by kernel_rfl
/-- from 'for each there is one' to a list of them -/
theorem pick_list {α β : Type} (Q : α → β → Prop) (vs : List α) (h : ∀ u ∈ vs, ∃ y, Q u y) : ∃ ys : List β, vs.length = ys.length ∧ ∀ (i : Nat) (u : α) (y : β), vs[i]? = some u → ys[i]? = some y → Q u y := by
  induction vs with
  | nil => exact ⟨[], rfl, fun i u y hu => by simp at hu⟩
  | cons v r ih =>
    obtain ⟨y0, h0⟩ := h v (by simp)
    obtain ⟨ys, hl, hq⟩ := ih (fun u hu => h u (by simp [hu]))
    refine ⟨y0 :: ys, by simp [hl], fun i u y hu hy => ?_⟩
    cases i with
    | zero => simp at hu hy; subst hu; subst hy; exact h0
    | succ i => simp at hu hy; exact hq i u y hu hy
set_option maxRecDepth 100000 in
theorem rdA_open {fuel : Nat} {v : Value} {d : DataW H} {pl : List MemPlace} (h : DataW.trod enc Tryz.prog W 0 (fun _ => true) true fuel 57 [v] = some (d, pl)) (hf : FitsIn 57 d) : ∃ s : List (Int × Int × Int), RdA W.heap.size W v s := by
  rcases open_slice Tryz.underlying57 h with ⟨hcs, _⟩ | ⟨a, len, cap, m, n, D, Pl, hcs, _, hl, _, hm, hx, he⟩
  · simp only [List.cons.injEq, and_true] at hcs
    subst hcs
    exact ⟨[], none, 0, rfl, Nat.le_refl _, Nat.zero_le _, fun h => absurd h (by simp), fun a ha => by cases ha⟩
  · simp only [List.cons.injEq, and_true] at hcs
    subst hcs
    simp only [if_true] at hm
    rw [hm] at hx he
    clear hm
    simp only [Prod.mk.injEq] at hx
    obtain ⟨rfl, _⟩ := hx
    have hsz := hf.slice Tryz.underlying57
    simp only [List.length_map, List.length_range, bytesAct, reach_eq] at hsz
    have hone : ∀ i ∈ List.range len, ∃ y : Int × Int × Int, (W.cell? (a.add (i * 3)) = some (.int .i64 y.1) ∧ W.cell? ((a.add (i * 3)).add 1) = some (.int .i64 y.2.1) ∧ W.cell? ((a.add (i * 3)).add 2) = some (.int .i64 y.2.2)) ∧ InI y.1 ∧ InI y.2.1 ∧ InI y.2.2 := fun i hi => by
      rw [List.mem_range] at hi
      obtain ⟨cs, hc, ht⟩ := he i (by omega)
      rw [cellsAct] at hc
      obtain ⟨_, hcl, hcc⟩ := World.cells?_some hc
      obtain ⟨y0, y1, y2, k, hy, _, h0, h1, h2⟩ := trod_struct3 Tryz.underlying60 ht
      match cs, hcl with
      | [c0, c1, c2], _ =>
        have hc3 : Tryz.prog.cellsOf 3 = 1 := by kernel_rfl
        simp only [hc3, List.drop_zero, List.take_succ_cons, List.take_zero, List.drop_succ_cons] at h0 h1 h2
        obtain ⟨p, e0, -, w0⟩ := DataW.trod_int Tryz.underlying3 h0
        obtain ⟨q, e1, -, w1⟩ := DataW.trod_int Tryz.underlying3 h1
        obtain ⟨r, e2, -, w2⟩ := DataW.trod_int Tryz.underlying3 h2
        simp only [List.cons.injEq, and_true] at e0 e1 e2
        subst e0
        subst e1
        subst e2
        refine ⟨(p, q, r), ⟨?_, ?_, ?_⟩, inI_of w0, inI_of w1, inI_of w2⟩
        · have := hcc 0 (by omega)
          simpa [Addr.add] using this
        · simpa using hcc 1 (by omega)
        · simpa using hcc 2 (by omega)
    obtain ⟨ts, htl, hq⟩ := pick_list _ (List.range len) hone
    rw [List.length_range] at htl
    have hget : ∀ j (hj : j < ts.length), (W.cell? (a.add (j * 3)) = some (.int .i64 ts[j].1) ∧ W.cell? ((a.add (j * 3)).add 1) = some (.int .i64 ts[j].2.1) ∧ W.cell? ((a.add (j * 3)).add 2) = some (.int .i64 ts[j].2.2)) ∧ InI ts[j].1 ∧ InI ts[j].2.1 ∧ InI ts[j].2.2 := fun j hj =>
      hq j j ts[j] (by rw [List.getElem?_range (by omega)]) (List.getElem?_eq_getElem hj)
    refine ⟨ts, some a, cap, by rw [← htl], by omega, by omega, fun hp => ?_, fun x hx => ?_⟩
    · obtain ⟨⟨c0, -⟩, -⟩ := hget 0 hp
      obtain ⟨b, off, spot⟩ := a
      have hspot : spot = none := by
        have := World.cell?_spot c0
        simpa [Addr.add] using this
      subst hspot
      refine ⟨b, off, rfl, ?_, fun j hj => ?_⟩
      · have := World.block_lt_of_cell? _ _ c0
        simpa [Addr.add] using this
      · obtain ⟨⟨c1, c2, c3⟩, -⟩ := hget j hj
        rw [Addr.add_lit] at c1 c2 c3
        rw [Addr.add_lit] at c2 c3
        exact ⟨c1, c2, c3⟩
    · obtain ⟨j, hj, rfl⟩ := List.mem_iff_getElem.1 hx
      exact (hget j hj).2
end
end Go.Proofs.YthicgffppmbamaaGreat

namespace Go.Proofs.YthicgffppmbamaaGreat
open Go.RowKit

theorem pickP_zero : pickP 0 7 = 0 := by decide
theorem failN_zero : failN 0 = 0 := by unfold failN; rw [pickP_zero]; rfl
/-- each round brings the end nearer -/
theorem round_less {d : Yp} {Jv : Pl.Sc → Nat → Nat → Nat → Prop} (hI : InvOk d Jv) {m m1 m2 : Pl.Sc} {N2 k k1 k2 F2 : Nat} (hs : m.state = 0) (hk2 : Jv m2 N2 k2 F2) (hN : N2 ≤ 100000000000) (ha : Acted d.gs 0 m m1 k k1) (ht : Took d.gs m1 m2 k1 k2) (h3 : (Pl.tick m2).state = 0) : Phi d.gs (Pl.tick m2) k2 + 1 ≤ Phi d.gs m k := by
  obtain ⟨-, t2, t3⟩ := hI.tick hk2 hN
  rw [t2] at h3
  have t3 := t3 h3
  have hm1 : m1.state = 0 ∧ ((m2 = m1 ∧ k2 = k1) ∨ Phi d.gs m2 k2 + 1 ≤ Phi d.gs m1 k1) := by
    rcases ht with ⟨rfl, rfl, -⟩ | ⟨h, -, h'⟩
    · exact ⟨h3, .inl ⟨rfl, rfl⟩⟩
    · exact ⟨h, .inr (h' h3).1⟩
  obtain ⟨h1, h2⟩ := hm1
  rcases ha pickP_zero with ⟨has, hto⟩ | ⟨-, rfl, hp⟩
  · rcases hto with ⟨rfl, rfl, hp⟩ | ⟨-, -, hp⟩
    · rcases h2 with ⟨rfl, rfl⟩ | h2
      · have hw : m2.waiting ≠ [] := fun e => hp hs (by unfold partsOf; rw [has, e]; rfl)
        have : 1 ≤ m2.waiting.length := by
          cases hwe : m2.waiting with
          | nil => exact absurd hwe hw
          | cons a b => simp
        omega
      · omega
    · have := (hp h1).1
      rcases h2 with ⟨rfl, rfl⟩ | h2 <;> omega
  · have := hp h1
    rcases h2 with ⟨rfl, rfl⟩ | h2 <;> omega

set_option maxRecDepth 20000 in
set_option maxHeartbeats 4000000 in
theorem finI_any (O : Nat → Prop) (d : Yp) (e : Ym) (col : Colr) (w : World) (Y X P : Nat) (m : Pl.Sc) (vs : List Value) (k N F : Nat) (Jv : Pl.Sc → Nat → Nat → Nat → Prop) (hI : InvOk d Jv) (hd : DOk d) (hk : Jv m N k F) (hy : YAt O d e col w Y X P m vs k) (hN : N ≤ 100000) :
    Calls Tryz.prog 17 #[PtrTo Y 0] w fun r w' => r = .returned (.bool true) ∧ ∃ col' vs' m' k' N', YAt (grow O w w') d e col' w' Y X P m' vs' k' ∧ Kp O w w' ∧ Jv m' N' k' F ∧ m'.state ≠ 0 ∧ N' ≤ N + 20000 := by
  go_enter Tryz.func17, Tryz.ntmps17
  go_wp2_with fail
  go_loopw [3] (fun i wr => ∃ (j : Nat) (col' : Colr) (vs' : List Value) (m' : Pl.Sc) (k' N' : Nat), i = .int .i64 j ∧ j ≤ 301 ∧ N' ≤ N + 32 * j ∧ YAt (grow O w wr) d e col' wr Y X P m' vs' k' ∧ Kp O w wr ∧ Jv m' N' k' F ∧ (m'.state = 0 → Phi d.gs m' k' + j ≤ 300)) (fun i _ => 400 - (intOf i).toNat)
  case atStart => exact ⟨0, col, vs, m, k, N, rfl, by omega, by omega, hy.mono (fun b hb => .inl hb), Kp.refl _ _, hk, fun hs => hI.phi hk hs⟩
  case round =>
    obtain ⟨j, col1, vs1, m1, k1, N1, rfl, hj, hN1, hy1, kO, hk1, hph⟩ := hrel
    have hj2 : (j : Int) < 2000 := by omega
    have c8 := hy1.blk.cell 8
    simp only [yCells, List.getElem?_cons_zero, List.getElem?_cons_succ] at c8
    have HST := hide (xState_any col1 wr X P m1 hy1.isX)
    have z1 := kO.size
    by_cases hs : m1.state = 0
    · rw [hs] at HST
      have hph := hph hs
      have HAC := hide (actI_any (grow O w wr) d e col1 wr Y X P m1 vs1 k1 N1 F 0 0 0 Jv hI (fun h => by rw [pickP_zero] at h; cases h) hd hk1 hy1 (by omega) ⟨by omega, by omega⟩ ⟨by omega, by omega⟩ ⟨by omega, by omega⟩)
      rw [failN_zero] at HAC
      go_wp2_with (first | (go_at_call 18; refine (unhide HST).mono ?_; rintro r w2 ⟨rfl, hw2⟩; rw [hw2]; clear hw2) | fail)
      refine (unhide HAC).mono ?_
      rintro r w2 ⟨rfl, col2, vs2, m2, k2, hy2, kO2, hk2, hac⟩
      clear HAC c8
      have HTK := hide (takesI_any _ d e col2 w2 Y X P m2 vs2 k2 (N1 + 24) F Jv hI hd hk2 hy2)
      go_wp2_with fail
      refine (unhide HTK).mono ?_
      rintro r w3 ⟨rfl, col3, vs3, k3, hy3, kO3, hk3, htk⟩
      clear HTK
      have c83 := hy3.blk.cell 8
      simp only [yCells, List.getElem?_cons_zero, List.getElem?_cons_succ] at c83
      generalize (Pl.next m2).1 = m3 at *
      have HTI := hide (gTick_any col3 w3 X P m3 (N1 + 24) ⟨hy3.isX, hI.good hk3⟩ (by omega))
      go_wp2_with fail
      refine (unhide HTI).mono ?_
      rintro r w4 ⟨rfl, col4, hX4, hW4⟩
      obtain ⟨hy4, kO4⟩ := hy3.scan hX4.1 hW4
      have z2 := kO2.size
      have z3 := kO3.size
      have z4 := kO4.size
      have hkt := hI.tick hk3 (by omega)
      have hless := round_less hI hs hk3 (by omega) hac htk
      have HH := hide (And.intro hy4 (And.intro kO4 (And.intro hkt hless)))
      clear hy4 kO4 hkt hless hX4 hW4 HTI c83
      go_wp2_with fail
      refine ⟨⟨j + 1, col4, vs3, Pl.tick m3, k3, N1 + 24 + 4, by go_num, by omega, by omega, ?_, ?_, HH.out.2.2.1.1, fun h => ?_⟩, by simp [intOf]; omega⟩
      · refine HH.out.1.mono (fun b hb => ?_)
        rcases hb with ((((hb | hb) | hb) | hb) | hb)
        · exact .inl hb
        · exact .inr (by omega)
        · exact .inr (by omega)
        · exact .inr (by omega)
        · exact .inr (by omega)
      · exact kO.grow (kO2.grow (kO3.grow HH.out.2.1))
      · have := HH.out.2.2.2 h
        omega
    · have hsi : ¬ (m1.state : Int) = 0 := by omega
      go_wp2_with (first | (go_at_call 18; refine (unhide HST).mono ?_; rintro r w2 ⟨rfl, hw2⟩; rw [hw2]; clear hw2) | fail)
      go_ret
      exact ⟨rfl, col1, vs1, m1, k1, N1, hy1, kO, hk1, hs, by omega⟩
theorem finishes_any (O : Nat → Prop) (d : Yp) (e : Ym) (col : Colr) (w : World) (Y X P : Nat) (m : Pl.Sc) (vs : List Value) (k N F : Nat) (hd : DOk d) (hk : KxD d m N k F) (hy : YAt O d e col w Y X P m vs k) (hN : N ≤ 100000) :
    Calls Tryz.prog 17 #[PtrTo Y 0] w fun r w' => r = .returned (.bool true) ∧ ∃ col' vs' m' k' N', YAt (grow O w w') d e col' w' Y X P m' vs' k' ∧ Kp O w w' ∧ KxD d m' N' k' F ∧ m'.state ≠ 0 ∧ N' ≤ N + 20000 := finI_any O d e col w Y X P m vs k N F (KxD d) (kxOk hd) hd hk hy hN
end Go.Proofs.YthicgffppmbamaaGreat

namespace Go.Proofs.YthicgffppmbamaaGreat
open Go.RowKit

theorem ypOf_dok (l : List Int) : DOk (ypOf l) := by
  have h := sSet_in l
  have hc := sCl_ok l
  refine ⟨ypOf_fl l, ?_, ?_, ?_, ?_, ?_, ?_, hc.2.2.2.1, hc.2.2.2.2⟩
  · show 1 ≤ 1 + _; omega
  · show 1 + _ ≤ 4; omega
  · show 1 ≤ 1 + _; omega
  · show 1 + _ ≤ 4; omega
  · show 1 ≤ 1 + _; omega
  · show 1 + _ ≤ 20; omega
/-- what is looked at, at the end -/
structure EndAt (d : Yp) (w : World) (Y X n : Nat) (nv gv : Value) (Lb : Nat) (va : Option Addr) (vc : Nat) : Prop where
  c0 : w.cell? ⟨Y, 0, none⟩ = some nv
  c1 : w.cell? ⟨Y, 1, none⟩ = some gv
  c5 : w.cell? ⟨Y, 5, none⟩ = some (.int .i64 (d.T : Int))
  c8 : w.cell? ⟨Y, 8, none⟩ = some (PtrTo X 0)
  c9 : w.cell? ⟨Y, 9, none⟩ = some (.slice (some ⟨Lb, 0, none⟩) d.cols.length d.cols.length)
  g0 : w.cell? ⟨Lb, 0, none⟩ = some (.slice va n vc)
theorem YAt.ends {O : Nat → Prop} {d : Yp} {e : Ym} {col : Colr} {w : World} {Y X P : Nat} {m : Pl.Sc} {vs : List Value} {k : Nat} (h : YAt O d e col w Y X P m vs k) (hd : DOk d) (hk : k ≤ totalOf d.gs) : ∃ (na : Option Addr) (nn nc : Nat) (ga : Option Addr) (gn gc : Nat) (va : Option Addr) (vc : Nat), e.nv = .slice na nn nc ∧ e.gv = .slice ga gn gc ∧ EndAt d w Y X k (.slice na nn nc) (.slice ga gn gc) e.Lb va vc := by
  obtain ⟨na, nn, nc, hnvE⟩ := slice_of h.nam
  obtain ⟨gvs, hgr, -, -⟩ := id h.tab
  obtain ⟨ga, gn, gc, hgvE⟩ := slice_of hgr
  have hvl : vs.length = d.cols.length := by rw [h.got.len]; unfold gotOf; simp
  have hc1 := hd.c1
  have hgo := h.got.own 0 vs[0] ((colOf d.gs d.cols 0).take k) (List.getElem?_eq_getElem (by omega)) (by rw [← gotMid_zero d k 0, gotMid_at d k 0 0 0 (by omega)]; rfl)
  have hgb := h.got.blk.cell 0
  rw [List.getElem?_eq_getElem (by omega)] at hgb
  obtain ⟨va, vc, hv, -⟩ := hgo.shape
  have hl : ((colOf d.gs d.cols 0).take k).length = k := by rw [List.length_take, colOf_len hd 0 (by omega)]; omega
  rw [hl] at hv
  rw [hv] at hgb
  refine ⟨na, nn, nc, ga, gn, gc, va, vc, hnvE, hgvE, ?_, ?_, ?_, ?_, ?_, hgb⟩
  · have := h.blk.cell 0; simp only [yCells, List.getElem?_cons_zero, hnvE] at this; exact this
  · have := h.blk.cell 1; simp only [yCells, List.getElem?_cons_zero, List.getElem?_cons_succ, hgvE] at this; exact this
  · have := h.blk.cell 5; simp only [yCells, I, List.getElem?_cons_zero, List.getElem?_cons_succ] at this; exact this
  · have := h.blk.cell 8; simp only [yCells, List.getElem?_cons_zero, List.getElem?_cons_succ] at this; exact this
  · have := h.blk.cell 9; simp only [yCells, List.getElem?_cons_zero, List.getElem?_cons_succ] at this; exact this
theorem YAt.total {O : Nat → Prop} {d : Yp} {e : Ym} {col : Colr} {w : World} {Y X P : Nat} {m : Pl.Sc} {vs : List Value} {k : Nat} (h : YAt O d e col w Y X P m vs k) (hd : DOk d) (u : World) (hu : Ext w u) : Calls Tryz.prog 19 #[.agg #[e.nv, e.gv]] u fun r w' => r = .returned (.int .i64 (totalOf d.gs : Nat)) ∧ Ext u w' := by
  obtain ⟨hg6, hgi⟩ := hd.grp
  obtain ⟨na, nn, nc, hnvE⟩ := slice_of h.nam
  exact total_any (Low e Y) u e.nv e.gv d.gs ⟨na, nn, nc, hnvE⟩ (h.tab.kept hu (fun _ _ f => f)) hg6 (fun G hG => ⟨(hgi G hG).2.1, (hgi G hG).2.2⟩)

end Go.Proofs.YthicgffppmbamaaGreat

namespace Go.Proofs.YthicgffppmbamaaGreat
open Pl

def wnt (nb : List (List UInt8)) (m : Sc) : Sc := { m with want := nb }
theorem wnt_ask (nb : List (List UInt8)) (m : Sc) (p : Part) : Pl.ask (wnt nb m) p = wnt nb (Pl.ask m p) := rfl
theorem wnt_fold (nb : List (List UInt8)) : ∀ (l : List (Nat × Part)) (m : Sc) (s : List (Nat × Part)), l.foldl tickS (wnt nb m, s) = (wnt nb (l.foldl tickS (m, s)).1, (l.foldl tickS (m, s)).2)
  | [], _, _ => rfl
  | q :: l, m, s => by
    rw [List.foldl_cons, List.foldl_cons]
    by_cases h : 1 < q.1
    · have e1 : tickS (wnt nb m, s) q = (wnt nb m, s ++ [(q.1 - 1, q.2)]) := by unfold tickS; rw [if_pos h]
      have e2 : tickS (m, s) q = (m, s ++ [(q.1 - 1, q.2)]) := by unfold tickS; rw [if_pos h]
      rw [e1, e2]
      exact wnt_fold nb l m _
    · have e1 : tickS (wnt nb m, s) q = (wnt nb (Pl.ask m q.2), s) := by unfold tickS; rw [if_neg h]; rfl
      have e2 : tickS (m, s) q = (Pl.ask m q.2, s) := by unfold tickS; rw [if_neg h]
      rw [e1, e2]
      exact wnt_fold nb l _ _
theorem wnt_tick (nb : List (List UInt8)) (m : Sc) : Pl.tick (wnt nb m) = wnt nb (Pl.tick m) := by
  have := wnt_fold nb m.waiting m []
  unfold Pl.tick
  show (let s := m.waiting.foldl tickS (wnt nb m, []); { s.1 with waiting := s.2 }) = _
  simp only
  rw [this]
  rfl
/-- it wants a name that is no column's; m' is the scan that wants columns -/
def Nb (nb : List (List UInt8)) (d : Yp) (m : Sc) (N _k F : Nat) : Prop :=
  True ∧ ((∃ why, why = 3 ∧ m = ended why) ∨ ∃ m', KxD d m' N 0 F ∧ m'.state = 0 ∧ (∃ x ∈ partsOf m', isPiece x.aim = false) ∧ m = wnt nb m')
theorem phi_le_k {gs : List (List (List Int))} {m m' : Sc} {a b k : Nat} (h : Phi gs m 0 + a ≤ Phi gs m' 0 + b) : Phi gs m k + a ≤ Phi gs m' k + b := by
  unfold Phi at *
  omega
section
variable {nb : List (List UInt8)} {d : Yp} {m : Sc} {N k F : Nat}
theorem Nb.good (hnb : nb.length ≤ 4) (h : Nb nb d m N k F) : Good m N := by
  rcases h.2 with ⟨why, rfl, rfl⟩ | ⟨m', hk, hs, -, rfl⟩
  · exact .inl ⟨3, by decide, by decide, rfl⟩
  · obtain ⟨hg, -, -⟩ := hk.going hs
    exact .inr ⟨{ hg.core with want := hnb }, hg.ticks⟩
theorem Nb.next (h : Nb nb d m N k F) : (Pl.next m).2 = none ∧ (Pl.next m).1 = m ∧ (m.state = 0 → partsOf m ≠ []) := by
  rcases h.2 with ⟨why, rfl, rfl⟩ | ⟨m', hk, hs, ⟨x, hx, hp⟩, rfl⟩
  · have : rwNext (ended 3).rows (ended 3).nrows = (none, (ended 3).rows) := by unfold rwNext; rw [if_pos (.inl rfl)]
    have e : Pl.next (ended 3) = (ended 3, none) := by unfold Pl.next; rw [this]
    rw [e]
    exact ⟨rfl, rfl, fun h => by cases h⟩
  · obtain ⟨-, hr, -⟩ := hk.going hs
    have hl := (hr.new ⟨x, hx, hp⟩).1
    have : rwNext (wnt nb m').rows (wnt nb m').nrows = (none, (wnt nb m').rows) := by
      unfold rwNext
      rw [if_pos (.inl (by unfold rwCount; show min _ m'.rows.left = 0; rw [hl]; exact Nat.min_zero _))]
    have e : Pl.next (wnt nb m') = (wnt nb m', none) := by unfold Pl.next; rw [this]
    rw [e]
    refine ⟨rfl, rfl, fun _ he => ?_⟩
    have he : partsOf m' = [] := he
    rw [he] at hx
    cases hx
theorem Nb.tick (h : Nb nb d m N k F) (hN : N ≤ 100000000000) : Nb nb d (Pl.tick m) (N + 4) k F ∧ (Pl.tick m).state = m.state ∧ (m.state = 0 → Phi d.gs (Pl.tick m) k + m.waiting.length = Phi d.gs m k) := by
  obtain ⟨-, h2⟩ := h
  rcases h2 with ⟨why, rfl, rfl⟩ | ⟨m', hk, hs, ⟨x, hx, hp⟩, rfl⟩
  · exact ⟨⟨trivial, .inl ⟨3, rfl, rfl⟩⟩, rfl, fun h => by cases h⟩
  · obtain ⟨t1, t2, t3⟩ := hk.tick hN
    obtain ⟨al, id, e1, e2, e3, e4⟩ := tick_fold m'.waiting m' []
    have ht : Pl.tick m' = { m' with asked := al, lastId := id, waiting := (m'.waiting.foldl tickS (m', [])).2 } := by unfold Pl.tick; simp only; rw [e1]
    have hpm : (partsOf m').Perm (partsOf { m' with asked := al, lastId := id, waiting := (m'.waiting.foldl tickS (m', [])).2 }) := by
      unfold partsOf
      refine List.Perm.trans (.of_eq ?_) e3
      simp
    rw [wnt_tick]
    refine ⟨⟨trivial, .inr ⟨Pl.tick m', t1, by rw [t2]; exact hs, ⟨x, ?_, hp⟩, rfl⟩⟩, t2, fun _ => Nat.le_antisymm (phi_le_k (a := m'.waiting.length) (b := 0) (Nat.le_of_eq (t3 hs))) (phi_le_k (m := m') (a := 0) (b := m'.waiting.length) (Nat.le_of_eq (t3 hs).symm))⟩
    rw [ht]
    exact hpm.mem_iff.1 hx
theorem Nb.answer (hd : DOk d) (hnb : columns d.names nb = none) (h : Nb nb d m N k F) (id : Int) (i n : Nat) (hi : findId m.asked id = some i) (hn : 1 ≤ n) (hle : n ≤ (Pl.partAt m i).length - (Pl.partAt m i).data.length) :
    (Pl.answer m id (bytesAt (Ft d.names d.gs) ((Pl.partAt m i).place + (Pl.partAt m i).data.length) n)).2 = 0 ∧ Nb nb d (Pl.answer m id (bytesAt (Ft d.names d.gs) ((Pl.partAt m i).place + (Pl.partAt m i).data.length) n)).1 (N + 24) k F ∧
      (n = (Pl.partAt m i).length - (Pl.partAt m i).data.length → (Pl.answer m id (bytesAt (Ft d.names d.gs) ((Pl.partAt m i).place + (Pl.partAt m i).data.length) n)).1.state = 0 → Phi d.gs (Pl.answer m id (bytesAt (Ft d.names d.gs) ((Pl.partAt m i).place + (Pl.partAt m i).data.length) n)).1 k + 1 ≤ Phi d.gs m k) := by
  obtain ⟨-, h2⟩ := h
  rcases h2 with ⟨why, rfl, rfl⟩ | ⟨m', hk, hs, ⟨x, hx, hp⟩, rfl⟩
  · have := findId_lt hi
    exact absurd this (by show ¬ i < 0; omega)
  have hlt : i < m'.asked.length := findId_lt hi
  have hi' : findId m'.asked id = some i := hi
  have hle' : n ≤ (Pl.partAt m' i).length - (Pl.partAt m' i).data.length := hle
  obtain ⟨a1, a2, a3⟩ := Kx.answer hd.fl hk id i n hi' hn hle'
  obtain ⟨hg, hr, -⟩ := hk.going hs
  obtain ⟨c1, c2⟩ := hg.taken i hlt
  have hin := hk.within.part i hlt
  rw [hk.size hs] at hin
  have hbl := bytesAt_len (Ft d.names d.gs) ((Pl.partAt m' i).place + (Pl.partAt m' i).data.length) n (by omega)
  have hperm := take_perm m' i hlt
  have hl1 := (hg.core.first ⟨x, hx, hp⟩).1
  have hxe : x = Pl.partAt m' i := by
    have h1 : x ∈ Pl.partAt m' i :: partsOf (takeAt m' i) := hperm.mem_iff.1 hx
    have h2 : (Pl.partAt m' i :: partsOf (takeAt m' i)).length = 1 := by rw [← hperm.length_eq]; exact hl1
    have h3 : partsOf (takeAt m' i) = [] := List.eq_nil_of_length_eq_zero (by simpa using h2)
    rw [h3] at h1
    simpa using h1
  have ht : ∀ mm : Sc, mm.asked = m'.asked → Pl.answer mm id (bytesAt (Ft d.names d.gs) ((Pl.partAt m' i).place + (Pl.partAt m' i).data.length) n) = (Pl.partCame (takeAt mm i) (Pl.partAt m' i) (bytesAt (Ft d.names d.gs) ((Pl.partAt m' i).place + (Pl.partAt m' i).data.length) n), 0) := fun mm e => by
    have e2 : Pl.partAt mm i = Pl.partAt m' i := by unfold Pl.partAt; rw [e]
    unfold Pl.answer
    rw [e, hi']
    simp only
    rw [e2, if_neg (by rw [hbl]; omega), if_neg (by rw [hbl]; omega)]
  show (Pl.answer (wnt nb m') id (bytesAt (Ft d.names d.gs) ((Pl.partAt m' i).place + (Pl.partAt m' i).data.length) n)).2 = 0 ∧ Nb nb d (Pl.answer (wnt nb m') id (bytesAt (Ft d.names d.gs) ((Pl.partAt m' i).place + (Pl.partAt m' i).data.length) n)).1 (N + 24) k F ∧ (n = (Pl.partAt m' i).length - (Pl.partAt m' i).data.length → (Pl.answer (wnt nb m') id (bytesAt (Ft d.names d.gs) ((Pl.partAt m' i).place + (Pl.partAt m' i).data.length) n)).1.state = 0 → Phi d.gs (Pl.answer (wnt nb m') id (bytesAt (Ft d.names d.gs) ((Pl.partAt m' i).place + (Pl.partAt m' i).data.length) n)).1 k + 1 ≤ Phi d.gs m' k)
  rw [ht m' rfl] at a2 a3
  rw [ht (wnt nb m') rfl]
  refine ⟨rfl, ?_⟩
  simp only at a2 a3 ⊢
  have hdat := hr.data (Pl.partAt m' i) (hperm.mem_iff.2 (by simp))
  unfold Pl.partCame at a2 a3 ⊢
  rw [hbl] at a2 a3 ⊢
  by_cases hl : (Pl.partAt m' i).data.length + n < (Pl.partAt m' i).length
  · rw [if_pos hl] at a2 a3 ⊢
    refine ⟨⟨trivial, .inr ⟨_, a2, hs, ⟨{ Pl.partAt m' i with data := (Pl.partAt m' i).data ++ bytesAt (Ft d.names d.gs) ((Pl.partAt m' i).place + (Pl.partAt m' i).data.length) n }, ?_, by rw [hxe] at hp; exact hp⟩, rfl⟩⟩, fun e _ => phi_le_k (b := 0) (a3 e hs)⟩
    exact (partsOf_ask (takeAt m' i) _).mem_iff.1 (by simp)
  · rw [if_neg hl] at a2 a3 ⊢
    have hda : (Pl.partAt m' i).data ++ bytesAt (Ft d.names d.gs) ((Pl.partAt m' i).place + (Pl.partAt m' i).data.length) n = bytesAt (Ft d.names d.gs) (Pl.partAt m' i).place (Pl.partAt m' i).length := by
      rw [show (Pl.partAt m' i).length = (Pl.partAt m' i).data.length + n by omega, ← bytesAt_more, ← hdat]
    rw [hda] at a2 a3 ⊢
    cases ha : (Pl.partAt m' i).aim with
    | piece p => rw [hxe, ha] at hp; cases hp
    | tail =>
      rw [ha] at a2 a3
      have a2 : KxD d (tailCame (takeAt m' i) _) (N + 24) 0 F := a2
      have a3 : n = _ → (tailCame (takeAt m' i) _).state = 0 → Phi d.gs (tailCame (takeAt m' i) _) 0 + 1 ≤ Phi d.gs m' 0 := a3
      show Nb nb d (tailCame (wnt nb (takeAt m' i)) _) (N + 24) k F ∧ (n = _ → (tailCame (wnt nb (takeAt m' i)) _).state = 0 → Phi d.gs (tailCame (wnt nb (takeAt m' i)) _) k + 1 ≤ Phi d.gs m' k)
      unfold tailCame at a2 a3 ⊢
      show Nb nb d (match readTail _ (takeAt m' i).size with | none => ended 2 | some n => fetch (wnt nb (takeAt m' i)) ((takeAt m' i).size - 6 - n) n .footer) (N + 24) k F ∧ _
      cases hrt : readTail (bytesAt (Ft d.names d.gs) (Pl.partAt m' i).place (Pl.partAt m' i).length) (takeAt m' i).size with
      | none =>
        rw [hrt] at a2
        have a2 : KxD d (ended 2) (N + 24) 0 F := a2
        rcases a2.ended_of (by decide) with ⟨e, -⟩ | ⟨e, -⟩ <;> exact absurd (congrArg Sc.state e) (by decide)
      | some q =>
        rw [hrt] at a2 a3
        refine ⟨⟨trivial, .inr ⟨_, a2, hs, ⟨⟨(takeAt m' i).size - 6 - q, q, [], 0, .footer⟩, (partsOf_ask (takeAt m' i) _).mem_iff.1 (by simp), rfl⟩, rfl⟩⟩, fun e h0 => ?_⟩
        have e' : (wnt nb (takeAt m' i)).size = (takeAt m' i).size := rfl
        rw [e', hrt]
        exact phi_le_k (b := 0) (a3 e hs)
    | footer =>
      obtain ⟨t1, t2⟩ := hr.footer (Pl.partAt m' i) (hperm.mem_iff.2 (by simp)) ha
      have hwl : (Ft d.names d.gs).length = (parts d.names d.gs).1.length + (parts d.names d.gs).2.length + 6 := whole_len (parts d.names d.gs)
      have hsz := hk.size hs
      have h4 := ft_len hd.fl.ok
      have hfe : wholeCame (wnt nb (takeAt m' i)) .footer (bytesAt (Ft d.names d.gs) (Pl.partAt m' i).place (Pl.partAt m' i).length) = ended 3 := by
        rw [t1, t2, whole_foot]
        show footerCame (wnt nb (takeAt m' i)) _ = _
        unfold footerCame
        have e1 : (wnt nb (takeAt m' i)).size - 6 - (parts d.names d.gs).2.length = (parts d.names d.gs).1.length := by
          show m'.size - 6 - _ = _
          rw [hsz]; omega
        rw [e1, footer_read d.names d.gs hd.fl.ok (by omega)]
        simp only
        show (match columns d.names nb with | none => ended 3 | some cols => _) = ended 3
        rw [hnb]
      have hfe' : wholeCame (takeAt (wnt nb m') i) .footer (bytesAt (Ft d.names d.gs) (Pl.partAt m' i).place (Pl.partAt m' i).length) = ended 3 := hfe
      rw [hfe']
      exact ⟨⟨trivial, .inl ⟨3, rfl, rfl⟩⟩, fun _ h0 => by cases h0⟩
theorem nbOk (hd : DOk d) (hnb : columns d.names nb = none) (hl : nb.length ≤ 4) : InvOk d (Nb nb d) where
  good h := h.good hl
  ids h := by
    rcases h.2 with ⟨why, rfl, rfl⟩ | ⟨m', hk, -, -, rfl⟩
    · exact Ids.ended 3
    · exact hk.ids
  fine h hN := by
    rcases h.2 with ⟨why, rfl, rfl⟩ | ⟨m', hk, -, -, rfl⟩
    · exact ⟨Nat.zero_le _, (fun q hq => by cases hq), (fun q hq => by cases hq), (fun i hi => by cases hi), (fun q hq => by cases hq)⟩
    · have := hk.fine hd hN
      exact ⟨this.win, this.len, this.ends, this.ids, this.small⟩
  mono h hN := ⟨h.1, h.2.imp id (fun ⟨m', a, b⟩ => ⟨m', a.mono hN, b⟩)⟩
  monoF h hF := ⟨h.1, h.2.imp id (fun ⟨m', a, b⟩ => ⟨m', a.monoF hF, b⟩)⟩
  next h := .inl h.next
  tick h hN := h.tick hN
  answer h id i n a b c := h.answer hd hnb id i n a b c
  phi h hs := by
    obtain ⟨-, h2⟩ := h
    rcases h2 with ⟨why, rfl, rfl⟩ | ⟨m', hk, h0, -, rfl⟩
    · cases hs
    · have := phi_le_k (gs := d.gs) (m := m') (m' := m') (a := 0) (b := 0) (k := 0) (Nat.le_refl _)
      have h1 := hk.phi_le hd.fl h0
      show Phi d.gs m' _ ≤ 300
      unfold Phi at *
      omega
end
end Go.Proofs.YthicgffppmbamaaGreat

namespace Go.Proofs.YthicgffppmbamaaGreat
open Go.RowKit
section
variable {O : Nat → Prop} {d : Yp} {e : Ym} {col : Colr} {w w' : World} {Y X P : Nat} {m : Pl.Sc} {vs : List Value} {k : Nat}
theorem YAt.put {d' : Yp} (h : YAt O d e col w Y X P m vs k) (j : Nat) (v : Value) (hc : (yCells d e X).set j v = yCells d' e X) (hss : d'.ss = d.ss) (hgs : d'.gs = d.gs) (hcl : d'.cols = d.cols) : YAt O d' e col (w.setCell ⟨Y, j, none⟩ v) Y X P m vs k := by
  have ks := kp_set' w Y j v
  have hl : ∀ b, Low e Y b → ¬ (fun q => q = Y) b := fun b hb e => hb.2.2 e
  have hg : gotOf d' k = gotOf d k := by unfold gotOf; rw [hgs, hcl]
  refine ⟨by have := h.blk.set j v; rw [hc] at this; exact this, h.yB, h.low, by rw [hss]; exact h.nam.kept ks hl, by rw [hgs]; exact h.tab.kept ks hl, by rw [hcl]; exact h.cls.kept ks hl, h.isX.kept ks (fun i hi => by have : i = Y := hi; rw [this]; exact h.low Y h.yB), ?_, h.own⟩
  rw [hg]
  exact h.got.kept ks (fun g hg _ hi => by have h1 := hg.1; have h2 := h.yB; have : g = Y := hi; omega)
/-- another scan takes the place of the one that it had -/
theorem YAt.reopen {col' : Colr} {X' P' : Nat} {m' : Pl.Sc} (h : YAt O d e col w Y X P m vs k) (x : Ext w w') (hx : IsX col' w' X' m' P') (hlow : ∀ b, b < w.heap.size → col' b = .out) : YAt (grow O w w') d e col' (w'.setCell ⟨Y, 8, none⟩ (PtrTo X' 0)) Y X' P' m' vs k := by
  have ks := kp_set' w' Y 8 (PtrTo X' 0)
  have hl : ∀ b, Low e Y b → ¬ (fun q => q = Y) b := fun b hb e => hb.2.2 e
  have hBw : e.B ≤ w.heap.size := by have := h.got.new.1; have := h.got.blk.lt; omega
  have hYw := h.blk.lt
  have hz := x.size
  refine ⟨?_, h.yB, fun b hb => hlow b (by omega), (h.nam.kept x (fun _ _ f => f)).kept ks hl, (h.tab.kept x (fun _ _ f => f)).kept ks hl, (h.cls.kept x (fun _ _ f => f)).kept ks hl, hx.kept ks (fun i hi => by have : i = Y := hi; rw [this]; exact hlow Y hYw), ?_, fun b hb => ?_⟩
  · have := (h.blk.kept x id).set 8 (PtrTo X' 0)
    exact this
  · have g1 : NxAt (fun g => e.B ≤ g ∧ col' g = .out) w e.Lb vs (gotOf d k) := h.got.recol (fun g hg hlt => ⟨hg.1, hlow g hlt⟩)
    exact (g1.ext x).kept ks (fun g hg _ hi => by have h1 := hg.1; have h2 := h.yB; have : g = Y := hi; omega)
  · rcases hb with hb | hb | hb | hb
    · exact .inl (h.own b (.inl hb))
    · refine .inr ⟨Nat.le_of_not_lt (fun hlt => hb (hlow b hlt)), Nat.lt_of_not_le (fun hle => hb (hx.top b hle))⟩
    · exact .inl (h.own b (.inr (.inr (.inl hb))))
    · exact .inl (h.own b (.inr (.inr (.inr hb))))
/-- blocks below a bound, and from another one on, that are not its own -/
theorem YAt.apart {S : Nat → Prop} (h : YAt O d e col w Y X P m vs k) (x : Kp S w w') (hO : ∀ b, S b → ¬ O b) (hA : ∀ b, S b → b < e.A ∨ e.B ≤ b) : YAt O d e col w' Y X P m vs k := h.kept x (fun b hb => ⟨hO b hb, hA b hb⟩)
end
end Go.Proofs.YthicgffppmbamaaGreat

namespace Go.Proofs.YthicgffppmbamaaGreat
open Go.RowKit

theorem failN_no {kd : Int} (h : ¬ pickP kd 7 = 4) : failN kd = 0 := by unfold failN; rw [if_neg h]

theorem grow_ge {O : Nat → Prop} {w w' : World} {a : Nat} (h : ∀ b, O b → a ≤ b) (hw : a ≤ w.heap.size) : ∀ b, grow O w w' b → a ≤ b := fun b e => by
  rcases e with e | e
  · exact h b e
  · exact Nat.le_trans hw e.1
def nobodyB : ByteArray := ⟨#[110, 111, 98, 111, 100, 121]⟩
theorem nobody_all : ∀ n ∈ [1, 2, 3, 4], Pl.columns (names4.take n) [bytesOf nobodyB] = none := by decide +kernel
theorem nobody_none (l : List Int) : Pl.columns (ypOf l).names [bytesOf nobodyB] = none := by
  rw [ypOf_names]
  have := sN_in l
  exact nobody_all (sN l) (by simp; omega)
theorem nobody_open (size : Nat) (want : List (List UInt8)) (w t r g : Nat) (h : 10 ≤ size) : Pl.openSc size [bytesOf nobodyB] w t r g = wnt [bytesOf nobodyB] (Pl.openSc size want w t r g) := by
  have hk : Pl.keepNames [bytesOf nobodyB] = [bytesOf nobodyB] := by decide +kernel
  unfold Pl.openSc
  rw [if_neg (by omega), if_neg (by omega), hk]
  rfl
theorem nobody_nb {d : Yp} {size w t r g : Nat} {want : List (List UInt8)} (h : 10 ≤ size) (hk : KxD d (Pl.openSc size want w t r g) 1 0 0) (k : Nat) : Nb [bytesOf nobodyB] d (Pl.openSc size [bytesOf nobodyB] w t r g) 1 k 0 := by
  rw [nobody_open size want w t r g h]
  have e : Pl.openSc size want w t r g = Pl.fetch { size := size, want := Pl.keepNames want, win := w, tries := t, nrows := r, gap := g } (size - 6) 6 .tail := by unfold Pl.openSc; rw [if_neg (by omega)]
  refine ⟨trivial, .inr ⟨_, hk, by rw [e]; rfl, ⟨⟨size - 6, 6, [], 0, .tail⟩, ?_, rfl⟩, rfl⟩⟩
  rw [e]
  exact (partsOf_ask _ _).mem_iff.1 (by simp)
theorem nb_end {nb : List (List UInt8)} {d : Yp} {m : Pl.Sc} {N k F : Nat} (h : Nb nb d m N k F) (hs : m.state ≠ 0) : m.state = 3 := by
  rcases h.2 with ⟨why, rfl, rfl⟩ | ⟨m', hk, h0, -, rfl⟩
  · rfl
  · exact absurd h0 hs

set_option maxRecDepth 20000 in
set_option maxHeartbeats 8000000 in
theorem stoppedLaw_any (w : World) (lv sv tv : Value) (l : List Int) (s t : List (Int × Int × Int)) (hr : RdI w.heap.size w lv l) (hlen : l.length ≤ 17592186043904) (hrng : ∀ x ∈ l, InI x) (hs : RdA w.heap.size w sv s) (ht : RdA w.heap.size w tv t) :
    Calls Tryz.prog 8 #[lv, sv, tv] w fun r w' => r = .returned (.bool true) ∧ Ext w w' := by
  have HO := hide (opened_any w lv l hr hlen hrng)
  have hd := ypOf_dok l
  have hin := sSet_in l
  have hko := ypOf_open l (ypOf l).W (ypOf l).G hd.W4 (by show (sS4 l).1 ≤ 32; omega)
  have HNB := hide (nobody_none l)
  have hf10 := file_ge (ypOf l)
  have HG32 : Hid ((ypOf l).G ≤ 32) := by show (sS4 l).1 ≤ 32; omega
  obtain ⟨la, lc, rfl, -, -, -⟩ := RdI.open hr
  obtain ⟨sa, sc, rfl, hsc, hsl, hscell, hsin⟩ := hs
  obtain ⟨ta, tc, rfl, htc, htl, -, -⟩ := ht
  go_enter Tryz.func8, Tryz.ntmps8
  go_wp2_with fail
  refine (unhide HO).mono ?_
  rintro r w1 ⟨Y, X, P, col, em, vs, rfl, hy, x1, -, -⟩
  clear HO
  generalize ypOf l = d at *
  have HY := hide hy
  have HK := hide hko
  have z1 := x1.size
  clear hy hko
  go_wp2_with fail
  go_loopw [8] (fun i wr => ∃ (j : Nat) (col' : Colr) (vs' : List Value) (m' : Pl.Sc) (k' N' : Nat), i = .int .i64 j ∧ j ≤ s.length ∧ j ≤ 60 ∧ N' ≤ 1 + 24 * j ∧ YAt (grow (grow (fun _ => False) w w1) w1 wr) d em col' wr Y X P m' vs' k' ∧ Kp (grow (fun _ => False) w w1) w1 wr ∧ KxD d m' N' k' 0) (fun i _ => 70 - (intOf i).toNat)
  case atStart => exact ⟨0, _, _, _, 0, 1, rfl, by omega, by omega, by omega, HY.out.mono (fun b hb => .inl hb), Kp.refl _ _, HK.out⟩
  case round =>
    obtain ⟨j, col1, vs1, m1, k1, N1, rfl, hj, hj60, hN1, hy1, kO, hk1⟩ := hrel
    have x7 : Ext w wr := Kp.grow x1 kO
    have z7 := kO.size
    by_cases hjl : j < s.length ∧ j < 60
    · have hj1 : (j : Int) < (s.length : Int) := by omega
      have hj2 : (j : Int) < 60 := by omega
      have jj0 : (0 : Int) ≤ (j : Int) := by omega
      have dj1 : decide ((j : Int) < (s.length : Int)) = true := decide_eq_true hj1
      have dj2 : decide ((j : Int) < 60) = true := decide_eq_true hj2
      obtain ⟨sb, soff, rfl, hsb, hcell⟩ := hscell (by omega)
      obtain ⟨q0, q1, q2⟩ := hcell j hjl.1
      obtain ⟨i0, i1, i2⟩ := hsin s[j] (List.getElem_mem hjl.1)
      generalize s[j] = a at *
      have e0 := x7.cell q0 id
      have e1 := x7.cell q1 id
      have e2 := x7.cell q2 id
      have HPK := hide (fun u => kpick_any u a.1 7 i0.1 i0.2 (by omega) (by omega))
      have HFN : Hid (¬ pickP a.1 7 = 4 → failN a.1 = 0) := failN_no
      generalize a.1 = kd at *
      generalize a.2.1 = A at *
      generalize a.2.2 = B at *
      have xB : Ext wr (wr.alloc (.cells #[.int .i64 kd, .int .i64 A, .int .i64 B] 60)) := (Kp.refl _ _).alloc _
      have zB : Hid ((wr.alloc (.cells #[.int .i64 kd, .int .i64 A, .int .i64 B] 60)).heap.size = wr.heap.size + 1) := by show _ = _; simp
      clear q0 q1 q2 hcell
      by_cases h4 : pickP kd 7 = 4
      · rw [h4] at HPK
        have xB2 : Ext wr (wr.alloc (.cells #[.int .i64 0, .int .i64 A, .int .i64 B] 60)) := (Kp.refl _ _).alloc _
        have zB2 : Hid ((wr.alloc (.cells #[.int .i64 0, .int .i64 A, .int .i64 B] 60)).heap.size = wr.heap.size + 1) := by show _ = _; simp
        have HAC := hide (act_any _ d em col1 _ Y X P m1 vs1 k1 N1 0 0 A B hd hk1 (hy1.ext xB2) (by omega) ⟨by omega, by omega⟩ i1 i2)
        rw [show failN 0 = 0 by decide] at HAC
        clear hy1 hk1
        go_wp2_with (first | (go_at_call 21; refine ((unhide HPK) _).mono ?_; rintro r wq ⟨rfl, hwq⟩; rw [hwq]; clear hwq) | fail)
        refine (unhide HAC).mono ?_
        rintro r w8 ⟨rfl, col8, vs8, m8, k8, hy8, kO8, hk8, -⟩
        clear HAC
        have HH := hide (And.intro hy8 (And.intro kO8 hk8))
        have z8 := kO8.size
        have zz := zB2.out
        clear hy8 kO8 hk8
        go_wp2_with fail
        refine ⟨⟨j + 1, col8, vs8, m8, k8, N1 + 24, by go_num, by omega, by omega, by omega, ?_, ?_, HH.out.2.2⟩, by simp [intOf]; omega⟩
        · exact HH.out.1.mono (fun b hb => by
            rcases hb with (hb | hb) | hb
            · exact .inl hb
            · exact .inr (by omega)
            · exact .inr (by have h1 := hb.1; have h2 := hb.2; omega))
        · exact (kO.trans (Kp.of_ext xB2)).then HH.out.2.1 (fun i hi e => by
            rcases e with e | e
            · exact e
            · omega)
      · have h4i : ¬ ((pickP kd 7 : Nat) : Int) = 4 := by omega
        have HAC := hide (act_any _ d em col1 _ Y X P m1 vs1 k1 N1 0 kd A B hd hk1 (hy1.ext xB) (by omega) i0 i1 i2)
        rw [HFN.out h4] at HAC
        clear hy1 hk1 h4
        go_wp2_with (first | (go_at_call 21; refine ((unhide HPK) _).mono ?_; rintro r wq ⟨rfl, hwq⟩; rw [hwq]; clear hwq) | fail)
        refine (unhide HAC).mono ?_
        rintro r w8 ⟨rfl, col8, vs8, m8, k8, hy8, kO8, hk8, -⟩
        clear HAC
        have HH := hide (And.intro hy8 (And.intro kO8 hk8))
        have z8 := kO8.size
        have zz := zB.out
        clear hy8 kO8 hk8
        go_wp2_with fail
        refine ⟨⟨j + 1, col8, vs8, m8, k8, N1 + 24, by go_num, by omega, by omega, by omega, ?_, ?_, HH.out.2.2⟩, by simp [intOf]; omega⟩
        · exact HH.out.1.mono (fun b hb => by
            rcases hb with (hb | hb) | hb
            · exact .inl hb
            · exact .inr (by omega)
            · exact .inr (by have h1 := hb.1; have h2 := hb.2; omega))
        · exact (kO.trans (Kp.of_ext xB)).then HH.out.2.1 (fun i hi e => by
            rcases e with e | e
            · exact e
            · omega)
    · have hal : m1.asked.length ≤ 4 := by have := (hk1.fine hd (by omega)).win; have := hd.W4; omega
      have c8 := hy1.blk.cell 8
      simp only [yCells, List.getElem?_cons_zero, List.getElem?_cons_succ] at c8
      have HST := hide (xState_any col1 wr X P m1 hy1.isX)
      have HAS := hide (xAsked_any col1 wr X P m1 hy1.isX (by omega))
      have hsp : (decide ((j : Int) < (s.length : Int)) = true ∧ decide ((j : Int) < 60) = false ∧ (j : Int) < (s.length : Int) ∧ ¬ (j : Int) < 60) ∨ (decide ((j : Int) < (s.length : Int)) = false ∧ True ∧ ¬ (j : Int) < (s.length : Int) ∧ True) := by
        by_cases hj1 : j < s.length
        · exact .inl ⟨decide_eq_true (by omega), decide_eq_false (by omega), by omega, by omega⟩
        · exact .inr ⟨decide_eq_false (by omega), trivial, by omega, trivial⟩
      rcases hsp with ⟨dj1, dj2, dj3, dj4⟩ | ⟨dj1, dj2, dj3, dj4⟩
      all_goals (
        go_wp2_with (first | (go_at_call 18; refine (unhide HST).mono ?_; rintro r wq ⟨rfl, hwq⟩; rw [hwq]; clear hwq) | fail)
        refine (unhide HAS).mono ?_
        rintro r wB ⟨av, rfl, ol, xB, hlg⟩
        have hyB := hy1.ext xB
        have y4 := hyB.blk.cell 4
        have y2 := hyB.blk.cell 2
        simp only [yCells, I, List.getElem?_cons_zero, List.getElem?_cons_succ] at y4 y2
        have hfl4 : d.file.length ≤ 4000 := ft_len hd.fl.ok
        have hfine := hk1.fine hd (by omega)
        have HF := hide (fine_any wB Y d.W d.file.length ⟨d.file.toArray⟩ m1 av hfine hd.W4 hfl4 (by show d.file.toArray.size = _; simp) y4 y2 ol)
        obtain ⟨ava, avc, rfl, havc⟩ := ol.shape
        go_wp2_with fail
        refine (unhide HF).mono ?_
        rintro r wC ⟨rfl, xC⟩
        have xBC : Ext wr wC := xB.trans xC
        have hyC := hy1.ext xBC
        have olC := ol.ext xC
        have HCN := hide (gCancel_any col1 wC X P m1 N1 ⟨hyC.isX, hk1.sound.good⟩)
        have e8 := hyC.blk.cell 8
        simp only [yCells, List.getElem?_cons_zero, List.getElem?_cons_succ] at e8
        clear HF HAS HST y4 y2 c8
        go_wp2_with fail
        refine (unhide HCN).mono ?_
        rintro r wD ⟨rfl, colD, hXD, hWD⟩
        clear HCN
        obtain ⟨hyD, kOD⟩ := hyC.scan hXD.1 hWD
        have hq : (m1.state = 0 ∧ Pl.cancel m1 = Pl.ended 5) ∨ (m1 = Pl.ended 1 ∧ Pl.cancel m1 = Pl.ended 1) := by
          by_cases h0 : m1.state = 0
          · exact .inl ⟨h0, by unfold Pl.cancel; rw [if_pos h0]⟩
          · rcases hk1.ended_of h0 with ⟨rfl, -⟩ | ⟨-, hT⟩
            · exact .inr ⟨rfl, rfl⟩
            · have := hd.T1; omega
        have HQ : Hid (∃ q : Nat, (q = 5 ∨ q = 1) ∧ Pl.cancel m1 = Pl.ended q ∧ (m1.state = 0 ∧ q = 5 ∨ m1.state = 1 ∧ q = 1)) := by
          rcases hq with ⟨a, b⟩ | ⟨a, b⟩
          · exact ⟨5, .inl rfl, b, .inl ⟨a, rfl⟩⟩
          · exact ⟨1, .inr rfl, b, .inr ⟨by rw [a]; rfl, rfl⟩⟩
        clear hq hXD hWD
        obtain ⟨q, hq51, hqe, hqs⟩ := HQ.out
        rw [hqe] at hyD
        have hEx : ∃ E : Pl.Sc, E = Pl.ended q := ⟨_, rfl⟩
        obtain ⟨E, hE⟩ := hEx
        rw [← hE] at hyD
        have HEF : Hid ((∀ id l, Pl.answer E id l = (E, 3)) ∧ (∀ id, Pl.fail E id = (E, 3)) ∧ Pl.tick E = E ∧ Pl.next E = (E, none) ∧ (∀ N, Good E N) ∧ E.asked = [] ∧ E.state = q) := by
          subst hE
          refine ⟨fun _ _ => rfl, fun _ => rfl, rfl, ?_, fun N => .inl ⟨q, by omega, by omega, rfl⟩, rfl, rfl⟩
          have : Pl.rwNext (Pl.ended q).rows (Pl.ended q).nrows = (none, (Pl.ended q).rows) := by unfold Pl.rwNext; rw [if_pos (.inl rfl)]
          unfold Pl.next; rw [this]
        clear hE
        have d8 := hyD.blk.cell 8
        simp only [yCells, List.getElem?_cons_zero, List.getElem?_cons_succ] at d8
        have HST2 : Hid (∀ col u, IsX col u X E P → Calls Tryz.prog 18 #[PtrTo X 0] u fun r w' => r = .returned (.int .i64 (q : Int)) ∧ w' = u) := fun col u hu => by
          have := xState_any col u X P E hu
          rw [HEF.out.2.2.2.2.2.2] at this
          exact this
        have HAS2 : Hid (∀ col u, IsX col u X E P → Calls Tryz.prog 23 #[PtrTo X 0] u fun r w' => ∃ v, r = .returned v ∧ Own w' 3 v 0 [] ∧ Ext u w') := fun col u hu => by
          have ha := HEF.out.2.2.2.2.2.1
          have := xAsked_any col u X P E hu (by rw [ha]; show 0 ≤ 1000; omega)
          rw [ha] at this
          exact this.mono (fun r w' ⟨v, a, b, c, _⟩ => ⟨v, a, b, c⟩)
        have HH := hide (And.intro hyD kOD)
        have HSD := hide ((unhide HST2) colD wD hyD.isX)
        have HAD := hide ((unhide HAS2) colD wD hyD.isX)
        clear hyD kOD
        rcases hqs with ⟨h0, rfl⟩ | ⟨h0, rfl⟩
        all_goals (
          rw [h0]
          go_wp2_with (first | (go_at_call 18; refine (unhide HSD).mono ?_; rintro r wq ⟨rfl, hwq⟩; rw [hwq]; clear hwq) | fail)
          refine (unhide HAD).mono ?_
          rintro r wE ⟨ev, rfl, oe, xE⟩
          obtain ⟨eva, evc, rfl, -⟩ := oe.shape
          go_wp2_with fail
          have hyE := HH.out.1.ext xE
          have kE : Kp (grow (grow (fun _ => False) w w1) w1 wr) wC wE := HH.out.2.trans (Kp.of_ext xE)
          have HYE := hide hyE
          have zBC := xBC.size
          have zE := kE.size
          have zE2 := xE.size
          generalize wr = wA at *
          go_loopw [15] (fun i wr => ∃ (j2 : Nat) (col2 : Colr), i = .int .i64 j2 ∧ j2 ≤ m1.asked.length ∧ YAt (grow (grow (grow (fun _ => False) w w1) w1 wA) wC wr) d em col2 wr Y X P E vs1 k1 ∧ Kp (grow (grow (fun _ => False) w w1) w1 wA) wC wr) (fun i _ => 10 - (intOf i).toNat)
          case atStart => exact ⟨0, colD, rfl, by omega, HYE.out.mono (fun b hb => hb.imp id (fun h => ⟨h.1, by omega⟩)), kE⟩
          case round =>
            obtain ⟨j2, col2, rfl, hj2, hy2, k2⟩ := hrel
            have z2 := k2.size
            by_cases hjl2 : j2 < m1.asked.length
            · have hji : (j2 : Int) < (m1.asked.length : Int) := by omega
              have jj2 : (0 : Int) ≤ (j2 : Int) := by omega
              obtain ⟨ga, ca, he, _, hga, hc⟩ := olC.at (by omega)
              cases he
              have hck : ∀ jj, jj < 3 → wC.cell? ⟨ga, j2 * 3 + jj, none⟩ = (askCells m1.asked[j2])[jj]? := fun jj hjj => by
                rw [hc (j2 * 3 + jj) (by omega), fm_at askCells 3 (fun _ => rfl) m1.asked j2 jj hjl2 hjj]
              have d0 := hck 0 (by omega)
              have d1 := hck 1 (by omega)
              simp only [askCells, I, List.getElem?_cons_zero, List.getElem?_cons_succ, Nat.add_zero] at d0 d1
              have hqm := List.getElem_mem hjl2
              have q2 := hfine.ends _ hqm
              have q1 := hfine.len _ hqm
              generalize m1.asked[j2].2.place + m1.asked[j2].2.data.length = pl at *
              generalize m1.asked[j2].2.length - m1.asked[j2].2.data.length = ll at *
              generalize m1.asked[j2].1 = qi at *
              have hgn : ¬ grow (grow (fun _ => False) w w1) w1 wA ga := fun hb => by
                have h1 := hlg ga rfl
                have h2 := x1.size
                have h3 := z7
                rcases hb with (hb | hb) | hb
                · exact hb
                · omega
                · omega
              have HG0 := hide d0
              have HG1 := hide d1
              have g0 := k2.cell d0 hgn
              have g1 := k2.cell d1 hgn
              have g8 := hy2.blk.cell 8
              have g2 := hy2.blk.cell 2
              simp only [yCells, List.getElem?_cons_zero, List.getElem?_cons_succ] at g8 g2
              clear hck hc d0 d1 hqm
              have pl0 : (0 : Int) ≤ (pl : Int) := by omega
              have pl1 : (pl : Int) ≤ (pl : Int) + 1 := by omega
              have pl2 : (pl : Int) + 1 ≤ (d.file.length : Int) := by omega
              have ew : IntKind.i64.wrap ((pl : Int) + 1) = (pl : Int) + 1 := by simp [IntKind.wrap, IntKind.bits, IntKind.signed]; omega
              have HCut : Hid ((ByteArray.mk d.file.toArray).extract pl ((pl : Int) + 1).toNat = ⟨(bytesAt d.file pl 1).toArray⟩) := by
                show _ = _
                rw [show ((pl : Int) + 1).toNat = pl + 1 by omega]
                exact cut_string _ _ _
              have xd : Ext wr wr.drew := (Kp.refl _ _).drew
              have HAN := hide (gAnswer_any col2 wr.drew X P E 0 ⟨hy2.isX.kept xd (fun _ f => f.elim), HEF.out.2.2.2.2.1 0⟩ (by omega) (qi : Int) (bytesAt d.file pl 1) (by unfold bytesAt; rw [List.length_take]; omega))
              rw [HEF.out.1] at HAN
              go_wp2_with fail
              have hS0 : wr.drew.cell? ⟨Y, 8, none⟩ = some (PtrTo X 0) ∧ wr.drew.cell? ⟨Y, 2, none⟩ = some (.string ⟨d.file.toArray⟩) ∧ wr.drew.cell? ⟨ga, j2 * 3, none⟩ = some (.int .i64 (qi : Int)) ∧ wr.drew.cell? ⟨ga, j2 * 3 + 1, none⟩ = some (.int .i64 (pl : Int)) := ⟨g8, g2, g0, g1⟩
              refine wp_region_late (n := 25) (fun u => u.cell? ⟨Y, 8, none⟩ = some (PtrTo X 0) ∧ u.cell? ⟨Y, 2, none⟩ = some (.string ⟨d.file.toArray⟩) ∧ u.cell? ⟨ga, j2 * 3, none⟩ = some (.int .i64 (qi : Int)) ∧ u.cell? ⟨ga, j2 * 3 + 1, none⟩ = some (.int .i64 (pl : Int))) (by kernel_rfl) ?_
              refine Late.tk (i := 0) (oi := ⟨some 95, .move (.tmp 7), 48, "keep.go:360", #[], none⟩) (v := ?_) [1, 2, 3, 25] rfl hS0 ?_ ?_
              rotate_left
              · (intro u hu; obtain ⟨u0, u1, u2, u3⟩ := hu; go_simp; first | done | with_reducible rfl)
              try simp only [Act.put, lA, lZ, lS]
              refine Late.tk (i := 1) (oi := ⟨some 96, .nilCheck (.tmp 95), 0, "keep.go:360", #[⟨0, .data⟩], none⟩) (v := ?_) [2, 3, 25] rfl hS0 ?_ ?_
              rotate_left
              · (intro u hu; obtain ⟨u0, u1, u2, u3⟩ := hu; go_simp; first | done | with_reducible rfl)
              try simp only [Act.put, lA, lZ, lS]
              refine Late.tk (i := 2) (oi := ⟨some 97, .fieldAddr 53 (.tmp 96) 4, 0, "keep.go:360", #[⟨1, .data⟩], none⟩) (v := ?_) [3, 25] rfl hS0 ?_ ?_
              rotate_left
              · (intro u hu; obtain ⟨u0, u1, u2, u3⟩ := hu; go_simp; first | done | with_reducible rfl)
              try simp only [Act.put, lA, lZ, lS]
              refine Late.tk (i := 3) (oi := ⟨some 98, .load 50 (.tmp 97), 50, "keep.go:360", #[⟨2, .data⟩], none⟩) (v := ?_) [25] rfl hS0 ?_ ?_
              rotate_left
              · (intro u hu; obtain ⟨u0, u1, u2, u3⟩ := hu; go_simp; first | done | with_reducible rfl)
              try simp only [Act.put, lA, lZ, lS]
              refine Late.tk (i := 4) (oi := ⟨some 99, .move (.tmp 12), 67, "keep.go:360", #[], none⟩) (v := ?_) [6, 7, 8, 25] rfl hS0 ?_ ?_
              rotate_left
              · (intro u hu; obtain ⟨u0, u1, u2, u3⟩ := hu; go_simp; first | done | with_reducible rfl)
              try simp only [Act.put, lA, lZ, lS]
              refine Late.tk (i := 5) (oi := ⟨some 100, .move (.tmp 15), 3, "keep.go:360", #[], none⟩) (v := ?_) [6, 7, 8, 25] rfl hS0 ?_ ?_
              rotate_left
              · (intro u hu; obtain ⟨u0, u1, u2, u3⟩ := hu; go_simp; first | done | with_reducible rfl)
              try simp only [Act.put, lA, lZ, lS]
              refine Late.tk (i := 6) (oi := ⟨some 101, .indexAddr 67 (.tmp 99) (.tmp 100), 0, "keep.go:360", #[⟨4, .data⟩, ⟨5, .data⟩], none⟩) (v := ?_) [7, 8, 25] rfl hS0 ?_ ?_
              rotate_left
              · (intro u hu; obtain ⟨u0, u1, u2, u3⟩ := hu; go_simp; first | done | with_reducible rfl)
              try simp only [Act.put, lA, lZ, lS]
              refine Late.tk (i := 7) (oi := ⟨some 102, .fieldAddr 72 (.tmp 101) 0, 0, "keep.go:360", #[⟨6, .data⟩], none⟩) (v := ?_) [8, 25] rfl hS0 ?_ ?_
              rotate_left
              · (intro u hu; obtain ⟨u0, u1, u2, u3⟩ := hu; go_simp; first | done | with_reducible rfl)
              try simp only [Act.put, lA, lZ, lS]
              refine Late.tk (i := 8) (oi := ⟨some 103, .load 3 (.tmp 102), 3, "keep.go:360", #[⟨7, .data⟩], none⟩) (v := ?_) [25] rfl hS0 ?_ ?_
              rotate_left
              · (intro u hu; obtain ⟨u0, u1, u2, u3⟩ := hu; go_simp; first | done | with_reducible rfl)
              try simp only [Act.put, lA, lZ, lS]
              refine Late.tk (i := 9) (oi := ⟨some 104, .move (.tmp 7), 48, "keep.go:360", #[], none⟩) (v := ?_) [10, 11, 12, 24, 25] rfl hS0 ?_ ?_
              rotate_left
              · (intro u hu; obtain ⟨u0, u1, u2, u3⟩ := hu; go_simp; first | done | with_reducible rfl)
              try simp only [Act.put, lA, lZ, lS]
              refine Late.tk (i := 10) (oi := ⟨some 105, .nilCheck (.tmp 104), 0, "keep.go:360", #[⟨9, .data⟩], none⟩) (v := ?_) [11, 12, 24, 25] rfl hS0 ?_ ?_
              rotate_left
              · (intro u hu; obtain ⟨u0, u1, u2, u3⟩ := hu; go_simp; first | done | with_reducible rfl)
              try simp only [Act.put, lA, lZ, lS]
              refine Late.tk (i := 11) (oi := ⟨some 106, .fieldAddr 53 (.tmp 105) 1, 0, "keep.go:360", #[⟨10, .data⟩], none⟩) (v := ?_) [12, 24, 25] rfl hS0 ?_ ?_
              rotate_left
              · (intro u hu; obtain ⟨u0, u1, u2, u3⟩ := hu; go_simp; first | done | with_reducible rfl)
              try simp only [Act.put, lA, lZ, lS]
              refine Late.tk (i := 12) (oi := ⟨some 107, .load 9 (.tmp 106), 9, "keep.go:360", #[⟨11, .data⟩], none⟩) (v := ?_) [24, 25] rfl hS0 ?_ ?_
              rotate_left
              · (intro u hu; obtain ⟨u0, u1, u2, u3⟩ := hu; go_simp; first | done | with_reducible rfl)
              try simp only [Act.put, lA, lZ, lS]
              refine Late.tk (i := 13) (oi := ⟨some 108, .move (.tmp 12), 67, "keep.go:360", #[], none⟩) (v := ?_) [15, 16, 17, 24, 25] rfl hS0 ?_ ?_
              rotate_left
              · (intro u hu; obtain ⟨u0, u1, u2, u3⟩ := hu; go_simp; first | done | with_reducible rfl)
              try simp only [Act.put, lA, lZ, lS]
              refine Late.tk (i := 14) (oi := ⟨some 109, .move (.tmp 15), 3, "keep.go:360", #[], none⟩) (v := ?_) [15, 16, 17, 24, 25] rfl hS0 ?_ ?_
              rotate_left
              · (intro u hu; obtain ⟨u0, u1, u2, u3⟩ := hu; go_simp; first | done | with_reducible rfl)
              try simp only [Act.put, lA, lZ, lS]
              refine Late.tk (i := 15) (oi := ⟨some 110, .indexAddr 67 (.tmp 108) (.tmp 109), 0, "keep.go:360", #[⟨13, .data⟩, ⟨14, .data⟩], none⟩) (v := ?_) [16, 17, 24, 25] rfl hS0 ?_ ?_
              rotate_left
              · (intro u hu; obtain ⟨u0, u1, u2, u3⟩ := hu; go_simp; first | done | with_reducible rfl)
              try simp only [Act.put, lA, lZ, lS]
              refine Late.tk (i := 16) (oi := ⟨some 111, .fieldAddr 72 (.tmp 110) 1, 0, "keep.go:360", #[⟨15, .data⟩], none⟩) (v := ?_) [17, 24, 25] rfl hS0 ?_ ?_
              rotate_left
              · (intro u hu; obtain ⟨u0, u1, u2, u3⟩ := hu; go_simp; first | done | with_reducible rfl)
              try simp only [Act.put, lA, lZ, lS]
              refine Late.tk (i := 17) (oi := ⟨some 112, .load 3 (.tmp 111), 3, "keep.go:360", #[⟨16, .data⟩], none⟩) (v := ?_) [24, 25] rfl hS0 ?_ ?_
              rotate_left
              · (intro u hu; obtain ⟨u0, u1, u2, u3⟩ := hu; go_simp; first | done | with_reducible rfl)
              try simp only [Act.put, lA, lZ, lS]
              refine Late.tk (i := 18) (oi := ⟨some 113, .move (.tmp 12), 67, "keep.go:360", #[], none⟩) (v := ?_) [20, 21, 22, 23, 24, 25] rfl hS0 ?_ ?_
              rotate_left
              · (intro u hu; obtain ⟨u0, u1, u2, u3⟩ := hu; go_simp; first | done | with_reducible rfl)
              try simp only [Act.put, lA, lZ, lS]
              refine Late.tk (i := 19) (oi := ⟨some 114, .move (.tmp 15), 3, "keep.go:360", #[], none⟩) (v := ?_) [20, 21, 22, 23, 24, 25] rfl hS0 ?_ ?_
              rotate_left
              · (intro u hu; obtain ⟨u0, u1, u2, u3⟩ := hu; go_simp; first | done | with_reducible rfl)
              try simp only [Act.put, lA, lZ, lS]
              refine Late.tk (i := 20) (oi := ⟨some 115, .indexAddr 67 (.tmp 113) (.tmp 114), 0, "keep.go:360", #[⟨18, .data⟩, ⟨19, .data⟩], none⟩) (v := ?_) [21, 22, 23, 24, 25] rfl hS0 ?_ ?_
              rotate_left
              · (intro u hu; obtain ⟨u0, u1, u2, u3⟩ := hu; go_simp; first | done | with_reducible rfl)
              try simp only [Act.put, lA, lZ, lS]
              refine Late.tk (i := 21) (oi := ⟨some 116, .fieldAddr 72 (.tmp 115) 1, 0, "keep.go:360", #[⟨20, .data⟩], none⟩) (v := ?_) [22, 23, 24, 25] rfl hS0 ?_ ?_
              rotate_left
              · (intro u hu; obtain ⟨u0, u1, u2, u3⟩ := hu; go_simp; first | done | with_reducible rfl)
              try simp only [Act.put, lA, lZ, lS]
              refine Late.tk (i := 22) (oi := ⟨some 117, .load 3 (.tmp 116), 3, "keep.go:360", #[⟨21, .data⟩], none⟩) (v := ?_) [23, 24, 25] rfl hS0 ?_ ?_
              rotate_left
              · (intro u hu; obtain ⟨u0, u1, u2, u3⟩ := hu; go_simp; first | done | with_reducible rfl)
              try simp only [Act.put, lA, lZ, lS]
              refine Late.tk (i := 23) (oi := ⟨some 118, .binOp .add 3 (.tmp 117) (.const (.int .i64 1)) 3, 3, "keep.go:360", #[⟨22, .data⟩], none⟩) (v := ?_) [24, 25] rfl hS0 ?_ ?_
              rotate_left
              · (intro u hu; obtain ⟨u0, u1, u2, u3⟩ := hu; go_simp; first | done | with_reducible rfl)
              try simp only [Act.put, lA, lZ, lS]
              refine Late.tk (i := 24) (oi := ⟨some 119, .slice 9 (.tmp 107) (some (.tmp 112)) (some (.tmp 118)) none, 9, "keep.go:360", #[⟨12, .data⟩, ⟨17, .data⟩, ⟨23, .data⟩], none⟩) (v := ?_) [25] rfl hS0 ?_ ?_
              rotate_left
              · (intro u hu; obtain ⟨u0, u1, u2, u3⟩ := hu; go_simp; first | done | with_reducible rfl)
              try simp only [Act.put, lA, lZ, lS]
              refine Late.one (i := 25) (o := ⟨some 120, .call { callee := .value (.func 26), args := #[.tmp 98, .tmp 103, .tmp 119], argTypes := #[50, 3, 9] }, 63, "keep.go:360", #[⟨3, .data⟩, ⟨8, .data⟩, ⟨24, .data⟩], none⟩) (by kernel_rfl) rfl (fun K hK => ?_)
              refine step_call_g rfl 26 #[PtrTo X 0, .int .i64 (qi : Int), tx (bytesAt d.file pl 1)] (by go_simp; exact HCut.out) ?_
              refine (unhide HAN).mono ?_
              rintro r w4 ⟨rfl, col4, hX4, hW4⟩
              obtain ⟨hy4, k4⟩ := (hy2.ext xd).scan hX4.1 hW4
              have kk4 : Kp (grow (grow (fun _ => False) w w1) w1 wA) wC w4 := (k2.trans (Kp.of_ext xd)).grow (k4.mono (fun i _ e => by
                rcases e with e | e
                · exact .inl e
                · exact .inr e))
              have p8 := hy4.blk.cell 8
              have p2 := hy4.blk.cell 2
              simp only [yCells, List.getElem?_cons_zero, List.getElem?_cons_succ] at p8 p2
              have gd0 := g0
              have p0 : w4.cell? ⟨ga, j2 * 3, none⟩ = some (.int .i64 (qi : Int)) := kk4.cell (HG0.out) hgn
              have p1 : w4.cell? ⟨ga, j2 * 3 + 1, none⟩ = some (.int .i64 (pl : Int)) := kk4.cell (HG1.out) hgn
              refine ⟨_, rfl, hK _ _ (fun h => absurd rfl h) ?_⟩
              clear hK K
              try simp only [Act.put, lA, lZ, lS]
              refine Late.one (i := 26) (o := ⟨some 16, .assign (.tmp 120), 63, "keep.go:360", #[⟨25, .data⟩, ⟨25, .chain⟩, ⟨0, .phase⟩, ⟨1, .phase⟩, ⟨2, .phase⟩, ⟨3, .phase⟩, ⟨4, .phase⟩, ⟨5, .phase⟩, ⟨6, .phase⟩, ⟨7, .phase⟩, ⟨8, .phase⟩, ⟨9, .phase⟩, ⟨10, .phase⟩, ⟨11, .phase⟩, ⟨12, .phase⟩, ⟨13, .phase⟩, ⟨14, .phase⟩, ⟨15, .phase⟩, ⟨16, .phase⟩, ⟨17, .phase⟩, ⟨18, .phase⟩, ⟨19, .phase⟩, ⟨20, .phase⟩, ⟨21, .phase⟩, ⟨22, .phase⟩, ⟨23, .phase⟩, ⟨24, .phase⟩, ⟨25, .phase⟩], none⟩) (by kernel_rfl) rfl (fun K hK => ?_)
              go_simp
              refine hK _ _ (fun _ => ⟨p8, p2, p0, p1⟩) ?_
              clear hK K
              try simp only [Act.put, lA, lZ, lS]
              refine Late.done (by kernel_rfl) ?_ _
              have xd4 : Ext w4 w4.drew := (Kp.refl _ _).drew
              have HFL := hide (gFail_any col4 w4.drew X P E 0 ⟨hy4.isX.kept xd4 (fun _ f => f.elim), HEF.out.2.2.2.2.1 0⟩ (qi : Int))
              rw [HEF.out.2.1] at HFL
              have z4 := kk4.size
              have hy4' := hy4.mono (O' := grow (grow (grow (fun _ => False) w w1) w1 wA) wC w4) (fun b hb => by
                rcases hb with (hb | hb) | hb
                · exact .inl hb
                · exact .inr ⟨hb.1, Nat.lt_of_lt_of_le hb.2 k4.size⟩
                · exact .inr ⟨by have h1 : wr.heap.size ≤ b := hb.1; omega, hb.2⟩)
              have HY4 := hide hy4'
              have HK4 := hide kk4
              clear hy4 hy4' k4 kk4 hX4 hW4 g0 g1 g2 g8
              go_wp2_with fail
              have hS1 : w4.drew.cell? ⟨Y, 8, none⟩ = some (PtrTo X 0) ∧ w4.drew.cell? ⟨ga, j2 * 3, none⟩ = some (.int .i64 (qi : Int)) := ⟨p8, p0⟩
              refine wp_region_late (n := 9) (fun u => u.cell? ⟨Y, 8, none⟩ = some (PtrTo X 0) ∧ u.cell? ⟨ga, j2 * 3, none⟩ = some (.int .i64 (qi : Int))) (by kernel_rfl) ?_
              refine Late.tk (i := 0) (oi := ⟨some 121, .move (.tmp 7), 48, "keep.go:361", #[], none⟩) (v := ?_) [1, 2, 3, 9] rfl hS1 ?_ ?_
              rotate_left
              · (intro u hu; obtain ⟨u0, u1⟩ := hu; go_simp; first | done | with_reducible rfl)
              try simp only [Act.put, lA, lZ, lS]
              refine Late.tk (i := 1) (oi := ⟨some 122, .nilCheck (.tmp 121), 0, "keep.go:361", #[⟨0, .data⟩], none⟩) (v := ?_) [2, 3, 9] rfl hS1 ?_ ?_
              rotate_left
              · (intro u hu; obtain ⟨u0, u1⟩ := hu; go_simp; first | done | with_reducible rfl)
              try simp only [Act.put, lA, lZ, lS]
              refine Late.tk (i := 2) (oi := ⟨some 123, .fieldAddr 53 (.tmp 122) 4, 0, "keep.go:361", #[⟨1, .data⟩], none⟩) (v := ?_) [3, 9] rfl hS1 ?_ ?_
              rotate_left
              · (intro u hu; obtain ⟨u0, u1⟩ := hu; go_simp; first | done | with_reducible rfl)
              try simp only [Act.put, lA, lZ, lS]
              refine Late.tk (i := 3) (oi := ⟨some 124, .load 50 (.tmp 123), 50, "keep.go:361", #[⟨2, .data⟩], none⟩) (v := ?_) [9] rfl hS1 ?_ ?_
              rotate_left
              · (intro u hu; obtain ⟨u0, u1⟩ := hu; go_simp; first | done | with_reducible rfl)
              try simp only [Act.put, lA, lZ, lS]
              refine Late.tk (i := 4) (oi := ⟨some 125, .move (.tmp 12), 67, "keep.go:361", #[], none⟩) (v := ?_) [6, 7, 8, 9] rfl hS1 ?_ ?_
              rotate_left
              · (intro u hu; obtain ⟨u0, u1⟩ := hu; go_simp; first | done | with_reducible rfl)
              try simp only [Act.put, lA, lZ, lS]
              refine Late.tk (i := 5) (oi := ⟨some 126, .move (.tmp 15), 3, "keep.go:361", #[], none⟩) (v := ?_) [6, 7, 8, 9] rfl hS1 ?_ ?_
              rotate_left
              · (intro u hu; obtain ⟨u0, u1⟩ := hu; go_simp; first | done | with_reducible rfl)
              try simp only [Act.put, lA, lZ, lS]
              refine Late.tk (i := 6) (oi := ⟨some 127, .indexAddr 67 (.tmp 125) (.tmp 126), 0, "keep.go:361", #[⟨4, .data⟩, ⟨5, .data⟩], none⟩) (v := ?_) [7, 8, 9] rfl hS1 ?_ ?_
              rotate_left
              · (intro u hu; obtain ⟨u0, u1⟩ := hu; go_simp; first | done | with_reducible rfl)
              try simp only [Act.put, lA, lZ, lS]
              refine Late.tk (i := 7) (oi := ⟨some 128, .fieldAddr 72 (.tmp 127) 0, 0, "keep.go:361", #[⟨6, .data⟩], none⟩) (v := ?_) [8, 9] rfl hS1 ?_ ?_
              rotate_left
              · (intro u hu; obtain ⟨u0, u1⟩ := hu; go_simp; first | done | with_reducible rfl)
              try simp only [Act.put, lA, lZ, lS]
              refine Late.tk (i := 8) (oi := ⟨some 129, .load 3 (.tmp 128), 3, "keep.go:361", #[⟨7, .data⟩], none⟩) (v := ?_) [9] rfl hS1 ?_ ?_
              rotate_left
              · (intro u hu; obtain ⟨u0, u1⟩ := hu; go_simp; first | done | with_reducible rfl)
              try simp only [Act.put, lA, lZ, lS]
              refine Late.one (i := 9) (o := ⟨some 130, .call { callee := .value (.func 27), args := #[.tmp 124, .tmp 129], argTypes := #[50, 3] }, 63, "keep.go:361", #[⟨3, .data⟩, ⟨8, .data⟩], none⟩) (by kernel_rfl) rfl (fun K hK => ?_)
              refine step_call_g rfl 27 #[PtrTo X 0, .int .i64 (qi : Int)] (by go_simp) ?_
              refine (unhide HFL).mono ?_
              rintro r w5 ⟨rfl, col5, hX5, hW5⟩
              obtain ⟨hy5, k5⟩ := (HY4.out.ext xd4).scan hX5.1 hW5
              have kk5 : Kp (grow (grow (fun _ => False) w w1) w1 wA) wC w5 := (HK4.out.trans (Kp.of_ext xd4)).grow (k5.mono (fun i _ e => by
                rcases e with e | e
                · exact .inl e
                · exact .inr e))
              have s8 := hy5.blk.cell 8
              simp only [yCells, List.getElem?_cons_zero, List.getElem?_cons_succ] at s8
              refine ⟨_, rfl, hK _ _ (fun h => absurd rfl h) ?_⟩
              clear hK K
              try simp only [Act.put, lA, lZ, lS]
              refine Late.one (i := 10) (o := ⟨some 17, .assign (.tmp 130), 63, "keep.go:361", #[⟨9, .data⟩, ⟨9, .chain⟩, ⟨0, .phase⟩, ⟨1, .phase⟩, ⟨2, .phase⟩, ⟨3, .phase⟩, ⟨4, .phase⟩, ⟨5, .phase⟩, ⟨6, .phase⟩, ⟨7, .phase⟩, ⟨8, .phase⟩, ⟨9, .phase⟩], none⟩) (by kernel_rfl) rfl (fun K hK => ?_)
              go_simp
              refine hK _ _ (fun _ => ⟨s8, kk5.cell (HG0.out) hgn⟩) ?_
              clear hK K
              try simp only [Act.put, lA, lZ, lS]
              refine Late.done (by kernel_rfl) ?_ _
              have hy5' := hy5.mono (O' := grow (grow (grow (fun _ => False) w w1) w1 wA) wC w5) (fun b hb => by
                rcases hb with (hb | hb) | hb
                · exact .inl hb
                · exact .inr ⟨hb.1, Nat.lt_of_lt_of_le hb.2 k5.size⟩
                · exact .inr ⟨by have h1 : w4.heap.size ≤ b := hb.1; omega, hb.2⟩)
              have HY5 := hide hy5'
              have HK5 := hide kk5
              clear hy5 hy5' k5 kk5 hX5 hW5
              go_wp2_with fail
              exact ⟨⟨j2 + 1, col5, by go_num, by omega, HY5.out, HK5.out⟩, by simp [intOf]; omega⟩
            · obtain rfl : j2 = m1.asked.length := by omega
              have hji : ¬ (m1.asked.length : Int) < (m1.asked.length : Int) := by omega
              have HY6 := hide hy2
              have HK6 := hide k2
              clear hy2
              go_wp2_with fail
              go_loopw [18] (fun i wr => ∃ (j3 : Nat) (col3 : Colr), i = .int .i64 j3 ∧ j3 ≤ t.length ∧ j3 ≤ 20 ∧ YAt (grow (grow (grow (fun _ => False) w w1) w1 wA) wC wr) d em col3 wr Y X P E vs1 k1 ∧ Kp (grow (grow (fun _ => False) w w1) w1 wA) wC wr) (fun i _ => 30 - (intOf i).toNat)
              case atStart => exact ⟨0, col2, rfl, by omega, by omega, HY6.out, HK6.out⟩
              case round =>
                obtain ⟨j3, col3, rfl, hj3, hj20, hy3, k3⟩ := hrel
                have z3 := k3.size
                by_cases hjl3 : j3 < t.length ∧ j3 < 20
                · have dk1 : decide ((j3 : Int) < (t.length : Int)) = true := decide_eq_true (by omega)
                  have dk2 : decide ((j3 : Int) < 20) = true := decide_eq_true (by omega)
                  have dk3 : (j3 : Int) < (t.length : Int) := by omega
                  have dk4 : (j3 : Int) < 20 := by omega
                  have a8 := hy3.blk.cell 8
                  simp only [yCells, List.getElem?_cons_zero, List.getElem?_cons_succ] at a8
                  have HTI := hide (gTick_any col3 wr X P E 0 ⟨hy3.isX, HEF.out.2.2.2.2.1 0⟩ (by omega))
                  rw [HEF.out.2.2.1] at HTI
                  go_wp2_with fail
                  refine (unhide HTI).mono ?_
                  rintro r w6 ⟨rfl, col6, hX6, hW6⟩
                  obtain ⟨hy6, k6⟩ := hy3.scan hX6.1 hW6
                  have b8 := hy6.blk.cell 8
                  simp only [yCells, List.getElem?_cons_zero, List.getElem?_cons_succ] at b8
                  have HNX := hide (gNext_any col6 w6 X P E 0 ⟨hy6.isX, HEF.out.2.2.2.2.1 0⟩)
                  rw [HEF.out.2.2.2.1] at HNX
                  clear HTI a8 hX6 hW6
                  go_wp2_with fail
                  refine (unhide HNX).mono ?_
                  rintro r w7 ⟨⟨-, rfl⟩ | ⟨ls, Lb, vs2, h2, -⟩, col7, hX7, hW7⟩
                  · obtain ⟨hy7, k7⟩ := hy6.scan hX7.1 hW7
                    have c87 := hy7.blk.cell 8
                    simp only [yCells, List.getElem?_cons_zero, List.getElem?_cons_succ] at c87
                    have HA7 := hide ((unhide HAS2) col7 w7 hy7.isX)
                    clear HNX b8 hX7 hW7
                    go_wp2_with fail
                    refine (unhide HA7).mono ?_
                    rintro r w8 ⟨fv, rfl, of8, x8⟩
                    obtain ⟨fva, fvc, rfl, -⟩ := of8.shape
                    have hy8 := hy7.ext x8
                    have c88 := hy8.blk.cell 8
                    simp only [yCells, List.getElem?_cons_zero, List.getElem?_cons_succ] at c88
                    have HS8 := hide ((unhide HST2) col7 w8 hy8.isX)
                    have kk8 : Kp (grow (grow (fun _ => False) w w1) w1 wA) wC w8 := k3.grow (k6.grow (k7.trans (Kp.of_ext x8)))
                    have z6 := k6.size
                    have z7' := k7.size
                    have z8 := x8.size
                    have HH8 := hide (And.intro hy8 kk8)
                    clear HA7 c87 hy8 kk8 hy7 hy6 k6 k7
                    go_wp2_with (first | (go_at_call 18; refine (unhide HS8).mono ?_; rintro r wq ⟨rfl, hwq⟩; rw [hwq]; clear hwq) | fail)
                    refine ⟨⟨j3 + 1, col7, by go_num, by omega, by omega, HH8.out.1.mono (fun b hb => ?_), HH8.out.2⟩, by simp [intOf]; omega⟩
                    rcases hb with ((hb | hb) | hb) | hb
                    · exact .inl hb
                    · exact .inr (by omega)
                    · exact .inr (by omega)
                    · exact .inr (by omega)
                  · cases h2
                · have hsp3 : (decide ((j3 : Int) < (t.length : Int)) = true ∧ decide ((j3 : Int) < 20) = false ∧ (j3 : Int) < (t.length : Int) ∧ ¬ (j3 : Int) < 20) ∨ (decide ((j3 : Int) < (t.length : Int)) = false ∧ True ∧ ¬ (j3 : Int) < (t.length : Int) ∧ True) := by
                    by_cases hj1 : j3 < t.length
                    · exact .inl ⟨decide_eq_true (by omega), decide_eq_false (by omega), by omega, by omega⟩
                    · exact .inr ⟨decide_eq_false (by omega), trivial, by omega, trivial⟩
                  have g2 := hy3.blk.cell 2
                  have g4 := hy3.blk.cell 4
                  have g5 := hy3.blk.cell 5
                  have g6 := hy3.blk.cell 6
                  have g7 := hy3.blk.cell 7
                  simp only [yCells, I, List.getElem?_cons_zero, List.getElem?_cons_succ] at g2 g4 g5 g6 g7
                  have hG32 : d.G ≤ 32 := HG32.out
                  have hok : Pl.okSet ((d.file.length : Nat) : Int) (d.W : Int) (d.T : Int) (d.R : Int) (d.G : Int) = true := by
                    have h1 := hd.T1
                    have h2 := hd.T4
                    have h3 := hd.R1
                    have h4 := hd.R20
                    have h5 := hd.W1
                    have h6 := hd.W4
                    unfold Pl.okSet
                    rw [Bool.and_eq_true, Bool.and_eq_true, decide_eq_true_eq, decide_eq_true_eq]
                    refine ⟨⟨by omega, by omega⟩, (Pl.okS_iff _ _ _ _).2 ?_⟩
                    omega
                  have xN : Ext wr (wr.alloc (.cells #[.string nobodyB] 9)).drew := ((Kp.refl _ _).alloc _).drew
                  have bN := (Blk.of_alloc wr [.string nobodyB] 9).kept (S := fun _ => False) ((Kp.refl _ _).drew) id
                  have hrdN : RdS (wr.alloc (.cells #[.string nobodyB] 9)).drew.heap.size (wr.alloc (.cells #[.string nobodyB] 9)).drew (.slice (some ⟨wr.heap.size, 0, none⟩) 1 1) [nobodyB] := ⟨_, 1, rfl, Nat.le_refl _, by decide, fun _ => ⟨wr.heap.size, 0, rfl, bN.lt, fun jj hjj => by rw [Nat.zero_add]; exact bN.cell jj⟩⟩
                  have HOP := hide (xOpen_any _ _ _ _ ((d.file.length : Nat) : Int) (d.W : Int) (d.T : Int) (d.R : Int) (d.G : Int) hrdN)
                  have HY9 := hide hy3
                  have HK9 := hide k3
                  clear hy3 hrdN bN
                  rcases hsp3 with ⟨dk1, dk2, dk3, dk4⟩ | ⟨dk1, dk2, dk3, dk4⟩
                  all_goals (
                    go_upto_region 37 with fail
                    have hS0 : wr.drew.cell? ⟨Y, 2, none⟩ = some (.string ⟨d.file.toArray⟩) ∧ wr.drew.cell? ⟨Y, 4, none⟩ = some (.int .i64 (d.W : Int)) ∧ wr.drew.cell? ⟨Y, 5, none⟩ = some (.int .i64 (d.T : Int)) ∧ wr.drew.cell? ⟨Y, 6, none⟩ = some (.int .i64 (d.R : Int)) ∧ wr.drew.cell? ⟨Y, 7, none⟩ = some (.int .i64 (d.G : Int)) := ⟨g2, g4, g5, g6, g7⟩
                    refine wp_region_late (n := 15) (fun u => u.cell? ⟨Y, 2, none⟩ = some (.string ⟨d.file.toArray⟩) ∧ u.cell? ⟨Y, 4, none⟩ = some (.int .i64 (d.W : Int)) ∧ u.cell? ⟨Y, 5, none⟩ = some (.int .i64 (d.T : Int)) ∧ u.cell? ⟨Y, 6, none⟩ = some (.int .i64 (d.R : Int)) ∧ u.cell? ⟨Y, 7, none⟩ = some (.int .i64 (d.G : Int))) (by kernel_rfl) ?_
                    refine Late.tk (i := 0) (oi := ⟨some 178, .move (.tmp 7), 48, "keep.go:372", #[], none⟩) (v := ?_) [15] rfl hS0 ?_ ?_
                    rotate_left
                    · (intro u hu; obtain ⟨u0, u1, u2, u3, u4⟩ := hu; go_simp; first | done | with_reducible rfl)
                    try simp only [Act.put, lA, lZ, lS]
                    refine Late.tk (i := 1) (oi := ⟨some 179, .nilCheck (.tmp 178), 0, "keep.go:372", #[⟨0, .data⟩], none⟩) (v := ?_) [15] rfl hS0 ?_ ?_
                    rotate_left
                    · (intro u hu; obtain ⟨u0, u1, u2, u3, u4⟩ := hu; go_simp; first | done | with_reducible rfl)
                    try simp only [Act.put, lA, lZ, lS]
                    refine Late.tk (i := 2) (oi := ⟨some 180, .fieldAddr 53 (.tmp 179) 1, 0, "keep.go:372", #[⟨1, .data⟩], none⟩) (v := ?_) [15] rfl hS0 ?_ ?_
                    rotate_left
                    · (intro u hu; obtain ⟨u0, u1, u2, u3, u4⟩ := hu; go_simp; first | done | with_reducible rfl)
                    try simp only [Act.put, lA, lZ, lS]
                    refine Late.tk (i := 3) (oi := ⟨some 181, .load 9 (.tmp 180), 9, "keep.go:372", #[⟨2, .data⟩], none⟩) (v := ?_) [15] rfl hS0 ?_ ?_
                    rotate_left
                    · (intro u hu; obtain ⟨u0, u1, u2, u3, u4⟩ := hu; go_simp; first | done | with_reducible rfl)
                    try simp only [Act.put, lA, lZ, lS]
                    refine Late.tk (i := 4) (oi := ⟨some 182, .call { callee := .builtin .len, args := #[.tmp 181], argTypes := #[9] }, 3, "keep.go:372", #[⟨3, .data⟩], none⟩) (v := ?_) [15] rfl hS0 ?_ ?_
                    rotate_left
                    · (intro u hu; obtain ⟨u0, u1, u2, u3, u4⟩ := hu; go_simp; first | done | with_reducible rfl)
                    try simp only [Act.put, lA, lZ, lS]
                    refine Late.tk (i := 6) (oi := ⟨some 184, .move (.tmp 7), 48, "keep.go:372", #[], none⟩) (v := ?_) [15] rfl hS0 ?_ ?_
                    rotate_left
                    · (intro u hu; obtain ⟨u0, u1, u2, u3, u4⟩ := hu; go_simp; first | done | with_reducible rfl)
                    try simp only [Act.put, lA, lZ, lS]
                    refine Late.tk (i := 7) (oi := ⟨some 185, .nilCheck (.tmp 184), 0, "keep.go:372", #[⟨6, .data⟩], none⟩) (v := ?_) [15] rfl hS0 ?_ ?_
                    rotate_left
                    · (intro u hu; obtain ⟨u0, u1, u2, u3, u4⟩ := hu; go_simp; first | done | with_reducible rfl)
                    try simp only [Act.put, lA, lZ, lS]
                    refine Late.tk (i := 8) (oi := ⟨some 186, .fieldAddr 53 (.tmp 185) 3, 0, "keep.go:372", #[⟨7, .data⟩], none⟩) (v := ?_) [15] rfl hS0 ?_ ?_
                    rotate_left
                    · (intro u hu; obtain ⟨u0, u1, u2, u3, u4⟩ := hu; go_simp; first | done | with_reducible rfl)
                    try simp only [Act.put, lA, lZ, lS]
                    refine Late.tk (i := 9) (oi := ⟨some 187, .load 24 (.tmp 186), 24, "keep.go:372", #[⟨8, .data⟩], none⟩) (v := ?_) [15] rfl hS0 ?_ ?_
                    rotate_left
                    · (intro u hu; obtain ⟨u0, u1, u2, u3, u4⟩ := hu; go_simp; first | done | with_reducible rfl)
                    try simp only [Act.put, lA, lZ, lS]
                    refine Late.one (i := 5) (o := ⟨some 183, .buildSlice 22 1 #[(0, .const (.string { data := #[110, 111, 98, 111, 100, 121] }))], 22, "keep.go:372", #[], none⟩) (by kernel_rfl) rfl (fun K hK => ?_)
                    go_simp
                    refine hK _ _ (fun _ => ⟨xN.cell g2 id, xN.cell g4 id, xN.cell g5 id, xN.cell g6 id, xN.cell g7 id⟩) ?_
                    clear hK K
                    try simp only [Act.put, lA, lZ, lS]
                    refine Late.one (i := 10) (o := ⟨some 188, .call { callee := .value (.func 22), args := #[.tmp 182, .tmp 183, .tmp 187], argTypes := #[3, 22, 24] }, 64, "keep.go:372", #[⟨4, .data⟩, ⟨5, .data⟩, ⟨9, .data⟩], none⟩) (by kernel_rfl) rfl (fun K hK => ?_)
                    refine step_call_g rfl 22 #[.int .i64 (d.file.length : Nat), .slice (some ⟨wr.heap.size, 0, none⟩) 1 1, setV (d.W : Int) (d.T : Int) (d.R : Int) (d.G : Int)] (by go_simp) ?_
                    refine (unhide HOP).mono ?_
                    rintro r w9 ⟨x9, ⟨hb, -⟩ | ⟨-, X2, P2, c2, rfl, hX2, hlow2⟩⟩
                    · rw [hok] at hb; cases hb
                    simp only [Int.toNat_natCast] at hX2
                    have xN9 : Ext wr w9 := xN.trans x9
                    have hS5 : w9.cell? ⟨Y, 2, none⟩ = some (.string ⟨d.file.toArray⟩) ∧ w9.cell? ⟨Y, 4, none⟩ = some (.int .i64 (d.W : Int)) ∧ w9.cell? ⟨Y, 5, none⟩ = some (.int .i64 (d.T : Int)) ∧ w9.cell? ⟨Y, 6, none⟩ = some (.int .i64 (d.R : Int)) ∧ w9.cell? ⟨Y, 7, none⟩ = some (.int .i64 (d.G : Int)) := ⟨xN9.cell g2 id, xN9.cell g4 id, xN9.cell g5 id, xN9.cell g6 id, xN9.cell g7 id⟩
                    refine ⟨_, rfl, hK _ _ (fun _ => hS5) ?_⟩
                    clear hK K
                    try simp only [Act.put, lA, lZ, lS]
                    refine Late.tk (i := 11) (oi := ⟨some 177, .move (.tmp 188), 64, "keep.go:372", #[⟨10, .data⟩], none⟩) (v := ?_) [15] rfl hS5 ?_ ?_
                    rotate_left
                    · (intro u hu; obtain ⟨u0, u1, u2, u3, u4⟩ := hu; go_simp; first | done | with_reducible rfl)
                    try simp only [Act.put, lA, lZ, lS]
                    refine Late.tk (i := 12) (oi := ⟨some 189, .extract (.tmp 177) 0, 50, "keep.go:372", #[⟨11, .data⟩], none⟩) (v := ?_) [15] rfl hS5 ?_ ?_
                    rotate_left
                    · (intro u hu; obtain ⟨u0, u1, u2, u3, u4⟩ := hu; go_simp; first | done | with_reducible rfl)
                    try simp only [Act.put, lA, lZ, lS]
                    refine Late.tk (i := 13) (oi := ⟨some 190, .extract (.tmp 177) 1, 63, "keep.go:372", #[⟨11, .data⟩, { on := 14, ground := Go.Ground.gcOnly Go.Departure.lateStores }], none⟩) (v := ?_) [15] rfl hS5 ?_ ?_
                    rotate_left
                    · (intro u hu; obtain ⟨u0, u1, u2, u3, u4⟩ := hu; go_simp; first | done | with_reducible rfl)
                    try simp only [Act.put, lA, lZ, lS]
                    refine Late.tk (i := 14) (oi := ⟨some 19, .assign (.tmp 189), 50, "keep.go:372", #[⟨12, .data⟩, ⟨10, .chain⟩, ⟨0, .phase⟩, ⟨1, .phase⟩, ⟨2, .phase⟩, ⟨3, .phase⟩, ⟨4, .phase⟩, ⟨5, .phase⟩, ⟨6, .phase⟩, ⟨7, .phase⟩, ⟨8, .phase⟩, ⟨9, .phase⟩, ⟨10, .phase⟩, ⟨11, .phase⟩, ⟨12, .phase⟩, { on := 13, ground := Go.Ground.textOnly Go.Departure.lateStores }], none⟩) (v := ?_) [15] rfl hS5 ?_ ?_
                    rotate_left
                    · (intro u hu; obtain ⟨u0, u1, u2, u3, u4⟩ := hu; go_simp; first | done | with_reducible rfl)
                    try simp only [Act.put, lA, lZ, lS]
                    refine Late.one (i := 15) (o := ⟨some 20, .assign (.tmp 190), 63, "keep.go:372", #[⟨13, .data⟩, ⟨14, .chain⟩, ⟨0, .phase⟩, ⟨1, .phase⟩, ⟨2, .phase⟩, ⟨3, .phase⟩, ⟨4, .phase⟩, ⟨5, .phase⟩, ⟨6, .phase⟩, ⟨7, .phase⟩, ⟨8, .phase⟩, ⟨9, .phase⟩, ⟨10, .phase⟩, ⟨11, .phase⟩, ⟨12, .phase⟩, ⟨13, .phase⟩, ⟨14, .phase⟩], none⟩) (by kernel_rfl) rfl (fun K hK => ?_)
                    go_simp
                    refine hK _ _ (fun h => absurd rfl h) ?_
                    clear hK K
                    try simp only [Act.put, lA, lZ, lS]
                    refine Late.done (by kernel_rfl) ?_ _
                    have hyR := (HY9.out.ext xN).reopen x9 hX2 hlow2
                    have c89 := (HY9.out.ext xN9).blk.cell 8
                    have f89 := (HY9.out.ext xN9).blk.free 8
                    simp only [yCells, List.getElem?_cons_zero, List.getElem?_cons_succ] at c89
                    have HYR := hide hyR
                    have ks8 := kp_set' w9 Y 8 (PtrTo X2 0)
                    have HKS := hide (HK9.out.trans (Kp.of_ext xN9))
                    have HK8 := hide ks8
                    have HNBO : Hid (Nb [bytesOf nobodyB] d (Pl.openSc d.file.length [bytesOf nobodyB] d.W d.T d.R d.G) 1 k1 0) := by
                      show Nb _ _ _ _ _ _
                      exact nobody_nb hf10 HK.out k1
                    clear hyR ks8 hS0 hS5 hX2 hlow2 g2 g4 g5 g6 g7
                    go_wp2_with fail
                    generalize w9.setCell ⟨Y, 8, none⟩ (PtrTo X2 0) = wS at *
                    have HFN := hide (finI_any _ d em c2 wS Y X2 P2 _ vs1 k1 1 0 (Nb [bytesOf nobodyB] d) (nbOk hd HNB.out (by decide)) hd HNBO.out HYR.out (by omega))
                    refine (unhide HFN).mono ?_
                    rintro r wF ⟨rfl, colF, vsF, mF, kF, NF, hyF, kOF, hkF, hsF, -⟩
                    have h3 := nb_end hkF hsF
                    have cF := hyF.blk.cell 8
                    simp only [yCells, List.getElem?_cons_zero, List.getElem?_cons_succ] at cF
                    have HSF := hide (xState_any colF wF X2 P2 mF hyF.isX)
                    rw [h3] at HSF
                    have HYF := hide hyF
                    have HKF := hide kOF
                    clear hyF kOF hkF HFN
                    go_wp2_with (first | (go_at_call 18; refine (unhide HSF).mono ?_; rintro r wq ⟨rfl, hwq⟩; rw [hwq]; clear hwq) | fail)
                    go_ret
                    have zN := xN.size
                    have hge := grow_ge (w := w) (w' := w1) (a := w.heap.size) (O := fun _ => False) (fun _ f => f.elim) (Nat.le_refl _)
                    have hge2 := grow_ge (w := w1) (w' := wA) hge z1
                    have hge3 := grow_ge (w := wC) (w' := wr) hge2 (by omega)
                    have hge4 := grow_ge (w := (wr.alloc (.cells #[.string nobodyB] 9)).drew) (w' := w9) hge3 (by omega)
                    refine ⟨rfl, ((((x7.trans xBC).then HKS.out ?_).then HK8.out ?_).then HKF.out ?_)⟩
                    · intro i hi e
                      have := hge2 i e
                      omega
                    · intro i hi e
                      have e : i = Y := e
                      have := hge4 Y (HYR.out.own Y (.inl rfl))
                      omega
                    · intro i hi e
                      have := hge4 i e
                      omega)))
end Go.Proofs.YthicgffppmbamaaGreat
