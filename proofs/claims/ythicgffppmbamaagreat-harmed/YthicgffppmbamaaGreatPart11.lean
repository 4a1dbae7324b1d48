/- KsAct, KsArgs, KsRdA, KsActs, KsFin, KsEnds, PlSum, PlHm, KsHarmed. -/
import Derived.Lib.SmallJoins
import Derived.Deep.Strs
import Derived.Test.YthicgffppmbamaaGreatPart1
import Derived.Test.YthicgffppmbamaaGreatPart9
import Derived.Test.YthicgffppmbamaaGreatPart10
namespace Go.Proofs.YthicgffppmbamaaGreat
open Go.RowKit

theorem cut_string (l : List UInt8) (p n : Nat) : (ByteArray.mk l.toArray).extract p (p + n) = ⟨(bytesAt l p n).toArray⟩ := by
  apply ByteArray.ext
  rw [ByteArray.data_extract]
  simp [bytesAt, List.extract_eq_take_drop]
theorem Ids.find {m : Pl.Sc} (h : Ids m) (i : Nat) (hi : i < m.asked.length) : Pl.findId m.asked (m.asked[i].1 : Int) = some i := by
  unfold Pl.findId
  rw [List.findIdx?_eq_some_iff_getElem]
  refine ⟨hi, by simp, fun j hj => ?_⟩
  have hp := List.pairwise_iff_getElem.1 h.1 j i (by simp; omega) (by simpa using hi) hj
  simp only [List.getElem_map] at hp
  simp only [decide_eq_false_iff_not, Bool.not_eq_true]
  omega
theorem Kx.fine {d : Yp} {m : Pl.Sc} {N k F : Nat} (hd : DOk d) (h : KxD d m N k F) (hN : N ≤ 1000000000) : FineOk m d.W d.file.length := by
  by_cases hs : m.state = 0
  · obtain ⟨hg, hr, -⟩ := h.going hs
    have hset := h.mo.1.set hs
    have hw := hg.window (by rw [hset.1]; exact hd.W1)
    rw [hset.1] at hw
    have hpt : ∀ q ∈ m.asked, PtOk m.size m.tries q.2 := fun q hq => hg.core.parts q.2 (List.mem_append.2 (.inl (List.mem_map.2 ⟨q, hq, rfl⟩)))
    refine ⟨hw, fun q hq => by have := (hpt q hq).data; omega, fun q hq => ?_, fun i hi => ?_, fun q hq => ?_⟩
    · have h1 := (hpt q hq).data
      have h2 := h.within.asked q hq
      rw [h.size hs] at h2
      show _ ≤ (Ft d.names d.gs).length
      omega
    · have := List.pairwise_iff_getElem.1 h.ids.1 i (i + 1) (by simp; omega) (by simpa using hi) (by omega)
      simpa using this
    · have h1 := (h.ids.2 q hq).2
      have h2 := hg.core.lastId
      omega
  · have : m.asked = [] := by
      rcases h.ended_of hs with ⟨e, -⟩ | ⟨e, -⟩ <;> rw [e] <;> rfl
    refine ⟨by rw [this]; simp, ?_, ?_, ?_, ?_⟩ <;> simp [this]
theorem Kx.monoF {names : List (List UInt8)} {gs : List (List (List Int))} {cols : List Nat} {w t r : Nat} {m : Pl.Sc} {N k F F' : Nat} (h : Kx names gs cols w t r m N k F) (hF : F ≤ F') : Kx names gs cols w t r m N k F' :=
  ⟨h.sound, h.ids, h.within, ⟨h.mo.1.set, fun e => Nat.le_trans (h.mo.1.st4 e) hF, h.mo.1.no5, fun x hx => Nat.le_trans (h.mo.1.fails x hx) hF, h.mo.1.live⟩, h.mo.2⟩
/-- how far an act fails something -/
def failN (kd : Int) : Nat := if pickP kd 7 = 4 then 1 else 0
/-- an act that answers, or takes, brings the end nearer -/
def Acted (gs : List (List (List Int))) (kd : Int) (m m' : Pl.Sc) (k k' : Nat) : Prop := pickP kd 7 = 0 → (m.asked = [] ∧ Took gs m m' k k') ∨ (m.asked ≠ [] ∧ k' = k ∧ (m'.state = 0 → Phi gs m' k' + 1 ≤ Phi gs m k))
def InI (x : Int) : Prop := -9223372036854775808 ≤ x ∧ x ≤ 9223372036854775807

set_option maxRecDepth 20000 in
set_option maxHeartbeats 8000000 in
theorem actI_any (O : Nat → Prop) (d : Yp) (e : Ym) (col : Colr) (w : World) (Y X P : Nat) (m : Pl.Sc) (vs : List Value) (k N F : Nat) (kd A B : Int) (Jv : Pl.Sc → Nat → Nat → Nat → Prop) (hI : InvOk d Jv) (hfl : pickP kd 7 = 4 → ∀ (id : Int) (i : Nat), Pl.findId m.asked id = some i → (Pl.fail m id).2 = 0 ∧ Jv (Pl.fail m id).1 N k (F + 1)) (hd : DOk d) (hk : Jv m N k F) (hy : YAt O d e col w Y X P m vs k) (hN : N ≤ 1000000) (hkd : InI kd) (hA : InI A) (hB : InI B) :
    Calls Tryz.prog 20 #[PtrTo Y 0, .agg #[.int .i64 kd, .int .i64 A, .int .i64 B]] w fun r w' => r = .returned (.bool true) ∧ ∃ col' vs' m' k', YAt (grow O w w') d e col' w' Y X P m' vs' k' ∧ Kp O w w' ∧ Jv m' (N + 24) k' (F + failN kd) ∧ Acted d.gs kd m m' k k' := by
  have x0 : Ext w (w.alloc (.cells #[.int .i64 kd, .int .i64 A, .int .i64 B] 60)) := (Kp.refl _ _).alloc _
  have bA := Blk.of_alloc w [.int .i64 kd, .int .i64 A, .int .i64 B] 60
  have z0 : Hid ((w.alloc (.cells #[.int .i64 kd, .int .i64 A, .int .i64 B] 60)).heap.size = w.heap.size + 1) := by show _ = _; simp
  have hy0 := hy.ext x0
  have c8 := hy0.blk.cell 8
  simp only [yCells, List.getElem?_cons_zero, List.getElem?_cons_succ] at c8
  have hfine := hI.fine hk (by omega)
  have hal : m.asked.length ≤ 4 := by have := hfine.win; have := hd.W4; omega
  have HAS := hide (xAsked_any col _ X P m hy0.isX (by omega))
  go_enter Tryz.func20, Tryz.ntmps20
  go_wp2_with fail
  generalize w.alloc (.cells #[.int .i64 kd, .int .i64 A, .int .i64 B] 60) = W0 at *
  refine (unhide HAS).mono ?_
  rintro r w1 ⟨lv, rfl, ol, x1, hlg⟩
  clear HAS
  have hy1 := hy0.ext x1
  have y4 := hy1.blk.cell 4
  have y2 := hy1.blk.cell 2
  simp only [yCells, I, List.getElem?_cons_zero, List.getElem?_cons_succ] at y4 y2
  have hfl4 : d.file.length ≤ 4000 := ft_len hd.fl.ok
  have HF := hide (fine_any w1 Y d.W d.file.length ⟨d.file.toArray⟩ m lv hfine hd.W4 hfl4 (by show d.file.toArray.size = _; simp) y4 y2 ol)
  clear c8
  obtain ⟨la, lc, rfl, hlc⟩ := ol.shape
  go_wp2_with fail
  refine (unhide HF).mono ?_
  rintro r w2 ⟨rfl, x2⟩
  clear HF
  have x02 : Ext w w2 := (x0.trans x1).trans x2
  have hy2 := hy1.ext x2
  have bA2 := bA.kept (x1.trans x2) id
  have a0 := bA2.cell 0
  have a1 := bA2.cell 1
  have a2 := bA2.cell 2
  simp only [List.getElem?_cons_zero, List.getElem?_cons_succ] at a0 a1 a2
  have ol2 := ol.ext x2
  have HPK := hide (fun u => kpick_any u kd 7 hkd.1 hkd.2 (by omega) (by omega))
  have hk7 := pickP_lt kd 7 (by omega)
  have HFA : Hid (failN kd = (if pickP kd 7 = 4 then 1 else 0)) := rfl
  have HAC : Hid (∀ m' k', Acted d.gs kd m m' k k' ↔ (pickP kd 7 = 0 → (m.asked = [] ∧ Took d.gs m m' k k') ∨ (m.asked ≠ [] ∧ k' = k ∧ (m'.state = 0 → Phi d.gs m' k' + 1 ≤ Phi d.gs m k)))) := fun _ _ => Iff.rfl
  generalize pickP kd 7 = kn at *
  have e8 := hy2.blk.cell 8
  have e2 := hy2.blk.cell 2
  simp only [yCells, I, List.getElem?_cons_zero, List.getElem?_cons_succ] at e8 e2
  have z02 := x02.size
  clear bA hy0 hy1 y4 y2 x1 x2 ol
  go_wp2_with fail
  refine ((unhide HPK) _).mono ?_
  rintro r w2' ⟨rfl, rfl⟩
  clear HPK
  by_cases h5 : kn = 5
  · subst h5
    have HT := hide (gTick_any col w2' X P m N ⟨hy2.isX, hI.good hk⟩ (by omega))
    go_wp2_with fail
    refine (unhide HT).mono ?_
    rintro r w3 ⟨rfl, col', hX, hW⟩
    clear HT
    go_wp2_with fail
    go_ret
    obtain ⟨hy3, k3⟩ := hy2.scan hX.1 hW
    obtain ⟨t1, t2, t3⟩ := hI.tick hk (by omega)
    exact ⟨rfl, col', vs, Pl.tick m, k, hy3.mono (fun b hb => hb.imp id (fun h => ⟨by omega, h.2⟩)), (Kp.of_ext x02).trans k3, hI.monoF (hI.mono t1 (by omega)) (Nat.le_add_right _ _), (HAC.out _ _).2 (fun h => by omega)⟩
  · have h5i : ¬ (kn : Int) = 5 := by omega
    by_cases h6 : kn = 6
    · subst h6
      have HTk := hide (takesI_any O d e col w2' Y X P m vs k N F Jv hI hd hk hy2)
      go_wp2_with fail
      refine (unhide HTk).mono ?_
      rintro r w3 ⟨rfl, col', vs', k', hy3, k3, hk3, htk⟩
      clear HTk
      go_wp2_with fail
      go_ret
      exact ⟨rfl, col', vs', (Pl.next m).1, k', hy3.mono (fun b hb => hb.imp id (fun h => ⟨by omega, h.2⟩)), (Kp.of_ext x02).trans k3, hI.monoF (hI.mono hk3 (by omega)) (Nat.le_add_right _ _), (HAC.out _ _).2 (fun h => by omega)⟩
    · have h6i : ¬ (kn : Int) = 6 := by omega
      by_cases hl0 : m.asked.length = 0
      · have hl0i : (m.asked.length : Int) = 0 := by omega
        have HTk := hide (takesI_any O d e col w2' Y X P m vs k N F Jv hI hd hk hy2)
        have HL0 := hide hl0
        clear hl0
        go_wp2_with fail
        refine (unhide HTk).mono ?_
        rintro r w3 ⟨rfl, col', vs', k', hy3, k3, hk3, htk⟩
        clear HTk
        go_wp2_with fail
        go_ret
        exact ⟨rfl, col', vs', (Pl.next m).1, k', hy3.mono (fun b hb => hb.imp id (fun h => ⟨by omega, h.2⟩)), (Kp.of_ext x02).trans k3, hI.monoF (hI.mono hk3 (by omega)) (Nat.le_add_right _ _), (HAC.out _ _).2 (fun _ => .inl ⟨List.eq_nil_of_length_eq_zero HL0.out, htk⟩)⟩
      · have hl0i : ¬ (m.asked.length : Int) = 0 := by omega
        have hi := pickP_lt A m.asked.length (by omega)
        have HPA := hide (fun u => kpick_any u A m.asked.length hA.1 hA.2 (by omega) (by omega))
        generalize pickP A m.asked.length = i at *
        have hii : (i : Int) < (m.asked.length : Int) := by omega
        have ii0 : (0 : Int) ≤ (i : Int) := by omega
        obtain ⟨ga, ca, he, _, hga, hc⟩ := ol2.at (by omega)
        cases he
        have hck : ∀ j, j < 3 → w2'.cell? ⟨ga, i * 3 + j, none⟩ = (askCells m.asked[i])[j]? := fun j hj => by
          rw [hc (i * 3 + j) (by omega), fm_at askCells 3 (fun _ => rfl) m.asked i j hi hj]
        have d0 := hck 0 (by omega)
        have d1 := hck 1 (by omega)
        have d2 := hck 2 (by omega)
        simp only [askCells, I, List.getElem?_cons_zero, List.getElem?_cons_succ, Nat.add_zero] at d0 d1 d2
        have hq := List.getElem_mem hi
        have q1 := hfine.len _ hq
        have q2 := hfine.ends _ hq
        have q3 := hfine.small _ hq
        have hfd := (hI.ids hk).find i hi
        have hpart : Pl.partAt m i = m.asked[i].2 := by unfold Pl.partAt; rw [List.getD_eq_getElem?_getD, List.getElem?_eq_getElem hi]; rfl
        have HAN := hide (fun n h1 h2 => hI.answer hk (m.asked[i].1 : Int) i n hfd h1 h2)
        have HFL := hide (fun h4 => hfl h4 (m.asked[i].1 : Int) i hfd)
        rw [hpart] at HAN
        clear hck hc hpart hfd
        generalize m.asked[i].2.place + m.asked[i].2.data.length = pl at *
        generalize m.asked[i].2.length - m.asked[i].2.data.length = ll at *
        generalize m.asked[i].1 = qi at *
        have xR : Ext w2' (w2'.alloc (.cells #[.int .i64 (qi : Int), .int .i64 (pl : Int), .int .i64 (ll : Int)] 72)) := (Kp.refl _ _).alloc _
        have bR := Blk.of_alloc w2' [.int .i64 (qi : Int), .int .i64 (pl : Int), .int .i64 (ll : Int)] 72
        have hne : m.asked ≠ [] := fun h => hl0 (by rw [h]; rfl)
        have HNE := hide hne
        have hbz : (((m.asked.length : Nat) : Int) == 0) = false := by simpa using hl0i
        clear hl0
        go_upto_region 12 with (first | (go_at_call 21; refine ((unhide HPA) _).mono ?_; rintro r w2x ⟨rfl, hwx⟩; rw [hwx]; clear hwx) | fail)
        have g8 := xR.cell e8 id
        have g2 := xR.cell e2 id
        have ga2 := xR.cell a2 id
        have r0 := bR.cell 0
        have r1 := bR.cell 1
        have r2 := bR.cell 2
        simp only [List.getElem?_cons_zero, List.getElem?_cons_succ] at r0 r1 r2
        have zR : Hid ((w2'.alloc (.cells #[.int .i64 (qi : Int), .int .i64 (pl : Int), .int .i64 (ll : Int)] 72)).heap.size = w2'.heap.size + 1) := by show _ = _; simp
        generalize w2'.alloc (.cells #[.int .i64 (qi : Int), .int .i64 (pl : Int), .int .i64 (ll : Int)] 72) = W3 at *
        have hy3 := hy2.ext xR
        have x03 := x02.trans xR
        have z03 := x03.size
        by_cases h4 : kn = 4
        · subst h4
          have HFC := hide (gFail_any col W3.drew X P m N ⟨(hy3.isX.kept (S := fun _ => False) ((Kp.refl _ _).drew) (fun _ f => f.elim)), hI.good hk⟩ (qi : Int))
          go_wp2_with fail
          have hS0 : W3.drew.cell? ⟨Y, 8, none⟩ = some (PtrTo X 0) ∧ W3.drew.cell? ⟨w2'.heap.size, 0, none⟩ = some (.int .i64 (qi : Int)) := ⟨g8, r0⟩
          refine wp_region_late (n := 6) (fun u => u.cell? ⟨Y, 8, none⟩ = some (PtrTo X 0) ∧ u.cell? ⟨w2'.heap.size, 0, none⟩ = some (.int .i64 (qi : Int))) (by kernel_rfl) ?_
          refine Late.tk (i := 0) (oi := ⟨some 61, .move (.tmp 0), 48, "keep.go:226", #[], none⟩) (v := ?_) [1, 2, 3, 6] rfl hS0 ?_ ?_
          rotate_left
          · (intro u hu; obtain ⟨u0, u1⟩ := hu; go_simp; first | done | with_reducible rfl)
          try simp only [Act.put, lA, lZ, lS]
          refine Late.tk (i := 1) (oi := ⟨some 62, .nilCheck (.tmp 61), 0, "keep.go:226", #[⟨0, .data⟩], none⟩) (v := ?_) [2, 3, 6] rfl hS0 ?_ ?_
          rotate_left
          · (intro u hu; obtain ⟨u0, u1⟩ := hu; go_simp; first | done | with_reducible rfl)
          try simp only [Act.put, lA, lZ, lS]
          refine Late.tk (i := 2) (oi := ⟨some 63, .fieldAddr 53 (.tmp 62) 4, 0, "keep.go:226", #[⟨1, .data⟩], none⟩) (v := ?_) [3, 6] rfl hS0 ?_ ?_
          rotate_left
          · (intro u hu; obtain ⟨u0, u1⟩ := hu; go_simp; first | done | with_reducible rfl)
          try simp only [Act.put, lA, lZ, lS]
          refine Late.tk (i := 3) (oi := ⟨some 64, .load 50 (.tmp 63), 50, "keep.go:226", #[⟨2, .data⟩], none⟩) (v := ?_) [6] rfl hS0 ?_ ?_
          rotate_left
          · (intro u hu; obtain ⟨u0, u1⟩ := hu; go_simp; first | done | with_reducible rfl)
          try simp only [Act.put, lA, lZ, lS]
          refine Late.tk (i := 4) (oi := ⟨some 65, .fieldAddr 72 (.tmp 8) 0, 0, "keep.go:226", #[], none⟩) (v := ?_) [5, 6] rfl hS0 ?_ ?_
          rotate_left
          · (intro u hu; obtain ⟨u0, u1⟩ := hu; go_simp; first | done | with_reducible rfl)
          try simp only [Act.put, lA, lZ, lS]
          refine Late.tk (i := 5) (oi := ⟨some 66, .load 3 (.tmp 65), 3, "keep.go:226", #[⟨4, .data⟩], none⟩) (v := ?_) [6] rfl hS0 ?_ ?_
          rotate_left
          · (intro u hu; obtain ⟨u0, u1⟩ := hu; go_simp; first | done | with_reducible rfl)
          try simp only [Act.put, lA, lZ, lS]
          refine Late.one (i := 6) (o := ⟨some 67, .call { callee := .value (.func 27), args := #[.tmp 64, .tmp 66], argTypes := #[50, 3] }, 63, "keep.go:226", #[⟨3, .data⟩, ⟨5, .data⟩], none⟩) (by kernel_rfl) rfl (fun K hK => ?_)
          refine step_call_g rfl 27 #[PtrTo X 0, .int .i64 (qi : Int)] (by go_simp) ?_
          refine (unhide HFC).mono ?_
          rintro r w4 ⟨rfl, col', hX, hW⟩
          obtain ⟨f1, f2⟩ := HFL.out (by first | trivial | rfl)
          have xd : Ext W3 W3.drew := (Kp.refl _ _).drew
          obtain ⟨hy4, k4⟩ := (hy3.ext xd).scan hX.1 hW
          have p8 := hy4.blk.cell 8
          simp only [yCells, List.getElem?_cons_zero, List.getElem?_cons_succ] at p8
          have hcR : col w2'.heap.size = .out := hy2.isX.top _ (Nat.le_refl _)
          have p0 := hW.kept.cell (xd.cell r0 id) (fun h => h hcR)
          rw [f1]
          refine ⟨_, rfl, hK _ _ (fun _ => ⟨p8, p0⟩) ?_⟩
          clear hK K
          try simp only [Act.put, lA, lZ, lS]
          refine Late.one (i := 7) (o := ⟨some 10, .assign (.tmp 67), 63, "keep.go:226", #[⟨6, .data⟩, ⟨6, .chain⟩, ⟨0, .phase⟩, ⟨1, .phase⟩, ⟨2, .phase⟩, ⟨3, .phase⟩, ⟨4, .phase⟩, ⟨5, .phase⟩, ⟨6, .phase⟩], none⟩) (by kernel_rfl) rfl (fun K hK => ?_)
          go_simp
          refine hK _ _ (fun _ => ⟨p8, p0⟩) ?_
          clear hK K
          try simp only [Act.put, lA, lZ, lS]
          refine Late.done (by kernel_rfl) ?_ _
          have HY4 := hide hy4
          have HK4 := hide k4
          clear hy4 k4 hX hW
          go_wp2_with fail
          go_ret
          have z4 := HK4.out.size
          refine ⟨rfl, col', vs, (Pl.fail m (qi : Int)).1, k, HY4.out.mono (fun b hb => hb.imp id (fun h => ⟨by have h1 : W3.heap.size ≤ b := h.1; omega, h.2⟩)), (Kp.of_ext (x03.trans xd)).trans HK4.out, ?_, (HAC.out _ _).2 (fun h => by omega)⟩
          rw [HFA.out]
          exact hI.mono f2 (by omega)
        · have h4i : ¬ (kn : Int) = 4 := by omega
          have pl0 : (0 : Int) ≤ (pl : Int) := by omega
          by_cases h3 : kn = 3
          · subst h3
            have hbl := pickP_lt B ll (by omega)
            have HPB := hide (fun u => kpick_any u B ll hB.1 hB.2 (by omega) (by omega))
            generalize pickP B ll = pb at *
            have pl1 : (pl : Int) ≤ (pl : Int) + (1 + (pb : Int)) := by omega
            have pl2 : (pl : Int) + (1 + (pb : Int)) ≤ (d.file.length : Int) := by omega
            have ew : IntKind.i64.wrap ((pl : Int) + (1 + (pb : Int))) = (pl : Int) + (1 + (pb : Int)) := by simp [IntKind.wrap, IntKind.bits, IntKind.signed]; omega
            have HCut : Hid ((ByteArray.mk d.file.toArray).extract pl ((pl : Int) + (1 + (pb : Int))).toNat = ⟨(bytesAt d.file pl (1 + pb)).toArray⟩) := by
              show _ = _
              rw [show ((pl : Int) + (1 + (pb : Int))).toNat = pl + (1 + pb) by omega]
              exact cut_string _ _ _
            have HAC2 := hide (gAnswer_any col W3.drew X P m N ⟨(hy3.isX.kept (S := fun _ => False) ((Kp.refl _ _).drew) (fun _ f => f.elim)), hI.good hk⟩ (by omega) (qi : Int) (bytesAt d.file pl (1 + pb)) (by unfold bytesAt; rw [List.length_take]; omega))
            go_wp2_with (go_at_call 21; refine ((unhide HPB) _).mono ?_; rintro r w3x ⟨rfl, hwx⟩; rw [hwx]; clear hwx)
            have hS0 : W3.drew.cell? ⟨Y, 8, none⟩ = some (PtrTo X 0) ∧ W3.drew.cell? ⟨Y, 2, none⟩ = some (.string ⟨d.file.toArray⟩) ∧ W3.drew.cell? ⟨w2'.heap.size, 0, none⟩ = some (.int .i64 (qi : Int)) ∧ W3.drew.cell? ⟨w2'.heap.size, 1, none⟩ = some (.int .i64 (pl : Int)) := ⟨g8, g2, r0, r1⟩
            refine wp_region_late (n := 17) (fun u => u.cell? ⟨Y, 8, none⟩ = some (PtrTo X 0) ∧ u.cell? ⟨Y, 2, none⟩ = some (.string ⟨d.file.toArray⟩) ∧ u.cell? ⟨w2'.heap.size, 0, none⟩ = some (.int .i64 (qi : Int)) ∧ u.cell? ⟨w2'.heap.size, 1, none⟩ = some (.int .i64 (pl : Int))) (by kernel_rfl) ?_
            refine Late.tk (i := 0) (oi := ⟨some 70, .move (.tmp 0), 48, "keep.go:229", #[], none⟩) (v := ?_) [1, 2, 3, 17] rfl hS0 ?_ ?_
            rotate_left
            · (intro u hu; obtain ⟨u0, u1, u2, u3⟩ := hu; go_simp; first | done | with_reducible rfl)
            try simp only [Act.put, lA, lZ, lS]
            refine Late.tk (i := 1) (oi := ⟨some 71, .nilCheck (.tmp 70), 0, "keep.go:229", #[⟨0, .data⟩], none⟩) (v := ?_) [2, 3, 17] rfl hS0 ?_ ?_
            rotate_left
            · (intro u hu; obtain ⟨u0, u1, u2, u3⟩ := hu; go_simp; first | done | with_reducible rfl)
            try simp only [Act.put, lA, lZ, lS]
            refine Late.tk (i := 2) (oi := ⟨some 72, .fieldAddr 53 (.tmp 71) 4, 0, "keep.go:229", #[⟨1, .data⟩], none⟩) (v := ?_) [3, 17] rfl hS0 ?_ ?_
            rotate_left
            · (intro u hu; obtain ⟨u0, u1, u2, u3⟩ := hu; go_simp; first | done | with_reducible rfl)
            try simp only [Act.put, lA, lZ, lS]
            refine Late.tk (i := 3) (oi := ⟨some 73, .load 50 (.tmp 72), 50, "keep.go:229", #[⟨2, .data⟩], none⟩) (v := ?_) [17] rfl hS0 ?_ ?_
            rotate_left
            · (intro u hu; obtain ⟨u0, u1, u2, u3⟩ := hu; go_simp; first | done | with_reducible rfl)
            try simp only [Act.put, lA, lZ, lS]
            refine Late.tk (i := 4) (oi := ⟨some 74, .fieldAddr 72 (.tmp 8) 0, 0, "keep.go:229", #[], none⟩) (v := ?_) [5, 17] rfl hS0 ?_ ?_
            rotate_left
            · (intro u hu; obtain ⟨u0, u1, u2, u3⟩ := hu; go_simp; first | done | with_reducible rfl)
            try simp only [Act.put, lA, lZ, lS]
            refine Late.tk (i := 5) (oi := ⟨some 75, .load 3 (.tmp 74), 3, "keep.go:229", #[⟨4, .data⟩], none⟩) (v := ?_) [17] rfl hS0 ?_ ?_
            rotate_left
            · (intro u hu; obtain ⟨u0, u1, u2, u3⟩ := hu; go_simp; first | done | with_reducible rfl)
            try simp only [Act.put, lA, lZ, lS]
            refine Late.tk (i := 6) (oi := ⟨some 76, .move (.tmp 0), 48, "keep.go:229", #[], none⟩) (v := ?_) [7, 8, 9, 16, 17] rfl hS0 ?_ ?_
            rotate_left
            · (intro u hu; obtain ⟨u0, u1, u2, u3⟩ := hu; go_simp; first | done | with_reducible rfl)
            try simp only [Act.put, lA, lZ, lS]
            refine Late.tk (i := 7) (oi := ⟨some 77, .nilCheck (.tmp 76), 0, "keep.go:229", #[⟨6, .data⟩], none⟩) (v := ?_) [8, 9, 16, 17] rfl hS0 ?_ ?_
            rotate_left
            · (intro u hu; obtain ⟨u0, u1, u2, u3⟩ := hu; go_simp; first | done | with_reducible rfl)
            try simp only [Act.put, lA, lZ, lS]
            refine Late.tk (i := 8) (oi := ⟨some 78, .fieldAddr 53 (.tmp 77) 1, 0, "keep.go:229", #[⟨7, .data⟩], none⟩) (v := ?_) [9, 16, 17] rfl hS0 ?_ ?_
            rotate_left
            · (intro u hu; obtain ⟨u0, u1, u2, u3⟩ := hu; go_simp; first | done | with_reducible rfl)
            try simp only [Act.put, lA, lZ, lS]
            refine Late.tk (i := 9) (oi := ⟨some 79, .load 9 (.tmp 78), 9, "keep.go:229", #[⟨8, .data⟩], none⟩) (v := ?_) [16, 17] rfl hS0 ?_ ?_
            rotate_left
            · (intro u hu; obtain ⟨u0, u1, u2, u3⟩ := hu; go_simp; first | done | with_reducible rfl)
            try simp only [Act.put, lA, lZ, lS]
            refine Late.tk (i := 10) (oi := ⟨some 80, .fieldAddr 72 (.tmp 8) 1, 0, "keep.go:229", #[], none⟩) (v := ?_) [11, 16, 17] rfl hS0 ?_ ?_
            rotate_left
            · (intro u hu; obtain ⟨u0, u1, u2, u3⟩ := hu; go_simp; first | done | with_reducible rfl)
            try simp only [Act.put, lA, lZ, lS]
            refine Late.tk (i := 11) (oi := ⟨some 81, .load 3 (.tmp 80), 3, "keep.go:229", #[⟨10, .data⟩], none⟩) (v := ?_) [16, 17] rfl hS0 ?_ ?_
            rotate_left
            · (intro u hu; obtain ⟨u0, u1, u2, u3⟩ := hu; go_simp; first | done | with_reducible rfl)
            try simp only [Act.put, lA, lZ, lS]
            refine Late.tk (i := 12) (oi := ⟨some 82, .fieldAddr 72 (.tmp 8) 1, 0, "keep.go:229", #[], none⟩) (v := ?_) [13, 15, 16, 17] rfl hS0 ?_ ?_
            rotate_left
            · (intro u hu; obtain ⟨u0, u1, u2, u3⟩ := hu; go_simp; first | done | with_reducible rfl)
            try simp only [Act.put, lA, lZ, lS]
            refine Late.tk (i := 13) (oi := ⟨some 83, .load 3 (.tmp 82), 3, "keep.go:229", #[⟨12, .data⟩], none⟩) (v := ?_) [15, 16, 17] rfl hS0 ?_ ?_
            rotate_left
            · (intro u hu; obtain ⟨u0, u1, u2, u3⟩ := hu; go_simp; first | done | with_reducible rfl)
            try simp only [Act.put, lA, lZ, lS]
            refine Late.tk (i := 14) (oi := ⟨some 84, .move (.tmp 9), 3, "keep.go:229", #[], none⟩) (v := ?_) [15, 16, 17] rfl hS0 ?_ ?_
            rotate_left
            · (intro u hu; obtain ⟨u0, u1, u2, u3⟩ := hu; go_simp; first | done | with_reducible rfl)
            try simp only [Act.put, lA, lZ, lS]
            refine Late.tk (i := 15) (oi := ⟨some 85, .binOp .add 3 (.tmp 83) (.tmp 84) 3, 3, "keep.go:229", #[⟨13, .data⟩, ⟨14, .data⟩], none⟩) (v := ?_) [16, 17] rfl hS0 ?_ ?_
            rotate_left
            · (intro u hu; obtain ⟨u0, u1, u2, u3⟩ := hu; go_simp; first | done | with_reducible rfl)
            try simp only [Act.put, lA, lZ, lS]
            refine Late.tk (i := 16) (oi := ⟨some 86, .slice 9 (.tmp 79) (some (.tmp 81)) (some (.tmp 85)) none, 9, "keep.go:229", #[⟨9, .data⟩, ⟨11, .data⟩, ⟨15, .data⟩], none⟩) (v := ?_) [17] rfl hS0 ?_ ?_
            rotate_left
            · (intro u hu; skip; go_simp; first | done | with_reducible rfl)
            try simp only [Act.put, lA, lZ, lS]
            refine Late.one (i := 17) (o := ⟨some 87, .call { callee := .value (.func 26), args := #[.tmp 73, .tmp 75, .tmp 86], argTypes := #[50, 3, 9] }, 63, "keep.go:229", #[⟨3, .data⟩, ⟨5, .data⟩, ⟨16, .data⟩], none⟩) (by kernel_rfl) rfl (fun K hK => ?_)
            refine step_call_g rfl 26 #[PtrTo X 0, .int .i64 (qi : Int), tx (bytesAt d.file pl (1 + pb))] (by go_simp; exact HCut.out) ?_
            refine (unhide HAC2).mono ?_
            rintro r w4 ⟨rfl, col', hX, hW⟩
            obtain ⟨f1, f2, f3⟩ := HAN.out (1 + pb) (by omega) (by omega)
            have xd : Ext W3 W3.drew := (Kp.refl _ _).drew
            obtain ⟨hy4, k4⟩ := (hy3.ext xd).scan hX.1 hW
            have p8 := hy4.blk.cell 8
            have p2 := hy4.blk.cell 2
            simp only [yCells, List.getElem?_cons_zero, List.getElem?_cons_succ] at p8 p2
            have hcR : col w2'.heap.size = .out := hy2.isX.top _ (Nat.le_refl _)
            have p0 := hW.kept.cell (xd.cell r0 id) (fun h => h hcR)
            have p1 := hW.kept.cell (xd.cell r1 id) (fun h => h hcR)
            change (Pl.answer m (qi : Int) (bytesAt d.file pl (1 + pb))).2 = 0 at f1
            rw [f1]
            refine ⟨_, rfl, hK _ _ (fun _ => ⟨p8, p2, p0, p1⟩) ?_⟩
            clear hK K
            try simp only [Act.put, lA, lZ, lS]
            refine Late.one (i := 18) (o := ⟨some 11, .assign (.tmp 87), 63, "keep.go:229", #[⟨17, .data⟩, ⟨17, .chain⟩, ⟨0, .phase⟩, ⟨1, .phase⟩, ⟨2, .phase⟩, ⟨3, .phase⟩, ⟨4, .phase⟩, ⟨5, .phase⟩, ⟨6, .phase⟩, ⟨7, .phase⟩, ⟨8, .phase⟩, ⟨9, .phase⟩, ⟨10, .phase⟩, ⟨11, .phase⟩, ⟨12, .phase⟩, ⟨13, .phase⟩, ⟨14, .phase⟩, ⟨15, .phase⟩, ⟨16, .phase⟩, ⟨17, .phase⟩], none⟩) (by kernel_rfl) rfl (fun K hK => ?_)
            go_simp
            refine hK _ _ (fun _ => ⟨p8, p2, p0, p1⟩) ?_
            clear hK K
            try simp only [Act.put, lA, lZ, lS]
            refine Late.done (by kernel_rfl) ?_ _
            have HY4 := hide hy4
            have HK4 := hide k4
            clear hy4 k4 hX hW
            go_wp2_with fail
            go_ret
            have z4 := HK4.out.size
            refine ⟨rfl, col', vs, (Pl.answer m (qi : Int) (bytesAt d.file pl (1 + pb))).1, k, HY4.out.mono (fun b hb => hb.imp id (fun h => ⟨by have h1 : W3.heap.size ≤ b := h.1; omega, h.2⟩)), (Kp.of_ext (x03.trans xd)).trans HK4.out, hI.monoF f2 (Nat.le_add_right _ _), (HAC.out _ _).2 (fun h => by omega)⟩
          · have h3i : ¬ (kn : Int) = 3 := by omega
            have pl1 : (pl : Int) ≤ (pl : Int) + (ll : Int) := by omega
            have pl2 : (pl : Int) + (ll : Int) ≤ (d.file.length : Int) := by omega
            have ew : IntKind.i64.wrap ((pl : Int) + (ll : Int)) = (pl : Int) + (ll : Int) := by simp [IntKind.wrap, IntKind.bits, IntKind.signed]; omega
            have HCut : Hid ((ByteArray.mk d.file.toArray).extract pl ((pl : Int) + (ll : Int)).toNat = ⟨(bytesAt d.file pl ll).toArray⟩) := by
              show _ = _
              rw [show ((pl : Int) + (ll : Int)).toNat = pl + ll by omega]
              exact cut_string _ _ _
            have HAC2 := hide (gAnswer_any col W3.drew X P m N ⟨(hy3.isX.kept (S := fun _ => False) ((Kp.refl _ _).drew) (fun _ f => f.elim)), hI.good hk⟩ (by omega) (qi : Int) (bytesAt d.file pl ll) (by unfold bytesAt; rw [List.length_take]; omega))
            go_wp2_with fail
            have hS0 : W3.drew.cell? ⟨Y, 8, none⟩ = some (PtrTo X 0) ∧ W3.drew.cell? ⟨Y, 2, none⟩ = some (.string ⟨d.file.toArray⟩) ∧ W3.drew.cell? ⟨w2'.heap.size, 0, none⟩ = some (.int .i64 (qi : Int)) ∧ W3.drew.cell? ⟨w2'.heap.size, 1, none⟩ = some (.int .i64 (pl : Int)) := ⟨g8, g2, r0, r1⟩
            refine wp_region_late (n := 17) (fun u => u.cell? ⟨Y, 8, none⟩ = some (PtrTo X 0) ∧ u.cell? ⟨Y, 2, none⟩ = some (.string ⟨d.file.toArray⟩) ∧ u.cell? ⟨w2'.heap.size, 0, none⟩ = some (.int .i64 (qi : Int)) ∧ u.cell? ⟨w2'.heap.size, 1, none⟩ = some (.int .i64 (pl : Int))) (by kernel_rfl) ?_
            refine Late.tk (i := 0) (oi := ⟨some 70, .move (.tmp 0), 48, "keep.go:229", #[], none⟩) (v := ?_) [1, 2, 3, 17] rfl hS0 ?_ ?_
            rotate_left
            · (intro u hu; obtain ⟨u0, u1, u2, u3⟩ := hu; go_simp; first | done | with_reducible rfl)
            try simp only [Act.put, lA, lZ, lS]
            refine Late.tk (i := 1) (oi := ⟨some 71, .nilCheck (.tmp 70), 0, "keep.go:229", #[⟨0, .data⟩], none⟩) (v := ?_) [2, 3, 17] rfl hS0 ?_ ?_
            rotate_left
            · (intro u hu; obtain ⟨u0, u1, u2, u3⟩ := hu; go_simp; first | done | with_reducible rfl)
            try simp only [Act.put, lA, lZ, lS]
            refine Late.tk (i := 2) (oi := ⟨some 72, .fieldAddr 53 (.tmp 71) 4, 0, "keep.go:229", #[⟨1, .data⟩], none⟩) (v := ?_) [3, 17] rfl hS0 ?_ ?_
            rotate_left
            · (intro u hu; obtain ⟨u0, u1, u2, u3⟩ := hu; go_simp; first | done | with_reducible rfl)
            try simp only [Act.put, lA, lZ, lS]
            refine Late.tk (i := 3) (oi := ⟨some 73, .load 50 (.tmp 72), 50, "keep.go:229", #[⟨2, .data⟩], none⟩) (v := ?_) [17] rfl hS0 ?_ ?_
            rotate_left
            · (intro u hu; obtain ⟨u0, u1, u2, u3⟩ := hu; go_simp; first | done | with_reducible rfl)
            try simp only [Act.put, lA, lZ, lS]
            refine Late.tk (i := 4) (oi := ⟨some 74, .fieldAddr 72 (.tmp 8) 0, 0, "keep.go:229", #[], none⟩) (v := ?_) [5, 17] rfl hS0 ?_ ?_
            rotate_left
            · (intro u hu; obtain ⟨u0, u1, u2, u3⟩ := hu; go_simp; first | done | with_reducible rfl)
            try simp only [Act.put, lA, lZ, lS]
            refine Late.tk (i := 5) (oi := ⟨some 75, .load 3 (.tmp 74), 3, "keep.go:229", #[⟨4, .data⟩], none⟩) (v := ?_) [17] rfl hS0 ?_ ?_
            rotate_left
            · (intro u hu; obtain ⟨u0, u1, u2, u3⟩ := hu; go_simp; first | done | with_reducible rfl)
            try simp only [Act.put, lA, lZ, lS]
            refine Late.tk (i := 6) (oi := ⟨some 76, .move (.tmp 0), 48, "keep.go:229", #[], none⟩) (v := ?_) [7, 8, 9, 16, 17] rfl hS0 ?_ ?_
            rotate_left
            · (intro u hu; obtain ⟨u0, u1, u2, u3⟩ := hu; go_simp; first | done | with_reducible rfl)
            try simp only [Act.put, lA, lZ, lS]
            refine Late.tk (i := 7) (oi := ⟨some 77, .nilCheck (.tmp 76), 0, "keep.go:229", #[⟨6, .data⟩], none⟩) (v := ?_) [8, 9, 16, 17] rfl hS0 ?_ ?_
            rotate_left
            · (intro u hu; obtain ⟨u0, u1, u2, u3⟩ := hu; go_simp; first | done | with_reducible rfl)
            try simp only [Act.put, lA, lZ, lS]
            refine Late.tk (i := 8) (oi := ⟨some 78, .fieldAddr 53 (.tmp 77) 1, 0, "keep.go:229", #[⟨7, .data⟩], none⟩) (v := ?_) [9, 16, 17] rfl hS0 ?_ ?_
            rotate_left
            · (intro u hu; obtain ⟨u0, u1, u2, u3⟩ := hu; go_simp; first | done | with_reducible rfl)
            try simp only [Act.put, lA, lZ, lS]
            refine Late.tk (i := 9) (oi := ⟨some 79, .load 9 (.tmp 78), 9, "keep.go:229", #[⟨8, .data⟩], none⟩) (v := ?_) [16, 17] rfl hS0 ?_ ?_
            rotate_left
            · (intro u hu; obtain ⟨u0, u1, u2, u3⟩ := hu; go_simp; first | done | with_reducible rfl)
            try simp only [Act.put, lA, lZ, lS]
            refine Late.tk (i := 10) (oi := ⟨some 80, .fieldAddr 72 (.tmp 8) 1, 0, "keep.go:229", #[], none⟩) (v := ?_) [11, 16, 17] rfl hS0 ?_ ?_
            rotate_left
            · (intro u hu; obtain ⟨u0, u1, u2, u3⟩ := hu; go_simp; first | done | with_reducible rfl)
            try simp only [Act.put, lA, lZ, lS]
            refine Late.tk (i := 11) (oi := ⟨some 81, .load 3 (.tmp 80), 3, "keep.go:229", #[⟨10, .data⟩], none⟩) (v := ?_) [16, 17] rfl hS0 ?_ ?_
            rotate_left
            · (intro u hu; obtain ⟨u0, u1, u2, u3⟩ := hu; go_simp; first | done | with_reducible rfl)
            try simp only [Act.put, lA, lZ, lS]
            refine Late.tk (i := 12) (oi := ⟨some 82, .fieldAddr 72 (.tmp 8) 1, 0, "keep.go:229", #[], none⟩) (v := ?_) [13, 15, 16, 17] rfl hS0 ?_ ?_
            rotate_left
            · (intro u hu; obtain ⟨u0, u1, u2, u3⟩ := hu; go_simp; first | done | with_reducible rfl)
            try simp only [Act.put, lA, lZ, lS]
            refine Late.tk (i := 13) (oi := ⟨some 83, .load 3 (.tmp 82), 3, "keep.go:229", #[⟨12, .data⟩], none⟩) (v := ?_) [15, 16, 17] rfl hS0 ?_ ?_
            rotate_left
            · (intro u hu; obtain ⟨u0, u1, u2, u3⟩ := hu; go_simp; first | done | with_reducible rfl)
            try simp only [Act.put, lA, lZ, lS]
            refine Late.tk (i := 14) (oi := ⟨some 84, .move (.tmp 9), 3, "keep.go:229", #[], none⟩) (v := ?_) [15, 16, 17] rfl hS0 ?_ ?_
            rotate_left
            · (intro u hu; obtain ⟨u0, u1, u2, u3⟩ := hu; go_simp; first | done | with_reducible rfl)
            try simp only [Act.put, lA, lZ, lS]
            refine Late.tk (i := 15) (oi := ⟨some 85, .binOp .add 3 (.tmp 83) (.tmp 84) 3, 3, "keep.go:229", #[⟨13, .data⟩, ⟨14, .data⟩], none⟩) (v := ?_) [16, 17] rfl hS0 ?_ ?_
            rotate_left
            · (intro u hu; obtain ⟨u0, u1, u2, u3⟩ := hu; go_simp; first | done | with_reducible rfl)
            try simp only [Act.put, lA, lZ, lS]
            refine Late.tk (i := 16) (oi := ⟨some 86, .slice 9 (.tmp 79) (some (.tmp 81)) (some (.tmp 85)) none, 9, "keep.go:229", #[⟨9, .data⟩, ⟨11, .data⟩, ⟨15, .data⟩], none⟩) (v := ?_) [17] rfl hS0 ?_ ?_
            rotate_left
            · (intro u hu; skip; go_simp; first | done | with_reducible rfl)
            try simp only [Act.put, lA, lZ, lS]
            refine Late.one (i := 17) (o := ⟨some 87, .call { callee := .value (.func 26), args := #[.tmp 73, .tmp 75, .tmp 86], argTypes := #[50, 3, 9] }, 63, "keep.go:229", #[⟨3, .data⟩, ⟨5, .data⟩, ⟨16, .data⟩], none⟩) (by kernel_rfl) rfl (fun K hK => ?_)
            refine step_call_g rfl 26 #[PtrTo X 0, .int .i64 (qi : Int), tx (bytesAt d.file pl ll)] (by go_simp; exact HCut.out) ?_
            refine (unhide HAC2).mono ?_
            rintro r w4 ⟨rfl, col', hX, hW⟩
            obtain ⟨f1, f2, f3⟩ := HAN.out ll (by omega) (by omega)
            have xd : Ext W3 W3.drew := (Kp.refl _ _).drew
            obtain ⟨hy4, k4⟩ := (hy3.ext xd).scan hX.1 hW
            have p8 := hy4.blk.cell 8
            have p2 := hy4.blk.cell 2
            simp only [yCells, List.getElem?_cons_zero, List.getElem?_cons_succ] at p8 p2
            have hcR : col w2'.heap.size = .out := hy2.isX.top _ (Nat.le_refl _)
            have p0 := hW.kept.cell (xd.cell r0 id) (fun h => h hcR)
            have p1 := hW.kept.cell (xd.cell r1 id) (fun h => h hcR)
            change (Pl.answer m (qi : Int) (bytesAt d.file pl ll)).2 = 0 at f1
            rw [f1]
            refine ⟨_, rfl, hK _ _ (fun _ => ⟨p8, p2, p0, p1⟩) ?_⟩
            clear hK K
            try simp only [Act.put, lA, lZ, lS]
            refine Late.one (i := 18) (o := ⟨some 11, .assign (.tmp 87), 63, "keep.go:229", #[⟨17, .data⟩, ⟨17, .chain⟩, ⟨0, .phase⟩, ⟨1, .phase⟩, ⟨2, .phase⟩, ⟨3, .phase⟩, ⟨4, .phase⟩, ⟨5, .phase⟩, ⟨6, .phase⟩, ⟨7, .phase⟩, ⟨8, .phase⟩, ⟨9, .phase⟩, ⟨10, .phase⟩, ⟨11, .phase⟩, ⟨12, .phase⟩, ⟨13, .phase⟩, ⟨14, .phase⟩, ⟨15, .phase⟩, ⟨16, .phase⟩, ⟨17, .phase⟩], none⟩) (by kernel_rfl) rfl (fun K hK => ?_)
            go_simp
            refine hK _ _ (fun _ => ⟨p8, p2, p0, p1⟩) ?_
            clear hK K
            try simp only [Act.put, lA, lZ, lS]
            refine Late.done (by kernel_rfl) ?_ _
            have HY4 := hide hy4
            have HK4 := hide k4
            clear hy4 k4 hX hW
            go_wp2_with fail
            go_ret
            have z4 := HK4.out.size
            refine ⟨rfl, col', vs, (Pl.answer m (qi : Int) (bytesAt d.file pl ll)).1, k, HY4.out.mono (fun b hb => hb.imp id (fun h => ⟨by have h1 : W3.heap.size ≤ b := h.1; omega, h.2⟩)), (Kp.of_ext (x03.trans xd)).trans HK4.out, hI.monoF f2 (Nat.le_add_right _ _), (HAC.out _ _).2 (fun h => .inr ⟨HNE.out, rfl, f3 ?_⟩)⟩
            first | trivial | rfl
theorem kxOk {d : Yp} (hd : DOk d) : InvOk d (KxD d) :=
  ⟨fun h => h.sound.good, fun h => h.ids, fun h hN => h.fine hd hN, fun h hN => h.mono hN, fun h hF => h.monoF hF, fun h => h.next hd.fl hd.R1 hd.W1, fun h hN => h.tick hN, fun h id i n a b c => Kx.answer hd.fl h id i n a b c, fun h hs => h.phi_le hd.fl hs⟩
theorem takes_any (O : Nat → Prop) (d : Yp) (e : Ym) (col : Colr) (w : World) (Y X P : Nat) (m : Pl.Sc) (vs : List Value) (k N F : Nat) (hd : DOk d) (hk : KxD d m N k F) (hy : YAt O d e col w Y X P m vs k) :
    Calls Tryz.prog 30 #[PtrTo Y 0] w fun r w' => r = .returned (.bool true) ∧ ∃ col' vs' k', YAt (grow O w w') d e col' w' Y X P (Pl.next m).1 vs' k' ∧ Kp O w w' ∧ KxD d (Pl.next m).1 N k' F ∧ Took d.gs m (Pl.next m).1 k k' := takesI_any O d e col w Y X P m vs k N F (KxD d) (kxOk hd) hd hk hy
theorem act_any (O : Nat → Prop) (d : Yp) (e : Ym) (col : Colr) (w : World) (Y X P : Nat) (m : Pl.Sc) (vs : List Value) (k N F : Nat) (kd A B : Int) (hd : DOk d) (hk : KxD d m N k F) (hy : YAt O d e col w Y X P m vs k) (hN : N ≤ 1000000) (hkd : InI kd) (hA : InI A) (hB : InI B) :
    Calls Tryz.prog 20 #[PtrTo Y 0, .agg #[.int .i64 kd, .int .i64 A, .int .i64 B]] w fun r w' => r = .returned (.bool true) ∧ ∃ col' vs' m' k', YAt (grow O w w') d e col' w' Y X P m' vs' k' ∧ Kp O w w' ∧ KxD d m' (N + 24) k' (F + failN kd) ∧ Acted d.gs kd m m' k k' :=
  actI_any O d e col w Y X P m vs k N F kd A B (KxD d) (kxOk hd) (fun _ id i hi => hk.fail id i hi) hd hk hy hN hkd hA hB
end Go.Proofs.YthicgffppmbamaaGreat

namespace Go.Proofs.YthicgffppmbamaaGreat
open Go.RowKit Go.ChangeShapes Go.WideShapes Go.Deep
section
variable {H : Type} {enc : TypeId × Value → H} {W : World}
theorem inI_of {k : Int} (h : (Lit.int .i64 k).wf = true) : InI k := by
  simp only [Lit.wf, Bool.and_eq_true, decide_eq_true_eq] at h
  have e1 : IntKind.i64.min = -9223372036854775808 := by decide
  have e2 : IntKind.i64.max = 9223372036854775807 := by decide
  rw [e1, e2] at h
  exact h
theorem rdI_rng {fuel : Nat} {v : Value} {d : DataW H} {pl : List MemPlace} (h : DataW.trod enc Tryz.prog W 0 (fun _ => true) true fuel 46 [v] = some (d, pl)) (hf : FitsIn 46 d) : ∃ xs : List Int, RdI W.heap.size W v xs ∧ xs.length ≤ 17592186043904 ∧ ∀ x ∈ xs, InI x := by
  obtain ⟨vs, hr, hl, n, he⟩ := rd_open Tryz.underlying46 cells3 bytes3 (by omega) h hf
  have e : vs = (vs.map intOf).map I := by
    rw [List.map_map]
    conv => lhs; rw [← List.map_id vs]
    refine List.map_congr_left (fun u hu => ?_)
    obtain ⟨x, hx, _⟩ := he u hu
    obtain ⟨k, hk, _⟩ := DataW.trod_int Tryz.underlying3 hx
    simp only [List.cons.injEq, and_true] at hk
    subst hk
    rfl
  refine ⟨vs.map intOf, by unfold RdI; rw [← e]; exact hr, ?_, fun x hx => ?_⟩
  · rw [List.length_map]
    rw [reach_eq] at hl
    omega
  · obtain ⟨u, hu, rfl⟩ := List.mem_map.1 hx
    obtain ⟨y, hy, _⟩ := he u hu
    obtain ⟨k, hk, -, hwf⟩ := DataW.trod_int Tryz.underlying3 hy
    simp only [List.cons.injEq, and_true] at hk
    subst hk
    exact inI_of hwf
end
end Go.Proofs.YthicgffppmbamaaGreat

namespace Go.Proofs.YthicgffppmbamaaGreat
open Go.RowKit

/-- a list of acts that is read -/
def RdA (B : Nat) (w : World) (v : Value) (l : List (Int × Int × Int)) : Prop :=
  ∃ ao cap, v = .slice ao l.length cap ∧ l.length ≤ cap ∧ l.length ≤ 17592186044416 ∧ (0 < l.length → ∃ b off, ao = some ⟨b, off, none⟩ ∧ b < B ∧ ∀ j (h : j < l.length), w.cell? ⟨b, off + j * 3, none⟩ = some (.int .i64 l[j].1) ∧ w.cell? ⟨b, off + j * 3 + 1, none⟩ = some (.int .i64 l[j].2.1) ∧ w.cell? ⟨b, off + j * 3 + 2, none⟩ = some (.int .i64 l[j].2.2)) ∧
    ∀ a ∈ l, InI a.1 ∧ InI a.2.1 ∧ InI a.2.2

end Go.Proofs.YthicgffppmbamaaGreat

namespace Go.Proofs.YthicgffppmbamaaGreat
open Go.RowKit Go.ChangeShapes Go.WideShapes Go.Deep
section
variable {H : Type} {enc : TypeId × Value → H} {W : World}
theorem bytesAct : Tryz.prog.bytesOf 60 = 24 := by kernel_rfl
theorem cellsAct : Tryz.prog.cellsOf 60 = 3 := by kernel_rfl
/-- from 'for each there is one' to a list of them -/
theorem pick_list {α β : Type} (Q : α → β → Prop) (vs : List α) (h : ∀ u ∈ vs, ∃ y, Q u y) : ∃ ys : List β, vs.length = ys.length ∧ ∀ (i : Nat) (u : α) (y : β), vs[i]? = some u → ys[i]? = some y → Q u y := by
  induction vs with
  | nil => exact ⟨[], rfl, fun i u y hu => by simp at hu⟩
  | cons v r ih =>
    obtain ⟨y0, h0⟩ := h v (by simp)
    obtain ⟨ys, hl, hq⟩ := ih (fun u hu => h u (by simp [hu]))
    refine ⟨y0 :: ys, by simp [hl], fun i u y hu hy => ?_⟩
    cases i with
    | zero => simp at hu hy; subst hu; subst hy; exact h0
    | succ i => simp at hu hy; exact hq i u y hu hy
set_option maxRecDepth 100000 in
theorem rdA_open {fuel : Nat} {v : Value} {d : DataW H} {pl : List MemPlace} (h : DataW.trod enc Tryz.prog W 0 (fun _ => true) true fuel 57 [v] = some (d, pl)) (hf : FitsIn 57 d) : ∃ s : List (Int × Int × Int), RdA W.heap.size W v s := by
  rcases open_slice Tryz.underlying57 h with ⟨hcs, _⟩ | ⟨a, len, cap, m, n, D, Pl, hcs, _, hl, _, hm, hx, he⟩
  · simp only [List.cons.injEq, and_true] at hcs
    subst hcs
    exact ⟨[], none, 0, rfl, Nat.le_refl _, Nat.zero_le _, fun h => absurd h (by simp), fun a ha => by cases ha⟩
  · simp only [List.cons.injEq, and_true] at hcs
    subst hcs
    simp only [if_true] at hm
    rw [hm] at hx he
    clear hm
    simp only [Prod.mk.injEq] at hx
    obtain ⟨rfl, _⟩ := hx
    have hsz := hf.slice Tryz.underlying57
    simp only [List.length_map, List.length_range, bytesAct, reach_eq] at hsz
    have hone : ∀ i ∈ List.range len, ∃ y : Int × Int × Int, (W.cell? (a.add (i * 3)) = some (.int .i64 y.1) ∧ W.cell? ((a.add (i * 3)).add 1) = some (.int .i64 y.2.1) ∧ W.cell? ((a.add (i * 3)).add 2) = some (.int .i64 y.2.2)) ∧ InI y.1 ∧ InI y.2.1 ∧ InI y.2.2 := fun i hi => by
      rw [List.mem_range] at hi
      obtain ⟨cs, hc, ht⟩ := he i (by omega)
      rw [cellsAct] at hc
      obtain ⟨_, hcl, hcc⟩ := World.cells?_some hc
      obtain ⟨y0, y1, y2, k, hy, _, h0, h1, h2⟩ := trod_struct3 Tryz.underlying60 ht
      match cs, hcl with
      | [c0, c1, c2], _ =>
        have hc3 : Tryz.prog.cellsOf 3 = 1 := by kernel_rfl
        simp only [hc3, List.drop_zero, List.take_succ_cons, List.take_zero, List.drop_succ_cons] at h0 h1 h2
        obtain ⟨p, e0, -, w0⟩ := DataW.trod_int Tryz.underlying3 h0
        obtain ⟨q, e1, -, w1⟩ := DataW.trod_int Tryz.underlying3 h1
        obtain ⟨r, e2, -, w2⟩ := DataW.trod_int Tryz.underlying3 h2
        simp only [List.cons.injEq, and_true] at e0 e1 e2
        subst e0
        subst e1
        subst e2
        refine ⟨(p, q, r), ⟨?_, ?_, ?_⟩, inI_of w0, inI_of w1, inI_of w2⟩
        · have := hcc 0 (by omega)
          simpa [Addr.add] using this
        · simpa using hcc 1 (by omega)
        · simpa using hcc 2 (by omega)
    obtain ⟨ts, htl, hq⟩ := pick_list _ (List.range len) hone
    rw [List.length_range] at htl
    have hget : ∀ j (hj : j < ts.length), (W.cell? (a.add (j * 3)) = some (.int .i64 ts[j].1) ∧ W.cell? ((a.add (j * 3)).add 1) = some (.int .i64 ts[j].2.1) ∧ W.cell? ((a.add (j * 3)).add 2) = some (.int .i64 ts[j].2.2)) ∧ InI ts[j].1 ∧ InI ts[j].2.1 ∧ InI ts[j].2.2 := fun j hj =>
      hq j j ts[j] (by rw [List.getElem?_range (by omega)]) (List.getElem?_eq_getElem hj)
    refine ⟨ts, some a, cap, by rw [← htl], by omega, by omega, fun hp => ?_, fun x hx => ?_⟩
    · obtain ⟨⟨c0, -⟩, -⟩ := hget 0 hp
      obtain ⟨b, off, spot⟩ := a
      have hspot : spot = none := by
        have := World.cell?_spot c0
        simpa [Addr.add] using this
      subst hspot
      refine ⟨b, off, rfl, ?_, fun j hj => ?_⟩
      · have := World.block_lt_of_cell? _ _ c0
        simpa [Addr.add] using this
      · obtain ⟨⟨c1, c2, c3⟩, -⟩ := hget j hj
        rw [Addr.add_lit] at c1 c2 c3
        rw [Addr.add_lit] at c2 c3
        exact ⟨c1, c2, c3⟩
    · obtain ⟨j, hj, rfl⟩ := List.mem_iff_getElem.1 hx
      exact (hget j hj).2
end
end Go.Proofs.YthicgffppmbamaaGreat

namespace Go.Proofs.YthicgffppmbamaaGreat
open Go.RowKit

theorem pickP_zero : pickP 0 7 = 0 := by decide
theorem failN_zero : failN 0 = 0 := by unfold failN; rw [pickP_zero]; rfl
/-- each round brings the end nearer -/
theorem round_less {d : Yp} {Jv : Pl.Sc → Nat → Nat → Nat → Prop} (hI : InvOk d Jv) {m m1 m2 : Pl.Sc} {N2 k k1 k2 F2 : Nat} (hs : m.state = 0) (hk2 : Jv m2 N2 k2 F2) (hN : N2 ≤ 100000000000) (ha : Acted d.gs 0 m m1 k k1) (ht : Took d.gs m1 m2 k1 k2) (h3 : (Pl.tick m2).state = 0) : Phi d.gs (Pl.tick m2) k2 + 1 ≤ Phi d.gs m k := by
  obtain ⟨-, t2, t3⟩ := hI.tick hk2 hN
  rw [t2] at h3
  have t3 := t3 h3
  have hm1 : m1.state = 0 ∧ ((m2 = m1 ∧ k2 = k1) ∨ Phi d.gs m2 k2 + 1 ≤ Phi d.gs m1 k1) := by
    rcases ht with ⟨rfl, rfl, -⟩ | ⟨h, -, h'⟩
    · exact ⟨h3, .inl ⟨rfl, rfl⟩⟩
    · exact ⟨h, .inr (h' h3).1⟩
  obtain ⟨h1, h2⟩ := hm1
  rcases ha pickP_zero with ⟨has, hto⟩ | ⟨-, rfl, hp⟩
  · rcases hto with ⟨rfl, rfl, hp⟩ | ⟨-, -, hp⟩
    · rcases h2 with ⟨rfl, rfl⟩ | h2
      · have hw : m2.waiting ≠ [] := fun e => hp hs (by unfold partsOf; rw [has, e]; rfl)
        have : 1 ≤ m2.waiting.length := by
          cases hwe : m2.waiting with
          | nil => exact absurd hwe hw
          | cons a b => simp
        omega
      · omega
    · have := (hp h1).1
      rcases h2 with ⟨rfl, rfl⟩ | h2 <;> omega
  · have := hp h1
    rcases h2 with ⟨rfl, rfl⟩ | h2 <;> omega

set_option maxRecDepth 20000 in
set_option maxHeartbeats 4000000 in
theorem finI_any (O : Nat → Prop) (d : Yp) (e : Ym) (col : Colr) (w : World) (Y X P : Nat) (m : Pl.Sc) (vs : List Value) (k N F : Nat) (Jv : Pl.Sc → Nat → Nat → Nat → Prop) (hI : InvOk d Jv) (hd : DOk d) (hk : Jv m N k F) (hy : YAt O d e col w Y X P m vs k) (hN : N ≤ 100000) :
    Calls Tryz.prog 17 #[PtrTo Y 0] w fun r w' => r = .returned (.bool true) ∧ ∃ col' vs' m' k' N', YAt (grow O w w') d e col' w' Y X P m' vs' k' ∧ Kp O w w' ∧ Jv m' N' k' F ∧ m'.state ≠ 0 ∧ N' ≤ N + 20000 := by
  go_enter Tryz.func17, Tryz.ntmps17
  go_wp2_with fail
  go_loopw [3] (fun i wr => ∃ (j : Nat) (col' : Colr) (vs' : List Value) (m' : Pl.Sc) (k' N' : Nat), i = .int .i64 j ∧ j ≤ 301 ∧ N' ≤ N + 32 * j ∧ YAt (grow O w wr) d e col' wr Y X P m' vs' k' ∧ Kp O w wr ∧ Jv m' N' k' F ∧ (m'.state = 0 → Phi d.gs m' k' + j ≤ 300)) (fun i _ => 400 - (intOf i).toNat)
  case atStart => exact ⟨0, col, vs, m, k, N, rfl, by omega, by omega, hy.mono (fun b hb => .inl hb), Kp.refl _ _, hk, fun hs => hI.phi hk hs⟩
  case round =>
    obtain ⟨j, col1, vs1, m1, k1, N1, rfl, hj, hN1, hy1, kO, hk1, hph⟩ := hrel
    have hj2 : (j : Int) < 2000 := by omega
    have c8 := hy1.blk.cell 8
    simp only [yCells, List.getElem?_cons_zero, List.getElem?_cons_succ] at c8
    have HST := hide (xState_any col1 wr X P m1 hy1.isX)
    have z1 := kO.size
    by_cases hs : m1.state = 0
    · rw [hs] at HST
      have hph := hph hs
      have HAC := hide (actI_any (grow O w wr) d e col1 wr Y X P m1 vs1 k1 N1 F 0 0 0 Jv hI (fun h => by rw [pickP_zero] at h; cases h) hd hk1 hy1 (by omega) ⟨by omega, by omega⟩ ⟨by omega, by omega⟩ ⟨by omega, by omega⟩)
      rw [failN_zero] at HAC
      go_wp2_with (first | (go_at_call 18; refine (unhide HST).mono ?_; rintro r w2 ⟨rfl, hw2⟩; rw [hw2]; clear hw2) | fail)
      refine (unhide HAC).mono ?_
      rintro r w2 ⟨rfl, col2, vs2, m2, k2, hy2, kO2, hk2, hac⟩
      clear HAC c8
      have HTK := hide (takesI_any _ d e col2 w2 Y X P m2 vs2 k2 (N1 + 24) F Jv hI hd hk2 hy2)
      go_wp2_with fail
      refine (unhide HTK).mono ?_
      rintro r w3 ⟨rfl, col3, vs3, k3, hy3, kO3, hk3, htk⟩
      clear HTK
      have c83 := hy3.blk.cell 8
      simp only [yCells, List.getElem?_cons_zero, List.getElem?_cons_succ] at c83
      generalize (Pl.next m2).1 = m3 at *
      have HTI := hide (gTick_any col3 w3 X P m3 (N1 + 24) ⟨hy3.isX, hI.good hk3⟩ (by omega))
      go_wp2_with fail
      refine (unhide HTI).mono ?_
      rintro r w4 ⟨rfl, col4, hX4, hW4⟩
      obtain ⟨hy4, kO4⟩ := hy3.scan hX4.1 hW4
      have z2 := kO2.size
      have z3 := kO3.size
      have z4 := kO4.size
      have hkt := hI.tick hk3 (by omega)
      have hless := round_less hI hs hk3 (by omega) hac htk
      have HH := hide (And.intro hy4 (And.intro kO4 (And.intro hkt hless)))
      clear hy4 kO4 hkt hless hX4 hW4 HTI c83
      go_wp2_with fail
      refine ⟨⟨j + 1, col4, vs3, Pl.tick m3, k3, N1 + 24 + 4, by go_num, by omega, by omega, ?_, ?_, HH.out.2.2.1.1, fun h => ?_⟩, by simp [intOf]; omega⟩
      · refine HH.out.1.mono (fun b hb => ?_)
        rcases hb with ((((hb | hb) | hb) | hb) | hb)
        · exact .inl hb
        · exact .inr (by omega)
        · exact .inr (by omega)
        · exact .inr (by omega)
        · exact .inr (by omega)
      · exact kO.grow (kO2.grow (kO3.grow HH.out.2.1))
      · have := HH.out.2.2.2 h
        omega
    · have hsi : ¬ (m1.state : Int) = 0 := by omega
      go_wp2_with (first | (go_at_call 18; refine (unhide HST).mono ?_; rintro r w2 ⟨rfl, hw2⟩; rw [hw2]; clear hw2) | fail)
      go_ret
      exact ⟨rfl, col1, vs1, m1, k1, N1, hy1, kO, hk1, hs, by omega⟩
theorem finishes_any (O : Nat → Prop) (d : Yp) (e : Ym) (col : Colr) (w : World) (Y X P : Nat) (m : Pl.Sc) (vs : List Value) (k N F : Nat) (hd : DOk d) (hk : KxD d m N k F) (hy : YAt O d e col w Y X P m vs k) (hN : N ≤ 100000) :
    Calls Tryz.prog 17 #[PtrTo Y 0] w fun r w' => r = .returned (.bool true) ∧ ∃ col' vs' m' k' N', YAt (grow O w w') d e col' w' Y X P m' vs' k' ∧ Kp O w w' ∧ KxD d m' N' k' F ∧ m'.state ≠ 0 ∧ N' ≤ N + 20000 := finI_any O d e col w Y X P m vs k N F (KxD d) (kxOk hd) hd hk hy hN
end Go.Proofs.YthicgffppmbamaaGreat

namespace Go.Proofs.YthicgffppmbamaaGreat
open Go.RowKit

theorem ypOf_dok (l : List Int) : DOk (ypOf l) := by
  have h := sSet_in l
  have hc := sCl_ok l
  refine ⟨ypOf_fl l, ?_, ?_, ?_, ?_, ?_, ?_, hc.2.2.2.1, hc.2.2.2.2⟩
  · show 1 ≤ 1 + _; omega
  · show 1 + _ ≤ 4; omega
  · show 1 ≤ 1 + _; omega
  · show 1 + _ ≤ 4; omega
  · show 1 ≤ 1 + _; omega
  · show 1 + _ ≤ 20; omega
/-- what is looked at, at the end -/
structure EndAt (d : Yp) (w : World) (Y X n : Nat) (nv gv : Value) (Lb : Nat) (va : Option Addr) (vc : Nat) : Prop where
  c0 : w.cell? ⟨Y, 0, none⟩ = some nv
  c1 : w.cell? ⟨Y, 1, none⟩ = some gv
  c5 : w.cell? ⟨Y, 5, none⟩ = some (.int .i64 (d.T : Int))
  c8 : w.cell? ⟨Y, 8, none⟩ = some (PtrTo X 0)
  c9 : w.cell? ⟨Y, 9, none⟩ = some (.slice (some ⟨Lb, 0, none⟩) d.cols.length d.cols.length)
  g0 : w.cell? ⟨Lb, 0, none⟩ = some (.slice va n vc)
theorem YAt.ends {O : Nat → Prop} {d : Yp} {e : Ym} {col : Colr} {w : World} {Y X P : Nat} {m : Pl.Sc} {vs : List Value} {k : Nat} (h : YAt O d e col w Y X P m vs k) (hd : DOk d) (hk : k ≤ totalOf d.gs) : ∃ (na : Option Addr) (nn nc : Nat) (ga : Option Addr) (gn gc : Nat) (va : Option Addr) (vc : Nat), e.nv = .slice na nn nc ∧ e.gv = .slice ga gn gc ∧ EndAt d w Y X k (.slice na nn nc) (.slice ga gn gc) e.Lb va vc := by
  obtain ⟨na, nn, nc, hnvE⟩ := slice_of h.nam
  obtain ⟨gvs, hgr, -, -⟩ := id h.tab
  obtain ⟨ga, gn, gc, hgvE⟩ := slice_of hgr
  have hvl : vs.length = d.cols.length := by rw [h.got.len]; unfold gotOf; simp
  have hc1 := hd.c1
  have hgo := h.got.own 0 vs[0] ((colOf d.gs d.cols 0).take k) (List.getElem?_eq_getElem (by omega)) (by rw [← gotMid_zero d k 0, gotMid_at d k 0 0 0 (by omega)]; rfl)
  have hgb := h.got.blk.cell 0
  rw [List.getElem?_eq_getElem (by omega)] at hgb
  obtain ⟨va, vc, hv, -⟩ := hgo.shape
  have hl : ((colOf d.gs d.cols 0).take k).length = k := by rw [List.length_take, colOf_len hd 0 (by omega)]; omega
  rw [hl] at hv
  rw [hv] at hgb
  refine ⟨na, nn, nc, ga, gn, gc, va, vc, hnvE, hgvE, ?_, ?_, ?_, ?_, ?_, hgb⟩
  · have := h.blk.cell 0; simp only [yCells, List.getElem?_cons_zero, hnvE] at this; exact this
  · have := h.blk.cell 1; simp only [yCells, List.getElem?_cons_zero, List.getElem?_cons_succ, hgvE] at this; exact this
  · have := h.blk.cell 5; simp only [yCells, I, List.getElem?_cons_zero, List.getElem?_cons_succ] at this; exact this
  · have := h.blk.cell 8; simp only [yCells, List.getElem?_cons_zero, List.getElem?_cons_succ] at this; exact this
  · have := h.blk.cell 9; simp only [yCells, List.getElem?_cons_zero, List.getElem?_cons_succ] at this; exact this
theorem YAt.total {O : Nat → Prop} {d : Yp} {e : Ym} {col : Colr} {w : World} {Y X P : Nat} {m : Pl.Sc} {vs : List Value} {k : Nat} (h : YAt O d e col w Y X P m vs k) (hd : DOk d) (u : World) (hu : Ext w u) : Calls Tryz.prog 19 #[.agg #[e.nv, e.gv]] u fun r w' => r = .returned (.int .i64 (totalOf d.gs : Nat)) ∧ Ext u w' := by
  obtain ⟨hg6, hgi⟩ := hd.grp
  obtain ⟨na, nn, nc, hnvE⟩ := slice_of h.nam
  exact total_any (Low e Y) u e.nv e.gv d.gs ⟨na, nn, nc, hnvE⟩ (h.tab.kept hu (fun _ _ f => f)) hg6 (fun G hG => ⟨(hgi G hG).2.1, (hgi G hG).2.2⟩)

end Go.Proofs.YthicgffppmbamaaGreat

namespace Go.Proofs.YthicgffppmbamaaGreat
open Pl
theorem mul_back (x : Nat) (h : x < 4294967296) : (x * 16777619 % 4294967296) * 899433627 % 4294967296 = x := by
  rw [Nat.mod_mul_mod, Nat.mul_assoc, show 16777619 * 899433627 = 4294967296 * (16777619 * 899433627 / 4294967296) + 1 by decide, Nat.mul_add, Nat.mul_one, ← Nat.mul_assoc, Nat.mul_comm x 4294967296, Nat.mul_assoc, Nat.mul_add_mod, Nat.mod_eq_of_lt h]
theorem sumStep_inj {h h' : Nat} {b b' : UInt8} (hh : h < 4294967296) (hh' : h' < 4294967296) (e : sumStep h b = sumStep h' b') : h ^^^ b.toNat = h' ^^^ b'.toNat := by
  unfold sumStep at e
  have lt : ∀ (x : Nat) (c : UInt8), x < 4294967296 → x ^^^ c.toNat < 4294967296 := fun x c hx => Nat.xor_lt_two_pow (n := 32) hx (by have := c.toNat_lt; omega)
  have h1 := mul_back _ (lt h b hh)
  have h2 := mul_back _ (lt h' b' hh')
  rw [e] at h1
  exact h1.symm.trans h2
theorem sumStep_lt (h : Nat) (b : UInt8) : sumStep h b < 4294967296 := Nat.mod_lt _ (by omega)
theorem sumFrom_inj : ∀ (l : List UInt8) {h h' : Nat}, h < 4294967296 → h' < 4294967296 → sumFrom h l = sumFrom h' l → h = h'
  | [], _, _, _, _, e => e
  | b :: r, h, h', hh, hh', e => by
    have h1 : sumStep h b = sumStep h' b := sumFrom_inj r (sumStep_lt _ _) (sumStep_lt _ _) e
    have h2 := sumStep_inj hh hh' h1
    have h3 := congrArg (· ^^^ b.toNat) h2
    simpa [Nat.xor_assoc, Nat.xor_self] using h3
theorem sumFrom_append : ∀ (A B : List UInt8) (h : Nat), sumFrom h (A ++ B) = sumFrom (sumFrom h A) B
  | [], _, _ => rfl
  | a :: r, B, h => sumFrom_append r B (sumStep h a)
theorem sumFrom_lt : ∀ (l : List UInt8) (h : Nat), h < 4294967296 → sumFrom h l < 4294967296
  | [], _, hh => hh
  | b :: r, h, _ => sumFrom_lt r _ (sumStep_lt h b)
/-- one turned byte turns the sum -/
theorem sumOf_turned (A B : List UInt8) (b b' : UInt8) (hb : b ≠ b') : sumOf (A ++ b :: B) ≠ sumOf (A ++ b' :: B) := fun e => by
  unfold sumOf at e
  rw [sumFrom_append, sumFrom_append] at e
  have h1 : sumStep (sumFrom 2166136261 A) b = sumStep (sumFrom 2166136261 A) b' := sumFrom_inj B (sumStep_lt _ _) (sumStep_lt _ _) e
  have hl := sumFrom_lt A 2166136261 (by omega)
  have h2 := sumStep_inj hl hl h1
  have h3 := congrArg (sumFrom 2166136261 A ^^^ ·) h2
  simp only [← Nat.xor_assoc, Nat.xor_self, Nat.zero_xor] at h3
  exact hb (UInt8.toNat_inj.1 h3)
end Go.Proofs.YthicgffppmbamaaGreat

namespace Go.Proofs.YthicgffppmbamaaGreat
open Pl

theorem putsF_none {p : Piece} {data : List UInt8} {x : WPage} (hx : readW p x data = none) : ∀ (pages : List WPage) (r : Rw), x ∈ pages → putsF p data pages r = none
  | [], _, h => by cases h
  | y :: t, r, h => by
    unfold putsF
    cases hy : readW p y data with
    | none => rfl
    | some l =>
      rcases List.mem_cons.1 h with rfl | h
      · rw [hx] at hy; cases hy
      · exact putsF_none hx t _ h
/-- a piece has a page at its first byte -/
def Headed (p : Piece) : Prop := ∃ x t, p.pages = x :: t ∧ p.place = x.page.place
theorem joinS_headed (gap : Nat) (L : List Piece) (x : WPage) (h : ∀ p ∈ L, Headed p) : ∀ p ∈ joinS gap L x, Headed p := by
  unfold joinS
  cases hl : L.getLast? with
  | none => intro p hp; obtain rfl := List.mem_singleton.1 hp; exact ⟨x, [], rfl, rfl⟩
  | some q =>
    have hq := List.mem_of_getLast? hl
    simp only
    split
    · intro p hp
      rcases List.mem_append.1 hp with hp | hp
      · exact h p (List.dropLast_subset _ hp)
      · obtain rfl := List.mem_singleton.1 hp
        obtain ⟨y, t, e1, e2⟩ := h q hq
        exact ⟨y, t ++ [x], by simp [e1], e2⟩
    · intro p hp
      rcases List.mem_append.1 hp with hp | hp
      · exact h p hp
      · obtain rfl := List.mem_singleton.1 hp; exact ⟨x, [], rfl, rfl⟩
theorem joinF_headed (gap : Nat) : ∀ (l : List WPage) (L : List Piece), (∀ p ∈ L, Headed p) → ∀ p ∈ l.foldl (joinS gap) L, Headed p
  | [], _, h => h
  | x :: l, L, h => by rw [List.foldl_cons]; exact joinF_headed gap l _ (joinS_headed gap L x h)
theorem piecesTo_headed (gap : Nat) (cols : List Nat) (gs : List FGroup) : ∀ k p, p ∈ piecesTo gap cols gs k → Headed p
  | 0, p, h => by cases h
  | k + 1, p, h => by
    rcases List.mem_append.1 h with h | h
    · exact piecesTo_headed gap cols gs k p h
    · exact joinF_headed gap _ [] (fun p hp => by cases hp) p h
theorem piecesTo_one (gap : Nat) (cols : List Nat) (gs : List FGroup) (hc : cols.length = 1) : ∀ k p, p ∈ piecesTo gap cols gs k → ∃ x, p = ⟨x.page.place, x.page.length, [x]⟩
  | 0, p, h => by cases h
  | k + 1, p, h => by
    rcases List.mem_append.1 h with h | h
    · exact piecesTo_one gap cols gs hc k p h
    · unfold piecesG wantedRaw at h
      rw [hc] at h
      obtain rfl := List.mem_singleton.1 h
      exact ⟨_, rfl⟩
/-- one other byte of a page: it is not read -/
theorem readW_turned {p : Piece} {x : WPage} {data : List UInt8} {l : List Int} (h : readW p x data = some l) (k : Nat) (b : UInt8) (h1 : x.page.place - p.place ≤ k) (h2 : k < x.page.place - p.place + x.page.length) (hk : k < data.length) (hb : data[k] ≠ b) : readW p x (data.set k b) = none := by
  unfold readW at h ⊢
  split at h
  case isTrue hs =>
    rw [if_neg]
    intro e
    rw [← hs] at e
    have hl : (pageOf p x data).length = min x.page.length (data.length - (x.page.place - p.place)) := by unfold pageOf; rw [List.length_take, List.length_drop]
    have hj : k - (x.page.place - p.place) < (pageOf p x data).length := by omega
    have hset : pageOf p x (data.set k b) = (pageOf p x data).set (k - (x.page.place - p.place)) b := by
      unfold pageOf
      rw [List.drop_set, if_neg (by omega), List.take_set]
    have hget : (pageOf p x data)[k - (x.page.place - p.place)] = data[k] := by
      have h1 : (pageOf p x data)[k - (x.page.place - p.place)]? = data[k]? := by
        unfold pageOf
        rw [List.getElem?_take, if_pos (by omega), List.getElem?_drop]
        congr 1
        omega
      rw [List.getElem?_eq_getElem hj, List.getElem?_eq_getElem hk] at h1
      exact Option.some.inj h1
    have hsp : pageOf p x data = (pageOf p x data).take (k - (x.page.place - p.place)) ++ data[k] :: (pageOf p x data).drop (k - (x.page.place - p.place) + 1) := by
      rw [← hget, List.getElem_cons_drop, List.take_append_drop]
    have hsp2 : pageOf p x (data.set k b) = (pageOf p x data).take (k - (x.page.place - p.place)) ++ b :: (pageOf p x data).drop (k - (x.page.place - p.place) + 1) := by
      rw [hset, List.set_eq_take_append_cons_drop, if_pos hj]
    generalize (pageOf p x data).take (k - (x.page.place - p.place)) = A at *
    generalize (pageOf p x data).drop (k - (x.page.place - p.place) + 1) = B at *
    rw [hsp2, hsp] at e
    exact sumOf_turned A B _ _ hb e.symm
  case isFalse => cases h
section
variable {d : Yp} {want : List (List UInt8)}
/-- the scan, behind none, one, two answers -/
def hm0 (d : Yp) (want : List (List UInt8)) : Sc := { size := d.file.length, want := keepNames want, win := d.W, tries := d.T, nrows := d.R, gap := d.G }
def hm1 (d : Yp) (want : List (List UInt8)) : Sc := { hm0 d want with lastId := 1, asked := [(1, ⟨d.file.length - 6, 6, [], 0, .tail⟩)] }
def hm2 (d : Yp) (want : List (List UInt8)) : Sc := { hm0 d want with lastId := 2, asked := [(2, ⟨(parts d.names d.gs).1.length, (parts d.names d.gs).2.length, [], 0, .footer⟩)] }
def hm3 (d : Yp) (want : List (List UInt8)) : Sc := Pl.askAhead { hm0 d want with lastId := 2, rows := rwNew d.cols.length ((fgroupsOf 4 d.gs).map (·.rows)), ahead := piecesOf d.G d.cols (fgroupsOf 4 d.gs) }
theorem hm_open (h : 10 ≤ d.file.length) : openSc d.file.length want d.W d.T d.R d.G = hm1 d want := by
  unfold openSc
  rw [if_neg (by omega)]
  rfl
theorem next_left {m : Sc} (h : m.rows.left = 0) : Pl.next m = (m, none) := by
  have : rwNext m.rows m.nrows = (none, m.rows) := by
    unfold rwNext
    rw [if_pos (.inl (by unfold rwCount; rw [h]; exact Nat.min_zero _))]
  unfold Pl.next
  rw [this]
theorem next_ready {m : Sc} (h : rwReady m.rows = 0) : Pl.next m = (m, none) := by
  have : rwNext m.rows m.nrows = (none, m.rows) := by
    unfold rwNext
    rw [if_pos (by omega)]
  unfold Pl.next
  rw [this]
theorem hm_len (d : Yp) : d.file.length = (parts d.names d.gs).1.length + (parts d.names d.gs).2.length + 6 ∧ 1 ≤ (parts d.names d.gs).2.length ∧ 4 ≤ (parts d.names d.gs).1.length := by
  refine ⟨whole_len (parts d.names d.gs), ?_, ?_⟩
  · unfold parts
    rw [addGs_eq]
    simp only [List.length_append]
    have := vint_pos d.names.length
    omega
  · obtain ⟨R, -, hp1⟩ := whole_eq d.names d.gs
    rw [hp1, List.length_append]; have : Pl.mark.length = 4 := rfl; omega
theorem hm_one (hd : DOk d) : Pl.answer (hm1 d want) 1 (bytesAt d.file (d.file.length - 6) 6) = (hm2 d want, 0) := by
  obtain ⟨h1, h2, h3⟩ := hm_len d
  have h4 : d.file.length ≤ 4000 := ft_len hd.fl.ok
  have hbl := bytesAt_len d.file (d.file.length - 6) 6 (by omega)
  have hf : findId (hm1 d want).asked 1 = some 0 := rfl
  unfold Pl.answer
  rw [hf]
  simp only
  have hp : Pl.partAt (hm1 d want) 0 = ⟨d.file.length - 6, 6, [], 0, .tail⟩ := rfl
  rw [hp, hbl]
  rw [if_neg (by show ¬ 6 - 0 < 6; omega), if_neg (by omega)]
  unfold Pl.partCame
  rw [hbl, if_neg (by show ¬ 0 + 6 < 6; omega)]
  show (tailCame _ (bytesAt d.file (d.file.length - 6) 6), (0 : Int)) = _
  have hw : bytesAt d.file (d.file.length - 6) 6 = [UInt8.ofNat ((parts d.names d.gs).2.length / 256), UInt8.ofNat ((parts d.names d.gs).2.length % 256)] ++ Pl.mark := whole_tail _
  rw [hw]
  unfold tailCame
  have hsz : (takeAt (hm1 d want) 0).size = d.file.length := rfl
  rw [hsz, tail_read _ _ h2 (by omega) h4]
  simp only
  rw [show d.file.length - 6 - (parts d.names d.gs).2.length = (parts d.names d.gs).1.length by omega]
  rfl
theorem hm_two (hd : DOk d) (hc : columns d.names (keepNames want) = some d.cols) : Pl.answer (hm2 d want) 2 (bytesAt d.file (parts d.names d.gs).1.length (parts d.names d.gs).2.length) = (if d.gs = [] then ended 1 else hm3 d want, 0) := by
  obtain ⟨h1, h2, h3⟩ := hm_len d
  have h4 : d.file.length ≤ 4000 := ft_len hd.fl.ok
  have hbl := bytesAt_len d.file (parts d.names d.gs).1.length (parts d.names d.gs).2.length (by omega)
  have hf : findId (hm2 d want).asked 2 = some 0 := rfl
  unfold Pl.answer
  rw [hf]
  simp only
  have hp : Pl.partAt (hm2 d want) 0 = ⟨(parts d.names d.gs).1.length, (parts d.names d.gs).2.length, [], 0, .footer⟩ := rfl
  rw [hp, hbl]
  rw [if_neg (by show ¬ (parts d.names d.gs).2.length - 0 < (parts d.names d.gs).2.length; omega), if_neg (by omega)]
  unfold Pl.partCame
  rw [hbl, if_neg (by show ¬ 0 + (parts d.names d.gs).2.length < (parts d.names d.gs).2.length; omega)]
  show (footerCame _ (bytesAt d.file _ _), (0 : Int)) = _
  have hw : bytesAt d.file (parts d.names d.gs).1.length (parts d.names d.gs).2.length = (parts d.names d.gs).2 := whole_foot _
  rw [hw]
  unfold footerCame
  have hsz : (takeAt (hm2 d want) 0).size = d.file.length := rfl
  rw [hsz, show d.file.length - 6 - (parts d.names d.gs).2.length = (parts d.names d.gs).1.length by omega, footer_read d.names d.gs hd.fl.ok (by omega)]
  simp only
  have hwa : (takeAt (hm2 d want) 0).want = keepNames want := rfl
  rw [hwa, hc]
  simp only
  rw [fgroupsOf_length]
  by_cases hg : d.gs = []
  · rw [if_pos hg, hg]; rfl
  · rw [if_neg hg, if_neg (fun h => hg (List.eq_nil_of_length_eq_zero h))]; rfl
theorem joinS_ne (gap : Nat) (L : List Piece) (x : WPage) : joinS gap L x ≠ [] := by
  unfold joinS
  cases L.getLast? with
  | none => simp
  | some q => simp only; split <;> simp
theorem joinF_ne (gap : Nat) : ∀ (l : List WPage) (L : List Piece), L ≠ [] ∨ l ≠ [] → l.foldl (joinS gap) L ≠ []
  | [], _, h => by simpa using h
  | x :: l, L, _ => by rw [List.foldl_cons]; exact joinF_ne gap l _ (.inl (joinS_ne gap L x))
theorem piecesTo_ne (gap : Nat) (cols : List Nat) (gs : List FGroup) (hc : 1 ≤ cols.length) (k : Nat) : piecesTo gap cols gs (k + 1) ≠ [] := by
  show _ ++ piecesG gap cols k _ ≠ []
  intro h
  have h2 := (List.append_eq_nil_iff.1 h).2
  refine joinF_ne gap _ [] (.inr ?_) h2
  intro e
  have := (sortW_perm (wantedRaw k (gs.getD k default) cols)).length_eq
  rw [e] at this
  simp [wantedRaw] at this
  omega
theorem aheadF_asked : ∀ (f : Nat) (m : Sc), ∃ t, (askAheadF f m).asked = m.asked ++ t
  | 0, m => ⟨[], by simp [askAheadF]⟩
  | f + 1, m => by
    unfold askAheadF
    cases m.ahead with
    | nil => exact ⟨[], by simp⟩
    | cons p r =>
      simp only
      split
      · obtain ⟨t, ht⟩ := aheadF_asked f (fetch { m with ahead := r, opened := m.opened + 1 } p.place p.length (.piece p))
        rw [ht]
        exact ⟨(m.lastId + 1, ⟨p.place, p.length, [], 0, .piece p⟩) :: t, by simp [fetch, Pl.ask]⟩
      · exact ⟨[], by simp⟩
theorem hm3_head (hd : DOk d) (hg : d.gs ≠ []) : ∃ p t, p ∈ piecesOf d.G d.cols (fgroupsOf 4 d.gs) ∧ (hm3 d want).asked = (3, ⟨p.place, p.length, [], 0, .piece p⟩) :: t := by
  have hl : (fgroupsOf 4 d.gs).length = d.gs.length := fgroupsOf_length _ _
  have hne : piecesOf d.G d.cols (fgroupsOf 4 d.gs) ≠ [] := by
    unfold piecesOf
    cases hq : (fgroupsOf 4 d.gs).length with
    | zero => exact absurd (List.eq_nil_of_length_eq_zero (hl.symm.trans hq)) hg
    | succ k => exact piecesTo_ne _ _ _ hd.c1 k
  unfold hm3 Pl.askAhead
  show ∃ p t, p ∈ piecesOf d.G d.cols (fgroupsOf 4 d.gs) ∧ (askAheadF (piecesOf d.G d.cols (fgroupsOf 4 d.gs)).length { hm0 d want with lastId := 2, rows := rwNew d.cols.length ((fgroupsOf 4 d.gs).map (·.rows)), ahead := piecesOf d.G d.cols (fgroupsOf 4 d.gs) }).asked = _
  cases hp : piecesOf d.G d.cols (fgroupsOf 4 d.gs) with
  | nil => exact absurd hp hne
  | cons p r =>
    rw [List.length_cons]
    unfold askAheadF
    simp only
    have hw : (0 : Nat) < d.W := hd.W1
    have : (hm0 d want).opened < (hm0 d want).win := hw
    rw [if_pos this]
    obtain ⟨t, ht⟩ := aheadF_asked r.length (fetch { hm0 d want with lastId := 2, rows := rwNew d.cols.length ((fgroupsOf 4 d.gs).map (·.rows)), ahead := r, opened := (hm0 d want).opened + 1 } p.place p.length (.piece p))
    refine ⟨p, t, List.mem_cons_self .., ?_⟩
    rw [ht]
    rfl
theorem hm3_next (hd : DOk d) : Pl.next (hm3 d want) = (hm3 d want, none) := by
  refine next_ready ?_
  have hr : (hm3 d want).rows = rwNew d.cols.length ((fgroupsOf 4 d.gs).map (·.rows)) := askAheadF_rows _ _
  rw [hr]
  unfold rwReady
  have : readyF (rwNew d.cols.length ((fgroupsOf 4 d.gs).map (·.rows))).groups = 0 := by
    show readyF (((fgroupsOf 4 d.gs).map (·.rows)).map fun n => ⟨n, List.replicate d.cols.length [], d.cols.length⟩) = 0
    cases (fgroupsOf 4 d.gs).map (·.rows) with
    | nil => rfl
    | cons a r =>
      rw [List.map_cons]
      unfold readyF
      rw [if_pos (by have := hd.c1; show 0 < d.cols.length; omega)]
  rw [this]
  exact Nat.zero_sub _
/-- how far it is: Harmed's rounds -/
def Hq (d : Yp) (want : List (List UInt8)) : Nat → Sc → Prop
  | 0, m => m = hm1 d want ∧ KxD d m 100 0 0
  | 1, m => m = hm2 d want ∧ KxD d m 100 0 0
  | 2, m => (d.gs = [] ∧ m = ended 1) ∨ (d.gs ≠ [] ∧ m = hm3 d want ∧ KxD d m 100 0 0)
  | 3, m => d.gs ≠ [] ∧ m = ended 2
  | _, _ => False
/-- a round of it: what is asked for first, what its answer makes of it -/
structure Hr (d : Yp) (want : List (List UInt8)) (m : Sc) (j : Nat) (pt : Part) : Prop where
  state : m.state = 0
  few : j ≤ 2
  head : ∃ t, m.asked = (j + 1, pt) :: t
  data : pt.data = []
  one : 1 ≤ pt.length
  ends : pt.place + pt.length ≤ d.file.length
  next : Pl.next m = (m, none)
  kx : KxD d m 100 0 0
  good : j < 2 → ∃ m', Pl.answer m ((j + 1 : Nat) : Int) (bytesAt d.file pt.place pt.length) = (m', 0) ∧ Hq d want (j + 1) m'
  bad : j = 2 → d.gs ≠ [] ∧ ∀ (k : Nat) (b : UInt8), k = 0 ∨ d.cols.length = 1 → ∀ (hk : k < (bytesAt d.file pt.place pt.length).length), (bytesAt d.file pt.place pt.length)[k] ≠ b → Pl.answer m 3 ((bytesAt d.file pt.place pt.length).set k b) = (ended 2, 0)
theorem Hq.start (h : KxD d (hm1 d want) 1 0 0) : Hq d want 0 (hm1 d want) := ⟨rfl, h.mono (by omega)⟩
theorem kx_k {m : Sc} {N k F : Nat} (h : KxD d m N k F) (hs : m.state = 0) (hk : posOf d.gs m.rows = 0) : KxD d m N 0 F := by
  have := (h.going hs).2.2
  rw [hk] at this
  rw [← this]; exact h
theorem Hq.round (hd : DOk d) (hc : columns d.names (keepNames want) = some d.cols) {j : Nat} {m : Sc} (h : Hq d want j m) : (j = 2 ∧ d.gs = [] ∧ m = ended 1) ∨ (j = 3 ∧ d.gs ≠ [] ∧ m = ended 2) ∨ ∃ pt, Hr d want m j pt := by
  obtain ⟨h1, h2, h3⟩ := hm_len d
  match j, h with
  | 0, h =>
    obtain ⟨rfl, hk⟩ := h
    refine .inr (.inr ⟨⟨d.file.length - 6, 6, [], 0, .tail⟩, rfl, by omega, ⟨[], rfl⟩, rfl, by show 1 ≤ 6; omega, by show d.file.length - 6 + 6 ≤ _; omega, next_left rfl, hk, fun _ => ⟨_, hm_one hd, rfl, ?_⟩, fun h => by omega⟩)
    have hk1 : KxD d (hm1 d want) 1 0 0 := by
      obtain ⟨hg, a, b⟩ := hk.going rfl
      exact ⟨.inr ⟨⟨{ hg.core with lastId := Nat.le_refl 1 }, hg.ticks⟩, a, b⟩, hk.ids, hk.within, hk.mo⟩
    have := (hk1.answer hd.fl 1 0 6 rfl (by omega) (by show 6 ≤ 6 - 0; omega)).2.1
    have e : Pl.answer (hm1 d want) 1 (bytesAt (Ft d.names d.gs) ((Pl.partAt (hm1 d want) 0).place + (Pl.partAt (hm1 d want) 0).data.length) 6) = (hm2 d want, 0) := hm_one hd
    rw [e] at this
    exact this.mono (by omega)
  | 1, h =>
    obtain ⟨rfl, hk⟩ := h
    refine .inr (.inr ⟨⟨(parts d.names d.gs).1.length, (parts d.names d.gs).2.length, [], 0, .footer⟩, rfl, by omega, ⟨[], rfl⟩, rfl, h2, by show (parts d.names d.gs).1.length + (parts d.names d.gs).2.length ≤ d.file.length; omega, next_left rfl, hk, fun _ => ⟨_, hm_two hd hc, ?_⟩, fun h => by omega⟩)
    have hk1 : KxD d (hm2 d want) 2 0 0 := by
      obtain ⟨hg, a, b⟩ := hk.going rfl
      exact ⟨.inr ⟨⟨{ hg.core with lastId := Nat.le_refl 2 }, hg.ticks⟩, a, b⟩, hk.ids, hk.within, hk.mo⟩
    have := (hk1.answer hd.fl 2 0 (parts d.names d.gs).2.length rfl h2 (by show _ ≤ _ - 0; exact Nat.le_refl _)).2.1
    have e : Pl.answer (hm2 d want) 2 (bytesAt (Ft d.names d.gs) ((Pl.partAt (hm2 d want) 0).place + (Pl.partAt (hm2 d want) 0).data.length) (parts d.names d.gs).2.length) = (if d.gs = [] then ended 1 else hm3 d want, 0) := hm_two hd hc
    rw [e] at this
    by_cases hg : d.gs = []
    · rw [if_pos hg]; exact .inl ⟨hg, rfl⟩
    · rw [if_neg hg]
      simp only [if_neg hg] at this
      exact .inr ⟨hg, rfl, this.mono (by omega)⟩
  | 2, h =>
    rcases h with ⟨hg, rfl⟩ | ⟨hg, rfl, hk⟩
    · exact .inl ⟨rfl, hg, rfl⟩
    obtain ⟨p, t, hp, ha⟩ := hm3_head (want := want) hd hg
    have hlt : 0 < (hm3 d want).asked.length := by rw [ha]; simp
    have hs := hk.going_of_asked hlt
    obtain ⟨hgo, hrt, -⟩ := hk.going hs
    have hmem : (⟨p.place, p.length, [], 0, .piece p⟩ : Part) ∈ partsOf (hm3 d want) := by unfold partsOf; rw [ha]; simp
    have hpt := hgo.core.parts _ hmem
    have hpc := (hpt.piece p rfl).2
    have hin := hk.within.part 0 hlt
    have hp0 : Pl.partAt (hm3 d want) 0 = ⟨p.place, p.length, [], 0, .piece p⟩ := by unfold Pl.partAt; rw [ha]; rfl
    rw [hp0, hk.size hs] at hin
    have hin : p.place + p.length ≤ d.file.length := hin
    refine .inr (.inr ⟨_, hs, by omega, ⟨t, ha⟩, rfl, hpc.len, hin, hm3_next hd, hk, fun h => by omega, fun _ => ⟨hg, fun k b hkc hkl hb => ?_⟩⟩)
    simp only at hkl hb ⊢
    have hbl := bytesAt_len d.file p.place p.length hin
    have hfi : findId (hm3 d want).asked 3 = some 0 := by rw [ha]; rfl
    unfold Pl.answer
    rw [hfi]
    simp only
    rw [hp0, List.length_set, hbl]
    have := hpc.len
    rw [if_neg (by show ¬ p.length - 0 < p.length; omega), if_neg (by omega)]
    unfold Pl.partCame
    rw [List.length_set, hbl, if_neg (by show ¬ 0 + p.length < p.length; omega)]
    show (pieceCame _ p ((bytesAt d.file p.place p.length).set k b), (0 : Int)) = _
    have hx : ∃ x ∈ p.pages, readW p x ((bytesAt d.file p.place p.length).set k b) = none := by
      have hraw : ∀ x ∈ p.pages, x ∈ allRaw d.cols (fgroupsOf 4 d.gs) d.gs.length := fun x hx => by
        have := (piecesTo_perm d.G d.cols (fgroupsOf 4 d.gs) (fgroupsOf 4 d.gs).length).mem_iff.1 (List.mem_flatMap.2 ⟨p, hp, hx⟩)
        rw [fgroupsOf_length] at this
        exact this
      have hread : ∀ x ∈ p.pages, readW p x (bytesAt d.file p.place p.length) = some (valOf d.gs d.cols x.group x.column) := fun x hx => by
        have hpg := hpc.pages x hx
        exact read_right hd.fl.ok hd.fl.cols (hraw x hx) p p.length hpg.first hpg.ends
      rcases hkc with rfl | h1c
      · obtain ⟨x, t', e1, e2⟩ := piecesTo_headed _ _ _ _ p hp
        have hx : x ∈ p.pages := by rw [e1]; simp
        refine ⟨x, hx, readW_turned (hread x hx) 0 b (by omega) ?_ hkl hb⟩
        have := (hpc.pages x hx).len
        omega
      · obtain ⟨x, rfl⟩ := piecesTo_one _ _ _ h1c _ p hp
        have hx : x ∈ ([x] : List WPage) := by simp
        refine ⟨x, hx, readW_turned (hread x hx) k b ?_ ?_ hkl hb⟩
        · show x.page.place - x.page.place ≤ k; omega
        · rw [hbl] at hkl
          have hkl : k < x.page.length := hkl
          show k < x.page.place - x.page.place + x.page.length; omega
    obtain ⟨x, hx, hnone⟩ := hx
    unfold pieceCame
    rw [putsF_none hnone _ _ hx]
  | 3, h => exact .inr (.inl ⟨rfl, h.1, h.2⟩)
  | j + 4, h => exact h.elim
end
end Go.Proofs.YthicgffppmbamaaGreat

namespace Go.Proofs.YthicgffppmbamaaGreat
open Go.RowKit

theorem conv1k (x : Int) (hx : 0 ≤ x) (hx2 : x < 256) : ∀ (u : World) (a : Addr), u.cell? a = some (.int .u8 x) → (convert 76 9 (.slice (some a) 1 1)).run Tryz.prog u = .ok (.string ⟨[UInt8.ofNat x.toNat].toArray⟩) u := by
  intro u a h
  have hb : (UInt8.ofNat x.toNat).toNat = x.toNat := by rw [UInt8.toNat_ofNat', Nat.mod_eq_of_lt (by omega)]
  refine run_convert_bytes_back (P := Tryz.prog) u _ _ 5 a 1 [UInt8.ofNat x.toNat] Tryz.underlying76 Tryz.underlying5 Tryz.underlying9 (fun j hj => ?_)
  have hj0 : j = 0 := by simp at hj; omega
  subst hj0
  rw [show a.add 0 = a by simp [Addr.add], h]
  simp only [List.getElem_cons_zero]
  rw [hb, Int.toNat_of_nonneg hx]
theorem xor_u8 (a b : Nat) (ha : a < 256) (hb : b < 256) : bits .xor .u8 (a : Int) (b : Int) = ((a ^^^ b : Nat) : Int) := by
  have hx : a ^^^ b < 2 ^ 8 := Nat.xor_lt_two_pow (by omega) (by omega)
  have h1 : (BitVec.ofInt 8 (a : Int)).toNat = a := by
    rw [BitVec.ofInt_natCast, BitVec.toNat_ofNat]; exact Nat.mod_eq_of_lt (by omega)
  have h2 : (BitVec.ofInt 8 (b : Int)).toNat = b := by
    rw [BitVec.ofInt_natCast, BitVec.toNat_ofNat]; exact Nat.mod_eq_of_lt (by omega)
  show IntKind.u8.wrap ((BitVec.ofInt 8 (a : Int) ^^^ BitVec.ofInt 8 (b : Int)).toNat : Int) = _
  rw [BitVec.toNat_xor, h1, h2]
  simp only [IntKind.wrap, IntKind.bits, IntKind.signed]
  simp
  omega
theorem turn_byte (c : UInt8) (pb : Nat) (h : pb < 255) : ∃ xb : Nat, bits .xor .u8 (c.toNat : Int) (IntKind.u8.wrap (IntKind.i64.wrap (1 + (pb : Int)))) = (xb : Int) ∧ xb < 256 ∧ c ≠ UInt8.ofNat xb := by
  have hc := c.toNat_lt
  have e : IntKind.u8.wrap (IntKind.i64.wrap (1 + (pb : Int))) = ((1 + pb : Nat) : Int) := by simp [IntKind.wrap, IntKind.bits, IntKind.signed]; omega
  have hx : c.toNat ^^^ (1 + pb) < 2 ^ 8 := Nat.xor_lt_two_pow (by omega) (by omega)
  refine ⟨c.toNat ^^^ (1 + pb), by rw [e]; exact xor_u8 _ _ (by omega) (by omega), by omega, fun h0 => ?_⟩
  have h1 := congrArg UInt8.toNat h0
  rw [UInt8.toNat_ofNat', Nat.mod_eq_of_lt (by omega)] at h1
  have h2 : c.toNat ^^^ c.toNat = c.toNat ^^^ (c.toNat ^^^ (1 + pb)) := by rw [← h1]
  rw [Nat.xor_self, ← Nat.xor_assoc, Nat.xor_self, Nat.zero_xor] at h2
  omega
theorem turn_cat (S : List UInt8) (k : Nat) (b : UInt8) (h : k < S.length) : (ByteArray.mk S.toArray).extract 0 k ++ ⟨#[b]⟩ ++ (ByteArray.mk S.toArray).extract (k + 1) S.length = ⟨(S.set k b).toArray⟩ := by
  apply ByteArray.ext
  rw [ByteArray.data_append, ByteArray.data_append, ByteArray.data_extract, ByteArray.data_extract]
  apply Array.ext'
  simp only [Array.toList_append, Array.toList_extract, List.extract_eq_take_drop, List.drop_zero, Nat.sub_zero]
  rw [List.set_eq_take_append_cons_drop, if_pos h]
  rw [List.take_of_length_le (l := S.drop (k + 1)) (by rw [List.length_drop]; omega)]
  simp
theorem sWn_cols (l : List Int) : Pl.columns (ypOf l).names (Pl.keepNames (sWn l)) = some (ypOf l).cols := by
  have hc := sCl_ok l
  have : Pl.keepNames (sWn l) = sWn l := by unfold Pl.keepNames; rw [if_pos hc.1]
  rw [this, ypOf_names]
  exact hc.2.1

set_option maxRecDepth 20000 in
set_option maxHeartbeats 8000000 in
theorem harmedLaw_any (w : World) (lv : Value) (l : List Int) (wh bt : Int) (hr : RdI w.heap.size w lv l) (hlen : l.length ≤ 17592186043904) (hrng : ∀ x ∈ l, InI x) (hwh : InI wh) (hbt : InI bt) :
    Calls Tryz.prog 9 #[lv, .int .i64 wh, .int .i64 bt] w fun r w' => r = .returned (.bool true) ∧ Ext w w' := by
  have HO := hide (opened_any w lv l hr hlen hrng)
  have hd := ypOf_dok l
  have hin := sSet_in l
  have hko := ypOf_open l (ypOf l).W (ypOf l).G hd.W4 (by show (sS4 l).1 ≤ 32; omega)
  have HCL := hide (sWn_cols l)
  have hf10 := file_ge (ypOf l)
  obtain ⟨la, lc, rfl, -, -, -⟩ := RdI.open hr
  go_enter Tryz.func9, Tryz.ntmps9
  go_wp2_with fail
  refine (unhide HO).mono ?_
  rintro r w1 ⟨Y, X, P, col, em, vs, rfl, hy, x1, -, -⟩
  clear HO
  generalize sWn l = want at *
  generalize ypOf l = d at *
  rw [hm_open hf10] at hy
  have hko2 : KxD d (hm1 d want) 1 0 0 := by rw [← hm_open hf10]; exact hko
  have HY := hide hy
  have HQ := hide (Hq.start hko2)
  have z1 := x1.size
  clear hy hko hko2
  go_wp2_with fail
  go_loopw [8, 9] (fun b i wr => ∃ (j : Nat) (col' : Colr) (vs' : List Value) (m' : Pl.Sc), i = .int .i64 j ∧ b = .bool (decide (j = 3)) ∧ j ≤ 3 ∧ YAt (grow (grow (fun _ => False) w w1) w1 wr) d em col' wr Y X P m' vs' 0 ∧ Kp (grow (fun _ => False) w w1) w1 wr ∧ Hq d want j m') (fun _ i _ => 10 - (intOf i).toNat)
  case atStart => exact ⟨0, _, _, _, rfl, rfl, by omega, HY.out.mono (fun b hb => .inl hb), Kp.refl _ _, HQ.out⟩
  case round =>
    obtain ⟨j, col1, vs1, m1, rfl, rfl, hj3, hy1, kO, hq1⟩ := hrel
    have x7 : Ext w wr := Kp.grow x1 kO
    have z7 := kO.size
    have dj1 : decide ((j : Int) < 2000) = true := decide_eq_true (by omega)
    have c8 := hy1.blk.cell 8
    simp only [yCells, List.getElem?_cons_zero, List.getElem?_cons_succ] at c8
    have HST := hide (xState_any col1 wr X P m1 hy1.isX)
    rcases hq1.round hd HCL.out with ⟨rfl, hg0, rfl⟩ | ⟨rfl, hg0, rfl⟩ | ⟨pt, hR⟩
    · -- no groups: it is done
      obtain ⟨na, nn, nc, ga, gn, gc, va, vc, hnv, hgv, he⟩ := hy1.ends hd (by omega)
      have HT := hide (fun u hu => hy1.total hd u hu)
      rw [hnv, hgv, show totalOf d.gs = 0 by rw [hg0]; rfl] at HT
      obtain ⟨c0, c1, -, -, -, -⟩ := he
      rw [show (Pl.ended 1).state = 1 from rfl] at HST
      have HX := hide x7
      clear hy1 kO hq1 hnv hgv hg0 x7
      go_wp2_with (first | (go_at_call 19; refine ((unhide HT) _ (Kp.refl _ _)).mono ?_; rintro r wt ⟨rfl, xt⟩) | (go_at_call 18; refine (unhide HST).mono ?_; rintro r wq ⟨rfl, hwq⟩; rw [hwq]; clear hwq) | fail)
      go_ret
      exact ⟨rfl, HX.out.trans xt⟩
    · -- it is malformed
      obtain ⟨na, nn, nc, ga, gn, gc, va, vc, hnv, hgv, he⟩ := hy1.ends hd (by omega)
      obtain ⟨-, -, -, -, c9, g0⟩ := he
      rw [show (Pl.ended 2).state = 2 from rfl] at HST
      have HX := hide x7
      have hcl := hd.c1
      have hcp : (0 : Int) < (d.cols.length : Int) := by omega
      clear hy1 kO hq1 hnv hgv hg0 x7
      go_wp2_with (first | (go_at_call 18; refine (unhide HST).mono ?_; rintro r wq ⟨rfl, hwq⟩; rw [hwq]; clear hwq) | fail)
      go_ret
      exact ⟨rfl, HX.out⟩
    · have hst := hR.state
      rw [hst] at HST
      have hfew := hR.few
      have hdf : decide (j = 3) = false := decide_eq_false (by omega)
      rw [hdf]
      obtain ⟨tl, hhead⟩ := hR.head
      have HHD := hide hhead
      have hal : m1.asked.length ≤ 4 := by have := (hR.kx.fine hd (by omega)).win; have := hd.W4; omega
      have hl1 : 1 ≤ m1.asked.length := by rw [hhead]; simp
      have HSt := hide hst
      clear hhead hst hdf
      have HAS := hide (xAsked_any col1 wr X P m1 hy1.isX (by omega))
      go_wp2_with (first | (go_at_call 18; refine (unhide HST).mono ?_; rintro r wq ⟨rfl, hwq⟩; rw [hwq]; clear hwq) | fail)
      refine (unhide HAS).mono ?_
      rintro r wB ⟨av, rfl, ol, xB, hlg⟩
      have hyB := hy1.ext xB
      have y4 := hyB.blk.cell 4
      have y2 := hyB.blk.cell 2
      simp only [yCells, I, List.getElem?_cons_zero, List.getElem?_cons_succ] at y4 y2
      have hfl4 : d.file.length ≤ 4000 := ft_len hd.fl.ok
      have hfine := hR.kx.fine hd (by omega)
      have HF := hide (fine_any wB Y d.W d.file.length ⟨d.file.toArray⟩ m1 av hfine hd.W4 hfl4 (by show d.file.toArray.size = _; simp) y4 y2 ol)
      obtain ⟨ava, avc, rfl, havc⟩ := ol.shape
      go_wp2_with fail
      refine (unhide HF).mono ?_
      rintro r wC ⟨rfl, xC⟩
      have xBC : Ext wr wC := xB.trans xC
      have hyC := hy1.ext xBC
      have olC := ol.ext xC
      have HTk := hide (takes_any _ d em col1 wC Y X P m1 vs1 0 100 0 hd hR.kx hyC)
      rw [hR.next] at HTk
      clear HF HAS HST y4 y2 c8
      go_wp2_with fail
      refine (unhide HTk).mono ?_
      rintro r wD ⟨rfl, colD, vsD, kD, hyD, kOD, hkD, -⟩
      obtain rfl : kD = 0 := by
        have hkD : KxD d m1 100 kD 0 := hkD
        have h1 := (hkD.going HSt.out).2.2
        have h2 := (hR.kx.going HSt.out).2.2
        omega
      have hyD : YAt (grow (grow (grow (fun _ => False) w w1) w1 wr) wC wD) d em colD wD Y X P m1 vsD 0 := hyD
      clear hkD HTk
      have hn0 : 0 < m1.asked.length := hl1
      obtain ⟨ga, ca, he, _, hga, hc⟩ := olC.at (by omega)
      cases he
      have hh0 : m1.asked[0] = (j + 1, pt) := by
        have := HHD.out
        have h0 : m1.asked[0]? = some (j + 1, pt) := by rw [this]; rfl
        rw [List.getElem?_eq_getElem hn0] at h0
        exact Option.some.inj h0
      have hck : ∀ jj, jj < 3 → wC.cell? ⟨ga, jj, none⟩ = (askCells (j + 1, pt))[jj]? := fun jj hjj => by
        have := hc (0 * 3 + jj) (by omega)
        rw [fm_at askCells 3 (fun _ => rfl) m1.asked 0 jj hn0 hjj, hh0] at this
        simpa using this
      have d0 := hck 0 (by omega)
      have d1 := hck 1 (by omega)
      have d2 := hck 2 (by omega)
      have hdat := hR.data
      have hpl2 := hR.ends
      have hll1 := hR.one
      simp only [askCells, I, hdat, List.length_nil, Nat.add_zero, Nat.sub_zero, List.getElem?_cons_zero, List.getElem?_cons_succ] at d0 d1 d2
      have HGD := hide hR.good
      have HBD := hide hR.bad
      clear hdat hck hc hh0
      generalize pt.place = pl at *
      generalize pt.length = ll at *
      have hgn : ¬ grow (grow (fun _ => False) w w1) w1 wr ga := fun hb => by
        have h1 := hlg ga rfl
        rcases hb with (hb | hb) | hb
        · exact hb
        · omega
        · omega
      have g0 := kOD.cell d0 hgn
      have g1 := kOD.cell d1 hgn
      have g2 := kOD.cell d2 hgn
      have e8 := hyD.blk.cell 8
      have e2 := hyD.blk.cell 2
      have e3 := hyD.blk.cell 3
      simp only [yCells, I, List.getElem?_cons_zero, List.getElem?_cons_succ] at e8 e2 e3
      have hl0i : ¬ (m1.asked.length : Int) = 0 := by omega
      have hbz : (((m1.asked.length : Nat) : Int) == 0) = false := by simpa using hl0i
      have hii : (0 : Int) < (m1.asked.length : Int) := by omega
      have ej : ((j + 1 : Nat) : Int) = (j : Int) + 1 := by omega
      rw [ej] at g0
      have xR : Ext wD (wD.alloc (.cells #[.int .i64 ((j : Int) + 1), .int .i64 (pl : Int), .int .i64 (ll : Int)] 72)) := (Kp.refl _ _).alloc _
      have bR := Blk.of_alloc wD [.int .i64 ((j : Int) + 1), .int .i64 (pl : Int), .int .i64 (ll : Int)] 72
      clear d0 d1 d2
      go_upto_region 15 with fail
      have g8 := xR.cell e8 id
      have h2 := xR.cell e2 id
      have h3 := xR.cell e3 id
      have r0 := bR.cell 0
      have r1 := bR.cell 1
      have r2 := bR.cell 2
      simp only [List.getElem?_cons_zero, List.getElem?_cons_succ] at r0 r1 r2
      have zR : Hid ((wD.alloc (.cells #[.int .i64 ((j : Int) + 1), .int .i64 (pl : Int), .int .i64 (ll : Int)] 72)).heap.size = wD.heap.size + 1) := by show _ = _; simp
      generalize wD.alloc (.cells #[.int .i64 ((j : Int) + 1), .int .i64 (pl : Int), .int .i64 (ll : Int)] 72) = W3 at *
      have pl0 : (0 : Int) ≤ (pl : Int) := by omega
      have pl1 : (pl : Int) ≤ (pl : Int) + (ll : Int) := by omega
      have pl2 : (pl : Int) + (ll : Int) ≤ (d.file.length : Int) := by omega
      have ew : IntKind.i64.wrap ((pl : Int) + (ll : Int)) = (pl : Int) + (ll : Int) := by simp [IntKind.wrap, IntKind.bits, IntKind.signed]; omega
      have hCut : (ByteArray.mk d.file.toArray).extract pl ((pl : Int) + (ll : Int)).toNat = ⟨(bytesAt d.file pl ll).toArray⟩ := by
        rw [show ((pl : Int) + (ll : Int)).toNat = pl + ll by omega]
        exact cut_string _ _ _
      have hS0 : W3.drew.cell? ⟨Y, 2, none⟩ = some (.string ⟨d.file.toArray⟩) ∧ W3.drew.cell? ⟨wD.heap.size, 1, none⟩ = some (.int .i64 (pl : Int)) ∧ W3.drew.cell? ⟨wD.heap.size, 2, none⟩ = some (.int .i64 (ll : Int)) := ⟨h2, r1, r2⟩
      refine wp_region_late (n := 12) (fun u => u.cell? ⟨Y, 2, none⟩ = some (.string ⟨d.file.toArray⟩) ∧ u.cell? ⟨wD.heap.size, 1, none⟩ = some (.int .i64 (pl : Int)) ∧ u.cell? ⟨wD.heap.size, 2, none⟩ = some (.int .i64 (ll : Int))) (by kernel_rfl) ?_
      refine Late.tk (i := 0) (oi := ⟨some 55, .move (.tmp 7), 48, "keep.go:399", #[], none⟩) (v := ?_) [12] rfl hS0 ?_ ?_
      rotate_left
      · (intro u hu; obtain ⟨u0, u1, u2⟩ := hu; go_simp; first | done | with_reducible rfl)
      try simp only [Act.put, lA, lZ, lS]
      refine Late.tk (i := 1) (oi := ⟨some 56, .nilCheck (.tmp 55), 0, "keep.go:399", #[⟨0, .data⟩], none⟩) (v := ?_) [12] rfl hS0 ?_ ?_
      rotate_left
      · (intro u hu; obtain ⟨u0, u1, u2⟩ := hu; go_simp; first | done | with_reducible rfl)
      try simp only [Act.put, lA, lZ, lS]
      refine Late.tk (i := 2) (oi := ⟨some 57, .fieldAddr 53 (.tmp 56) 1, 0, "keep.go:399", #[⟨1, .data⟩], none⟩) (v := ?_) [12] rfl hS0 ?_ ?_
      rotate_left
      · (intro u hu; obtain ⟨u0, u1, u2⟩ := hu; go_simp; first | done | with_reducible rfl)
      try simp only [Act.put, lA, lZ, lS]
      refine Late.tk (i := 3) (oi := ⟨some 58, .load 9 (.tmp 57), 9, "keep.go:399", #[⟨2, .data⟩], none⟩) (v := ?_) [12] rfl hS0 ?_ ?_
      rotate_left
      · (intro u hu; obtain ⟨u0, u1, u2⟩ := hu; go_simp; first | done | with_reducible rfl)
      try simp only [Act.put, lA, lZ, lS]
      refine Late.tk (i := 4) (oi := ⟨some 59, .fieldAddr 72 (.tmp 13) 1, 0, "keep.go:399", #[], none⟩) (v := ?_) [12] rfl hS0 ?_ ?_
      rotate_left
      · (intro u hu; obtain ⟨u0, u1, u2⟩ := hu; go_simp; first | done | with_reducible rfl)
      try simp only [Act.put, lA, lZ, lS]
      refine Late.tk (i := 5) (oi := ⟨some 60, .load 3 (.tmp 59), 3, "keep.go:399", #[⟨4, .data⟩], none⟩) (v := ?_) [12] rfl hS0 ?_ ?_
      rotate_left
      · (intro u hu; obtain ⟨u0, u1, u2⟩ := hu; go_simp; first | done | with_reducible rfl)
      try simp only [Act.put, lA, lZ, lS]
      refine Late.tk (i := 6) (oi := ⟨some 61, .fieldAddr 72 (.tmp 13) 1, 0, "keep.go:399", #[], none⟩) (v := ?_) [12] rfl hS0 ?_ ?_
      rotate_left
      · (intro u hu; obtain ⟨u0, u1, u2⟩ := hu; go_simp; first | done | with_reducible rfl)
      try simp only [Act.put, lA, lZ, lS]
      refine Late.tk (i := 7) (oi := ⟨some 62, .load 3 (.tmp 61), 3, "keep.go:399", #[⟨6, .data⟩], none⟩) (v := ?_) [12] rfl hS0 ?_ ?_
      rotate_left
      · (intro u hu; obtain ⟨u0, u1, u2⟩ := hu; go_simp; first | done | with_reducible rfl)
      try simp only [Act.put, lA, lZ, lS]
      refine Late.tk (i := 8) (oi := ⟨some 63, .fieldAddr 72 (.tmp 13) 2, 0, "keep.go:399", #[], none⟩) (v := ?_) [12] rfl hS0 ?_ ?_
      rotate_left
      · (intro u hu; obtain ⟨u0, u1, u2⟩ := hu; go_simp; first | done | with_reducible rfl)
      try simp only [Act.put, lA, lZ, lS]
      refine Late.tk (i := 9) (oi := ⟨some 64, .load 3 (.tmp 63), 3, "keep.go:399", #[⟨8, .data⟩], none⟩) (v := ?_) [12] rfl hS0 ?_ ?_
      rotate_left
      · (intro u hu; obtain ⟨u0, u1, u2⟩ := hu; go_simp; first | done | with_reducible rfl)
      try simp only [Act.put, lA, lZ, lS]
      refine Late.tk (i := 10) (oi := ⟨some 65, .binOp .add 3 (.tmp 62) (.tmp 64) 3, 3, "keep.go:399", #[⟨7, .data⟩, ⟨9, .data⟩], none⟩) (v := ?_) [12] rfl hS0 ?_ ?_
      rotate_left
      · (intro u hu; obtain ⟨u0, u1, u2⟩ := hu; go_simp; first | done | with_reducible rfl)
      try simp only [Act.put, lA, lZ, lS]
      refine Late.tk (i := 11) (oi := ⟨some 66, .slice 9 (.tmp 58) (some (.tmp 60)) (some (.tmp 65)) none, 9, "keep.go:399", #[⟨3, .data⟩, ⟨5, .data⟩, ⟨10, .data⟩], none⟩) (v := ?_) [12] rfl hS0 ?_ ?_
      rotate_left
      · (intro u hu; skip; go_simp; first | done | with_reducible rfl)
      try simp only [Act.put, lA, lZ, lS]
      refine Late.one (i := 12) (o := ⟨some 14, .assign (.tmp 66), 9, "keep.go:399", #[⟨11, .data⟩, ⟨0, .phase⟩, ⟨1, .phase⟩, ⟨2, .phase⟩, ⟨3, .phase⟩, ⟨4, .phase⟩, ⟨5, .phase⟩, ⟨6, .phase⟩, ⟨7, .phase⟩, ⟨8, .phase⟩, ⟨9, .phase⟩, ⟨10, .phase⟩, ⟨11, .phase⟩], none⟩) (by kernel_rfl) rfl (fun K hK => ?_)
      go_simp
      refine hK _ _ (fun h => absurd rfl h) ?_
      clear hK K
      try simp only [Act.put, lA, lZ, lS]
      refine Late.done (by kernel_rfl) ?_ _
      have xd : Ext W3 W3.drew := (Kp.refl _ _).drew
      have hbl : (bytesAt d.file pl ll).length = ll := bytesAt_len d.file pl ll (by omega)
      have hyW := (hyD.ext xR).ext xd
      have hX4 := hyW.isX
      have r0d := xd.cell r0 id
      have g8d := xd.cell g8 id
      have h3d := xd.cell h3 id
      have zD := kOD.size
      have zBC := xBC.size
      have zR2 := xR.size
      have zd := xd.size
      generalize bytesAt d.file pl ll = S at *
      generalize W3.drew = W4 at *
      clear hS0 hCut ew g8 h2 h3 r0 r1 r2
      by_cases hj2 : j = 2
      · subst hj2
        have hjb : (((2 : Nat) : Int) + 1 == 3) = true := by decide
        obtain ⟨hg0, hbad⟩ := HBD.out rfl
        have HBAD := hide hbad
        obtain ⟨ca, cc, hcvE, hcc, -⟩ := hyW.cls.get
        rw [List.length_map] at hcvE
        rw [hcvE] at h3d
        clear hcvE hcc
        have hpb := pickP_lt bt 255 (by omega)
        have HPB := hide (fun u => kpick_any u bt 255 hbt.1 hbt.2 (by omega) (by omega))
        generalize pickP bt 255 = pb at *
        by_cases hc1 : d.cols.length = 1
        · have hc1b : (((d.cols.length : Nat) : Int) == 1) = true := by simp [hc1]
          have HC1 := hide hc1
          have HBL := hide hbl
          have hSl : 1 ≤ S.length ∧ S.length ≤ 4000 := by omega
          clear hc1 hbl
          have hpk := pickP_lt wh S.length (by omega)
          have HPW := hide (fun u => kpick_any u wh S.length hwh.1 hwh.2 (by omega) (by omega))
          generalize pickP wh S.length = pk at *
          go_upto_region 20 with (first | (go_at_call 21; refine ((unhide HPW) _).mono ?_; rintro r w2x ⟨rfl, hwx⟩; rw [hwx]; clear hwx) | fail)
          have k0 : (0 : Int) ≤ (pk : Int) := by omega
          have k1 : (pk : Int) ≤ (S.length : Int) := by omega
          have k2 : (pk : Int) < (S.length : Int) := by omega
          have k3 : (pk : Int) + 1 ≤ (S.length : Int) := by omega
          have k4 : (0 : Int) ≤ (pk : Int) + 1 := by omega
          have k5 : IntKind.i64.wrap ((pk : Int) + 1) = (pk : Int) + 1 := by simp [IntKind.wrap, IntKind.bits, IntKind.signed]; omega
          have hkl : pk < S.length := by omega
          have hx : ∃ xb : Nat, bits .xor .u8 (((ByteArray.mk S.toArray)[pk]'(by show pk < S.toArray.size; simpa using hkl)).toNat : Int) (IntKind.u8.wrap (IntKind.i64.wrap (1 + (pb : Int)))) = (xb : Int) ∧ xb < 256 ∧ S[pk] ≠ UInt8.ofNat xb := turn_byte (S[pk]) pb hpb
          obtain ⟨xb, hxb, hx2, hxne⟩ := hx
          have HXN := hide hxne
          have hcv := conv1k (xb : Int) (by omega) (by omega)
          rw [Int.toNat_natCast] at hcv
          refine wp_region_late (n := 19) (fun _ => True) (by kernel_rfl) ?_
          refine Late.tk (i := 0) (oi := ⟨some 80, .move (.tmp 14), 9, "keep.go:406", #[], none⟩) (v := ?_) [19] rfl trivial ?_ ?_
          rotate_left
          · (intro u hu; skip; go_simp; first | done | with_reducible rfl)
          try simp only [Act.put, lA, lZ, lS]
          refine Late.tk (i := 1) (oi := ⟨some 81, .move (.tmp 15), 3, "keep.go:406", #[], none⟩) (v := ?_) [19] rfl trivial ?_ ?_
          rotate_left
          · (intro u hu; skip; go_simp; first | done | with_reducible rfl)
          try simp only [Act.put, lA, lZ, lS]
          refine Late.tk (i := 2) (oi := ⟨some 82, .slice 9 (.tmp 80) none (some (.tmp 81)) none, 9, "keep.go:406", #[⟨0, .data⟩, ⟨1, .data⟩], none⟩) (v := ?_) [19] rfl trivial ?_ ?_
          rotate_left
          · (intro u hu; skip; go_simp; first | done | with_reducible rfl)
          try simp only [Act.put, lA, lZ, lS]
          refine Late.tk (i := 3) (oi := ⟨some 83, .move (.tmp 14), 9, "keep.go:406", #[], none⟩) (v := ?_) [19] rfl trivial ?_ ?_
          rotate_left
          · (intro u hu; skip; go_simp; first | done | with_reducible rfl)
          try simp only [Act.put, lA, lZ, lS]
          refine Late.tk (i := 4) (oi := ⟨some 84, .move (.tmp 15), 3, "keep.go:406", #[], none⟩) (v := ?_) [19] rfl trivial ?_ ?_
          rotate_left
          · (intro u hu; skip; go_simp; first | done | with_reducible rfl)
          try simp only [Act.put, lA, lZ, lS]
          refine Late.tk (i := 5) (oi := ⟨some 85, .index 9 (.tmp 83) (.tmp 84), 5, "keep.go:406", #[⟨3, .data⟩, ⟨4, .data⟩], none⟩) (v := ?_) [19] rfl trivial ?_ ?_
          rotate_left
          · (intro u hu; skip; go_simp; first | done | with_reducible rfl)
          try simp only [Act.put, lA, lZ, lS]
          refine Late.tk (i := 6) (oi := ⟨some 86, .move (.tmp 2), 3, "keep.go:406", #[], none⟩) (v := ?_) [19] rfl trivial ?_ ?_
          rotate_left
          · (intro u hu; skip; go_simp; first | done | with_reducible rfl)
          try simp only [Act.put, lA, lZ, lS]
          refine Late.tk (i := 14) (oi := ⟨some 94, .move (.tmp 14), 9, "keep.go:406", #[], none⟩) (v := ?_) [19] rfl trivial ?_ ?_
          rotate_left
          · (intro u hu; skip; go_simp; first | done | with_reducible rfl)
          try simp only [Act.put, lA, lZ, lS]
          refine Late.tk (i := 15) (oi := ⟨some 95, .move (.tmp 15), 3, "keep.go:406", #[], none⟩) (v := ?_) [19] rfl trivial ?_ ?_
          rotate_left
          · (intro u hu; skip; go_simp; first | done | with_reducible rfl)
          try simp only [Act.put, lA, lZ, lS]
          refine Late.tk (i := 16) (oi := ⟨some 96, .binOp .add 3 (.tmp 95) (.const (.int .i64 1)) 3, 3, "keep.go:406", #[⟨15, .data⟩], none⟩) (v := ?_) [19] rfl trivial ?_ ?_
          rotate_left
          · (intro u hu; skip; go_simp; first | done | with_reducible rfl)
          try simp only [Act.put, lA, lZ, lS]
          refine Late.tk (i := 17) (oi := ⟨some 97, .slice 9 (.tmp 94) (some (.tmp 96)) none none, 9, "keep.go:406", #[⟨14, .data⟩, ⟨16, .data⟩], none⟩) (v := ?_) [19] rfl trivial ?_ ?_
          rotate_left
          · (intro u hu; skip; go_simp; first | done | with_reducible rfl)
          try simp only [Act.put, lA, lZ, lS]
          refine Late.one (i := 7) (o := ⟨some 87, .call { callee := .value (.func 21), args := #[.tmp 86, .const (.int .i64 255)], argTypes := #[3, 3] }, 3, "keep.go:406", #[⟨6, .data⟩], none⟩) (by kernel_rfl) rfl (fun K hK => ?_)
          refine step_call_g rfl 21 #[.int .i64 bt, .int .i64 255] (by go_simp) ?_
          refine ((unhide HPB) _).mono ?_
          rintro r w6 ⟨rfl, hw6⟩
          rw [hw6]
          clear hw6
          refine ⟨_, rfl, hK _ _ (fun _ => trivial) ?_⟩
          clear hK K
          try simp only [Act.put, lA, lZ, lS]
          refine Late.tk (i := 8) (oi := ⟨some 88, .binOp .add 3 (.const (.int .i64 1)) (.tmp 87) 3, 3, "keep.go:406", #[⟨7, .data⟩], none⟩) (v := ?_) [19] rfl trivial ?_ ?_
          rotate_left
          · (intro u hu; skip; go_simp; first | done | with_reducible rfl)
          try simp only [Act.put, lA, lZ, lS]
          refine Late.tk (i := 9) (oi := ⟨some 89, .convert 3 5 (.tmp 88), 5, "keep.go:406", #[⟨8, .data⟩], none⟩) (v := ?_) [19] rfl trivial ?_ ?_
          rotate_left
          · (intro u hu; skip; go_simp; first | done | with_reducible rfl)
          try simp only [Act.put, lA, lZ, lS]
          refine Late.tk (i := 10) (oi := ⟨some 90, .binOp .xor 5 (.tmp 85) (.tmp 89) 5, 5, "keep.go:406", #[⟨5, .data⟩, ⟨9, .data⟩], none⟩) (v := ?_) [19] rfl trivial ?_ ?_
          rotate_left
          · (intro u hu; skip; go_simp; first | done | with_reducible rfl)
          try simp only [Act.put, lA, lZ, lS]
          try rw [hxb]
          refine Late.one (i := 11) (o := ⟨some 91, .buildSlice 76 1 #[(0, .tmp 90)], 76, "keep.go:406", #[⟨10, .data⟩], none⟩) (by kernel_rfl) rfl (fun K hK => ?_)
          go_simp
          refine hK _ _ (fun _ => trivial) ?_
          clear hK K
          try simp only [Act.put, lA, lZ, lS]
          refine Late.one (i := 12) (o := ⟨some 92, .convert 76 9 (.tmp 91), 9, "keep.go:406", #[⟨11, .data⟩], none⟩) (by kernel_rfl) rfl (fun K hK => ?_)
          go_simp
          refine hK _ _ (fun _ => trivial) ?_
          clear hK K
          try simp only [Act.put, lA, lZ, lS]
          have k6 : ¬ 9223372036854775807 < min pk S.length + 1 := by omega
          refine Late.tk (i := 13) (oi := ⟨some 93, .binOp .add 9 (.tmp 82) (.tmp 92) 9, 9, "keep.go:406", #[⟨2, .data⟩, ⟨12, .data⟩], none⟩) (v := ?_) [19] rfl trivial ?_ ?_
          rotate_left
          · (intro u hu; skip; go_simp; first | done | with_reducible rfl)
          try simp only [Act.put, lA, lZ, lS]
          clear k6
          have k7 : ¬ 9223372036854775807 < min pk S.length + 1 + (S.length - (pk + 1)) := by omega
          refine Late.tk (i := 18) (oi := ⟨some 98, .binOp .add 9 (.tmp 93) (.tmp 97) 9, 9, "keep.go:406", #[⟨13, .data⟩, ⟨17, .data⟩], none⟩) (v := ?_) [19] rfl trivial ?_ ?_
          rotate_left
          · (intro u hu; skip; go_simp; first | done | with_reducible rfl)
          try simp only [Act.put, lA, lZ, lS]
          clear k7
          refine Late.one (i := 19) (o := ⟨some 14, .assign (.tmp 98), 9, "keep.go:406", #[⟨18, .data⟩, ⟨7, .chain⟩, ⟨0, .phase⟩, ⟨1, .phase⟩, ⟨2, .phase⟩, ⟨3, .phase⟩, ⟨4, .phase⟩, ⟨5, .phase⟩, ⟨6, .phase⟩, ⟨7, .phase⟩, ⟨8, .phase⟩, ⟨9, .phase⟩, ⟨10, .phase⟩, ⟨11, .phase⟩, ⟨12, .phase⟩, ⟨13, .phase⟩, ⟨14, .phase⟩, ⟨15, .phase⟩, ⟨16, .phase⟩, ⟨17, .phase⟩, ⟨18, .phase⟩], none⟩) (by kernel_rfl) rfl (fun K hK => ?_)
          go_simp
          refine hK _ _ (fun h => absurd rfl h) ?_
          clear hK K
          try simp only [Act.put, lA, lZ, lS]
          refine Late.done (by kernel_rfl) ?_ _
          have hcat : (ByteArray.mk S.toArray).extract 0 pk ++ ⟨#[UInt8.ofNat xb]⟩ ++ (ByteArray.mk S.toArray).extract (pk + 1) S.length = ⟨(S.set pk (UInt8.ofNat xb)).toArray⟩ := turn_cat S pk (UInt8.ofNat xb) hkl
          rw [hcat]
          have xe : Ext W4 (W4.alloc (.cells #[.int .u8 (xb : Int)] 5)).drew := ((Kp.refl _ _).alloc _).drew
          have ze := xe.size
          have hyW7 := hyW.ext xe
          have g8d := xe.cell g8d id
          have r0d := xe.cell r0d id
          generalize (W4.alloc (.cells #[.int .u8 (xb : Int)] 5)).drew = W7 at *
          have ha : Pl.answer m1 3 (S.set pk (UInt8.ofNat xb)) = (Pl.ended 2, 0) := HBAD.out pk (UInt8.ofNat xb) (.inr HC1.out) hkl HXN.out
          have xd4 : Ext W7 W7.drew := (Kp.refl _ _).drew
          have zd4 := xd4.size
          have hyW5 := hyW7.ext xd4
          have HAN := hide (gAnswer_any colD W7.drew X P m1 100 ⟨hyW5.isX, hR.kx.sound.good⟩ (by omega) 3 (S.set pk (UInt8.ofNat xb)) (by rw [List.length_set]; omega))
          clear hcat hcv hxb
          go_upto_region 22 with fail
          have hS1 : W7.drew.cell? ⟨Y, 8, none⟩ = some (PtrTo X 0) ∧ W7.drew.cell? ⟨wD.heap.size, 0, none⟩ = some (.int .i64 (3)) := ⟨g8d, r0d⟩
          refine wp_region_late (n := 8) (fun u => u.cell? ⟨Y, 8, none⟩ = some (PtrTo X 0) ∧ u.cell? ⟨wD.heap.size, 0, none⟩ = some (.int .i64 (3))) (by kernel_rfl) ?_
          refine Late.tk (i := 0) (oi := ⟨some 99, .move (.tmp 7), 48, "keep.go:409", #[], none⟩) (v := ?_) [8] rfl hS1 ?_ ?_
          rotate_left
          · (intro u hu; obtain ⟨u0, u1⟩ := hu; go_simp; first | done | with_reducible rfl)
          try simp only [Act.put, lA, lZ, lS]
          refine Late.tk (i := 1) (oi := ⟨some 100, .nilCheck (.tmp 99), 0, "keep.go:409", #[⟨0, .data⟩], none⟩) (v := ?_) [8] rfl hS1 ?_ ?_
          rotate_left
          · (intro u hu; obtain ⟨u0, u1⟩ := hu; go_simp; first | done | with_reducible rfl)
          try simp only [Act.put, lA, lZ, lS]
          refine Late.tk (i := 2) (oi := ⟨some 101, .fieldAddr 53 (.tmp 100) 4, 0, "keep.go:409", #[⟨1, .data⟩], none⟩) (v := ?_) [8] rfl hS1 ?_ ?_
          rotate_left
          · (intro u hu; obtain ⟨u0, u1⟩ := hu; go_simp; first | done | with_reducible rfl)
          try simp only [Act.put, lA, lZ, lS]
          refine Late.tk (i := 3) (oi := ⟨some 102, .load 50 (.tmp 101), 50, "keep.go:409", #[⟨2, .data⟩], none⟩) (v := ?_) [8] rfl hS1 ?_ ?_
          rotate_left
          · (intro u hu; obtain ⟨u0, u1⟩ := hu; go_simp; first | done | with_reducible rfl)
          try simp only [Act.put, lA, lZ, lS]
          refine Late.tk (i := 4) (oi := ⟨some 103, .fieldAddr 72 (.tmp 13) 0, 0, "keep.go:409", #[], none⟩) (v := ?_) [8] rfl hS1 ?_ ?_
          rotate_left
          · (intro u hu; obtain ⟨u0, u1⟩ := hu; go_simp; first | done | with_reducible rfl)
          try simp only [Act.put, lA, lZ, lS]
          refine Late.tk (i := 5) (oi := ⟨some 104, .load 3 (.tmp 103), 3, "keep.go:409", #[⟨4, .data⟩], none⟩) (v := ?_) [8] rfl hS1 ?_ ?_
          rotate_left
          · (intro u hu; obtain ⟨u0, u1⟩ := hu; go_simp; first | done | with_reducible rfl)
          try simp only [Act.put, lA, lZ, lS]
          refine Late.tk (i := 6) (oi := ⟨some 105, .move (.tmp 14), 9, "keep.go:409", #[], none⟩) (v := ?_) [8] rfl hS1 ?_ ?_
          rotate_left
          · (intro u hu; obtain ⟨u0, u1⟩ := hu; go_simp; first | done | with_reducible rfl)
          try simp only [Act.put, lA, lZ, lS]
          refine Late.one (i := 7) (o := ⟨some 106, .call { callee := .value (.func 26), args := #[.tmp 102, .tmp 104, .tmp 105], argTypes := #[50, 3, 9] }, 63, "keep.go:409", #[⟨3, .data⟩, ⟨5, .data⟩, ⟨6, .data⟩], none⟩) (by kernel_rfl) rfl (fun K hK => ?_)
          refine step_call_g rfl 26 #[PtrTo X 0, .int .i64 (3), tx (S.set pk (UInt8.ofNat xb))] (by go_simp) ?_
          refine (unhide HAN).mono ?_
          rintro r w5 ⟨rfl, col5, hX5, hW5⟩
          rw [ha]
          rw [ha] at hX5
          obtain ⟨hy5, k5⟩ := hyW5.scan hX5.1 hW5
          refine ⟨_, rfl, hK _ _ (fun _ => ⟨hy5.blk.cell 8, hW5.kept.cell r0d (fun h => h (hyD.isX.top _ (Nat.le_refl _)))⟩) ?_⟩
          clear hK K
          try simp only [Act.put, lA, lZ, lS]
          refine Late.one (i := 8) (o := ⟨some 16, .assign (.tmp 106), 63, "keep.go:409", #[⟨7, .data⟩, ⟨7, .chain⟩, ⟨0, .phase⟩, ⟨1, .phase⟩, ⟨2, .phase⟩, ⟨3, .phase⟩, ⟨4, .phase⟩, ⟨5, .phase⟩, ⟨6, .phase⟩, ⟨7, .phase⟩], none⟩) (by kernel_rfl) rfl (fun K hK => ?_)
          go_simp
          refine hK _ _ (fun h => absurd rfl h) ?_
          clear hK K
          try simp only [Act.put, lA, lZ, lS]
          refine Late.done (by kernel_rfl) ?_ _
          have HY5 := hide hy5
          have HK5 := hide k5
          have z5 := k5.size
          clear hy5 k5 hX5 hW5
          go_wp2_with fail
          refine ⟨⟨3, col5, vsD, Pl.ended 2, by go_num, by rfl, by omega, HY5.out.mono (fun b hb => ?_), ?_, ⟨hg0, rfl⟩⟩, by simp [intOf]⟩
          · rcases hb with (((hb | hb) | hb) | hb) | hb
            · exact hb.elim
            · exact .inl (.inr hb)
            · exact .inr (by omega)
            · exact .inr (by omega)
            · exact .inr (by have h1 := hb.1; have h2 := hb.2; omega)
          · have kB := (kO.trans (Kp.of_ext xBC)).then kOD (fun i hi e => by
              rcases e with e | e
              · exact e
              · omega)
            exact (kB.trans (Kp.of_ext (xR.trans (xd.trans (xe.trans xd4))))).then HK5.out (fun i hi e => by
              rcases e with (e | e) | e
              · exact e
              · omega
              · omega)
        · have hc1b : (((d.cols.length : Nat) : Int) == 1) = false := by simp; omega
          have HBL := hide hbl
          have hSl : 1 ≤ S.length ∧ S.length ≤ 4000 := by omega
          clear hc1 hbl
          go_upto_region 20 with fail
          have k1 : (0 : Int) ≤ (S.length : Int) := by omega
          have k2 : (0 : Int) < (S.length : Int) := by omega
          have k3 : (1 : Int) ≤ (S.length : Int) := by omega
          have k4 : (0 : Int) ≤ (1 : Int) := by omega
          have k5 : IntKind.i64.wrap (1 : Int) = (1 : Int) := by decide
          have hkl : 0 < S.length := by omega
          have hx : ∃ xb : Nat, bits .xor .u8 (((ByteArray.mk S.toArray)[0]'(by show 0 < S.toArray.size; simpa using hkl)).toNat : Int) (IntKind.u8.wrap (IntKind.i64.wrap (1 + (pb : Int)))) = (xb : Int) ∧ xb < 256 ∧ S[0] ≠ UInt8.ofNat xb := turn_byte (S[0]) pb hpb
          obtain ⟨xb, hxb, hx2, hxne⟩ := hx
          have HXN := hide hxne
          have hcv := conv1k (xb : Int) (by omega) (by omega)
          rw [Int.toNat_natCast] at hcv
          refine wp_region_late (n := 19) (fun _ => True) (by kernel_rfl) ?_
          refine Late.tk (i := 0) (oi := ⟨some 80, .move (.tmp 14), 9, "keep.go:406", #[], none⟩) (v := ?_) [19] rfl trivial ?_ ?_
          rotate_left
          · (intro u hu; skip; go_simp; first | done | with_reducible rfl)
          try simp only [Act.put, lA, lZ, lS]
          refine Late.tk (i := 1) (oi := ⟨some 81, .move (.tmp 15), 3, "keep.go:406", #[], none⟩) (v := ?_) [19] rfl trivial ?_ ?_
          rotate_left
          · (intro u hu; skip; go_simp; first | done | with_reducible rfl)
          try simp only [Act.put, lA, lZ, lS]
          refine Late.tk (i := 2) (oi := ⟨some 82, .slice 9 (.tmp 80) none (some (.tmp 81)) none, 9, "keep.go:406", #[⟨0, .data⟩, ⟨1, .data⟩], none⟩) (v := ?_) [19] rfl trivial ?_ ?_
          rotate_left
          · (intro u hu; skip; go_simp; first | done | with_reducible rfl)
          try simp only [Act.put, lA, lZ, lS]
          refine Late.tk (i := 3) (oi := ⟨some 83, .move (.tmp 14), 9, "keep.go:406", #[], none⟩) (v := ?_) [19] rfl trivial ?_ ?_
          rotate_left
          · (intro u hu; skip; go_simp; first | done | with_reducible rfl)
          try simp only [Act.put, lA, lZ, lS]
          refine Late.tk (i := 4) (oi := ⟨some 84, .move (.tmp 15), 3, "keep.go:406", #[], none⟩) (v := ?_) [19] rfl trivial ?_ ?_
          rotate_left
          · (intro u hu; skip; go_simp; first | done | with_reducible rfl)
          try simp only [Act.put, lA, lZ, lS]
          refine Late.tk (i := 5) (oi := ⟨some 85, .index 9 (.tmp 83) (.tmp 84), 5, "keep.go:406", #[⟨3, .data⟩, ⟨4, .data⟩], none⟩) (v := ?_) [19] rfl trivial ?_ ?_
          rotate_left
          · (intro u hu; skip; go_simp; first | done | with_reducible rfl)
          try simp only [Act.put, lA, lZ, lS]
          refine Late.tk (i := 6) (oi := ⟨some 86, .move (.tmp 2), 3, "keep.go:406", #[], none⟩) (v := ?_) [19] rfl trivial ?_ ?_
          rotate_left
          · (intro u hu; skip; go_simp; first | done | with_reducible rfl)
          try simp only [Act.put, lA, lZ, lS]
          refine Late.tk (i := 14) (oi := ⟨some 94, .move (.tmp 14), 9, "keep.go:406", #[], none⟩) (v := ?_) [19] rfl trivial ?_ ?_
          rotate_left
          · (intro u hu; skip; go_simp; first | done | with_reducible rfl)
          try simp only [Act.put, lA, lZ, lS]
          refine Late.tk (i := 15) (oi := ⟨some 95, .move (.tmp 15), 3, "keep.go:406", #[], none⟩) (v := ?_) [19] rfl trivial ?_ ?_
          rotate_left
          · (intro u hu; skip; go_simp; first | done | with_reducible rfl)
          try simp only [Act.put, lA, lZ, lS]
          refine Late.tk (i := 16) (oi := ⟨some 96, .binOp .add 3 (.tmp 95) (.const (.int .i64 1)) 3, 3, "keep.go:406", #[⟨15, .data⟩], none⟩) (v := ?_) [19] rfl trivial ?_ ?_
          rotate_left
          · (intro u hu; skip; go_simp; first | done | with_reducible rfl)
          try simp only [Act.put, lA, lZ, lS]
          refine Late.tk (i := 17) (oi := ⟨some 97, .slice 9 (.tmp 94) (some (.tmp 96)) none none, 9, "keep.go:406", #[⟨14, .data⟩, ⟨16, .data⟩], none⟩) (v := ?_) [19] rfl trivial ?_ ?_
          rotate_left
          · (intro u hu; skip; go_simp; first | done | with_reducible rfl)
          try simp only [Act.put, lA, lZ, lS]
          refine Late.one (i := 7) (o := ⟨some 87, .call { callee := .value (.func 21), args := #[.tmp 86, .const (.int .i64 255)], argTypes := #[3, 3] }, 3, "keep.go:406", #[⟨6, .data⟩], none⟩) (by kernel_rfl) rfl (fun K hK => ?_)
          refine step_call_g rfl 21 #[.int .i64 bt, .int .i64 255] (by go_simp) ?_
          refine ((unhide HPB) _).mono ?_
          rintro r w6 ⟨rfl, hw6⟩
          rw [hw6]
          clear hw6
          refine ⟨_, rfl, hK _ _ (fun _ => trivial) ?_⟩
          clear hK K
          try simp only [Act.put, lA, lZ, lS]
          refine Late.tk (i := 8) (oi := ⟨some 88, .binOp .add 3 (.const (.int .i64 1)) (.tmp 87) 3, 3, "keep.go:406", #[⟨7, .data⟩], none⟩) (v := ?_) [19] rfl trivial ?_ ?_
          rotate_left
          · (intro u hu; skip; go_simp; first | done | with_reducible rfl)
          try simp only [Act.put, lA, lZ, lS]
          refine Late.tk (i := 9) (oi := ⟨some 89, .convert 3 5 (.tmp 88), 5, "keep.go:406", #[⟨8, .data⟩], none⟩) (v := ?_) [19] rfl trivial ?_ ?_
          rotate_left
          · (intro u hu; skip; go_simp; first | done | with_reducible rfl)
          try simp only [Act.put, lA, lZ, lS]
          refine Late.tk (i := 10) (oi := ⟨some 90, .binOp .xor 5 (.tmp 85) (.tmp 89) 5, 5, "keep.go:406", #[⟨5, .data⟩, ⟨9, .data⟩], none⟩) (v := ?_) [19] rfl trivial ?_ ?_
          rotate_left
          · (intro u hu; skip; go_simp; first | done | with_reducible rfl)
          try simp only [Act.put, lA, lZ, lS]
          try rw [hxb]
          refine Late.one (i := 11) (o := ⟨some 91, .buildSlice 76 1 #[(0, .tmp 90)], 76, "keep.go:406", #[⟨10, .data⟩], none⟩) (by kernel_rfl) rfl (fun K hK => ?_)
          go_simp
          refine hK _ _ (fun _ => trivial) ?_
          clear hK K
          try simp only [Act.put, lA, lZ, lS]
          refine Late.one (i := 12) (o := ⟨some 92, .convert 76 9 (.tmp 91), 9, "keep.go:406", #[⟨11, .data⟩], none⟩) (by kernel_rfl) rfl (fun K hK => ?_)
          go_simp
          refine hK _ _ (fun _ => trivial) ?_
          clear hK K
          try simp only [Act.put, lA, lZ, lS]
          have k6 : ¬ 9223372036854775807 < 0 + 1 := by omega
          refine Late.tk (i := 13) (oi := ⟨some 93, .binOp .add 9 (.tmp 82) (.tmp 92) 9, 9, "keep.go:406", #[⟨2, .data⟩, ⟨12, .data⟩], none⟩) (v := ?_) [19] rfl trivial ?_ ?_
          rotate_left
          · (intro u hu; skip; go_simp; first | done | with_reducible rfl)
          try simp only [Act.put, lA, lZ, lS]
          clear k6
          have k7 : ¬ 9223372036854775807 < S.length := by omega
          refine Late.tk (i := 18) (oi := ⟨some 98, .binOp .add 9 (.tmp 93) (.tmp 97) 9, 9, "keep.go:406", #[⟨13, .data⟩, ⟨17, .data⟩], none⟩) (v := ?_) [19] rfl trivial ?_ ?_
          rotate_left
          · (intro u hu; skip; go_simp; first | done | with_reducible rfl)
          try simp only [Act.put, lA, lZ, lS]
          clear k7
          refine Late.one (i := 19) (o := ⟨some 14, .assign (.tmp 98), 9, "keep.go:406", #[⟨18, .data⟩, ⟨7, .chain⟩, ⟨0, .phase⟩, ⟨1, .phase⟩, ⟨2, .phase⟩, ⟨3, .phase⟩, ⟨4, .phase⟩, ⟨5, .phase⟩, ⟨6, .phase⟩, ⟨7, .phase⟩, ⟨8, .phase⟩, ⟨9, .phase⟩, ⟨10, .phase⟩, ⟨11, .phase⟩, ⟨12, .phase⟩, ⟨13, .phase⟩, ⟨14, .phase⟩, ⟨15, .phase⟩, ⟨16, .phase⟩, ⟨17, .phase⟩, ⟨18, .phase⟩], none⟩) (by kernel_rfl) rfl (fun K hK => ?_)
          go_simp
          refine hK _ _ (fun h => absurd rfl h) ?_
          clear hK K
          try simp only [Act.put, lA, lZ, lS]
          refine Late.done (by kernel_rfl) ?_ _
          have hcat : (⟨#[UInt8.ofNat xb]⟩ : ByteArray) ++ (ByteArray.mk S.toArray).extract 1 S.length = ⟨(S.set 0 (UInt8.ofNat xb)).toArray⟩ := by have := turn_cat S 0 (UInt8.ofNat xb) hkl; simpa using this
          rw [hcat]
          have xe : Ext W4 (W4.alloc (.cells #[.int .u8 (xb : Int)] 5)).drew := ((Kp.refl _ _).alloc _).drew
          have ze := xe.size
          have hyW7 := hyW.ext xe
          have g8d := xe.cell g8d id
          have r0d := xe.cell r0d id
          generalize (W4.alloc (.cells #[.int .u8 (xb : Int)] 5)).drew = W7 at *
          have ha : Pl.answer m1 3 (S.set 0 (UInt8.ofNat xb)) = (Pl.ended 2, 0) := HBAD.out 0 (UInt8.ofNat xb) (.inl rfl) hkl HXN.out
          have xd4 : Ext W7 W7.drew := (Kp.refl _ _).drew
          have zd4 := xd4.size
          have hyW5 := hyW7.ext xd4
          have HAN := hide (gAnswer_any colD W7.drew X P m1 100 ⟨hyW5.isX, hR.kx.sound.good⟩ (by omega) 3 (S.set 0 (UInt8.ofNat xb)) (by rw [List.length_set]; omega))
          clear hcat hcv hxb
          go_upto_region 22 with fail
          have hS1 : W7.drew.cell? ⟨Y, 8, none⟩ = some (PtrTo X 0) ∧ W7.drew.cell? ⟨wD.heap.size, 0, none⟩ = some (.int .i64 (3)) := ⟨g8d, r0d⟩
          refine wp_region_late (n := 8) (fun u => u.cell? ⟨Y, 8, none⟩ = some (PtrTo X 0) ∧ u.cell? ⟨wD.heap.size, 0, none⟩ = some (.int .i64 (3))) (by kernel_rfl) ?_
          refine Late.tk (i := 0) (oi := ⟨some 99, .move (.tmp 7), 48, "keep.go:409", #[], none⟩) (v := ?_) [8] rfl hS1 ?_ ?_
          rotate_left
          · (intro u hu; obtain ⟨u0, u1⟩ := hu; go_simp; first | done | with_reducible rfl)
          try simp only [Act.put, lA, lZ, lS]
          refine Late.tk (i := 1) (oi := ⟨some 100, .nilCheck (.tmp 99), 0, "keep.go:409", #[⟨0, .data⟩], none⟩) (v := ?_) [8] rfl hS1 ?_ ?_
          rotate_left
          · (intro u hu; obtain ⟨u0, u1⟩ := hu; go_simp; first | done | with_reducible rfl)
          try simp only [Act.put, lA, lZ, lS]
          refine Late.tk (i := 2) (oi := ⟨some 101, .fieldAddr 53 (.tmp 100) 4, 0, "keep.go:409", #[⟨1, .data⟩], none⟩) (v := ?_) [8] rfl hS1 ?_ ?_
          rotate_left
          · (intro u hu; obtain ⟨u0, u1⟩ := hu; go_simp; first | done | with_reducible rfl)
          try simp only [Act.put, lA, lZ, lS]
          refine Late.tk (i := 3) (oi := ⟨some 102, .load 50 (.tmp 101), 50, "keep.go:409", #[⟨2, .data⟩], none⟩) (v := ?_) [8] rfl hS1 ?_ ?_
          rotate_left
          · (intro u hu; obtain ⟨u0, u1⟩ := hu; go_simp; first | done | with_reducible rfl)
          try simp only [Act.put, lA, lZ, lS]
          refine Late.tk (i := 4) (oi := ⟨some 103, .fieldAddr 72 (.tmp 13) 0, 0, "keep.go:409", #[], none⟩) (v := ?_) [8] rfl hS1 ?_ ?_
          rotate_left
          · (intro u hu; obtain ⟨u0, u1⟩ := hu; go_simp; first | done | with_reducible rfl)
          try simp only [Act.put, lA, lZ, lS]
          refine Late.tk (i := 5) (oi := ⟨some 104, .load 3 (.tmp 103), 3, "keep.go:409", #[⟨4, .data⟩], none⟩) (v := ?_) [8] rfl hS1 ?_ ?_
          rotate_left
          · (intro u hu; obtain ⟨u0, u1⟩ := hu; go_simp; first | done | with_reducible rfl)
          try simp only [Act.put, lA, lZ, lS]
          refine Late.tk (i := 6) (oi := ⟨some 105, .move (.tmp 14), 9, "keep.go:409", #[], none⟩) (v := ?_) [8] rfl hS1 ?_ ?_
          rotate_left
          · (intro u hu; obtain ⟨u0, u1⟩ := hu; go_simp; first | done | with_reducible rfl)
          try simp only [Act.put, lA, lZ, lS]
          refine Late.one (i := 7) (o := ⟨some 106, .call { callee := .value (.func 26), args := #[.tmp 102, .tmp 104, .tmp 105], argTypes := #[50, 3, 9] }, 63, "keep.go:409", #[⟨3, .data⟩, ⟨5, .data⟩, ⟨6, .data⟩], none⟩) (by kernel_rfl) rfl (fun K hK => ?_)
          refine step_call_g rfl 26 #[PtrTo X 0, .int .i64 (3), tx (S.set 0 (UInt8.ofNat xb))] (by go_simp) ?_
          refine (unhide HAN).mono ?_
          rintro r w5 ⟨rfl, col5, hX5, hW5⟩
          rw [ha]
          rw [ha] at hX5
          obtain ⟨hy5, k5⟩ := hyW5.scan hX5.1 hW5
          refine ⟨_, rfl, hK _ _ (fun _ => ⟨hy5.blk.cell 8, hW5.kept.cell r0d (fun h => h (hyD.isX.top _ (Nat.le_refl _)))⟩) ?_⟩
          clear hK K
          try simp only [Act.put, lA, lZ, lS]
          refine Late.one (i := 8) (o := ⟨some 16, .assign (.tmp 106), 63, "keep.go:409", #[⟨7, .data⟩, ⟨7, .chain⟩, ⟨0, .phase⟩, ⟨1, .phase⟩, ⟨2, .phase⟩, ⟨3, .phase⟩, ⟨4, .phase⟩, ⟨5, .phase⟩, ⟨6, .phase⟩, ⟨7, .phase⟩], none⟩) (by kernel_rfl) rfl (fun K hK => ?_)
          go_simp
          refine hK _ _ (fun h => absurd rfl h) ?_
          clear hK K
          try simp only [Act.put, lA, lZ, lS]
          refine Late.done (by kernel_rfl) ?_ _
          have HY5 := hide hy5
          have HK5 := hide k5
          have z5 := k5.size
          clear hy5 k5 hX5 hW5
          go_wp2_with fail
          refine ⟨⟨3, col5, vsD, Pl.ended 2, by go_num, by rfl, by omega, HY5.out.mono (fun b hb => ?_), ?_, ⟨hg0, rfl⟩⟩, by simp [intOf]⟩
          · rcases hb with (((hb | hb) | hb) | hb) | hb
            · exact hb.elim
            · exact .inl (.inr hb)
            · exact .inr (by omega)
            · exact .inr (by omega)
            · exact .inr (by have h1 := hb.1; have h2 := hb.2; omega)
          · have kB := (kO.trans (Kp.of_ext xBC)).then kOD (fun i hi e => by
              rcases e with e | e
              · exact e
              · omega)
            exact (kB.trans (Kp.of_ext (xR.trans (xd.trans (xe.trans xd4))))).then HK5.out (fun i hi e => by
              rcases e with (e | e) | e
              · exact e
              · omega
              · omega)
      · have hji : ¬ (j : Int) + 1 = 3 := by omega
        have hjb : (((j : Int) + 1) == 3) = false := by simpa using hji
        obtain ⟨m', ha, hq'⟩ := HGD.out (by omega)
        rw [ej] at ha
        have HAN := hide (gAnswer_any colD W4.drew X P m1 100 ⟨hX4.kept (S := fun _ => False) ((Kp.refl _ _).drew) (fun _ f => f.elim), hR.kx.sound.good⟩ (by omega) ((j : Int) + 1) S (by omega))
        have xd4 : Ext W4 W4.drew := (Kp.refl _ _).drew
        have zd4 := xd4.size
        have hyW5 := hyW.ext xd4
        go_upto_region 22 with fail
        have hS1 : W4.drew.cell? ⟨Y, 8, none⟩ = some (PtrTo X 0) ∧ W4.drew.cell? ⟨wD.heap.size, 0, none⟩ = some (.int .i64 ((j : Int) + 1)) := ⟨g8d, r0d⟩
        refine wp_region_late (n := 8) (fun u => u.cell? ⟨Y, 8, none⟩ = some (PtrTo X 0) ∧ u.cell? ⟨wD.heap.size, 0, none⟩ = some (.int .i64 ((j : Int) + 1))) (by kernel_rfl) ?_
        refine Late.tk (i := 0) (oi := ⟨some 99, .move (.tmp 7), 48, "keep.go:409", #[], none⟩) (v := ?_) [8] rfl hS1 ?_ ?_
        rotate_left
        · (intro u hu; obtain ⟨u0, u1⟩ := hu; go_simp; first | done | with_reducible rfl)
        try simp only [Act.put, lA, lZ, lS]
        refine Late.tk (i := 1) (oi := ⟨some 100, .nilCheck (.tmp 99), 0, "keep.go:409", #[⟨0, .data⟩], none⟩) (v := ?_) [8] rfl hS1 ?_ ?_
        rotate_left
        · (intro u hu; obtain ⟨u0, u1⟩ := hu; go_simp; first | done | with_reducible rfl)
        try simp only [Act.put, lA, lZ, lS]
        refine Late.tk (i := 2) (oi := ⟨some 101, .fieldAddr 53 (.tmp 100) 4, 0, "keep.go:409", #[⟨1, .data⟩], none⟩) (v := ?_) [8] rfl hS1 ?_ ?_
        rotate_left
        · (intro u hu; obtain ⟨u0, u1⟩ := hu; go_simp; first | done | with_reducible rfl)
        try simp only [Act.put, lA, lZ, lS]
        refine Late.tk (i := 3) (oi := ⟨some 102, .load 50 (.tmp 101), 50, "keep.go:409", #[⟨2, .data⟩], none⟩) (v := ?_) [8] rfl hS1 ?_ ?_
        rotate_left
        · (intro u hu; obtain ⟨u0, u1⟩ := hu; go_simp; first | done | with_reducible rfl)
        try simp only [Act.put, lA, lZ, lS]
        refine Late.tk (i := 4) (oi := ⟨some 103, .fieldAddr 72 (.tmp 13) 0, 0, "keep.go:409", #[], none⟩) (v := ?_) [8] rfl hS1 ?_ ?_
        rotate_left
        · (intro u hu; obtain ⟨u0, u1⟩ := hu; go_simp; first | done | with_reducible rfl)
        try simp only [Act.put, lA, lZ, lS]
        refine Late.tk (i := 5) (oi := ⟨some 104, .load 3 (.tmp 103), 3, "keep.go:409", #[⟨4, .data⟩], none⟩) (v := ?_) [8] rfl hS1 ?_ ?_
        rotate_left
        · (intro u hu; obtain ⟨u0, u1⟩ := hu; go_simp; first | done | with_reducible rfl)
        try simp only [Act.put, lA, lZ, lS]
        refine Late.tk (i := 6) (oi := ⟨some 105, .move (.tmp 14), 9, "keep.go:409", #[], none⟩) (v := ?_) [8] rfl hS1 ?_ ?_
        rotate_left
        · (intro u hu; obtain ⟨u0, u1⟩ := hu; go_simp; first | done | with_reducible rfl)
        try simp only [Act.put, lA, lZ, lS]
        refine Late.one (i := 7) (o := ⟨some 106, .call { callee := .value (.func 26), args := #[.tmp 102, .tmp 104, .tmp 105], argTypes := #[50, 3, 9] }, 63, "keep.go:409", #[⟨3, .data⟩, ⟨5, .data⟩, ⟨6, .data⟩], none⟩) (by kernel_rfl) rfl (fun K hK => ?_)
        refine step_call_g rfl 26 #[PtrTo X 0, .int .i64 ((j : Int) + 1), tx S] (by go_simp) ?_
        refine (unhide HAN).mono ?_
        rintro r w5 ⟨rfl, col5, hX5, hW5⟩
        rw [ha]
        rw [ha] at hX5
        obtain ⟨hy5, k5⟩ := hyW5.scan hX5.1 hW5
        refine ⟨_, rfl, hK _ _ (fun _ => ⟨hy5.blk.cell 8, hW5.kept.cell r0d (fun h => h (hyD.isX.top _ (Nat.le_refl _)))⟩) ?_⟩
        clear hK K
        try simp only [Act.put, lA, lZ, lS]
        refine Late.one (i := 8) (o := ⟨some 16, .assign (.tmp 106), 63, "keep.go:409", #[⟨7, .data⟩, ⟨7, .chain⟩, ⟨0, .phase⟩, ⟨1, .phase⟩, ⟨2, .phase⟩, ⟨3, .phase⟩, ⟨4, .phase⟩, ⟨5, .phase⟩, ⟨6, .phase⟩, ⟨7, .phase⟩], none⟩) (by kernel_rfl) rfl (fun K hK => ?_)
        go_simp
        refine hK _ _ (fun h => absurd rfl h) ?_
        clear hK K
        try simp only [Act.put, lA, lZ, lS]
        refine Late.done (by kernel_rfl) ?_ _
        have HY5 := hide hy5
        have HK5 := hide k5
        have z5 := k5.size
        clear hy5 k5 hX5 hW5
        go_wp2_with fail
        refine ⟨⟨j + 1, col5, vsD, m', by go_num, by rw [decide_eq_false (by omega)], by omega, HY5.out.mono (fun b hb => ?_), ?_, hq'⟩, by simp [intOf]; omega⟩
        · rcases hb with (((hb | hb) | hb) | hb) | hb
          · exact hb.elim
          · exact .inl (.inr hb)
          · exact .inr (by omega)
          · exact .inr (by omega)
          · exact .inr (by have h1 := hb.1; have h2 := hb.2; omega)
        · have kB := (kO.trans (Kp.of_ext xBC)).then kOD (fun i hi e => by
            rcases e with e | e
            · exact e
            · omega)
          exact (kB.trans (Kp.of_ext (xR.trans (xd.trans xd4)))).then HK5.out (fun i hi e => by
            rcases e with (e | e) | e
            · exact e
            · omega
            · omega)
end Go.Proofs.YthicgffppmbamaaGreat
