/- The document's answer: the shortest page. -/
import Derived.Test.YthicgffppmbamaaRefB1
import Derived.Test.YthicgffppmbamaaRefC
namespace Go.Proofs.Ythicgffppmbamaa
open Go.RowKit

set_option maxRecDepth 20000 in
set_option maxHeartbeats 2000000 in
theorem pageRef_any (B0 : Nat) (w : World) (v : Value) (xs : List Int) (hr : RdI B0 w v xs) (hx : ∀ x ∈ xs, 0 ≤ x ∧ x ≤ 1099511627775) (hl : xs.length ≤ 20) :
    Calls Try.prog 13 #[v] w fun e w' => e = .returned (T (Pl.page xs)) ∧ Ext w w' := by
  have E0 := hide (fun u (hu : Ext w u) => encode0_any B0 u v xs (hr.kept hu (fun _ f => f.elim)) hx hl)
  have E1 := hide (fun u (hu : Ext w u) => encode1_any B0 u v xs (hr.kept hu (fun _ f => f.elim)) hx hl)
  have E2 := hide (fun u (hu : Ext w u) => encode2_any B0 u v xs (hr.kept hu (fun _ f => f.elim)) hx hl)
  have hb1 := bestOf_len xs 1 (by omega) hl hx
  have hb2 := bestOf_len xs 2 (by omega) hl hx
  have e2l : (enc2 xs).length ≤ 200 := by
    have := rising_len xs 0 (by omega) hx
    unfold enc2
    split
    · simp only [List.length_cons]; omega
    · simp
  have e1l : ((1 : UInt8) :: Pl.runs xs).length ≤ 200 := by
    have := runs_len _ xs (Nat.le_refl _) hl hx
    simp only [List.length_cons]; omega
  have P1 : Hid (∀ b, b = bestOf xs 1 → bestOf xs 2 = if ((1 : UInt8) :: Pl.runs xs).length < b.length then 1 :: Pl.runs xs else b) := by
    intro b hb; subst hb; rfl
  have P2 : Hid (∀ b, b = bestOf xs 2 → Pl.page xs = if (enc2 xs == []) = false ∧ (enc2 xs).length < b.length then enc2 xs else b) := by
    intro b hb
    subst hb
    show (if Pl.rises 0 xs = true ∧ ((2 : UInt8) :: Pl.rising 0 xs).length < (bestOf xs 2).length then 2 :: Pl.rising 0 xs else bestOf xs 2) = _
    cases hri : Pl.rises 0 xs with
    | true => rw [enc2_yes hri]; simp
    | false => rw [enc2_no hri]; simp
  have n1 : (((1 : UInt8) :: Pl.runs xs) == []) = false := rfl
  go_enter Try.func13, Try.ntmps13
  go_wp2_with fail
  refine ((unhide E0) _ (Kp.refl _ _)).mono ?_
  rintro e w0 ⟨rfl, x0⟩
  go_wp2_with fail
  go_loopw [3, 4] (fun t i wr => ∃ (k : Nat), 1 ≤ k ∧ k ≤ 3 ∧ i = .int .i64 k ∧ t = T (bestOf xs k) ∧ Ext w wr) (fun _ i _ => 3 - (intOf i).toNat)
  case atStart => exact ⟨1, by omega, by omega, rfl, rfl, x0⟩
  case round =>
    obtain ⟨k, hk1, hk3, rfl, rfl, hext⟩ := hrel
    have hk4 : k = 1 ∨ k = 2 ∨ k = 3 := by omega
    rcases hk4 with rfl | rfl | rfl
    · go_wp2_with fail
      refine ((unhide E1) _ hext).mono ?_
      rintro e w1 ⟨rfl, x1⟩
      have HP := P1.out _ rfl
      generalize bestOf xs 1 = b1 at *
      generalize hq : (1 : UInt8) :: Pl.runs xs = q1 at *
      have HPH := hide HP
      clear HP P1 P2 E0 E1 E2 hq
      by_cases hlt : q1.length < b1.length
      · go_wp2_with fail
        go_roundw
        case rel => exact ⟨2, by omega, by omega, by go_num, by rw [HPH.out, if_pos hlt], hext.trans x1⟩
        case measure => simp [intOf]
      · go_wp2_with fail
        go_roundw
        case rel => exact ⟨2, by omega, by omega, by go_num, by rw [HPH.out, if_neg hlt], hext.trans x1⟩
        case measure => simp [intOf]
    · go_wp2_with fail
      refine ((unhide E2) _ hext).mono ?_
      rintro e w1 ⟨rfl, x1⟩
      have HP := P2.out _ rfl
      have HQ : Hid (bestOf xs 3 = Pl.page xs) := rfl
      generalize bestOf xs 2 = b1 at *
      generalize enc2 xs = q1 at *
      have HPH := hide HP
      clear HP P1 P2 E0 E1 E2
      cases hne : (q1 == []) with
      | true =>
        rw [hne] at HPH
        go_wp2_with fail
        go_roundw
        case rel => exact ⟨3, by omega, by omega, by go_num, by rw [HQ.out, HPH.out]; simp, hext.trans x1⟩
        case measure => simp [intOf]
      | false =>
        rw [hne] at HPH
        by_cases hlt : q1.length < b1.length
        · go_wp2_with fail
          go_roundw
          case rel => exact ⟨3, by omega, by omega, by go_num, by rw [HQ.out, HPH.out, if_pos ⟨trivial, hlt⟩], hext.trans x1⟩
          case measure => simp [intOf]
        · go_wp2_with fail
          go_roundw
          case rel => exact ⟨3, by omega, by omega, by go_num, by rw [HQ.out, HPH.out, if_neg (fun h => hlt h.2)], hext.trans x1⟩
          case measure => simp [intOf]
    · go_wp2_with fail
      go_ret
      exact ⟨rfl, hext⟩
end Go.Proofs.Ythicgffppmbamaa
