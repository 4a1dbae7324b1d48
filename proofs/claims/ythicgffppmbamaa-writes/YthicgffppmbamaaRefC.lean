/- The document's answer: rising pages. -/
import Derived.Test.YthicgffppmbamaaRefB
namespace Go.Proofs.Ythicgffppmbamaa
open Go.RowKit

/-- what Encode answers for RISING -/
def enc2 (xs : List Int) : List UInt8 := if Pl.rises 0 xs = true then 2 :: Pl.rising 0 xs else []
theorem enc2_yes {xs : List Int} (h : Pl.rises 0 xs = true) : enc2 xs = 2 :: Pl.rising 0 xs := by unfold enc2; rw [if_pos h]
theorem enc2_no {xs : List Int} (h : Pl.rises 0 xs = false) : enc2 xs = [] := by unfold enc2; rw [if_neg (by rw [h]; simp)]

/-- the value ahead of place k -/
def prev (xs : List Int) (k : Nat) : Int := if k = 0 then 0 else xs.getD (k - 1) 0
theorem prev_succ (xs : List Int) (k : Nat) : prev xs (k + 1) = xs.getD k 0 := rfl
theorem prev_zero (xs : List Int) : prev xs 0 = 0 := rfl

set_option maxRecDepth 20000 in
set_option maxHeartbeats 2000000 in
theorem encode2_any (B0 : Nat) (w : World) (v : Value) (xs : List Int) (hr : RdI B0 w v xs) (hx : ∀ x ∈ xs, 0 ≤ x ∧ x ≤ 1099511627775) (hl : xs.length ≤ 20) :
    Calls Try.prog 20 #[.int .i64 2, v] w fun e w' => e = .returned (T (enc2 xs)) ∧ Ext w w' := by
  have hr0 := hr
  obtain ⟨ao, cap, rfl, h1, h2, -⟩ := RdI.open hr
  clear hr
  have hcv := conv1 2 (by omega) (by omega)
  go_enter Try.func20, Try.ntmps20
  go_wp2_with fail
  go_loopw [5, 9] (fun t i wr => ∃ (k : Nat) (S : List UInt8), k ≤ xs.length ∧ i = .int .i64 k ∧ t = T S ∧ S.length ≤ 1 + 6 * k ∧ Hid (Pl.rises 0 xs = Pl.rises (prev xs k) (xs.drop k)) ∧ Hid (S ++ Pl.rising (prev xs k) (xs.drop k) = 2 :: Pl.rising 0 xs) ∧ Ext w wr) (fun _ i _ => xs.length - (intOf i).toNat)
  case atStart => exact ⟨0, [2], Nat.zero_le _, rfl, rfl, by simp, rfl, rfl, (Kp.refl _ _).alloc _⟩
  case round =>
    obtain ⟨k, S, hk, rfl, rfl, hS, HR, HS, hext⟩ := hrel
    clear hcv
    by_cases hkl : k < xs.length
    · obtain ⟨ao', cap', he, _, _, h3⟩ := RdI.open (hr0.kept hext (fun _ f => f.elim))
      cases he
      obtain ⟨b, off, rfl, hb0, hc⟩ := h3 (by omega)
      have hck := hc k hkl
      have hxk := hx (xs.getD k 0) (by rw [getD_at' xs k 0 hkl]; exact List.getElem_mem hkl)
      have hds : xs.drop k = xs.getD k 0 :: xs.drop (k + 1) := by rw [getD_at' xs k 0 hkl]; exact List.drop_eq_getElem_cons hkl
      rw [hds] at HR HS
      clear hds
      by_cases hk0 : k = 0
      · subst hk0
        rw [prev_zero] at HR HS
        have HP := prev_succ xs 0
        generalize hx0 : xs.getD 0 0 = x0 at *
        have HPH := hide HP
        clear hx0 HP hc h3 hr0 hx
        have hvl := Pl.vint_len 5 x0.toNat (by simp only [Nat.reduceAdd, Nat.reducePow]; omega)
        simp only [Nat.add_zero, Int.natCast_zero] at hck ⊢
        go_wp2_with fail
        refine (varintR x0 _ hxk.1 hxk.2).mono ?_
        rintro e w1 ⟨rfl, x1⟩
        go_wp2_with fail
        refine ⟨⟨1, S ++ Pl.vint x0.toNat, by omega, by go_num, T_append _ _, by simp only [List.length_append]; omega, ?_, ?_, hext.trans x1⟩, by simp [intOf]; omega⟩
        · show _ = _
          rw [HR.out, HPH.out]
          simp only [Pl.rises]
          rw [decide_eq_true hxk.1]; rfl
        · show _ = _
          rw [← HS.out, HPH.out]
          simp [Pl.rising]
      · have hcm := hc (k - 1) (by omega)
        have hpm := hx (xs.getD (k - 1) 0) (by rw [getD_at' xs (k - 1) 0 (by omega)]; exact List.getElem_mem _)
        have hpv : prev xs k = xs.getD (k - 1) 0 := by unfold prev; rw [if_neg hk0]
        rw [hpv] at HR HS
        have HP := prev_succ xs k
        generalize hx0 : xs.getD k 0 = x0 at *
        generalize hy0 : xs.getD (k - 1) 0 = y0 at *
        have HPH := hide HP
        clear hx0 hy0 HP hc h3 hr0 hx hpv
        have hkb : ((k : Int) == 0) = false := by simp; omega
        have hi0 : (0 : Int) ≤ (k : Int) - 1 := by omega
        have hi1 : (k : Int) - 1 < (xs.length : Int) := by omega
        have hi2 : ((k : Int) - 1).toNat = k - 1 := by omega
        have hiw : IntKind.i64.wrap ((k : Int) - 1) = (k : Int) - 1 := by simp [IntKind.wrap, IntKind.bits, IntKind.signed]; omega
        by_cases hlt : x0 < y0
        · have hd : decide (x0 < y0) = true := by simp [hlt]
          go_wp2_with fail
          go_quiet (fail)
          go_wp2_with fail
          go_ret
          have e : Pl.rises 0 xs = false := by rw [HR.out]; simp [Pl.rises]; omega
          rw [enc2_no e]
          exact ⟨rfl, hext.drewN _⟩
        · have hd : decide (x0 < y0) = false := by simp; omega
          have hvl := Pl.vint_len 5 (x0 - y0).toNat (by simp only [Nat.reduceAdd, Nat.reducePow]; omega)
          have hsw : IntKind.i64.wrap (x0 - y0) = x0 - y0 := by simp [IntKind.wrap, IntKind.bits, IntKind.signed]; omega
          go_wp2_with fail
          go_quiet (fail)
          go_wp2_with fail
          go_region_with (go_at_call 12; go_must (refine (varintR _ _ (by omega) (by omega)).mono ?_); rintro e w1 ⟨rfl, x1⟩)
          all_goals
            go_wp2_with fail
            refine ⟨⟨k + 1, S ++ Pl.vint (x0 - y0).toNat, by omega, by go_num, T_append _ _, by simp only [List.length_append]; omega, ?_, ?_, ?_⟩, by simp [intOf]; omega⟩
            · show _ = _
              rw [HR.out, HPH.out]
              simp only [Pl.rises]
              rw [decide_eq_true (by omega : y0 ≤ x0)]; rfl
            · show _ = _
              rw [← HS.out, HPH.out]
              simp [Pl.rising]
            · exact (Kp.drew (hext.drewN _)).trans (by assumption)
    · go_wp2_with fail
      go_ret
      rw [List.drop_of_length_le (by omega)] at HS HR
      have e : Pl.rises 0 xs = true := HR.out
      rw [enc2_yes e, ← HS.out]
      exact ⟨by simp [Pl.rising], hext⟩
end Go.Proofs.Ythicgffppmbamaa
