/- The document's answer: pages of runs. -/
import Derived.Test.YthicgffppmbamaaRefB
namespace Go.Proofs.Ythicgffppmbamaa
open Go.RowKit

set_option maxRecDepth 20000 in
set_option maxHeartbeats 2000000 in
theorem encode1_any (B0 : Nat) (w : World) (v : Value) (xs : List Int) (hr : RdI B0 w v xs) (hx : ∀ x ∈ xs, 0 ≤ x ∧ x ≤ 1099511627775) (hl : xs.length ≤ 20) :
    Calls Try.prog 20 #[.int .i64 1, v] w fun e w' => e = .returned (T (1 :: Pl.runs xs)) ∧ Ext w w' := by
  have hr0 := hr
  obtain ⟨ao, cap, rfl, h1, h2, -⟩ := RdI.open hr
  clear hr
  have hcv := conv1 1 (by omega) (by omega)
  go_enter Try.func20, Try.ntmps20
  go_wp2_with fail
  go_loopw [5, 7] (fun t i wr => ∃ (k : Nat) (S : List UInt8), k ≤ xs.length ∧ i = .int .i64 k ∧ t = T S ∧ S.length ≤ 1 + 8 * k ∧ Hid (S ++ Pl.runs (xs.drop k) = 1 :: Pl.runs xs) ∧ Ext w wr) (fun _ i _ => xs.length - (intOf i).toNat)
  case atStart => exact ⟨0, [1], Nat.zero_le _, rfl, rfl, by simp, rfl, (Kp.refl _ _).alloc _⟩
  case round =>
    obtain ⟨k, S, hk, rfl, rfl, hS, HS, hext⟩ := hrel
    clear hcv
    by_cases hkl : k < xs.length
    · go_wp2_with fail
      go_loopw [8] (fun n wr' => ∃ m : Nat, n = .int .i64 m ∧ 1 ≤ m ∧ k + m ≤ xs.length ∧ Hid (∀ j, j < m → xs.getD (k + j) 0 = xs.getD k 0) ∧ Ext w wr') (fun n _ => xs.length - (intOf n).toNat)
      case atStart => exact ⟨1, rfl, by omega, by omega, fun j hj => by rw [show j = 0 by omega]; rfl, hext⟩
      case round =>
        clear hext
        obtain ⟨m, rfl, hm1, hm2, hall, hext2⟩ := hrel
        obtain ⟨ao', cap', he, _, _, h3⟩ := RdI.open (hr0.kept hext2 (fun _ f => f.elim))
        cases he
        obtain ⟨b, off, rfl, hb0, hc⟩ := h3 (by omega)
        have hck := hc k hkl
        have hxk := hx (xs.getD k 0) (by rw [getD_at' xs k 0 hkl]; exact List.getElem_mem hkl)
        have hp0 : (0 : Int) ≤ (k : Int) + (m : Int) := by omega
        have hp2 : ((k : Int) + (m : Int)).toNat = k + m := by omega
        have hwr : IntKind.i64.wrap ((k : Int) + (m : Int)) = (k : Int) + (m : Int) := by simp [IntKind.wrap, IntKind.bits, IntKind.signed]; omega
        by_cases hgo : k + m < xs.length ∧ xs.getD (k + m) 0 = xs.getD k 0
        · obtain ⟨hlt, hyx⟩ := hgo
          have hcm := hc (k + m) hlt
          have hd : decide ((k : Int) + (m : Int) < (xs.length : Int)) = true := by simp; omega
          have hp1 : (k : Int) + (m : Int) < (xs.length : Int) := by omega
          rw [hyx] at hcm
          clear hc h3 hx hr0
          have HYX := hide hyx
          clear hyx
          generalize hx0 : xs.getD k 0 = x0 at *
          have HX0 := hide hx0
          clear hx0
          go_wp2_with fail
          go_quiet (fail)
          go_wp2_with fail
          refine ⟨⟨m + 1, by go_num, by omega, by omega, ?_, hext2.drewN _⟩, by simp [intOf]; omega⟩
          intro j hj
          by_cases e : j = m
          · subst e; exact HYX.out
          · exact hall.out j (by omega)
        · have hds : xs.drop k = xs.getD k 0 :: xs.drop (k + 1) := by rw [getD_at' xs k 0 hkl]; exact List.drop_eq_getElem_cons hkl
          have hgd : ∀ j, (xs.drop k).getD j 0 = xs.getD (k + j) 0 := fun j => by rw [List.getD_eq_getElem?_getD, List.getD_eq_getElem?_getD, List.getElem?_drop]
          have hrun := runLen_is (xs.getD k 0) (xs.drop k) m (fun j hj => by rw [hgd]; exact hall.out j hj) (by rw [List.length_drop]; omega) (fun hj => by
            rw [List.length_drop] at hj
            rw [hgd]
            exact fun e => hgo ⟨by omega, e⟩)
          have hruns := Pl.runs_cons (xs.getD k 0) (xs.drop (k + 1))
          rw [← hds] at hruns
          have hrl : m = Pl.runLen (xs.getD k 0) (xs.drop (k + 1)) + 1 := by
            rw [← hrun]
            conv => lhs; rw [hds]
            simp [Pl.runLen]
          rw [← hrl, List.drop_drop, show k + 1 + Pl.runLen (xs.getD k 0) (xs.drop (k + 1)) = k + m by omega] at hruns
          have hv1 := Pl.vint_len 0 m (by show _ < 128; omega)
          have hv2 := Pl.vint_len 5 (xs.getD k 0).toNat (by simp only [Nat.reduceAdd, Nat.reducePow]; omega)
          have HN : Hid (S ++ Pl.vint m ++ Pl.vint (xs.getD k 0).toNat ++ Pl.runs (xs.drop (k + m)) = 1 :: Pl.runs xs) := by
            show _ = _
            rw [← HS.out, hruns]; simp
          clear hrun hruns hrl hds hgd hall HS
          have hbs := World.block_lt_of_cell? _ _ hck
          simp only at hbs
          by_cases hlt : k + m < xs.length
          · have hcm := hc (k + m) hlt
            have hd : decide ((k : Int) + (m : Int) < (xs.length : Int)) = true := by simp; omega
            have hp1 : (k : Int) + (m : Int) < (xs.length : Int) := by omega
            have hyx : (xs.getD (k + m) 0 == xs.getD k 0) = false := by
              rw [beq_eq_false_iff_ne]
              exact fun e => hgo ⟨hlt, e⟩
            clear hc h3 hx hr0 hgo
            generalize hx0 : xs.getD k 0 = x0 at *
            generalize hy0 : xs.getD (k + m) 0 = y0 at *
            clear hx0 hy0
            go_wp2_with fail
            go_quiet (fail)
            go_wp2_with fail
            go_region_with (go_at_call 12; go_must (refine (varintR _ _ (by omega) (by omega)).mono ?_); rintro e w1 ⟨rfl, x1⟩; try (have hcx := x1.cell (a := ⟨b, off + k, none⟩) (by exact hck) id))
            all_goals
              go_wp2_with fail
              refine ⟨⟨k + m, S ++ Pl.vint m ++ Pl.vint x0.toNat, by omega, by go_num, ?_, ?_, HN, ?_⟩, ?_⟩
              · rw [ByteArray.mk_append_mk, ByteArray.mk_append_mk]
              · simp only [List.length_append]; omega
              · exact ((Kp.drew (hext2.drewN _)).trans (by assumption)).trans (by assumption)
              · simp [intOf]; omega
          · have hd : decide ((k : Int) + (m : Int) < (xs.length : Int)) = false := by simp; omega
            clear hc h3 hx hr0 hgo
            generalize hx0 : xs.getD k 0 = x0 at *
            clear hx0
            go_wp2_with fail
            go_quiet (fail)
            go_wp2_with fail
            go_region_with (go_at_call 12; go_must (refine (varintR _ _ (by omega) (by omega)).mono ?_); rintro e w1 ⟨rfl, x1⟩; try (have hcx := x1.cell (a := ⟨b, off + k, none⟩) (by exact hck) id))
            all_goals
              go_wp2_with fail
              refine ⟨⟨k + m, S ++ Pl.vint m ++ Pl.vint x0.toNat, by omega, by go_num, ?_, ?_, HN, ?_⟩, ?_⟩
              · rw [ByteArray.mk_append_mk, ByteArray.mk_append_mk]
              · simp only [List.length_append]; omega
              · exact ((Kp.drew (hext2.drewN _)).trans (by assumption)).trans (by assumption)
              · simp [intOf]; omega
    · go_wp2_with fail
      go_ret
      rw [List.drop_of_length_le (by omega), Pl.runs_nil, List.append_nil] at HS
      exact ⟨by rw [← HS.out]; rfl, hext⟩
end Go.Proofs.Ythicgffppmbamaa
