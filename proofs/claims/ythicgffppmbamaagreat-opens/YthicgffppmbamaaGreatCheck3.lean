/- What may be written: groups, tables. -/
import Derived.Test.YthicgffppmbamaaGreatCheck2
namespace Go.Proofs.YthicgffppmbamaaGreat
open Go.RowKit

theorem getD_at {α : Type} (l : List α) (k : Nat) (d : α) (h : k < l.length) : l.getD k d = l[k] := by rw [List.getD_eq_getElem?_getD, List.getElem?_eq_getElem h]; rfl

set_option maxRecDepth 20000 in
set_option maxHeartbeats 1000000 in
theorem rightGroup_any (B0 : Nat) (w : World) (v : Value) (g : List (List Int)) (cols : Nat) (hr : RdII B0 w v g) (hc1 : 1 ≤ cols) (hc4 : cols ≤ 4) :
    Calls Tryz.prog 112 #[v, .int .i64 cols] w fun e w' => e = .returned (.bool (Pl.okGroup cols g)) ∧ w' = w := by
  have hr0 := hr
  obtain ⟨ao, cap, rfl, h1, h2, h3⟩ := hr.open
  clear hr
  by_cases hs : g.length = cols
  · obtain ⟨b, off, rfl, hb0, hc⟩ := h3 (by omega)
    clear h3
    obtain ⟨a0, c0, hcell0, hrd0⟩ := hc 0 (by omega)
    have hiff := Pl.okGroup_iff cols g
    have hm0 : RdI B0 w (.slice a0 (g.getD 0 []).length c0) (g.getD 0 []) := hrd0
    obtain ⟨_, _, he, hrl, hrc, _⟩ := RdI.open hm0
    cases he
    generalize hrows : (g.getD 0 []).length = rows at *
    clear hrd0 hm0
    simp only [Nat.add_zero] at hcell0
    generalize hb : Pl.okGroup cols g = bb at *
    have hsb : ((g.length : Int) != (cols : Int)) = false := by simp [hs]
    have HI := hide hiff
    have HL := hide hs
    clear hiff hb hrows hs
    have hgp : 0 < g.length := by rw [HL.out]; omega
    by_cases hr1 : rows < 1
    · go_enter Tryz.func112, Tryz.ntmps112
      go_wp2_with fail
      go_ret
      have e : bb = false := by rw [← Bool.not_eq_true, HI.out]; omega
      rw [e]
      exact ⟨rfl, rfl⟩
    by_cases hr20 : 20 < rows
    · go_enter Tryz.func112, Tryz.ntmps112
      go_wp2_with fail
      go_ret
      have e : bb = false := by rw [← Bool.not_eq_true, HI.out]; omega
      rw [e]
      exact ⟨rfl, rfl⟩
    go_enter Tryz.func112, Tryz.ntmps112
    go_wp2_with fail
    go_loop [24] (fun i => ∃ k : Nat, k ≤ g.length ∧ i = .int .i64 k ∧ Hid (∀ l ∈ g.take k, Pl.okList rows l = true)) (fun i => g.length - (intOf i).toNat)
    case atStart => exact ⟨0, Nat.zero_le _, rfl, by show ∀ l ∈ _, _; simp⟩
    case round =>
      obtain ⟨k, hk, rfl, hall⟩ := hrel
      by_cases hkl : k < g.length
      · obtain ⟨ak, ck, hck, hrk⟩ := hc k hkl
        clear hc
        have htk : g.take (k + 1) = g.take k ++ [g[k]] := List.take_succ_eq_append_getElem hkl
        have hmem : g[k] ∈ g := List.getElem_mem hkl
        rw [getD_at g k [] hkl] at hck hrk
        generalize g[k] = xs at *
        obtain ⟨_, _, he, hxl, hxc, _⟩ := RdI.open hrk
        cases he
        have hcf := containsFunc_any B0 w _ xs hrk
        generalize hxn : xs.length = n at *
        have HXN := hide hxn
        clear hxn
        by_cases hne : n = rows
        · have hnb : ((n : Int) != (rows : Int)) = false := by simp [hne]
          have HNE := hide hne
          clear hne
          cases hbad : Pl.badIn xs with
          | true =>
            rw [hbad] at hcf
            have HC := hide hcf
            have hno : Pl.okList rows xs = false := by
              unfold Pl.okList
              unfold Pl.badIn at hbad
              simp at hbad ⊢
              intro _
              exact hbad
            have HNO := hide hno
            clear hno hcf hbad
            go_wp2_with fail
            refine (unhide HC).mono ?_
            rintro e w1 ⟨rfl, rfl⟩
            go_wp2_with fail
            go_ret
            have e : bb = false := by
              rw [← Bool.not_eq_true, HI.out]
              rintro ⟨_, _, _, h⟩
              have := h xs hmem
              rw [HNO.out] at this
              cases this
            rw [e]
            exact ⟨rfl, rfl⟩
          | false =>
            rw [hbad] at hcf
            have HC := hide hcf
            have hyes : Pl.okList rows xs = true := by
              unfold Pl.okList
              unfold Pl.badIn at hbad
              rw [HXN.out, HNE.out]
              simp at hbad ⊢
              exact hbad
            have HY : Hid (∀ l ∈ g.take (k + 1), Pl.okList rows l = true) := by
              show ∀ l ∈ _, _
              rw [htk]
              intro l hl
              rcases List.mem_append.1 hl with h | h
              · exact hall.out l h
              · rw [List.mem_singleton.1 h]; exact hyes
            clear hcf hbad hyes htk
            go_wp2_with fail
            refine (unhide HC).mono ?_
            rintro e w1 ⟨rfl, rfl⟩
            go_wp2_with fail
            go_round
            case rel => exact ⟨k + 1, by omega, by go_num, HY⟩
            case measure => simp [intOf]; omega
        · have hnb : ((n : Int) != (rows : Int)) = true := by simp; omega
          have HNE := hide hne
          clear hne hcf
          go_wp2_with fail
          go_ret
          have e : bb = false := by
            rw [← Bool.not_eq_true, HI.out]
            rintro ⟨_, _, _, h⟩
            have := h xs hmem
            unfold Pl.okList at this
            rw [Bool.and_eq_true, decide_eq_true_eq, HXN.out] at this
            exact HNE.out this.1
          rw [e]
          exact ⟨rfl, rfl⟩
      · go_wp2_with fail
        go_ret
        obtain rfl : k = g.length := by omega
        have h := hall.out
        rw [List.take_length] at h
        have e : bb = true := HI.out.2 ⟨HL.out, by omega, by omega, h⟩
        rw [e]
        exact ⟨rfl, rfl⟩
  · have hsb : ((g.length : Int) != (cols : Int)) = true := by simp; omega
    have e : Pl.okGroup cols g = false := by
      rw [← Bool.not_eq_true, Pl.okGroup_iff]
      rintro ⟨h, _⟩
      exact hs h
    rw [e]
    clear e h3
    go_enter Tryz.func112, Tryz.ntmps112
    go_wp2
    go_ret
    exact ⟨rfl, rfl⟩
end Go.Proofs.YthicgffppmbamaaGreat
