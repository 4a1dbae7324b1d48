/- What may be written: names, groups, tables. -/
import Derived.Test.YthicgffppmbamaaGreatCheck
namespace Go.Proofs.YthicgffppmbamaaGreat
open Go.RowKit

set_option maxRecDepth 20000 in
set_option maxHeartbeats 1000000 in
theorem rightNames_any (B0 : Nat) (w : World) (v : Value) (ss : List ByteArray) (hr : RdS B0 w v ss) :
    Calls Tryz.prog 100 #[v] w fun e w' => e = .returned (.bool (Pl.okNames (ss.map bytesOf))) ∧ w' = w := by
  have hr0 := hr
  obtain ⟨ao, cap, rfl, h1, h2, h3⟩ := RdS.open hr
  clear hr
  have hml : (ss.map bytesOf).length = ss.length := by simp
  by_cases hs : ss.length < 1
  · have e : Pl.okNames (ss.map bytesOf) = false := by rw [← Bool.not_eq_true, Pl.okNames_iff]; omega
    rw [e]
    clear e hml
    go_enter Tryz.func100, Tryz.ntmps100
    go_wp2
    go_ret
    exact ⟨rfl, rfl⟩
  by_cases hs4 : 4 < ss.length
  · have e : Pl.okNames (ss.map bytesOf) = false := by rw [← Bool.not_eq_true, Pl.okNames_iff]; omega
    rw [e]
    clear e hml
    go_enter Tryz.func100, Tryz.ntmps100
    go_wp2
    go_ret
    exact ⟨rfl, rfl⟩
  generalize hb : Pl.okNames (ss.map bytesOf) = bb
  have HB := hide hb
  have HM := hide hml
  clear hb hml
  obtain ⟨b, off, rfl, hb0, hc⟩ := h3 (by omega)
  go_enter Tryz.func100, Tryz.ntmps100
  go_wp2_with fail
  go_loop [15] (fun i => ∃ k : Nat, k ≤ ss.length ∧ i = .int .i64 k ∧ Hid (Pl.okTo (ss.map bytesOf) k)) (fun i => ss.length - (intOf i).toNat)
  case atStart => exact ⟨0, Nat.zero_le _, rfl, Pl.okTo_zero _⟩
  case round =>
    obtain ⟨k, hk, rfl, hall⟩ := hrel
    by_cases hkl : k < ss.length
    · have hck := hc k hkl
      clear hc h3
      have hgk : ss.getD k ByteArray.empty = ss[k] := by rw [List.getD_eq_getElem?_getD, List.getElem?_eq_getElem hkl]; rfl
      rw [hgk] at hck
      have hstep := Pl.okTo_succ (ss.map bytesOf) k (by rw [HM.out]; exact hkl)
      rw [List.getElem_map, Pl.okName_iff, bytesOf_len] at hstep
      have hcon := contains_any B0 w (.slice (some ⟨b, off, none⟩) k cap) (ss.take k) ss[k] (by have := Rd.take hr0 (q := k) (by simp) (by omega); rw [← List.map_take] at this; exact this) (decide (bytesOf ss[k] ∈ (ss.take k).map bytesOf)) rfl
      rw [List.map_take] at hcon
      have HS := hide hstep
      have HC := hide hcon
      clear hstep hcon hgk
      generalize ss[k] = y at *
      by_cases hy1 : y.size < 1
      · go_wp2_with fail
        go_ret
        rw [← HB.out, Pl.okNames_false _ (k + 1) (by rw [HM.out]; omega) (fun h => by have := (HS.out.1 h).2.1; omega)]
        exact ⟨rfl, rfl⟩
      by_cases hy8 : 8 < y.size
      · go_wp2_with fail
        go_ret
        rw [← HB.out, Pl.okNames_false _ (k + 1) (by rw [HM.out]; omega) (fun h => by have := (HS.out.1 h).2.1; omega)]
        exact ⟨rfl, rfl⟩
      by_cases hin : bytesOf y ∈ (ss.map bytesOf).take k
      · rw [decide_eq_true hin] at HC
        have HI := hide hin
        clear hin
        go_wp2_with fail
        refine (unhide HC).mono ?_
        rintro e w1 ⟨rfl, rfl⟩
        go_wp2_with fail
        go_ret
        rw [← HB.out, Pl.okNames_false _ (k + 1) (by rw [HM.out]; omega) (fun h => (HS.out.1 h).2.2 HI.out)]
        exact ⟨rfl, rfl⟩
      · rw [decide_eq_false hin] at HC
        have HI := hide hin
        clear hin
        go_wp2_with fail
        refine (unhide HC).mono ?_
        rintro e w1 ⟨rfl, rfl⟩
        go_wp2_with fail
        go_round
        case rel => exact ⟨k + 1, by omega, by go_num, HS.out.2 ⟨hall.out, ⟨by omega, by omega⟩, HI.out⟩⟩
        case measure => simp [intOf]; omega
    · go_wp2_with fail
      go_ret
      obtain rfl : k = ss.length := by omega
      have e : Pl.okNames (ss.map bytesOf) = true := by
        rw [Pl.okNames_iff, HM.out]
        exact ⟨by omega, by omega, hall.out⟩
      rw [← HB.out, e]
      exact ⟨rfl, rfl⟩
end Go.Proofs.YthicgffppmbamaaGreat
