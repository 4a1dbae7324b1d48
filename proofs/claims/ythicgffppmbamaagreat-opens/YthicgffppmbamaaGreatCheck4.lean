/- What may be written: tables. -/
import Derived.Test.YthicgffppmbamaaGreatCheck3
namespace Go.Proofs.YthicgffppmbamaaGreat
open Go.RowKit

set_option maxRecDepth 20000 in
set_option maxHeartbeats 1000000 in
theorem writable_any (B0 : Nat) (w : World) (nv gv : Value) (ss : List ByteArray) (gs : List (List (List Int))) (hn : RdS B0 w nv ss) (hg : RdIII B0 w gv gs) :
    Calls Tryz.prog 95 #[.agg #[nv, gv]] w fun e w' => e = .returned (.bool (Pl.okTable (ss.map bytesOf) gs)) ∧ Ext w w' := by
  have hiff := Pl.okTable_iff (ss.map bytesOf) gs
  rw [List.length_map] at hiff
  have hrn : ∀ u, Ext w u → Calls Tryz.prog 100 #[nv] u fun e w' => e = .returned (.bool (Pl.okNames (ss.map bytesOf))) ∧ w' = u := fun u hu => rightNames_any B0 u nv ss (hn.kept hu (fun _ f => f.elim))
  have hl := Pl.okNames_iff (ss.map bytesOf)
  rw [List.length_map] at hl
  obtain ⟨an, cn, rfl, n1, n2, -⟩ := RdS.open hn
  have hg0 := hg
  obtain ⟨ag, cg, rfl, g1, g2, g3⟩ := hg.open
  generalize hb : Pl.okTable (ss.map bytesOf) gs = bb at *
  have HI := hide hiff
  have HR := hide hrn
  clear hb hiff hrn
  have hext : ∀ o, Ext w (w.alloc o) := fun o => (Kp.refl _ _).alloc o
  cases hok : Pl.okNames (ss.map bytesOf) with
  | false =>
    rw [hok] at HR HI
    clear hok hl
    go_enter Tryz.func95, Tryz.ntmps95
    go_wp2_with fail
    refine ((unhide HR) _ (hext _)).mono ?_
    rintro e w1 ⟨rfl, rfl⟩
    go_wp2_with fail
    go_ret
    have e : bb = false := by rw [← Bool.not_eq_true, HI.out]; simp
    rw [e]
    exact ⟨rfl, hext _⟩
  | true =>
    have hln := hl.1 hok
    rw [hok] at HR HI
    clear hok hl
    by_cases h6 : 6 < gs.length
    · go_enter Tryz.func95, Tryz.ntmps95
      go_wp2_with fail
      refine ((unhide HR) _ (hext _)).mono ?_
      rintro e w1 ⟨rfl, rfl⟩
      go_wp2_with fail
      go_ret
      have e : bb = false := by rw [← Bool.not_eq_true, HI.out]; omega
      rw [e]
      exact ⟨rfl, hext _⟩
    go_enter Tryz.func95, Tryz.ntmps95
    go_wp2_with fail
    refine ((unhide HR) _ (hext _)).mono ?_
    rintro e w1 ⟨rfl, rfl⟩
    go_wp2_with fail
    generalize hN : ss.length = N at *
    go_loop [18] (fun i => ∃ k : Nat, k ≤ gs.length ∧ i = .int .i64 k ∧ Hid (∀ g ∈ gs.take k, Pl.okGroup N g = true)) (fun i => gs.length - (intOf i).toNat)
    case atStart => exact ⟨0, Nat.zero_le _, rfl, by show ∀ g ∈ _, _; simp⟩
    case round =>
      obtain ⟨k, hk, rfl, hall⟩ := hrel
      by_cases hkl : k < gs.length
      · have hgw := hg0.kept (hext (.cells #[.slice an N cn, .slice ag gs.length cg] 42)) (fun _ f => f.elim)
        obtain ⟨_, _, he, _, _, g4⟩ := hgw.open
        cases he
        obtain ⟨b, off, rfl, hb0, hc⟩ := g4 (by omega)
        obtain ⟨ak, ck, hck, hrk⟩ := hc k hkl
        clear hc g3 hgw g4
        have htk : gs.take (k + 1) = gs.take k ++ [gs[k]] := List.take_succ_eq_append_getElem hkl
        have hmem : gs[k] ∈ gs := List.getElem_mem hkl
        rw [getD_at gs k [] hkl] at hck hrk
        generalize gs[k] = g at *
        have hrg := rightGroup_any B0 _ _ g N hrk (by omega) (by omega)
        generalize g.length = gl at *
        cases hgo : Pl.okGroup N g with
        | true =>
          rw [hgo] at hrg
          have HG := hide hrg
          have HY : Hid (∀ l ∈ gs.take (k + 1), Pl.okGroup N l = true) := by
            show ∀ l ∈ _, _
            rw [htk]
            intro l hl
            rcases List.mem_append.1 hl with h | h
            · exact hall.out l h
            · rw [List.mem_singleton.1 h]; exact hgo
          clear hrg hgo htk
          go_wp2_with fail
          refine (unhide HG).mono ?_
          rintro e w1 ⟨rfl, rfl⟩
          go_wp2_with fail
          go_round
          case rel => exact ⟨k + 1, by omega, by go_num, HY⟩
          case measure => simp [intOf]; omega
        | false =>
          rw [hgo] at hrg
          have HG := hide hrg
          have HGO := hide hgo
          clear hrg hgo htk
          go_wp2_with fail
          refine (unhide HG).mono ?_
          rintro e w1 ⟨rfl, rfl⟩
          go_wp2_with fail
          go_ret
          have e : bb = false := by
            rw [← Bool.not_eq_true, HI.out]
            rintro ⟨_, _, h⟩
            have := h g hmem
            rw [HGO.out] at this
            cases this
          rw [e]
          exact ⟨rfl, hext _⟩
      · go_wp2_with fail
        go_ret
        obtain rfl : k = gs.length := by omega
        have h := hall.out
        rw [List.take_length] at h
        have e : bb = true := HI.out.2 ⟨by trivial, by omega, h⟩
        rw [e]
        exact ⟨rfl, hext _⟩
end Go.Proofs.YthicgffppmbamaaGreat
