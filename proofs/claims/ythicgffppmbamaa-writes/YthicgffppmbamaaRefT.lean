/- The document's answer: which tables can be written. -/
import Derived.Test.YthicgffppmbamaaRefB
import Derived.Test.YthicgffppmbamaaCheck4
namespace Go.Proofs.Ythicgffppmbamaa
open Go.RowKit

set_option maxRecDepth 20000 in
set_option maxHeartbeats 4000000 in
theorem tableRef_any (B0 : Nat) (w : World) (nv gv : Value) (ss : List ByteArray) (gs : List (List (List Int))) (hn : RdS B0 w nv ss) (hg : RdIII B0 w gv gs) :
    Calls Try.prog 11 #[.agg #[nv, gv]] w fun e w' => e = .returned (.bool (Pl.okTable (ss.map bytesOf) gs)) ∧ Ext w w' := by
  have hiff := Pl.okTable_iff (ss.map bytesOf) gs
  rw [Pl.okNames_iff, List.length_map] at hiff
  have hn0 := hn
  have hg0 := hg
  obtain ⟨an, cn, rfl, n1, n2, -⟩ := RdS.open hn
  obtain ⟨ag, cg, rfl, g1, g2, -⟩ := hg.open
  clear hn hg
  generalize hN : ss.length = N at *
  generalize hG : gs.length = G at *
  have hext : Ext w (w.alloc (.cells #[.slice an N cn, .slice ag G cg] 27)) := (Kp.refl _ _).alloc _
  have hp0 : (w.alloc (.cells #[.slice an N cn, .slice ag G cg] 27)).cell? ⟨w.heap.size, 0, none⟩ = some (.slice an N cn) := World.cell?_alloc_new w _ _ 0
  have hp1 : (w.alloc (.cells #[.slice an N cn, .slice ag G cg] 27)).cell? ⟨w.heap.size, 1, none⟩ = some (.slice ag G cg) := World.cell?_alloc_new w _ _ 1
  generalize hb : Pl.okTable (ss.map bytesOf) gs = bb at *
  have HI := hide hiff
  have HP0 := hide hp0
  have HP1 := hide hp1
  have HN := hide hN
  have HG := hide hG
  clear hb hiff hp0 hp1 hN hG
  by_cases h1 : N < 1
  · have e : bb = false := by rw [← Bool.not_eq_true, HI.out]; omega
    rw [e]
    go_enter Try.func11, Try.ntmps11
    go_wp2_with fail
    go_ret
    exact ⟨rfl, hext⟩
  by_cases h4 : 4 < N
  · have e : bb = false := by rw [← Bool.not_eq_true, HI.out]; omega
    rw [e]
    go_enter Try.func11, Try.ntmps11
    go_wp2_with fail
    go_ret
    exact ⟨rfl, hext⟩
  by_cases h6 : 6 < G
  · have e : bb = false := by rw [← Bool.not_eq_true, HI.out]; omega
    rw [e]
    go_enter Try.func11, Try.ntmps11
    go_wp2_with fail
    go_ret
    exact ⟨rfl, hext⟩
  go_enter Try.func11, Try.ntmps11
  go_wp2_with fail
  generalize w.alloc (.cells #[.slice an N cn, .slice ag G cg] 27) = W0 at *
  go_loopw [3] (fun i wr => ∃ k : Nat, k ≤ N ∧ i = .int .i64 k ∧ Hid (Pl.okTo (ss.map bytesOf) k) ∧ Ext W0 wr) (fun i _ => N - (intOf i).toNat)
  case atStart => exact ⟨0, Nat.zero_le _, rfl, Pl.okTo_zero _, Kp.refl _ _⟩
  case round =>
    obtain ⟨k, hk, rfl, hall, x1⟩ := hrel
    have b0 := x1.cell HP0.out id
    have b1 := x1.cell HP1.out id
    by_cases hkl : k < N
    · obtain ⟨_, _, he, _, _, h3⟩ := RdS.open (hn0.kept (hext.trans x1) (fun _ f => f.elim))
      rw [HN.out] at he h3
      cases he
      obtain ⟨b, off, rfl, hb0, hc⟩ := h3 (by omega)
      have hck := hc k hkl
      have hkl' : k < ss.length := by rw [HN.out]; exact hkl
      rw [getD_at ss k _ hkl'] at hck
      have hstep := Pl.okTo_succ (ss.map bytesOf) k (by rw [List.length_map]; exact hkl')
      rw [List.getElem_map, Pl.okName_iff, bytesOf_len] at hstep
      have HS := hide hstep
      clear hstep h3 hc
      generalize hy : ss[k] = y at *
      have HY := hide hy
      clear hy
      by_cases hy1 : y.size < 1
      · go_wp2_with fail
        go_ret
        have e : bb = false := by
          rw [← Bool.not_eq_true, HI.out]
          rintro ⟨⟨_, _, h⟩, _⟩
          have := (HS.out.1 (Pl.okTo_mono _ (k + 1) (N - (k + 1)) (by rw [show k + 1 + (N - (k + 1)) = N by omega]; exact h))).2.1
          omega
        rw [e]
        exact ⟨rfl, hext.trans x1⟩
      by_cases hy8 : 8 < y.size
      · go_wp2_with fail
        go_ret
        have e : bb = false := by
          rw [← Bool.not_eq_true, HI.out]
          rintro ⟨⟨_, _, h⟩, _⟩
          have := (HS.out.1 (Pl.okTo_mono _ (k + 1) (N - (k + 1)) (by rw [show k + 1 + (N - (k + 1)) = N by omega]; exact h))).2.1
          omega
        rw [e]
        exact ⟨rfl, hext.trans x1⟩
      go_wp2_with fail
      go_loopw [4] (fun i wr' => ∃ j : Nat, j ≤ k ∧ i = .int .i64 j ∧ Hid (bytesOf y ∉ (ss.map bytesOf).take j) ∧ Ext W0 wr') (fun i _ => k - (intOf i).toNat)
      case atStart => exact ⟨0, Nat.zero_le _, rfl, by show _ ∉ _; simp, x1⟩
      case round =>
        clear hck b0 b1 x1
        obtain ⟨j, hj, rfl, hnin, x2⟩ := hrel
        have b0 := x2.cell HP0.out id
        have b1 := x2.cell HP1.out id
        by_cases hjl : j < k
        · obtain ⟨_, _, he, _, _, h3⟩ := RdS.open (hn0.kept (hext.trans x2) (fun _ f => f.elim))
          rw [HN.out] at he h3
          cases he
          obtain ⟨b', off', he, _, hc⟩ := h3 (by omega)
          cases he
          have hck := hc k hkl
          have hcj := hc j (by omega)
          have hjl' : j < ss.length := by omega
          rw [getD_at ss k _ hkl', HY.out] at hck
          rw [getD_at ss j _ hjl'] at hcj
          have htk : (ss.map bytesOf).take (j + 1) = (ss.map bytesOf).take j ++ [bytesOf ss[j]] := by
            rw [List.take_succ_eq_append_getElem (by rw [List.length_map]; exact hjl'), List.getElem_map]
          have hmem : bytesOf ss[j] ∈ (ss.map bytesOf).take k := by
            rw [List.mem_take_iff_getElem]
            exact ⟨j, by rw [List.length_map]; omega, by rw [List.getElem_map]⟩
          have he := eq_bytes ss[j] y
          generalize ss[j] = z at *
          clear hc h3
          have hjN : j < N := by omega
          by_cases hzy : bytesOf z = bytesOf y
          · rw [decide_eq_true hzy] at he
            have HM : Hid (bytesOf y ∈ (ss.map bytesOf).take k) := by show _ ∈ _; rw [← hzy]; exact hmem
            clear hzy hmem htk
            go_wp2_with fail
            go_quiet (fail)
            go_wp2_with fail
            go_ret
            have e : bb = false := by
              rw [← Bool.not_eq_true, HI.out]
              rintro ⟨⟨_, _, h⟩, _⟩
              exact (HS.out.1 (Pl.okTo_mono _ (k + 1) (N - (k + 1)) (by rw [show k + 1 + (N - (k + 1)) = N by omega]; exact h))).2.2 HM.out
            rw [e]
            exact ⟨rfl, (hext.trans x2).drewN _⟩
          · rw [decide_eq_false hzy] at he
            have HM : Hid (bytesOf y ∉ (ss.map bytesOf).take (j + 1)) := by
              show _ ∉ _
              rw [htk, List.mem_append, List.mem_singleton]
              rintro (h | h)
              · exact hnin.out h
              · exact hzy h.symm
            clear hzy hmem htk
            go_wp2_with fail
            go_quiet (fail)
            go_wp2_with fail
            refine ⟨⟨j + 1, by omega, by go_num, HM, x2.drewN _⟩, by simp [intOf]; omega⟩
        · obtain rfl : j = k := by omega
          go_wp2_with fail
          refine ⟨⟨j + 1, by omega, by go_num, HS.out.2 ⟨hall.out, ⟨by omega, by omega⟩, hnin.out⟩, x2⟩, by simp [intOf]; omega⟩
    · obtain rfl : k = N := by omega
      go_wp2_with fail
      go_loopw [5] (fun i wr => ∃ q : Nat, q ≤ G ∧ i = .int .i64 q ∧ Hid (∀ g ∈ gs.take q, Pl.okGroup k g = true) ∧ Ext W0 wr) (fun i _ => G - (intOf i).toNat)
      case atStart => exact ⟨0, Nat.zero_le _, rfl, by show ∀ g ∈ _, _; simp, x1⟩
      case round =>
        clear b0 b1 x1
        obtain ⟨q, hq, rfl, hgs, x3⟩ := hrel
        have b0 := x3.cell HP0.out id
        have b1 := x3.cell HP1.out id
        by_cases hql : q < G
        · obtain ⟨_, _, he, _, _, h3⟩ := (hg0.kept hext (fun _ f => f.elim)).open
          rw [HG.out] at he h3
          cases he
          obtain ⟨b, off, rfl, hb0, hc⟩ := h3 (by omega)
          have hql' : q < gs.length := by rw [HG.out]; exact hql
          obtain ⟨ai, ci, hckW, hrk⟩ := hc q hql
          have hck := x3.cell hckW id
          rw [getD_at gs q _ hql'] at hck hrk
          clear hckW
          have htk : gs.take (q + 1) = gs.take q ++ [gs[q]] := List.take_succ_eq_append_getElem hql'
          have hmem : gs[q] ∈ gs := List.getElem_mem hql'
          clear hc h3
          generalize gs[q] = g at *
          obtain ⟨_, _, he, gl1, gl2, -⟩ := hrk.open
          cases he
          generalize hgl : g.length = gl at *
          have hgi := Pl.okGroup_iff k g
          rw [hgl] at hgi
          have HGI := hide hgi
          have HGL := hide hgl
          clear hgi hgl
          by_cases hne : gl = k
          · have hneb : ((gl : Int) != (k : Int)) = false := by simp [hne]
            have HNE := hide hne
            have hglb : 1 ≤ gl ∧ gl ≤ 4 := by omega
            clear hne
            go_wp2_with fail
            go_loopw [7] (fun i wr => ∃ r : Nat, r ≤ gl ∧ i = .int .i64 r ∧ Hid ((∀ l ∈ g.take r, Pl.okList (g.getD 0 []).length l = true) ∧ (1 ≤ r → 1 ≤ (g.getD 0 []).length ∧ (g.getD 0 []).length ≤ 20)) ∧ Ext W0 wr) (fun i _ => gl - (intOf i).toNat)
            case atStart => exact ⟨0, Nat.zero_le _, rfl, ⟨by simp, fun h => absurd h (by omega)⟩, x3⟩
            case round =>
              clear b0 b1 hck x3
              obtain ⟨r, hr, rfl, hls, x4⟩ := hrel
              by_cases hrl : r < gl
              · obtain ⟨_, _, he, _, _, h3⟩ := hrk.open
                rw [HGL.out] at he h3
                cases he
                obtain ⟨b4, off4, rfl, hb4, hc⟩ := h3 (by omega)
                obtain ⟨a0, c0, hc0W, hr0⟩ := hc 0 (by omega)
                obtain ⟨al, cl, hclW, hrl0⟩ := hc r hrl
                have hrl' : r < g.length := by rw [HGL.out]; exact hrl
                rw [getD_at g r _ hrl'] at hclW hrl0
                have hc0 := x4.cell hc0W id
                have hcl := x4.cell hclW id
                simp only [Nat.add_zero] at hc0
                have htk4 : g.take (r + 1) = g.take r ++ [g[r]] := List.take_succ_eq_append_getElem hrl'
                have hmem4 : g[r] ∈ g := List.getElem_mem hrl'
                have hfirst : r = 0 → g[r] = g.getD 0 [] := fun e => by subst e; rw [getD_at g 0 _ hrl']
                have HCLW := hide hclW
                clear hc h3 hc0W hclW hr0
                generalize g[r] = l at *
                obtain ⟨_, _, he, ll1, ll2, -⟩ := RdI.open hrl0
                cases he
                generalize hrows : (g.getD 0 []).length = rows at *
                generalize hll : l.length = n at *
                have HLL := hide hll
                have hol : Pl.okList rows l = true ↔ n = rows ∧ l.all Pl.okVal = true := by
                  unfold Pl.okList
                  rw [Bool.and_eq_true, decide_eq_true_eq, hll]
                have HOL := hide hol
                clear hll hol hrows
                have hrlb : r < 4 := by omega
                have fin_bad : Pl.okList rows l = false ∨ rows < 1 ∨ 20 < rows → bb = false := fun hbad => by
                  rw [← Bool.not_eq_true, HI.out]
                  rintro ⟨_, _, h⟩
                  obtain ⟨_, a1, a2, a3⟩ := HGI.out.1 (h g hmem)
                  rcases hbad with hbad | hbad | hbad
                  · have := a3 l hmem4
                    rw [hbad] at this
                    cases this
                  · omega
                  · omega
                have FB := hide fin_bad
                clear fin_bad
                by_cases hnr : n = rows
                · subst hnr
                  have hnb : ((n : Int) != (n : Int)) = false := by simp
                  by_cases hn1 : n < 1
                  · have hd1 : decide ((n : Int) < 1) = true := by simp; omega
                    go_wp2_with fail
                    go_quiet (fail)
                    go_wp2_with fail
                    go_ret
                    rw [FB.out (.inr (.inl hn1))]
                    exact ⟨rfl, (hext.trans x4).drewN _⟩
                  have hd1 : decide ((n : Int) < 1) = false := by simp; omega
                  by_cases hn20 : 20 < n
                  · have hd2 : decide ((20 : Int) < (n : Int)) = true := by simp; omega
                    go_wp2_with fail
                    go_quiet (fail)
                    go_wp2_with fail
                    go_ret
                    rw [FB.out (.inr (.inr hn20))]
                    exact ⟨rfl, (hext.trans x4).drewN _⟩
                  have hd2 : decide ((20 : Int) < (n : Int)) = false := by simp; omega
                  go_wp2_with fail
                  go_quiet (fail)
                  go_wp2_with fail
                  go_loopw [8] (fun i wr => ∃ m : Nat, m ≤ n ∧ i = .int .i64 m ∧ Hid ((l.take m).all Pl.okVal = true) ∧ Ext W0 wr) (fun i _ => n - (intOf i).toNat)
                  case atStart => exact ⟨0, Nat.zero_le _, rfl, by show _ = _; simp, x4.drewN _⟩
                  case round =>
                    clear hc0 hcl x4
                    obtain ⟨m, hm, rfl, hvs, x5⟩ := hrel
                    have hcl := x5.cell HCLW.out id
                    by_cases hml : m < n
                    · obtain ⟨_, _, he, _, _, h3⟩ := RdI.open (hrl0.kept x5 (fun _ f => f.elim))
                      rw [HLL.out] at he h3
                      cases he
                      obtain ⟨b5, off5, rfl, hb5, hc⟩ := h3 (by omega)
                      have hcm := hc m hml
                      have hml' : m < l.length := by rw [HLL.out]; exact hml
                      rw [getD_at l m _ hml'] at hcm
                      have htk5 : l.take (m + 1) = l.take m ++ [l[m]] := List.take_succ_eq_append_getElem hml'
                      have hmem5 : l[m] ∈ l := List.getElem_mem hml'
                      clear hc h3
                      generalize l[m] = y at *
                      have hyv := Pl.okVal_iff y
                      have HYV := hide hyv
                      clear hyv
                      by_cases hy0 : y < 0
                      · go_wp2_with fail
                        go_ret
                        rw [FB.out (.inl (by
                          rw [← Bool.not_eq_true, HOL.out, List.all_eq_true]
                          rintro ⟨_, h⟩
                          have := HYV.out.1 (h y hmem5)
                          omega))]
                        exact ⟨rfl, hext.trans x5⟩
                      by_cases hymax : 1099511627775 < y
                      · go_wp2_with fail
                        go_ret
                        rw [FB.out (.inl (by
                          rw [← Bool.not_eq_true, HOL.out, List.all_eq_true]
                          rintro ⟨_, h⟩
                          have := HYV.out.1 (h y hmem5)
                          omega))]
                        exact ⟨rfl, hext.trans x5⟩
                      go_wp2_with fail
                      refine ⟨⟨m + 1, by omega, by go_num, ?_, x5⟩, by simp [intOf]; omega⟩
                      show _ = _
                      rw [htk5, List.all_append, hvs.out]
                      simp only [List.all_cons, List.all_nil, Bool.and_true, Bool.true_and]
                      exact HYV.out.2 (by omega)
                    · obtain rfl : m = n := by omega
                      go_wp2_with fail
                      have hv := hvs.out
                      rw [← HLL.out, List.take_length] at hv
                      refine ⟨⟨r + 1, by omega, by go_num, ⟨?_, fun _ => ⟨by omega, by omega⟩⟩, x5⟩, by simp [intOf]; omega⟩
                      rw [htk4]
                      intro l' hl'
                      rcases List.mem_append.1 hl' with h | h
                      · exact hls.out.1 l' h
                      · rw [List.mem_singleton.1 h]; exact HOL.out.2 ⟨by trivial, hv⟩
                · have hnb : ((n : Int) != (rows : Int)) = true := by simp; omega
                  have HNR := hide hnr
                  clear hnr
                  go_wp2_with fail
                  go_quiet (fail)
                  go_wp2_with fail
                  go_ret
                  rw [FB.out (.inl (by rw [← Bool.not_eq_true, HOL.out]; exact fun h => HNR.out h.1))]
                  exact ⟨rfl, (hext.trans x4).drewN _⟩
              · obtain rfl : r = gl := by omega
                go_wp2_with fail
                have hyes : Pl.okGroup k g = true := by
                  have h := hls.out
                  rw [← HGL.out, List.take_length] at h
                  have h1 := h.2 (by rw [HGL.out]; omega)
                  exact HGI.out.2 ⟨HNE.out, h1.1, h1.2, h.1⟩
                refine ⟨⟨q + 1, by omega, by go_num, ?_, x4⟩, by simp [intOf]; omega⟩
                show ∀ g' ∈ _, _
                rw [htk]
                intro g' hg'
                rcases List.mem_append.1 hg' with h | h
                · exact hgs.out g' h
                · rw [List.mem_singleton.1 h]; exact hyes
          · have hneb : ((gl : Int) != (k : Int)) = true := by simp; omega
            have HNE := hide hne
            clear hne
            go_wp2_with fail
            go_ret
            have e : bb = false := by
              rw [← Bool.not_eq_true, HI.out]
              rintro ⟨_, _, h⟩
              have := h g hmem
              exact HNE.out (HGI.out.1 this).1
            rw [e]
            exact ⟨rfl, hext.trans x3⟩
        · obtain rfl : q = G := by omega
          go_wp2_with fail
          go_ret
          have h := hgs.out
          rw [← HG.out, List.take_length] at h
          have e : bb = true := HI.out.2 ⟨⟨by omega, by omega, hall.out⟩, by omega, h⟩
          rw [e]
          exact ⟨rfl, hext.trans x3⟩
end Go.Proofs.Ythicgffppmbamaa
