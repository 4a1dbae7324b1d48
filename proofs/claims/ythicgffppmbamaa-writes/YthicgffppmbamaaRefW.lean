/- The document's answer: Write. -/
import Derived.Test.YthicgffppmbamaaRefT
import Derived.Test.YthicgffppmbamaaRefD
import Derived.Test.YthicgffppmbamaaFileWrite
import Derived.Deep.RegionHeld
namespace Go.Proofs.Ythicgffppmbamaa
open Go.RowKit

theorem bytesOf_T (l : List UInt8) : bytesOf ⟨l.toArray⟩ = l := rfl
theorem sumRefT (l : List UInt8) (w : World) (hs : l.length ≤ 10000) : Calls Try.prog 14 #[T l] w fun e w' => e = .returned (T (Pl.sum4 l)) ∧ Ext w w' :=
  sumRef_any ⟨l.toArray⟩ w (by show l.toArray.size ≤ _; simpa using hs)
theorem T_append_y (a : List UInt8) (y : ByteArray) : Value.string ({ data := a.toArray } ++ y) = T (a ++ bytesOf y) := by
  cases y
  rename_i d
  have := ByteArray.mk_append_mk a d.toList
  simp only [Array.toArray_toList] at this
  rw [this]
  rfl
theorem whole_T (st : List UInt8 × List UInt8) : T (Pl.whole st) = .string ({ data := st.1.toArray } ++ { data := st.2.toArray } ++ { data := [UInt8.ofNat (st.2.length / 256), UInt8.ofNat (st.2.length % 256)].toArray } ++ { data := #[67, 79, 76, 49] }) := by
  have h1 := ByteArray.mk_append_mk st.1 st.2
  have h2 := ByteArray.mk_append_mk (st.1 ++ st.2) [UInt8.ofNat (st.2.length / 256), UInt8.ofNat (st.2.length % 256)]
  have h3 := ByteArray.mk_append_mk (st.1 ++ st.2 ++ [UInt8.ofNat (st.2.length / 256), UInt8.ofNat (st.2.length % 256)]) Pl.mark
  rw [h1, h2]
  exact congrArg Value.string h3.symm
theorem string_T (y : ByteArray) : Value.string y = T (bytesOf y) := by
  cases y
  simp [T, bytesOf]

set_option maxRecDepth 20000 in
set_option maxHeartbeats 4000000 in
theorem writeRef_any (B0 : Nat) (w : World) (nv gv : Value) (ss : List ByteArray) (gs : List (List (List Int))) (hn : RdS B0 w nv ss) (hg : RdIII B0 w gv gs) :
    Calls Try.prog 8 #[.agg #[nv, gv]] w fun e w' => e = .returned (.tuple #[T (Pl.write (ss.map bytesOf) gs).1, .int .i64 (Pl.write (ss.map bytesOf) gs).2]) ∧ Ext w w' := by
  have hwr : ∀ u, Ext w u → Calls Try.prog 11 #[.agg #[nv, gv]] u fun e w' => e = .returned (.bool (Pl.okTable (ss.map bytesOf) gs)) ∧ Ext u w' := fun u hu => tableRef_any B0 u nv gv ss gs (hn.kept hu (fun _ f => f.elim)) (hg.kept hu (fun _ f => f.elim))
  have hn0 := hn
  have hg0 := hg
  obtain ⟨an, cn, rfl, n1, n2, -⟩ := RdS.open hn
  obtain ⟨ag, cg, rfl, g1, g2, -⟩ := hg.open
  clear hn hg
  have hext : Ext w (w.alloc (.cells #[.slice an ss.length cn, .slice ag gs.length cg] 27)) := (Kp.refl _ _).alloc _
  have HR := hide hwr
  clear hwr
  cases hok : Pl.okTable (ss.map bytesOf) gs with
  | false =>
    rw [hok] at HR
    rw [write_no hok]
    clear hok
    go_enter Try.func8, Try.ntmps8
    go_wp2_with fail
    refine ((unhide HR) _ hext).mono ?_
    rintro e w1 ⟨rfl, x1⟩
    go_wp2_with fail
    go_ret2
    exact ⟨rfl, hext.trans x1⟩
  | true =>
    rw [hok] at HR
    rw [write_yes hok]
    obtain ⟨t1, t2, t3⟩ := (Pl.okTable_iff _ _).1 hok
    obtain ⟨l1, l2, l3⟩ := (Pl.okNames_iff _).1 t1
    rw [List.length_map] at t3 l1 l2
    have hfits := fits_ok l1 l2 t3
    have hcols : ∀ g ∈ gs, g.length = ss.length := fun g hg => ((Pl.okGroup_iff _ _).1 (t3 g hg)).1
    have hss : ∀ s ∈ ss, s.size ≤ 8 := fun s hs => by
      have := l3.1
      rw [List.take_length, List.all_eq_true] at this
      have := (Pl.okName_iff _).1 (this (bytesOf s) (List.mem_map.2 ⟨s, hs, rfl⟩))
      rw [bytesOf_len] at this
      exact this.2
    have HP : Hid (Pl.parts (ss.map bytesOf) gs = Pl.addGs (Pl.mark, Pl.vint ss.length ++ Pl.nameBytes (ss.map bytesOf) ++ Pl.vint gs.length) gs) := by
      show _ = _
      unfold Pl.parts
      rw [List.length_map]
    clear hok t1 t3 l3
    have hp0 : (w.alloc (.cells #[.slice an ss.length cn, .slice ag gs.length cg] 27)).cell? ⟨w.heap.size, 0, none⟩ = some (.slice an ss.length cn) := World.cell?_alloc_new w _ _ 0
    have hp1 : (w.alloc (.cells #[.slice an ss.length cn, .slice ag gs.length cg] 27)).cell? ⟨w.heap.size, 1, none⟩ = some (.slice ag gs.length cg) := World.cell?_alloc_new w _ _ 1
    have HP0 := hide hp0
    have HP1 := hide hp1
    clear hp0 hp1
    go_enter Try.func8, Try.ntmps8
    go_wp2_with fail
    generalize w.alloc (.cells #[.slice an ss.length cn, .slice ag gs.length cg] 27) = W0 at *
    refine ((unhide HR) _ hext).mono ?_
    rintro e w1 ⟨rfl, x1⟩
    have b0 := x1.cell HP0.out id
    have b1 := x1.cell HP1.out id
    go_wp2_with fail
    refine (varintR _ _ (by omega) (by omega)).mono ?_
    rintro e w2 ⟨rfl, x2⟩
    clear b0 b1
    have x12 := x1.trans x2
    clear x1 x2
    go_wp2_with fail
    go_loopw [6, 7] (fun t i wr => ∃ (k : Nat) (F : List UInt8), k ≤ ss.length ∧ i = .int .i64 k ∧ t = T F ∧ F.length ≤ 1 + 9 * k ∧ Hid (F = Pl.vint ss.length ++ Pl.nameBytes ((ss.take k).map bytesOf)) ∧ Ext W0 wr) (fun _ i _ => ss.length - (intOf i).toNat)
    case atStart => exact ⟨0, Pl.vint ss.length, Nat.zero_le _, rfl, rfl, Pl.vint_len 0 _ (by show _ < 128; omega), by show _ = _; simp [Pl.nameBytes], x12⟩
    case round =>
      clear x12
      obtain ⟨k, F, hk, rfl, rfl, hF, HF, x3⟩ := hrel
      have b0 := x3.cell HP0.out id
      have b1 := x3.cell HP1.out id
      by_cases hkl : k < ss.length
      · obtain ⟨_, _, he, _, _, h3⟩ := RdS.open (hn0.kept (hext.trans x3) (fun _ f => f.elim))
        cases he
        obtain ⟨b, off, rfl, hb0, hc⟩ := h3 (by omega)
        have hck := hc k hkl
        rw [getD_at ss k _ hkl] at hck
        have hyk := hss ss[k] (List.getElem_mem hkl)
        have HT : Hid (F ++ Pl.vint (bytesOf ss[k]).length ++ bytesOf ss[k] = Pl.vint ss.length ++ Pl.nameBytes ((ss.take (k + 1)).map bytesOf)) := by
          show _ = _
          rw [List.take_succ_eq_append_getElem hkl, List.map_append, List.map_singleton, Pl.nameBytes_snoc, HF.out]
          simp
        rw [bytesOf_len] at HT
        have hyl := bytesOf_len ss[k]
        clear hc h3
        generalize ss[k] = y at *
        have hv := Pl.vint_len 0 y.size (by show _ < 128; omega)
        have HYL := hide hyl
        clear hyl
        go_wp2_with fail
        go_region_held (fun u => u.cell? ⟨w.heap.size, 0, none⟩ = some (.slice (some ⟨b, off, none⟩) ss.length cn) ∧ u.cell? ⟨b, off + k, none⟩ = some (.string y)) (go_keep)
          (first | (go_at_call 12; go_must (refine (varintR _ _ (by omega) (by omega)).mono ?_); rintro e w4 ⟨rfl, x4⟩; have hck4 := x4.cell (a := ⟨b, off + k, none⟩) (by exact hck) id; have b04 := x4.cell (a := ⟨w.heap.size, 0, none⟩) (by exact b0) id))
        go_wp2_with fail
        refine ⟨⟨k + 1, F ++ Pl.vint y.size ++ bytesOf y, by omega, by go_num, ?_, ?_, HT, x3.drew.trans x4⟩, by simp [intOf]; omega⟩
        · rw [show ({ data := F.toArray } ++ { data := (Pl.vint y.size).toArray } : ByteArray) = { data := (F ++ Pl.vint y.size).toArray } from ByteArray.mk_append_mk _ _, T_append_y]
        · simp only [List.length_append]; rw [HYL.out]; omega
      · obtain rfl : k = ss.length := by omega
        rw [List.take_length] at HF
        have hvg := Pl.vint_len 0 gs.length (by show _ < 128; omega)
        go_wp2_with fail
        refine (varintR _ _ (by omega) (by omega)).mono ?_
        rintro e w4 ⟨rfl, x4⟩
        have x34 := x3.trans x4
        clear x3 x4 b0 b1
        rw [← HF.out] at HP
        have hnb : (F ++ Pl.vint gs.length).length ≤ 38 := by simp only [List.length_append]; omega
        go_wp2_with fail
        clear HF
        go_loopw [5, 6, 8] (fun t5 t6 i wr => ∃ (q : Nat) (st : List UInt8 × List UInt8), q ≤ gs.length ∧ i = .int .i64 q ∧ t5 = T st.1 ∧ t6 = T st.2 ∧ st.1.length ≤ 4000 ∧ st.2.length ≤ 500 ∧ Hid (st = Pl.addGs (Pl.mark, F ++ Pl.vint gs.length) (gs.take q)) ∧ Ext W0 wr) (fun _ _ i _ => gs.length - (intOf i).toNat)
        case atStart => exact ⟨0, (Pl.mark, F ++ Pl.vint gs.length), Nat.zero_le _, rfl, rfl, T_append _ _, by show 4 ≤ 4000; omega, by show (F ++ Pl.vint gs.length).length ≤ 500; omega, rfl, x34⟩
        case round =>
          clear x34
          obtain ⟨q, st, hq, rfl, rfl, rfl, hs1, hs2, HST, x5⟩ := hrel
          have b0 := x5.cell HP0.out id
          have b1 := x5.cell HP1.out id
          by_cases hql : q < gs.length
          · obtain ⟨_, _, he, _, _, h3⟩ := (hg0.kept hext (fun _ f => f.elim)).open
            cases he
            obtain ⟨b, off, rfl, hb0, hc⟩ := h3 (by omega)
            obtain ⟨ai, ci, hckW, hrk⟩ := hc q hql
            have hck := x5.cell hckW id
            rw [getD_at gs q _ hql] at hck hrk hckW
            have HCK := hide hckW
            clear hckW hc h3
            have hfg := hfits gs[q] (List.getElem_mem hql)
            have hgc := hcols gs[q] (List.getElem_mem hql)
            have hlen := addGs_len (gs.take (q + 1)) (Pl.mark, F ++ Pl.vint gs.length) (by simp only [List.length_take, mark_len]; omega) (fun g hg => hfits g (List.mem_of_mem_take hg))
            simp only [List.length_take, mark_len] at hlen
            have hmin : min (q + 1) gs.length = q + 1 := Nat.min_eq_left (by omega)
            rw [hmin] at hlen
            have HN : Hid (Pl.addGs (Pl.mark, F ++ Pl.vint gs.length) (gs.take (q + 1)) = Pl.addG st gs[q]) := by
              show _ = _
              rw [List.take_succ_eq_append_getElem hql, Pl.addGs_snoc, HST.out]
            rw [HN.out] at hlen
            clear hmin
            generalize gs[q] = g at *
            obtain ⟨_, _, he, gl1, gl2, h4⟩ := hrk.open
            cases he
            obtain ⟨b4, off4, rfl, hb4, hc4⟩ := h4 (by omega)
            obtain ⟨a0, c0, hc0W, hr0⟩ := hc4 0 (by omega)
            have hc0 := x5.cell hc0W id
            simp only [Nat.add_zero] at hc0
            have hx0 := (hfg.2.2 (g.getD 0 []) (by rw [getD_at g 0 [] (by omega)]; exact List.getElem_mem _)).1
            have HG : Hid (Pl.addG st g = Pl.addPs (st.1, st.2 ++ Pl.vint (g.getD 0 []).length) g) := rfl
            generalize (g.getD 0 []).length = rows at *
            have hvr := Pl.vint_len 0 rows (by show _ < 128; omega)
            clear hc0W hr0 h4
            go_wp2_with fail
            refine (varintR _ _ (by omega) (by omega)).mono ?_
            rintro e w6 ⟨rfl, x6⟩
            have x56 := x5.trans x6
            clear x5 x6 b0 b1 hc0 hck
            go_wp2_with fail
            go_loopw [5, 6, 9] (fun t5 t6 i wr => ∃ (r : Nat) (sr : List UInt8 × List UInt8), r ≤ g.length ∧ i = .int .i64 r ∧ t5 = T sr.1 ∧ t6 = T sr.2 ∧ Hid (sr = Pl.addPs (st.1, st.2 ++ Pl.vint rows) (g.take r)) ∧ Ext W0 wr) (fun _ _ i _ => g.length - (intOf i).toNat)
            case atStart => exact ⟨0, (st.1, st.2 ++ Pl.vint rows), Nat.zero_le _, rfl, rfl, T_append _ _, rfl, x56⟩
            case round =>
              clear x56
              obtain ⟨r, sr, hr, rfl, rfl, rfl, HSR, x7⟩ := hrel
              have b0 := x7.cell HP0.out id
              have b1 := x7.cell HP1.out id
              have hck := x7.cell HCK.out id
              have hsl := addPs_len (g.take r) (st.1, st.2 ++ Pl.vint rows) (by simp only [List.length_take]; omega) (fun x hx => hfg.2.2 x (List.mem_of_mem_take hx))
              rw [← HSR.out] at hsl
              simp only [List.length_take, List.length_append] at hsl
              have hmin : min r g.length = r := Nat.min_eq_left hr
              rw [hmin] at hsl
              clear hmin
              by_cases hrl : r < g.length
              · obtain ⟨al, cl, hclW, hrl0⟩ := hc4 r hrl
                have hcl := x7.cell hclW id
                rw [getD_at g r _ hrl] at hcl hrl0
                have hxl := hfg.2.2 g[r] (List.getElem_mem hrl)
                have hpl := page_len g[r] hxl.1 hxl.2
                have HT : Hid (Pl.addPs (st.1, st.2 ++ Pl.vint rows) (g.take (r + 1)) = Pl.addP sr g[r]) := by
                  show _ = _
                  rw [List.take_succ_eq_append_getElem hrl, Pl.addPs_snoc, HSR.out]
                clear hclW
                generalize g[r] = l at *
                have hrd := hrl0.kept x7 (fun _ f => f.elim)
                go_wp2_with fail
                refine (pageRef_any B0 _ _ l hrd hxl.2 hxl.1).mono ?_
                rintro e w8 ⟨rfl, x8⟩
                have HA : Hid (Pl.addP sr l = (sr.1 ++ Pl.page l, sr.2 ++ Pl.vint sr.1.length ++ Pl.vint (Pl.page l).length ++ Pl.sum4 (Pl.page l))) := rfl
                have h4 := Pl.sum4_len (Pl.page l)
                generalize Pl.page l = pg at *
                have v1 := Pl.vint_len 2 sr.1.length (by simp only [Nat.reduceAdd, Nat.reducePow]; omega)
                have v2 := Pl.vint_len 2 pg.length (by simp only [Nat.reduceAdd, Nat.reducePow]; omega)
                go_wp2_with fail
                refine (varintR _ _ (by omega) (by omega)).mono ?_
                rintro e w9 ⟨rfl, x9⟩
                go_wp2_with fail
                refine (varintR _ _ (by omega) (by omega)).mono ?_
                rintro e w10 ⟨rfl, x10⟩
                go_wp2_with fail
                refine (sumRefT pg _ (by omega)).mono ?_
                rintro e w11 ⟨rfl, x11⟩
                go_wp2_with fail
                refine ⟨⟨r + 1, Pl.addP sr l, by omega, by go_num, ?_, ?_, by show _ = _; rw [HT.out], ((x7.trans x8).trans x9).trans (x10.trans x11)⟩, by simp [intOf]; omega⟩
                · rw [HA.out]; exact T_append _ _
                · rw [HA.out]
                  simp only [ByteArray.mk_append_mk]
              · obtain rfl : r = g.length := by omega
                rw [List.take_length] at HSR
                go_wp2_with fail
                refine ⟨⟨q + 1, sr, by omega, by go_num, rfl, rfl, ?_, ?_, ?_, x7⟩, by simp [intOf]; omega⟩
                · rw [HSR.out, ← HG.out]; omega
                · rw [HSR.out, ← HG.out]; omega
                · show _ = _
                  rw [HN.out, HG.out, HSR.out]
          · obtain rfl : q = gs.length := by omega
            rw [List.take_length] at HST
            rw [← HST.out] at HP
            have hcv : ∀ u : World, (convert 41 9 (.slice (some ⟨u.heap.size, 0, none⟩) 2 2)).run Try.prog (u.alloc (.cells #[Value.int .u8 ((st.2.length : Int) / 256), Value.int .u8 ((st.2.length : Int) % 256)] 5)) = .ok (T [UInt8.ofNat (st.2.length / 256), UInt8.ofNat (st.2.length % 256)]) (u.alloc (.cells #[Value.int .u8 ((st.2.length : Int) / 256), Value.int .u8 ((st.2.length : Int) % 256)] 5)) := fun u =>
              run_string_b _ _ _ (own_built u _ 2 _ rfl (pair_bytes st.2.length (by omega)) (by omega)) (by simp)
            have hwl : (Pl.whole st).length = st.1.length + st.2.length + 6 := by
              unfold Pl.whole
              simp only [List.length_append, mark_len, List.length_cons, List.length_nil]
            have HWL := hide hwl
            clear hwl
            by_cases hbig : 4000 < st.1.length + st.2.length + 6
            · go_wp2_with fail
              go_ret2
              rw [HP.out, Pl.sealed_gt _ (by rw [HWL.out]; exact hbig)]
              exact ⟨rfl, (hext.trans x5).alloc _⟩
            · go_wp2_with fail
              go_ret2
              rw [HP.out, Pl.sealed_le _ (by rw [HWL.out]; omega)]
              refine ⟨?_, (hext.trans x5).alloc _⟩
              show _ = Ending.returned (.tuple #[T (Pl.whole st), .int .i64 0])
              rw [whole_T]
              rfl
end Go.Proofs.Ythicgffppmbamaa
