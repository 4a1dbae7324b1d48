/- still: a lent table stands as it did. -/
import Derived.Test.YthicgffppmbamaaSames
import Derived.Test.YthicgffppmbamaaRefB
import Derived.Deep.RegionHeld
namespace Go.Proofs.Ythicgffppmbamaa
open Go.RowKit

theorem ext_drewS (w : World) : Ext w w.drew := (Kp.refl _ _).drew
theorem flat_take_succ (gbs : List (Nat × List Nat)) (q : Nat) (h : q < gbs.length) : flat (gbs.take (q + 1)) = flat (gbs.take q) ++ gbs[q].2 := by
  unfold flat
  rw [List.take_succ_eq_append_getElem h, List.flatMap_append]
  simp only [List.flatMap_cons, List.flatMap_nil, List.append_nil]
theorem flat_split (gbs : List (Nat × List Nat)) (q : Nat) (h : q < gbs.length) : flat gbs = flat (gbs.take q) ++ (gbs[q].2 ++ flat (gbs.drop (q + 1))) := by
  have e : gbs = gbs.take q ++ (gbs[q] :: gbs.drop (q + 1)) := by rw [← List.drop_eq_getElem_cons h, List.take_append_drop]
  conv => lhs; rw [e]
  unfold flat
  rw [List.flatMap_append, List.flatMap_cons]
theorem disj_take (gbs : List (Nat × List Nat)) (hn : (flat gbs).Nodup) (q : Nat) (h : q < gbs.length) : (∀ b ∈ gbs[q].2, b ∉ flat (gbs.take q)) ∧ gbs[q].2.Nodup := by
  rw [flat_split gbs q h, List.nodup_append] at hn
  obtain ⟨_, h2, h3⟩ := hn
  rw [List.nodup_append] at h2
  exact ⟨fun b hb hb' => h3 b hb' b (List.mem_append.2 (.inl hb)) rfl, h2.1⟩
theorem take_disj (l : List Nat) (hn : l.Nodup) (r : Nat) (h : r < l.length) : l[r] ∉ l.take r := by
  have e : l = l.take r ++ (l[r] :: l.drop (r + 1)) := by rw [← List.drop_eq_getElem_cons h, List.take_append_drop]
  rw [e, List.nodup_append] at hn
  intro hm
  exact hn.2.2 _ hm l[r] List.mem_cons_self rfl
theorem flat_sub (gbs : List (Nat × List Nat)) (q : Nat) : ∀ b ∈ flat (gbs.take q), b ∈ flat gbs := by
  intro b hb
  obtain ⟨p, hp, hbp⟩ := List.mem_flatMap.1 hb
  exact List.mem_flatMap.2 ⟨p, List.mem_of_mem_take hp, hbp⟩
theorem mem_take_succ (l : List Nat) (r k : Nat) (h : k ∈ l.take r) : k ∈ l.take (r + 1) := by
  have e : l.take r = (l.take (r + 1)).take r := by rw [List.take_take, Nat.min_eq_left (by omega)]
  rw [e] at h
  exact List.mem_of_mem_take h
/-- what lies in a block of another kind is none of the lists' -/
theorem Lent.notFlat {w : World} {bN bG : Nat} {gbs : List (Nat × List Nat)} {ss : List ByteArray} {gs : List (List (List Int))} (h : Lent w bN bG gbs ss gs) {b : Nat} {cs : List Value} {e : TypeId} (hb : Blk w b cs e) (he : e ≠ 3) : b ∉ flat gbs := by
  intro hm
  obtain ⟨p, hp, hbp⟩ := List.mem_flatMap.1 hm
  obtain ⟨j, hj⟩ := List.getElem?_of_mem hp
  have hjl := (List.getElem?_eq_some_iff.1 hj).1
  rw [h.len] at hjl
  have hG := h.group j p _ hj (List.getElem?_eq_getElem hjl)
  obtain ⟨i, hi⟩ := List.getElem?_of_mem hbp
  have hil := (List.getElem?_eq_some_iff.1 hi).1
  rw [hG.len] at hil
  have hL := hG.each i b _ hi (List.getElem?_eq_getElem hil)
  exact hb.ne hL he rfl

set_option maxRecDepth 20000 in
set_option maxHeartbeats 4000000 in
theorem still_any (B0 : Nat) (w : World) (nv gv : Value) (ss : List ByteArray) (gs : List (List (List Int))) (hn : RdS B0 w nv ss) (hg : RdIII B0 w gv gs) (hsm : Small ss gs) (bN bG : Nat) (gbs : List (Nat × List Nat)) (hl : Lent w bN bG gbs ss gs) (hfl : ∀ b ∈ flat gbs, B0 ≤ b) :
    Calls Try.prog 7 #[.agg #[sl bN ss.length, sl bG gs.length], .agg #[nv, gv]] w fun e w' => e = .returned (.bool true) ∧ Kp (fun k => k ∈ flat gbs) w w' := by
  have hn0 := hn
  have hg0 := hg
  obtain ⟨an, cn, rfl, n1, n2, -⟩ := RdS.open hn
  obtain ⟨ag, cg, rfl, g1, g2, -⟩ := hg.open
  clear hn hg
  have hsn := hsm.names
  have hsg := hsm.groups
  have hbx := Blk.of_alloc w [sl bN ss.length, sl bG gs.length] 27
  have hbo := Blk.of_alloc (w.alloc (.cells #[sl bN ss.length, sl bG gs.length] 27)) [.slice an ss.length cn, .slice ag gs.length cg] 27
  simp only [World.size_alloc] at hbo
  have xw0 : Ext w ((w.alloc (.cells #[sl bN ss.length, sl bG gs.length] 27)).alloc (.cells #[.slice an ss.length cn, .slice ag gs.length cg] 27)) := ((Kp.refl _ _).alloc _).alloc _
  have hbx' := hbx.kept ((Kp.refl (fun _ => False) _).alloc (.cells #[.slice an ss.length cn, .slice ag gs.length cg] 27)) id
  have ee1 : ((ss.length : Int) == (ss.length : Int)) = true := by simp
  have ee2 : ((gs.length : Int) == (gs.length : Int)) = true := by simp
  clear hbx
  have HBX := hide hbx'
  have HBO := hide hbo
  clear hbx' hbo
  go_enter Try.func7, Try.ntmps7
  go_wp2_with fail
  generalize hW : (w.alloc _).alloc _ = W0 at *
  clear hW
  have l0 := hl.ext xw0
  have d0 : W0.cell? ⟨w.heap.size, 0, none⟩ = some (sl bN ss.length) := HBX.out.cell 0
  have d1 : W0.cell? ⟨w.heap.size, 1, none⟩ = some (sl bG gs.length) := HBX.out.cell 1
  have o0 : W0.cell? ⟨w.heap.size + 1, 0, none⟩ = some (.slice an ss.length cn) := HBO.out.cell 0
  have o1 : W0.cell? ⟨w.heap.size + 1, 1, none⟩ = some (.slice ag gs.length cg) := HBO.out.cell 1
  go_loop [5, 7] (fun t i => ∃ k : Nat, k ≤ ss.length + 2 ∧ i = .int .i64 k ∧ t = .bool true) (fun _ i => ss.length + 2 - (intOf i).toNat)
  case atStart => exact ⟨0, Nat.zero_le _, rfl, rfl⟩
  case round =>
    obtain ⟨k, hk, rfl, rfl⟩ := hrel
    by_cases hkl : k < ss.length + 2
    · have hck := l0.names.cell k
      by_cases hkn : k < ss.length
      · rw [List.getElem?_append_left (by simpa using hkn), List.getElem?_map, List.getElem?_eq_getElem hkn] at hck
        simp only [Option.map_some] at hck
        obtain ⟨_, _, he, _, _, h3⟩ := RdS.open (hn0.kept xw0 (fun _ f => f.elim))
        cases he
        obtain ⟨b', off, rfl, hb', hc⟩ := h3 (by omega)
        have hcx := hc k hkn
        rw [getD_at ss k _ hkn] at hcx
        clear hc h3
        generalize ss[k] = y at *
        have ey : (y.toList == y.toList) = true := by simp
        go_wp2_with fail
        refine ⟨⟨k + 1, by omega, by go_num, rfl⟩, by simp [intOf]; omega⟩
      · rw [List.getElem?_append_right (by simp; omega)] at hck
        have hck' : W0.cell? ⟨bN, k, none⟩ = some (.string ByteArray.empty) := by
          rw [hck, List.length_map]
          have : k - ss.length = 0 ∨ k - ss.length = 1 := by omega
          rcases this with e | e <;> simp [e]
        have ey : (ByteArray.empty.toList == ({ data := #[] } : ByteArray).toList) = true := by rw [ByteArray.toList_eq, ByteArray.toList_eq]; rfl
        clear hck
        go_wp2_with fail
        refine ⟨⟨k + 1, by omega, by go_num, rfl⟩, by simp [intOf]; omega⟩
    · clear d0
      go_wp2_with fail
      go_loopw [5, 10] (fun t i wr => ∃ q : Nat, q ≤ gs.length + 2 ∧ i = .int .i64 q ∧ t = .bool true ∧ Kp (fun k => k ∈ flat (gbs.take q)) W0 wr) (fun _ i _ => gs.length + 2 - (intOf i).toNat)
      case atStart => exact ⟨0, Nat.zero_le _, rfl, rfl, Kp.refl _ _⟩
      case round =>
        clear o0 o1 d1
        obtain ⟨q, hq, rfl, rfl, kq⟩ := hrel
        have nf : ∀ {b : Nat} {cs : List Value} {e : TypeId}, Blk W0 b cs e → e ≠ 3 → b ∉ flat (gbs.take q) := fun hb he hm => l0.notFlat hb he (flat_sub gbs q _ hm)
        have o1 : wr.cell? ⟨w.heap.size + 1, 1, none⟩ = some (.slice ag gs.length cg) := (HBO.out.kept kq (nf HBO.out (by decide))).cell 1
        have top := l0.top.kept kq (nf l0.top (by decide))
        by_cases hql : q < gs.length + 2
        · by_cases hqg : q < gs.length
          · have hqb : q < gbs.length := by rw [l0.len]; exact hqg
            have hG := l0.group q gbs[q] gs[q] (List.getElem?_eq_getElem hqb) (List.getElem?_eq_getElem hqg)
            have htq := top.cell q
            rw [List.getElem?_append_left (by rw [zipG_len _ _ l0.len]; omega)] at htq
            have htq' : wr.cell? ⟨bG, q, none⟩ = some (sl gbs[q].1 gs[q].length) := by
              rw [htq]
              unfold zipG
              rw [List.getElem?_zipWith, List.getElem?_eq_getElem hqb, List.getElem?_eq_getElem hqg]
            have hdj := disj_take gbs l0.nodup q hqb
            have hft := flat_take_succ gbs q hqb
            have hB : ∀ i, i ∈ flat (gbs.take (q + 1)) → B0 ≤ i := fun i h => hfl i (flat_sub _ _ i h)
            obtain ⟨_, _, he, _, _, h3⟩ := (hg0.kept xw0 (fun _ f => f.elim)).open
            cases he
            obtain ⟨b, off, rfl, hb0, hc⟩ := h3 (by omega)
            obtain ⟨ai, ci, hckW, hrkW⟩ := hc q hqg
            rw [getD_at gs q _ hqg] at hckW hrkW
            have hbf : ∀ i, i ∈ flat (gbs.take q) → i ≠ b := fun i h e => by have := hfl i (flat_sub _ _ i h); omega
            have hck := kq.cell hckW (fun h => hbf _ h rfl)
            have hgl := hsm.group gs[q] (List.getElem_mem hqg)
            have hll := hsm.list gs[q] (List.getElem_mem hqg)
            rw [hft] at hB
            have HFT := hide hft
            clear hc h3 htq hft
            generalize gbs[q] = p at *
            generalize gs[q] = g at *
            have hw : IntKind.i64.wrap ((g.length : Int) + 2) = (g.length : Int) + 2 := by simp [IntKind.wrap, IntKind.bits, IntKind.signed]; omega
            have e1 : ((g.length : Int) == (g.length : Int)) = true := by simp
            have e2 : (((g.length + 2 : Nat) : Int) == (g.length : Int) + 2) = true := by simp
            have t1 : decide ((q : Int) < (gs.length : Int) + 2) = true := by rw [decide_eq_true_eq]; omega
            have t2 : decide ((gs.length : Int) ≤ (q : Int)) = false := by rw [decide_eq_false_iff_not]; omega
            have t3 : decide (gs.length ≤ q) = false := by rw [decide_eq_false_iff_not]; omega
            go_upto_region 16 with fail
            go_quiet (fail)
            go_upto_region 19 with fail
            go_quiet (fail)
            go_wp2_with fail
            have kq2 : ∀ n m, Kp (fun k => k ∈ flat (gbs.take q) ∨ k ∈ p.2.take 0) W0 ((wr.drewN n).drewN m) := fun n m => (((kq.drewN n).drewN m)).mono (fun k _ h => .inl h)
            clear o1 top htq' hck kq
            have nf2 : ∀ {b : Nat} {cs : List Value} {e : TypeId}, Blk W0 b cs e → e ≠ 3 → b ∉ p.2 := fun hb he hm => by
              obtain ⟨i, hi⟩ := List.getElem?_of_mem hm
              have hil := (List.getElem?_eq_some_iff.1 hi).1
              rw [hG.len] at hil
              exact hb.ne (hG.each i _ _ hi (List.getElem?_eq_getElem hil)) he rfl
            have NF : Hid (∀ {b : Nat} {cs : List Value} {e : TypeId}, Blk W0 b cs e → e ≠ 3 → ∀ r, ¬ (b ∈ flat (gbs.take q) ∨ b ∈ p.2.take r)) := fun hb he r h => by
              rcases h with h | h
              · exact nf hb he h
              · exact nf2 hb he (List.mem_of_mem_take h)
            clear nf nf2
            go_loopw [5, 12] (fun t i wr' => ∃ r : Nat, r ≤ g.length + 2 ∧ i = .int .i64 r ∧ t = .bool true ∧ Kp (fun k => k ∈ flat (gbs.take q) ∨ k ∈ p.2.take r) W0 wr') (fun _ i _ => g.length + 2 - (intOf i).toNat)
            case atStart => exact ⟨0, Nat.zero_le _, rfl, rfl, kq2 _ _⟩
            case round =>
              clear kq2
              obtain ⟨r, hr, rfl, rfl, kr⟩ := hrel
              have o1 : wr.cell? ⟨w.heap.size + 1, 1, none⟩ = some (.slice (some ⟨b, off, none⟩) gs.length cg) := (HBO.out.kept kr (NF.out HBO.out (by decide) r)).cell 1
              have gblk := hG.blk.kept kr (NF.out hG.blk (by decide) r)
              have hSB : ∀ i, (i ∈ flat (gbs.take q) ∨ i ∈ p.2.take r) → B0 ≤ i := fun i h => hB i (List.mem_append.2 (h.imp id List.mem_of_mem_take))
              have hck := kr.cell hckW (fun h => by have := hSB _ h; simp at this; omega)
              by_cases hrl : r < g.length + 2
              · by_cases hrg : r < g.length
                · have hrb : r < p.2.length := by rw [hG.len]; exact hrg
                  have hLI := hG.each r p.2[r] g[r] (List.getElem?_eq_getElem hrb) (List.getElem?_eq_getElem hrg)
                  have htr := gblk.cell r
                  rw [List.getElem?_append_left (by rw [zipI_len _ _ hG.len]; omega)] at htr
                  have htr' : wr.cell? ⟨p.1, r, none⟩ = some (sl p.2[r] g[r].length) := by
                    rw [htr]
                    unfold zipI
                    rw [List.getElem?_zipWith, List.getElem?_eq_getElem hrb, List.getElem?_eq_getElem hrg]
                  have hnotin : ¬ (p.2[r] ∈ flat (gbs.take q) ∨ p.2[r] ∈ p.2.take r) := by
                    rintro (h | h)
                    · exact hdj.1 _ (List.getElem_mem hrb) h
                    · exact take_disj p.2 hdj.2 r hrb h
                  have hLIr := Blk.kept hLI kr hnotin
                  have hbB : B0 ≤ p.2[r] := hB _ (List.mem_append.2 (.inr (List.getElem_mem hrb)))
                  obtain ⟨_, _, he, _, _, h3⟩ := hrkW.open
                  cases he
                  obtain ⟨b4, off4, rfl, hb4, hc4⟩ := h3 (by omega)
                  obtain ⟨al, cl, hclW, hrdW⟩ := hc4 r hrg
                  rw [getD_at g r _ hrg] at hclW hrdW
                  have hcl := kr.cell hclW (fun h => by have := hSB _ h; simp at this; omega)
                  have hrd := hrdW.kept kr hSB
                  have hln := hll g[r] (List.getElem_mem hrg)
                  have hmr : ∀ k, k = p.2[r] → k ∈ p.2.take (r + 1) := fun k e => by
                    rw [List.take_succ_eq_append_getElem hrb, e]
                    exact List.mem_append.2 (.inr (by simp))
                  have HMR := hide hmr
                  have hne1 : p.1 ≠ p.2[r] := hG.blk.ne hLI (by decide)
                  have hne2 : w.heap.size + 1 ≠ p.2[r] := HBO.out.ne hLI (by decide)
                  clear htr hLI hnotin hclW hrdW hc4 h3 hmr
                  generalize p.2[r] = br at *
                  generalize g[r] = xs at *
                  have hsam : Calls Try.prog 10 #[sl br xs.length, .slice al xs.length cl] wr.drew fun e w' => e = .returned (.bool true) ∧ Kp (fun k => k = br) wr.drew w' :=
                    sames_any B0 wr.drew br _ xs (Blk.kept hLIr (ext_drewS wr) id) (hrd.kept (ext_drewS wr) (fun _ f => f.elim)) hbB hln
                  have HSA := hide hsam
                  clear hsam hLIr hrd
                  go_upto_region 25 with fail
                  go_region_held (fun u => u.cell? ⟨p.1, r, none⟩ = some (sl br xs.length) ∧ u.cell? ⟨w.heap.size + 1, 1, none⟩ = some (.slice (some ⟨b, off, none⟩) gs.length cg) ∧ u.cell? ⟨b, off + q, none⟩ = some (.slice (some ⟨b4, off4, none⟩) g.length ci) ∧ u.cell? ⟨b4, off4 + r, none⟩ = some (.slice al xs.length cl)) (go_keep)
                    (first | (go_at_call 10; go_must (refine (unhide HSA).mono ?_); rintro e w5 ⟨rfl, k5⟩; have c51 := k5.cell (a := ⟨p.1, r, none⟩) (by exact htr') (by exact hne1); have c52 := k5.cell (a := ⟨w.heap.size + 1, 1, none⟩) (by exact o1) (by exact hne2); have c53 := k5.cell (a := ⟨b, off + q, none⟩) (by exact hck) (by show ¬ b = br; omega); have c54 := k5.cell (a := ⟨b4, off4 + r, none⟩) (by exact hcl) (by show ¬ b4 = br; omega)))
                  go_wp2_with fail
                  have kfin : Kp (fun k => k ∈ flat (gbs.take q) ∨ k ∈ p.2.take (r + 1)) W0 w5 := (kr.drew.mono (fun k _ h => h.imp id (mem_take_succ _ _ _))).then k5 (fun i hi e => .inr (HMR.out i e))
                  exact ⟨⟨r + 1, by omega, by go_num, rfl, kfin⟩, by simp [intOf]; omega⟩
                · have htr := gblk.cell r
                  rw [List.getElem?_append_right (by rw [zipI_len _ _ hG.len]; omega), zipI_len _ _ hG.len] at htr
                  have htr' : wr.cell? ⟨p.1, r, none⟩ = some nilS := by
                    rw [htr]
                    have : r - g.length = 0 ∨ r - g.length = 1 := by omega
                    rcases this with e | e <;> simp [e]
                  clear htr
                  have hnil := eql_nil 34 _ Try.underlying34
                  have kr' : Kp (fun k => k ∈ flat (gbs.take q) ∨ k ∈ p.2.take (r + 1)) W0 wr := kr.mono (fun k _ h => h.imp id (mem_take_succ _ _ _))
                  go_wp2_with fail
                  refine ⟨⟨r + 1, by omega, by go_num, rfl, kr'⟩, by simp [intOf]; omega⟩
              · go_wp2_with fail
                refine ⟨⟨q + 1, by omega, by go_num, rfl, kr.mono (fun k _ h => ?_)⟩, by simp [intOf]; omega⟩
                rw [HFT.out]
                exact List.mem_append.2 (h.imp id List.mem_of_mem_take)
          · have htq := top.cell q
            rw [List.getElem?_append_right (by rw [zipG_len _ _ l0.len]; omega), zipG_len _ _ l0.len] at htq
            have htq' : wr.cell? ⟨bG, q, none⟩ = some nilS := by
              rw [htq]
              have : q - gs.length = 0 ∨ q - gs.length = 1 := by omega
              rcases this with e | e <;> simp [e]
            clear htq
            have hnil := eql_nil 35 _ Try.underlying35
            have kq' : Kp (fun k => k ∈ flat (gbs.take (q + 1))) W0 wr := kq.mono (fun k _ h => by
              rw [List.take_of_length_le (by rw [l0.len]; omega)] at *
              exact h)
            go_wp2_with fail
            refine ⟨⟨q + 1, by omega, by go_num, rfl, kq'⟩, by simp [intOf]; omega⟩
        · go_wp2_with fail
          go_ret
          refine ⟨rfl, (Kp.of_ext xw0).trans (kq.mono (fun k _ h => flat_sub gbs q k h))⟩
end Go.Proofs.Ythicgffppmbamaa
