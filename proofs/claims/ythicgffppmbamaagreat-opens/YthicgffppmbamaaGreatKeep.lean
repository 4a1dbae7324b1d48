/- scan.keep: the names, copied. -/
import Derived.Test.YthicgffppmbamaaGreatFetch
import Derived.Test.YthicgffppmbamaaGreatClone
import Derived.Test.YthicgffppmbamaaGreatCheck2
namespace Go.Proofs.YthicgffppmbamaaGreat
open Go.RowKit

theorem tx_bytes (s : ByteArray) : tx (bytesOf s) = .string s := by simp [tx, bytesOf]
theorem infoStr : (Tryz.prog.info? 9).map (fun i => (i.zero, i.size, i.bytes)) = some (some (.string ByteArray.empty), 1, 16) := by kernel_rfl
theorem Own.ext_alloc {w : World} {size n : Nat} {v : Value} {cs : List Value} (h : Own w size v n cs) (o : Obj) : Own (w.alloc o) size v n cs := h.ext ((Kp.refl _ _).alloc o)

set_option maxRecDepth 20000 in
set_option maxHeartbeats 1000000 in
theorem keep_any (B0 : Nat) (w : World) (v : Value) (ss : List ByteArray) (hr : RdS B0 w v ss) :
    Calls Tryz.prog 79 #[v] w fun e w' => ∃ nv, e = .returned nv ∧ Own w' 1 nv (Pl.keepNames (ss.map bytesOf)).length ((Pl.keepNames (ss.map bytesOf)).map tx) ∧ Ext w w' ∧ ∀ g, nv.ownBlock = some g → w.heap.size ≤ g := by
  have hrn := rightNames_any B0 w v ss hr
  have hr0 := hr
  obtain ⟨ao, cap, rfl, h1, h2, h3⟩ := RdS.open hr
  cases hok : Pl.okNames (ss.map bytesOf) with
  | false =>
    have e : Pl.keepNames (ss.map bytesOf) = [] := by unfold Pl.keepNames; rw [if_neg (by rw [hok]; simp)]
    rw [e]
    rw [hok] at hrn
    have HN := hide hrn
    clear hrn hok e h3 hr hr0
    go_enter Tryz.func79, Tryz.ntmps79
    go_wp2_with fail
    refine (unhide HN).mono ?_
    rintro e w ⟨rfl, rfl⟩
    go_wp2_with fail
    go_ret
    exact ⟨_, rfl, Own.nil _ _, Kp.refl _ _, fun g hg => by simp [Value.ownBlock] at hg⟩
  | true =>
    have e : Pl.keepNames (ss.map bytesOf) = ss.map bytesOf := by unfold Pl.keepNames; rw [if_pos hok]
    rw [e]
    have hnm := (Pl.okNames_iff _).1 hok
    rw [List.length_map] at hnm
    have hsz : ∀ s ∈ ss, s.size ≤ 8 := fun s hs => by
      have := hnm.2.2.1
      rw [show ss.length = (ss.map bytesOf).length by simp, List.take_length, List.all_eq_true] at this
      have := (Pl.okName_iff _).1 (this (bytesOf s) (List.mem_map.2 ⟨s, hs, rfl⟩))
      rw [bytesOf_len] at this
      exact this.2
    obtain ⟨l1, l2, -⟩ := hnm
    rw [hok] at hrn
    have HN := hide hrn
    clear hrn hok e
    go_enter Tryz.func79, Tryz.ntmps79
    go_wp2_with fail
    refine (unhide HN).mono ?_
    rintro e w ⟨rfl, rfl⟩
    obtain ⟨b, off, rfl, hb, hc⟩ := h3 (by omega)
    go_wp2_with fail
    go_loopw [3, 11] (fun t i wr => ∃ k : Nat, k ≤ ss.length ∧ i = .int .i64 k ∧ Own wr 1 t k (((ss.take k).map bytesOf).map tx) ∧ Ext w wr ∧ ∀ g, t.ownBlock = some g → w.heap.size ≤ g) (fun _ i _ => ss.length - (intOf i).toNat)
    case atStart => exact ⟨0, Nat.zero_le _, rfl, Own.nil _ _, Kp.refl _ _, fun g hg => by simp [Value.ownBlock] at hg⟩
    case round =>
      obtain ⟨k, hk, rfl, ho, hx, hg⟩ := hrel
      by_cases hkl : k < ss.length
      · have hck := hx.cell (hc k hkl) id
        have hgk : ss.getD k ByteArray.empty = ss[k] := by rw [List.getD_eq_getElem?_getD, List.getElem?_eq_getElem hkl]; rfl
        rw [hgk] at hck
        have hsk := hsz ss[k] (List.getElem_mem hkl)
        have HT : Hid (((ss.take (k + 1)).map bytesOf).map tx = ((ss.take k).map bytesOf).map tx ++ [.string ss[k]]) := by
          show _ = _
          rw [List.take_succ_eq_append_getElem hkl, List.map_append, List.map_append, List.map_singleton, List.map_singleton, tx_bytes]
        have hz := hx.size
        generalize ss[k] = y at *
        clear hc h3 hgk hr hr0
        go_wp2_with fail
        refine (stringsClone_any y _ (by omega)).mono ?_
        rintro e w2 ⟨rfl, x2⟩
        have ho2 := ho.ext x2
        obtain ⟨ta, tc, rfl, _⟩ := ho.shape
        go_wp2_with (at_builtin; go_must (refine wpList_append_g _ rfl _ _ 22 22 rfl 9 (.string ByteArray.empty) 1 16 Tryz.underlying22 infoStr rfl _ _ _ rfl (ho2.ext_alloc _) _ rfl 1 [.string y] (src_elemA _ _ _ Tryz.underlying22 _ [.string y] rfl (by simp [Value.oneCell'])) (by omega) (by omega) ?_); intro v3 w3 o3 k3 s3)
        have x3 : Ext w w3 := ((hx.trans x2).alloc _).then k3 (fun i hi e => by have := hg i e; omega)
        go_roundw
        case rel => exact ⟨k + 1, by omega, by go_num, by rw [HT.out]; exact o3, x3, fun g e => by
            rcases sep_new s3 e with e' | e'
            · exact hg g e'
            · have := x2.size; simp at e'; omega⟩
        case measure => simp [intOf]; omega
      · obtain rfl : k = ss.length := by omega
        rw [List.take_length] at ho
        go_wp2_with fail
        go_ret
        exact ⟨_, rfl, by simpa using ho, hx, hg⟩
end Go.Proofs.YthicgffppmbamaaGreat
