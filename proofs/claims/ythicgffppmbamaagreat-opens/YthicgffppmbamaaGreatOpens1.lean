/- World.opens: Open on both sides. -/
import Derived.Test.YthicgffppmbamaaGreatWorks
import Derived.Test.YthicgffppmbamaaGreatLent1
import Derived.Test.YthicgffppmbamaaGreatSames
import Derived.Test.YthicgffppmbamaaGreatSames
namespace Go.Proofs.YthicgffppmbamaaGreat
open Go.RowKit

abbrev behind : ByteArray := ⟨#[98, 101, 104, 105, 110, 100]⟩
abbrev over : ByteArray := ⟨#[111, 118, 101, 114]⟩
def allC (ss : List ByteArray) : List Value := ss.map Value.string ++ List.replicate 3 (.string behind)
theorem allC_len (ss : List ByteArray) : (allC ss).length = ss.length + 3 := by simp [allC]
theorem allC_lt (ss : List ByteArray) (k : Nat) (h : k < ss.length) : (allC ss)[k]? = some (.string ss[k]) := by
  unfold allC
  rw [List.getElem?_append_left (by simpa using h), List.getElem?_map, List.getElem?_eq_getElem h]
  rfl
theorem allC_ge (ss : List ByteArray) (k : Nat) (h : ss.length ≤ k) (h3 : k < ss.length + 3) : (allC ss)[k]? = some (.string behind) := by
  unfold allC
  rw [List.getElem?_append_right (by simpa using h), List.getElem?_replicate, if_pos (by simp; omega)]
theorem take_set_drop (A : List Value) (z v : Value) (k n : Nat) (hk : k < n) (hA : A.length = n) (hv : A[k]? = some v) : (A.take k ++ List.replicate (n - k) z).set k v = A.take (k + 1) ++ List.replicate (n - (k + 1)) z := by
  have hl : (A.take k).length = k := by rw [List.length_take]; omega
  rw [List.set_append_right _ _ (by omega), hl, Nat.sub_self, show n - k = (n - (k + 1)) + 1 by omega, List.replicate_succ, List.set_cons_zero]
  have : A.take (k + 1) = A.take k ++ [v] := by
    rw [List.take_succ_eq_append_getElem (by omega)]
    rw [List.getElem?_eq_getElem (by omega)] at hv
    cases hv
    rfl
  rw [this, List.append_assoc]
  rfl

/-- a pair of scans more -/
inductive OpenedAt (w w' : World) (Wb : Nat) (tv iv av rv : Value) (nt : Nat) (tcs : List Value) (file : ByteArray) (m : Pl.Sc) (r : Pl.RSc) : Prop where
  | mk (tv' : Value) (X Y P : Nat) (col colr : Colr) (blk : Blk w' Wb [tv', iv, av, rv] 32) (own : Own w' 3 tv' (nt + 1) (tcs ++ [PtrTo X 0, PtrTo Y 0, .string file])) (isX : IsX col w' X m P) (isR : IsR colr w' Y r)
    (low : ∀ k, k < w.heap.size → col k = .out ∧ colr k = .out) (dis : ∀ k, col k ≠ .out → colr k = .out) (tout : ∀ g, tv'.ownBlock = some g → col g = .out ∧ colr g = .out) (tnew : ∀ g, tv'.ownBlock = some g → tv.ownBlock = some g ∨ w.heap.size ≤ g) (kp : Kp (fun k => k = Wb ∨ Of tv k) w w')
def zTwo : Value := .agg #[.pointer none, .pointer none, .string ByteArray.empty]
theorem infoTwo : (Tryz.prog.info? 85).map (fun i => (i.zero, i.size, i.bytes)) = some (some zTwo, 3, 32) := by kernel_rfl

set_option maxRecDepth 20000 in
set_option maxHeartbeats 8000000 in
theorem opens_any (B0 : Nat) (w : World) (Wb : Nat) (tv iv av rv v : Value) (nt : Nat) (tcs : List Value) (file : ByteArray) (ss : List ByteArray) (size W T R G : Int) (hb : Blk w Wb [tv, iv, av, rv] 32) (ht : Own w 3 tv nt tcs) (hnt : nt ≤ 1000) (d1 : tv.ownBlock ≠ some Wb) (hr : RdS B0 w v ss) (hB0 : B0 ≤ w.heap.size) (hss : ss.length ≤ 8796093021952) :
    Calls Tryz.prog 12 #[PtrTo Wb 0, .string file, .int .i64 size, v, setV W T R G] w fun e w' => e = .returned (.bool true) ∧ ((Pl.okSet size W T R G = false ∧ Ext w w') ∨ (Pl.okSet size W T R G = true ∧ OpenedAt w w' Wb tv iv av rv nt tcs file (Pl.openSc size.toNat (ss.map bytesOf) W.toNat T.toNat R.toNat G.toNat) (Pl.rOpen size.toNat (ss.map bytesOf) W.toNat T.toNat R.toNat G.toNat))) := by
  have hr0 := hr
  obtain ⟨ao, cap, rfl, n1, n2, n3⟩ := RdS.open hr
  have hblt := hb.lt
  go_enter Tryz.func12, Tryz.ntmps12
  go_wp2_with (at_make; go_must (refine wpList_make_blk _ rfl _ _ 22 rfl 9 _ 16 Tryz.underlying22 info9 rfl (ss.length + 3) _ _ rfl rfl (by omega) (by omega) (by omega) (by omega) ?_); intro w1 hb1 x1 z1)
  have hz0 : (w.alloc (.cells #[.int .i64 W, .int .i64 T, .int .i64 R, .int .i64 G] 24)).heap.size = w.heap.size + 1 := by simp
  rw [hz0] at hb1 z1
  have xw1 : Ext w w1 := ((Kp.refl _ _).alloc _).trans x1
  have hS1 : Blk w1 w.heap.size [.int .i64 W, .int .i64 T, .int .i64 R, .int .i64 G] 24 := (Blk.of_alloc w [.int .i64 W, .int .i64 T, .int .i64 R, .int .i64 G] 24).kept x1 id
  have HZ1 := hide z1
  clear hz0 z1 x1
  go_loopw [12] (fun i wr => ∃ k : Nat, k ≤ ss.length + 3 ∧ i = .int .i64 k ∧ Blk wr (w.heap.size + 1) ((allC ss).take k ++ List.replicate (ss.length + 3 - k) (.string ByteArray.empty)) 9 ∧ Kp (fun q => q = w.heap.size + 1) w1 wr ∧ Hid (wr.heap.size = w1.heap.size)) (fun i _ => ss.length + 3 - (intOf i).toNat)
  case atStart => exact ⟨0, Nat.zero_le _, rfl, by simpa using hb1, Kp.refl _ _, rfl⟩
  case round =>
    obtain ⟨k, hk, rfl, hA, hK, HZ⟩ := hrel
    by_cases hkl : k < ss.length + 3
    · have c0 : wr.cell? ⟨w.heap.size + 1, k, none⟩ = some (.string ByteArray.empty) := by
        rw [hA.cell k, List.getElem?_append_right (by rw [List.length_take]; omega), List.length_take, allC_len, Nat.min_eq_left (by omega), Nat.sub_self, List.getElem?_replicate, if_pos (by omega)]
      have f0 := hA.free k
      by_cases hkn : k < ss.length
      · obtain ⟨b, off, rfl, hbB, hc⟩ := n3 (by omega)
        have hck := hK.cell (xw1.cell (hc k hkn) id) (by show ¬ b = _; omega)
        rw [show ss.getD k ByteArray.empty = ss[k] by rw [List.getD_eq_getElem?_getD, List.getElem?_eq_getElem hkn]; rfl] at hck
        have hst := take_set_drop (allC ss) (.string ByteArray.empty) (.string ss[k]) k (ss.length + 3) hkl (allC_len ss) (allC_lt ss k hkn)
        have hA2 := (hA.set k (.string behind)).set k (.string ss[k])
        rw [List.set_set, hst] at hA2
        have HA := hide hA2
        have hbn : ¬ (b = w.heap.size + 1) := by omega
        clear hst hA2 hc n3
        generalize ss[k] = y at *
        go_wp2_with fail
        refine ⟨⟨k + 1, by omega, by go_num, unhide HA, ?_, ?_⟩, by simp [intOf]; omega⟩
        · exact (hK.setCell (p := ⟨w.heap.size + 1, k, none⟩) (.inl rfl) _).setCell (p := ⟨w.heap.size + 1, k, none⟩) (.inl rfl) _
        · show _ = _; rw [size_set, size_set]; exact HZ.out
      · have hst := take_set_drop (allC ss) (.string ByteArray.empty) (.string behind) k (ss.length + 3) hkl (allC_len ss) (allC_ge ss k (by omega) hkl)
        have hA2 := hA.set k (.string behind)
        rw [hst] at hA2
        have HA := hide hA2
        clear hst hA2 n3
        go_wp2_with fail
        refine ⟨⟨k + 1, by omega, by go_num, unhide HA, ?_, ?_⟩, by simp [intOf]; omega⟩
        · exact hK.setCell (p := ⟨w.heap.size + 1, k, none⟩) (.inl rfl) _
        · show _ = _; rw [size_set]; exact HZ.out
    · obtain rfl : k = ss.length + 3 := by omega
      have hA2 : Blk wr (w.heap.size + 1) (allC ss) 9 := by
        have e : (allC ss).take (ss.length + 3) ++ List.replicate (ss.length + 3 - (ss.length + 3)) (.string ByteArray.empty) = allC ss := by
          rw [Nat.sub_self, List.replicate_zero, List.append_nil, List.take_of_length_le (by rw [allC_len]; omega)]
        rw [e] at hA
        exact hA
      have hS2 := hS1.kept hK (by omega)
      have xw2 : Ext w wr := xw1.then hK (fun i hi e => by omega)
      have hsz : wr.heap.size = w.heap.size + 2 := by rw [HZ.out, HZ1.out]
      have s0 := hS2.cell 0
      have s1 := hS2.cell 1
      have s2 := hS2.cell 2
      have s3 := hS2.cell 3
      simp only [List.getElem?_cons_zero, List.getElem?_cons_succ] at s0 s1 s2 s3
      generalize wr = W2 at *
      have hrdA : ∀ u, Ext W2 u → RdS u.heap.size u (.slice (some ⟨w.heap.size + 1, 0, none⟩) ss.length (ss.length + 3)) ss := fun u hu => by
        have hu2 := hA2.kept hu id
        refine ⟨_, ss.length + 3, by rw [List.length_map], by rw [List.length_map]; omega, by omega, fun _ => ⟨w.heap.size + 1, 0, rfl, hu2.lt, fun j hj => ?_⟩⟩
        rw [List.length_map] at hj
        rw [Nat.zero_add, hu2.cell j, allC_lt ss j hj, List.getElem?_map, List.getElem?_eq_getElem hj]
        rfl
      have hrdW : ∀ u, Ext W2 u → RdS B0 u (.slice ao ss.length cap) ss := fun u hu => hr0.kept (xw2.trans hu) (fun _ f => f.elim)
      have ht2 := ht.ext xw2
      have hb2 := hb.kept xw2 id
      have htlt : ∀ g, tv.ownBlock = some g → g < w.heap.size := fun g hg => ht.lt hg
      have l0 : (0 : Int) ≤ (ss.length : Int) := by omega
      have l1 : (ss.length : Int) ≤ (ss.length : Int) + 3 := by omega
      have HSZ := hide hsz
      clear hA hS1 hK hb1 xw1 HZ HZ1 hsz hr hr0 hb ht
      cases hok : Pl.okSet size W T R G with
      | false =>
        have HX : Hid (∀ u, Ext W2 u → Calls Tryz.prog 22 #[.int .i64 size, .slice (some ⟨w.heap.size + 1, 0, none⟩) ss.length (ss.length + 3), setV W T R G] u fun e w' => e = .returned (.tuple #[.pointer none, .int .i64 2]) ∧ Ext u w') := fun u hu =>
          (xOpen_any u.heap.size u _ ss size W T R G (hrdA u hu)).mono (fun e w' h => by
            obtain ⟨x, ⟨_, he⟩ | ⟨h2, _⟩⟩ := h
            · exact ⟨he, x⟩
            · rw [hok] at h2; cases h2)
        have HY : Hid (∀ u, Calls Tryz.prog 32 #[.int .i64 size, .slice ao ss.length cap, setV W T R G] u fun e w' => e = .returned (.tuple #[.pointer none, .int .i64 2]) ∧ Ext u w') := fun u => rOpen_bad u _ size W T R G hok
        have hA2' := hA2
        have HOK := hide hok
        clear hrdA hrdW hok
        go_wp2_with fail
        go_region_held3 (fun u => u.cell? ⟨w.heap.size, 0, none⟩ = some (.int .i64 W) ∧ u.cell? ⟨w.heap.size, 1, none⟩ = some (.int .i64 T) ∧ u.cell? ⟨w.heap.size, 2, none⟩ = some (.int .i64 R) ∧ u.cell? ⟨w.heap.size, 3, none⟩ = some (.int .i64 G)) (first | go_keep | exact ⟨x3.cell s0 id, x3.cell s1 id, x3.cell s2 id, x3.cell s3 id⟩) (first | (go_at_call 22; refine ((unhide HX) _ (ext_drew _)).mono ?_; rintro e w3 ⟨rfl, x3⟩) | fail)
        have x23 : Ext W2 w3 := (ext_drew _).trans x3
        have z0 := x23.cell s0 id
        have z1 := x23.cell s1 id
        have z2 := x23.cell s2 id
        have z3 := x23.cell s3 id
        clear s0 s1 s2 s3
        go_wp2_with fail
        refine ((unhide HY) w3).mono ?_
        rintro e w4 ⟨rfl, x4⟩
        have x24 : Ext W2 w4 := x23.trans x4
        have xw4 : Ext w w4 := xw2.trans x24
        have hA4 := hA2.kept x24 id
        clear z0 z1 z2 z3 hA2
        go_wp2_with fail
        go_loopw [17, 18] (fun t i wr => ∃ k : Nat, k ≤ ss.length + 3 ∧ i = .int .i64 k ∧ t = .bool true ∧ Blk wr (w.heap.size + 1) (List.replicate k (.string over) ++ (allC ss).drop k) 9 ∧ Kp (fun q => q = w.heap.size + 1) w4 wr ∧ Hid (wr.heap.size = w4.heap.size)) (fun _ i _ => ss.length + 3 - (intOf i).toNat)
        case atStart => exact ⟨0, Nat.zero_le _, rfl, rfl, by simpa using hA4, Kp.refl _ _, rfl⟩
        case round =>
          obtain ⟨k, hk, rfl, rfl, hA, hK, HZ⟩ := hrel
          by_cases hkl : k < ss.length + 3
          · have c0 := hA.cell k
            rw [get_over] at c0
            have f0 := hA.free k
            have hov := set_over (allC ss) (.string over) k (by rw [allC_len]; exact hkl)
            have hA2 := hA.set k (.string over)
            rw [hov] at hA2
            have HA := hide hA2
            clear hA hov hA2
            by_cases hkn : k < ss.length
            · obtain ⟨b, off, rfl, hbB, hc⟩ := n3 (by omega)
              have hck := hK.cell (xw4.cell (hc k hkn) id) (by show ¬ b = _; omega)
              rw [show ss.getD k ByteArray.empty = ss[k] by rw [List.getD_eq_getElem?_getD, List.getElem?_eq_getElem hkn]; rfl] at hck
              rw [allC_lt ss k hkn] at c0
              have hbn : ¬ (b = w.heap.size + 1) := by omega
              clear hc n3
              generalize ss[k] = y at *
              go_wp2_with fail
              refine ⟨⟨k + 1, by omega, by go_num, (by first | rfl | simp), unhide HA, hK.setCell (p := ⟨w.heap.size + 1, k, none⟩) (.inl rfl) _, by show _ = _; rw [size_set]; exact HZ.out⟩, by simp [intOf]; omega⟩
            · rw [allC_ge ss k (by omega) hkl] at c0
              clear n3
              go_wp2_with fail
              refine ⟨⟨k + 1, by omega, by go_num, (by first | rfl | simp), unhide HA, hK.setCell (p := ⟨w.heap.size + 1, k, none⟩) (.inl rfl) _, by show _ = _; rw [size_set]; exact HZ.out⟩, by simp [intOf]; omega⟩
          · clear hA n3
            go_wp2_with fail
            go_ret
            exact ⟨rfl, .inl ⟨unhide HOK, xw4.then hK (fun i hi e => by omega)⟩⟩
      | true =>
        have HX : Hid (∀ u, Ext W2 u → Calls Tryz.prog 22 #[.int .i64 size, .slice (some ⟨w.heap.size + 1, 0, none⟩) ss.length (ss.length + 3), setV W T R G] u fun e w' => ∃ X P col, e = .returned (.tuple #[PtrTo X 0, .int .i64 0]) ∧ IsX col w' X (Pl.openSc size.toNat (ss.map bytesOf) W.toNat T.toNat R.toNat G.toNat) P ∧ (∀ k, k < u.heap.size → col k = .out) ∧ Ext u w') := fun u hu =>
          (xOpen_any u.heap.size u _ ss size W T R G (hrdA u hu)).mono (fun e w' h => by
            obtain ⟨x, ⟨h2, _⟩ | ⟨_, X, P, col, he, h3, h4⟩⟩ := h
            · rw [hok] at h2; cases h2
            · exact ⟨X, P, col, he, h3, h4, x⟩)
        have HY : Hid (∀ u, Ext W2 u → Calls Tryz.prog 32 #[.int .i64 size, .slice ao ss.length cap, setV W T R G] u fun e w' => ∃ Y col, e = .returned (.tuple #[PtrTo Y 0, .int .i64 0]) ∧ IsR col w' Y (Pl.rOpen size.toNat (ss.map bytesOf) W.toNat T.toNat R.toNat G.toNat) ∧ Ext u w' ∧ ∀ k, k < u.heap.size → col k = .out) := fun u hu => rOpen_ok B0 u _ ss size W T R G (hrdW u hu) hss hok
        have hA2' := hA2
        have HOK := hide hok
        clear hrdA hrdW hok
        go_wp2_with fail
        go_region_held3 (fun u => u.cell? ⟨w.heap.size, 0, none⟩ = some (.int .i64 W) ∧ u.cell? ⟨w.heap.size, 1, none⟩ = some (.int .i64 T) ∧ u.cell? ⟨w.heap.size, 2, none⟩ = some (.int .i64 R) ∧ u.cell? ⟨w.heap.size, 3, none⟩ = some (.int .i64 G)) (first | go_keep | exact ⟨x3.cell s0 id, x3.cell s1 id, x3.cell s2 id, x3.cell s3 id⟩) (first | (go_at_call 22; refine ((unhide HX) _ (ext_drew _)).mono ?_; rintro e w3 ⟨X, P, col, rfl, hX3, hXo, x3⟩) | fail)
        have x23 : Ext W2 w3 := (ext_drew _).trans x3
        have z0 := x23.cell s0 id
        have z1 := x23.cell s1 id
        have z2 := x23.cell s2 id
        have z3 := x23.cell s3 id
        clear s0 s1 s2 s3
        go_wp2_with fail
        refine ((unhide HY) w3 x23).mono ?_
        rintro e w4 ⟨Y, colr, rfl, hY4, x4, hYo⟩
        have x24 : Ext W2 w4 := x23.trans x4
        have xw4 : Ext w w4 := xw2.trans x24
        have hA4 := hA2.kept x24 id
        clear z0 z1 z2 z3 hA2
        go_wp2_with fail
        go_loopw [17, 18] (fun t i wr => ∃ k : Nat, k ≤ ss.length + 3 ∧ i = .int .i64 k ∧ t = .bool true ∧ Blk wr (w.heap.size + 1) (List.replicate k (.string over) ++ (allC ss).drop k) 9 ∧ Kp (fun q => q = w.heap.size + 1) w4 wr ∧ Hid (wr.heap.size = w4.heap.size)) (fun _ i _ => ss.length + 3 - (intOf i).toNat)
        case atStart => exact ⟨0, Nat.zero_le _, rfl, rfl, by simpa using hA4, Kp.refl _ _, rfl⟩
        case round =>
          obtain ⟨k, hk, rfl, rfl, hA, hK, HZ⟩ := hrel
          by_cases hkl : k < ss.length + 3
          · have c0 := hA.cell k
            rw [get_over] at c0
            have f0 := hA.free k
            have hov := set_over (allC ss) (.string over) k (by rw [allC_len]; exact hkl)
            have hA2 := hA.set k (.string over)
            rw [hov] at hA2
            have HA := hide hA2
            clear hA hov hA2
            by_cases hkn : k < ss.length
            · obtain ⟨b, off, rfl, hbB, hc⟩ := n3 (by omega)
              have hck := hK.cell (xw4.cell (hc k hkn) id) (by show ¬ b = _; omega)
              rw [show ss.getD k ByteArray.empty = ss[k] by rw [List.getD_eq_getElem?_getD, List.getElem?_eq_getElem hkn]; rfl] at hck
              rw [allC_lt ss k hkn] at c0
              have hbn : ¬ (b = w.heap.size + 1) := by omega
              clear hc n3
              generalize ss[k] = y at *
              go_wp2_with fail
              refine ⟨⟨k + 1, by omega, by go_num, (by first | rfl | simp), unhide HA, hK.setCell (p := ⟨w.heap.size + 1, k, none⟩) (.inl rfl) _, by show _ = _; rw [size_set]; exact HZ.out⟩, by simp [intOf]; omega⟩
            · rw [allC_ge ss k (by omega) hkl] at c0
              clear n3
              go_wp2_with fail
              refine ⟨⟨k + 1, by omega, by go_num, (by first | rfl | simp), unhide HA, hK.setCell (p := ⟨w.heap.size + 1, k, none⟩) (.inl rfl) _, by show _ = _; rw [size_set]; exact HZ.out⟩, by simp [intOf]; omega⟩
          · clear hA n3
            have hwb := hb2.kept x24 id |>.kept hK (by omega)
            have ht5 := (ht2.ext x24).kept hK (fun g hg e => by have := htlt g hg; omega)
            have q0 := hwb.cell 0
            have f0 := hwb.free 0
            simp only [List.getElem?_cons_zero] at q0
            have hX5 := (hX3.kept x4 (fun _ f => f.elim)).kept hK (fun i e => by rw [e]; exact hXo _ (by have := HSZ.out; have : W2.drew.heap.size = W2.heap.size := rfl; omega))
            have hY5 := hY4.kept hK (fun i e => by rw [e]; exact hYo _ (by have := HSZ.out; have := x23.size; omega))
            have HEL : Hid (#[PtrTo X 0, PtrTo Y 0, .string file] = [PtrTo X 0, PtrTo Y 0, Value.string file].toArray) := rfl
            have HE1 : Hid (∀ u ∈ [PtrTo X 0, PtrTo Y 0, Value.string file], u.oneCell' = true) := by
              intro u hu
              simp at hu
              rcases hu with rfl | rfl | rfl <;> rfl
            have hdis : ∀ k, col k ≠ .out → colr k = .out := fun k hk => by
              obtain ⟨ps, qs, nv, av0, wv, hv, gv, rr⟩ := hX3.sc
              by_cases hlt : k < w3.heap.size
              · exact hYo k hlt
              · exact absurd (rr.inn.top k (by omega)) hk
            have hzz := hK.size
            have htX : ∀ k, wr.heap.size ≤ k → col k = .out := fun k hk => by
              obtain ⟨ps, qs, nv, av0, wv, hv, gv, rr⟩ := hX5.sc
              exact rr.inn.top k hk
            have htY : ∀ k, wr.heap.size ≤ k → colr k = .out := fun k hk => by
              obtain ⟨pvs, nv, pv, rv0, tv0, rr⟩ := hY5
              exact rr.inn.top k hk
            have hnew := World.new_ne wr _ q0
            obtain ⟨ta, tc, rfl, _⟩ := ht5.shape
            go_wp2_with (at_builtin; go_must (refine wpList_append_g _ rfl _ _ 27 27 rfl 85 zTwo 3 32 Tryz.underlying27 infoTwo rfl (.slice ta nt tc) nt tcs rfl (ht5.ext_alloc _) _ rfl 1 _ (src_elemA _ _ _ Tryz.underlying27 _ _ (unhide HEL) (unhide HE1)) (by omega) (by omega) ?_); intro tv' w6 o6 k6 s6; have k56 : Kp (Of (.slice ta nt tc)) wr w6 := (Kp.of_ext ((Kp.refl _ _).alloc _)).trans k6; have hwb6 := hwb.kept k56 (fun e => d1 e); have q6 := hwb6.cell 0; have f6 := hwb6.free 0; simp only [List.getElem?_cons_zero] at q6; obtain ⟨ta', tc', rfl, _⟩ := o6.shape)
            go_ret
            have k7 := kp_set' w6 Wb 0 (.slice ta' (nt + 1) tc')
            have htv' : ∀ g, (Value.slice ta' (nt + 1) tc').ownBlock = some g → (Value.slice ta nt tc).ownBlock = some g ∨ wr.heap.size ≤ g := fun g hg => by
              rcases sep_new s6 hg with e | e
              · exact .inl e
              · exact .inr (by simp at e; omega)
            have hS6 : ∀ i, Of (.slice ta nt tc) i → col i = .out ∧ colr i = .out := fun i hi => ⟨hXo i (by have := htlt i hi; have := HSZ.out; have : W2.drew.heap.size = W2.heap.size := rfl; omega), hYo i (by have := htlt i hi; have := x23.size; have := HSZ.out; omega)⟩
            have hW6 : col Wb = .out ∧ colr Wb = .out := ⟨hXo Wb (by have := HSZ.out; have : W2.drew.heap.size = W2.heap.size := rfl; omega), hYo Wb (by have := x23.size; have := HSZ.out; omega)⟩
            have hxw5 : Kp (fun k => k = Wb ∨ Of (.slice ta nt tc) k) w wr := Kp.of_ext (xw4.then hK (fun i hi e => by omega))
            refine ⟨rfl, .inr ⟨unhide HOK, OpenedAt.mk (.slice ta' (nt + 1) tc') X Y P col colr ?_ ?_ ((hX5.kept k56 (fun i hi => (hS6 i hi).1)).kept k7 (fun i hi => by rw [hi]; exact hW6.1)) ((hY5.kept k56 (fun i hi => (hS6 i hi).2)).kept k7 (fun i hi => by rw [hi]; exact hW6.2)) (fun k hk => ⟨hXo k (by have := HSZ.out; have : W2.drew.heap.size = W2.heap.size := rfl; omega), hYo k (by have := x23.size; have := HSZ.out; omega)⟩) hdis (fun g hg => ?_) (fun g hg => (htv' g hg).imp id (fun h => by have := xw4.size; omega)) ?_⟩⟩
            · have := hwb6.set 0 (.slice ta' (nt + 1) tc')
              simpa using this
            · exact o6.kept k7 (fun g hg e => by
                rcases htv' g hg with e' | e'
                · exact d1 (by rw [← e]; exact e')
                · have := xw4.size; omega)
            · rcases htv' g hg with e | e
              · exact hS6 g e
              · exact ⟨htX g e, htY g e⟩
            · exact (hxw5.then k56 (fun i _ h => .inr h)).then k7 (fun i _ h => .inl h)
end Go.Proofs.YthicgffppmbamaaGreat
