/- What may be written: the program's own test. -/
import Derived.Test.YthicgffppmbamaaGreatRead
import Derived.Test.YthicgffppmbamaaGreatPlainB
import Derived.Deep.DeepMust
namespace Go.Proofs.YthicgffppmbamaaGreat
open Go.RowKit

def bytesOf (s : ByteArray) : List UInt8 := s.data.toList
theorem bytesOf_len (s : ByteArray) : (bytesOf s).length = s.size := by
  unfold bytesOf
  rw [Array.length_toList]
  rfl
theorem bytesOf_inj {s t : ByteArray} (h : bytesOf s = bytesOf t) : s = t := by
  cases s; cases t
  simp only [bytesOf] at h
  congr 1
  exact Array.toList_inj.1 h
theorem eq_bytes (s t : ByteArray) : (s.toList == t.toList) = decide (bytesOf s = bytesOf t) := by
  rw [ByteArray.toList_eq, ByteArray.toList_eq, Bool.eq_iff_iff]
  simp [bytesOf]

set_option maxRecDepth 20000 in
set_option maxHeartbeats 400000 in
theorem wrongValue_any (w : World) (n : Int) : Calls Tryz.prog 137 #[.int .i64 n] w fun e w' => e = .returned (.bool (!Pl.okVal n)) ∧ w' = w := by
  by_cases h1 : n < 0
  · have e : Pl.okVal n = false := by rw [← Bool.not_eq_true, Pl.okVal_iff]; omega
    rw [e]
    go_enter Tryz.func137, Tryz.ntmps137
    go_wp2
    go_ret
    exact ⟨rfl, rfl⟩
  · by_cases h2 : 1099511627775 < n
    · have e : Pl.okVal n = false := by rw [← Bool.not_eq_true, Pl.okVal_iff]; omega
      rw [e]
      go_enter Tryz.func137, Tryz.ntmps137
      go_wp2
      go_ret
      exact ⟨by simp, rfl⟩
    · have e : Pl.okVal n = true := by rw [Pl.okVal_iff]; omega
      rw [e]
      go_enter Tryz.func137, Tryz.ntmps137
      go_wp2
      go_ret
      exact ⟨by simp, rfl⟩

set_option maxRecDepth 20000 in
set_option maxHeartbeats 400000 in
theorem indexFunc_any (B0 : Nat) (w : World) (v : Value) (xs : List Int) (hr : RdI B0 w v xs) :
    Calls Tryz.prog 152 #[v, .func (.func 137) #[] #[]] w fun e w' => ∃ r : Int, e = .returned (.int .i64 r) ∧ -1 ≤ r ∧ r ≤ 17592186044416 ∧ (0 ≤ r ↔ Pl.badIn xs = true) ∧ w' = w := by
  obtain ⟨ao, cap, rfl, h1, h2, h3⟩ := RdI.open hr
  clear hr
  go_enter Tryz.func152, Tryz.ntmps152
  go_wp2_with fail
  go_loop [8] (fun i => ∃ k : Nat, k ≤ xs.length ∧ i = .int .i64 k ∧ Hid ((xs.take k).all Pl.okVal = true)) (fun i => xs.length - (intOf i).toNat)
  case atStart => exact ⟨0, Nat.zero_le _, rfl, by show _ = _; simp⟩
  case round =>
    obtain ⟨k, hk, rfl, hall⟩ := hrel
    by_cases hkl : k < xs.length
    · obtain ⟨b, off, rfl, hb, hc⟩ := h3 (by omega)
      have hck := hc k hkl
      clear hc h3
      rw [show xs.getD k 0 = xs[k] by rw [List.getD_eq_getElem?_getD, List.getElem?_eq_getElem hkl]; rfl] at hck
      cases hok : Pl.okVal xs[k] with
      | true =>
        have hw := wrongValue_any w xs[k]
        rw [hok] at hw
        have HN : Hid ((xs.take (k + 1)).all Pl.okVal = true) := by
          show _ = _
          rw [List.take_succ_eq_append_getElem hkl, List.all_append, hall.out]; simp [hok]
        clear hok
        generalize xs[k] = x at *
        have HW := hide hw
        clear hw
        go_wp2_with fail
        refine (unhide HW).mono ?_
        rintro e w1 ⟨rfl, rfl⟩
        go_wp2_with fail
        go_round
        case rel => exact ⟨k + 1, by omega, by go_num, HN⟩
        case measure => simp [intOf]; omega
      | false =>
        have hw := wrongValue_any w xs[k]
        rw [hok] at hw
        have HN : Hid (xs.all Pl.okVal = false) := by
          show _ = _
          rw [← Bool.not_eq_true, List.all_eq_true]
          intro h
          have := h xs[k] (List.getElem_mem hkl)
          rw [hok] at this
          cases this
        clear hok
        generalize xs[k] = x at *
        have HW := hide hw
        clear hw
        go_wp2_with fail
        refine (unhide HW).mono ?_
        rintro e w1 ⟨rfl, rfl⟩
        go_wp2_with fail
        go_ret
        exact ⟨_, rfl, by omega, by omega, ⟨fun _ => Pl.badIn_not HN.out, fun _ => by omega⟩, rfl⟩
    · go_wp2_with fail
      go_ret
      have := hall.out
      rw [List.take_of_length_le (by omega)] at this
      exact ⟨_, rfl, by omega, by omega, ⟨fun h => by omega, fun h => by rw [Pl.badIn_all this] at h; cases h⟩, rfl⟩

set_option maxRecDepth 20000 in
set_option maxHeartbeats 400000 in
theorem containsFunc_any (B0 : Nat) (w : World) (v : Value) (xs : List Int) (hr : RdI B0 w v xs) :
    Calls Tryz.prog 136 #[v, .func (.func 137) #[] #[]] w fun e w' => e = .returned (.bool (Pl.badIn xs)) ∧ w' = w := by
  go_enter Tryz.func136, Tryz.ntmps136
  go_wp2_with fail
  refine (indexFunc_any B0 w v xs hr).mono ?_
  rintro e w1 ⟨r, rfl, h1, h2, h3, rfl⟩
  have HR := hide h3
  clear h3
  go_wp2_with fail
  go_ret
  refine ⟨?_, rfl⟩
  have := HR.out
  cases hb : Pl.badIn xs with
  | true => rw [hb] at this; simp [this]
  | false => rw [hb] at this; simp at this; simp [this]

set_option maxRecDepth 20000 in
set_option maxHeartbeats 400000 in
theorem index_any (B0 : Nat) (w : World) (v : Value) (ss : List ByteArray) (s : ByteArray) (hr : RdS B0 w v ss) :
    Calls Tryz.prog 140 #[v, .string s] w fun e w' => ∃ r : Int, e = .returned (.int .i64 r) ∧ -1 ≤ r ∧ r ≤ 17592186044416 ∧ (0 ≤ r ↔ bytesOf s ∈ ss.map bytesOf) ∧ w' = w := by
  obtain ⟨ao, cap, rfl, h1, h2, h3⟩ := RdS.open hr
  clear hr
  generalize hP : (bytesOf s ∈ ss.map bytesOf) = P0
  have HP := hide hP
  clear hP
  go_enter Tryz.func140, Tryz.ntmps140
  go_wp2_with fail
  go_loop [8] (fun i => ∃ k : Nat, k ≤ ss.length ∧ i = .int .i64 k ∧ Hid (bytesOf s ∉ (ss.take k).map bytesOf)) (fun i => ss.length - (intOf i).toNat)
  case atStart => exact ⟨0, Nat.zero_le _, rfl, by show _ ∉ _; simp⟩
  case round =>
    obtain ⟨k, hk, rfl, hall⟩ := hrel
    by_cases hkl : k < ss.length
    · obtain ⟨b, off, rfl, hb, hc⟩ := h3 (by omega)
      have hck := hc k hkl
      clear hc h3
      rw [show ss.getD k ByteArray.empty = ss[k] by rw [List.getD_eq_getElem?_getD, List.getElem?_eq_getElem hkl]; rfl] at hck
      have he := eq_bytes s ss[k]
      have hmem : bytesOf ss[k] ∈ ss.map bytesOf := List.mem_map.2 ⟨_, List.getElem_mem hkl, rfl⟩
      have htk : (ss.take (k + 1)).map bytesOf = (ss.take k).map bytesOf ++ [bytesOf ss[k]] := by rw [List.take_succ_eq_append_getElem hkl, List.map_append]; rfl
      generalize ss[k] = y at *
      by_cases hok : bytesOf s = bytesOf y
      · rw [decide_eq_true hok] at he
        have HN : Hid P0 := by show P0; rw [← HP.out, hok]; exact hmem
        clear hok hmem htk
        go_wp2_with fail
        go_ret
        exact ⟨_, rfl, by omega, by omega, ⟨fun _ => HN.out, fun _ => by omega⟩, rfl⟩
      · rw [decide_eq_false hok] at he
        have HN : Hid (bytesOf s ∉ (ss.take (k + 1)).map bytesOf) := by
          show _ ∉ _
          rw [htk]
          simp only [List.mem_append, List.mem_singleton]
          rintro (h | h)
          · exact hall.out h
          · exact hok h
        clear hok hmem htk
        go_wp2_with fail
        go_round
        case rel => exact ⟨k + 1, by omega, by go_num, HN⟩
        case measure => simp [intOf]; omega
    · go_wp2_with fail
      go_ret
      have := hall.out
      rw [List.take_of_length_le (by omega), HP.out] at this
      exact ⟨_, rfl, by omega, by omega, ⟨fun h => by omega, fun h => absurd h this⟩, rfl⟩

set_option maxRecDepth 20000 in
set_option maxHeartbeats 400000 in
theorem contains_any (B0 : Nat) (w : World) (v : Value) (ss : List ByteArray) (s : ByteArray) (hr : RdS B0 w v ss) (b : Bool) (hb : b = decide (bytesOf s ∈ ss.map bytesOf)) :
    Calls Tryz.prog 116 #[v, .string s] w fun e w' => e = .returned (.bool b) ∧ w' = w := by
  have HB := hide hb
  clear hb
  go_enter Tryz.func116, Tryz.ntmps116
  go_wp2_with fail
  refine (index_any B0 w v ss s hr).mono ?_
  rintro e w1 ⟨r, rfl, h1, h2, h3, rfl⟩
  have HR := hide h3
  clear h3
  go_wp2_with fail
  go_ret
  refine ⟨?_, rfl⟩
  have hb : b = decide (0 ≤ r) := by rw [HB.out, decide_eq_decide]; exact HR.out.symm
  rw [hb]
  rfl
end Go.Proofs.YthicgffppmbamaaGreat
