/- Package wire: varints, sums, pairs onto a row of one's own. -/
import Derived.Test.YthicgffppmbamaaGreatBase
import Derived.Deep.DeepMust
namespace Go.Proofs.YthicgffppmbamaaGreat
open Go.RowKit

theorem src_built (w : World) (cur : List UInt8) : Src Tryz.prog 1 76 (.slice (some ⟨w.heap.size, 0, none⟩) cur.length cur.length) cur.length (cur.map B) (w.alloc (.cells (cur.map B).toArray 5)) :=
  Src.ofSlice (P := Tryz.prog) _ (e' := 5) Tryz.underlying76 _ _ _ _ (by simp) (fun j u hu => by
    rw [Addr.add_lit, Nat.zero_add, World.cell?_alloc_new, List.getElem?_toArray]; exact hu) (B_one _)

theorem byte_eq {x : Int} (n : Nat) (h : x = n) (hn : n < 256) : Value.int .u8 x = B (UInt8.ofNat n) := by
  subst h
  unfold B
  rw [UInt8.toNat_ofNat', Nat.mod_eq_of_lt (by simpa using hn)]

/-- one byte, laid in a new block -/
theorem src_one (w : World) (x : Int) (b : UInt8) (h : Value.int .u8 x = B b) : Src Tryz.prog 1 76 (.slice (some ⟨w.heap.size, 0, none⟩) 1 1) 1 ([b].map B) (w.alloc (.cells #[.int .u8 x] 5)) := by
  rw [h]
  exact src_built w [b]

/-- some bytes, laid in a new block -/
theorem src_arr (w : World) (arr : Array Value) (k : Nat) (cur : List UInt8) (hk : k = cur.length) (h : arr = (cur.map B).toArray) : Src Tryz.prog 1 76 (.slice (some ⟨w.heap.size, 0, none⟩) k k) k (cur.map B) (w.alloc (.cells arr 5)) := by
  subst hk
  subst h
  exact src_built w cur

theorem pair_bytes (n : Nat) (h : n < 65536) : #[Value.int .u8 ((n : Int) / 256), Value.int .u8 ((n : Int) % 256)] = ([UInt8.ofNat (n / 256), UInt8.ofNat (n % 256)].map B).toArray := by
  rw [byte_eq (x := (n : Int) / 256) (n / 256) (by omega) (by omega), byte_eq (x := (n : Int) % 256) (n % 256) (by omega) (by omega)]
  rfl
theorem sum_bytes (ds : List UInt8) : #[Value.int .u8 ((Pl.sumOf ds : Int) / 16777216 % 256), Value.int .u8 ((Pl.sumOf ds : Int) / 65536 % 256), Value.int .u8 ((Pl.sumOf ds : Int) / 256 % 256), Value.int .u8 ((Pl.sumOf ds : Int) % 256)] = ((Pl.sum4 ds).map B).toArray := by
  have h := Pl.sumOf_lt ds
  unfold Pl.sum4 Pl.bytes4
  generalize Pl.sumOf ds = n at *
  rw [byte_eq (x := (n : Int) / 16777216 % 256) (n / 16777216) (by omega) (by omega), byte_eq (x := (n : Int) / 65536 % 256) (n / 65536 % 256) (by omega) (by omega), byte_eq (x := (n : Int) / 256 % 256) (n / 256 % 256) (by omega) (by omega), byte_eq (x := (n : Int) % 256) (n % 256) (by omega) (by omega)]
  rfl

theorem own_alloc {w : World} {v : Value} {bs : List UInt8} (h : OwnB w v bs) (o : Obj) : OwnB (w.alloc o) v bs := h.ext (Kp.alloc (Kp.refl _ _) _)
/-- behind a new block and an append -/
theorem kp_alloc_then {w wr w1 : World} {v t : Value} {o : Obj} (h : Kp (Of v) w wr) (hs : Sep w v t) (k : Kp (Of t) (wr.alloc o) w1) : Kp (Of v) w w1 :=
  (h.alloc o).then k (fun i hi e => by
    rcases hs with hs | ⟨g, h1, h2⟩
    · show v.ownBlock = some i
      rw [← hs]; exact e
    · have e' : t.ownBlock = some i := e
      rw [h1] at e'
      simp at e'
      omega)
theorem sep_alloc_then {w wr : World} {v t u : Value} {o : Obj} (h : Kp (Of v) w wr) (hs : Sep w v t) (k : Sep (wr.alloc o) t u) : Sep w v u :=
  hs.trans (h.alloc o).size k

set_option maxRecDepth 20000 in
set_option maxHeartbeats 400000 in
theorem appendVarint_any (w : World) (v : Value) (bs : List UInt8) (n : Int) (hown : OwnB w v bs) (h0 : 0 ≤ n) (h1 : n ≤ 1099511627775) (hb : bs.length ≤ 10000) :
    Calls Tryz.prog 97 #[v, .int .i64 n] w fun e w' => ∃ v', e = .returned v' ∧ OwnB w' v' (bs ++ Pl.vint n.toNat) ∧ Kp (Of v) w w' ∧ Sep w v v' := by
  go_enter Tryz.func97, Tryz.ntmps97
  go_wp2
  go_loopw [0, 1] (fun t i wr => ∃ (m : Nat) (done : List UInt8), i = .int .i64 m ∧ m ≤ 1099511627775 ∧ done ++ Pl.vint m = Pl.vint n.toNat ∧ OwnB wr t (bs ++ done) ∧ Kp (Of v) w wr ∧ Sep w v t) (fun _ i _ => (intOf i).toNat)
  case atStart => exact ⟨n.toNat, [], by rw [Int.toNat_of_nonneg h0], by omega, rfl, by simpa using hown, Kp.refl _ _, Sep.refl _ _⟩
  case round =>
    obtain ⟨m, done, rfl, hm, hdone, hown', hk, hs⟩ := hrel
    have hlen := Pl.vint_len 5 n.toNat (by simp; omega)
    have hlen2 : done.length + (Pl.vint m).length ≤ 6 := by rw [← hdone] at hlen; simpa using hlen
    have HD : Hid (done ++ Pl.vint m = Pl.vint n.toNat) := hdone
    clear hdone hlen
    by_cases h128 : 128 ≤ m
    · go_wp2_with (at_builtin; go_must (refine wpList_append_b _ rfl _ _ 76 rfl _ _ rfl (own_alloc hown' _) _ rfl 1 [UInt8.ofNat (m % 128 + 128)] (src_one _ _ _ (byte_eq _ (by omega) (by omega))) (by simp; omega) ?_); intro v1 w1 o1 k1 s1)
      go_roundw
      case rel => exact ⟨m / 128, done ++ [UInt8.ofNat (m % 128 + 128)], by go_num, by omega, by rw [← HD.out, Pl.vint_ge m h128]; simp, by simpa using o1, kp_alloc_then hk hs k1, sep_alloc_then hk hs s1⟩
      case measure => simp [intOf]; omega
    · go_wp2_with (at_builtin; go_must (refine wpList_append_b _ rfl _ _ 76 rfl _ _ rfl (own_alloc hown' _) _ rfl 1 [UInt8.ofNat m] (src_one _ _ _ (byte_eq _ (by omega) (by omega))) (by simp; omega) ?_); intro v1 w1 o1 k1 s1)
      go_ret
      exact ⟨_, rfl, by rw [← HD.out, Pl.vint_lt m (by omega)]; simpa using o1, kp_alloc_then hk hs k1, sep_alloc_then hk hs s1⟩

theorem OwnB.atBlock {w : World} {v : Value} {bs : List UInt8} (h : OwnB w v bs) (hne : 0 < bs.length) : ∃ g cap, v = .slice (some ⟨g, 0, none⟩) bs.length cap ∧ bs.length ≤ cap ∧ cap ≤ maxLen ∧ g < w.heap.size ∧
    (∀ j, j < bs.length → w.cell? ⟨g, j, none⟩ = some (.int .u8 ((bs.getD j 0).toNat))) := by
  rcases h with ⟨rfl, rfl⟩ | ⟨g, cap, rfl, h1, h2, h3, h4, _⟩
  · simp at hne
  · refine ⟨g, cap, rfl, h1, h2, h3, fun j hj => ?_⟩
    rw [h4 j hj]
    simp [B, List.getElem?_eq_getElem hj]

theorem xor_u32 (a b : Nat) (ha : a < 4294967296) (hb : b < 4294967296) : bits .xor .u32 (a : Int) (b : Int) = ((a ^^^ b : Nat) : Int) := by
  have hx : a ^^^ b < 2 ^ 32 := Nat.xor_lt_two_pow (by omega) (by omega)
  have h1 : (BitVec.ofInt 32 (a : Int)).toNat = a := by
    rw [BitVec.ofInt_natCast, BitVec.toNat_ofNat]; exact Nat.mod_eq_of_lt (by omega)
  have h2 : (BitVec.ofInt 32 (b : Int)).toNat = b := by
    rw [BitVec.ofInt_natCast, BitVec.toNat_ofNat]; exact Nat.mod_eq_of_lt (by omega)
  show IntKind.u32.wrap ((BitVec.ofInt 32 (a : Int) ^^^ BitVec.ofInt 32 (b : Int)).toNat : Int) = _
  rw [BitVec.toNat_xor, h1, h2]
  simp only [IntKind.wrap, IntKind.bits, IntKind.signed]
  simp
  omega

theorem sum_step (h : Nat) (b : UInt8) (hh : h < 4294967296) : bits .xor .u32 (h : Int) ((b.toNat : Int) % 4294967296) * 16777619 % 4294967296 = (Pl.sumStep h b : Nat) := by
  have hb := b.toNat_lt
  rw [show ((b.toNat : Int) % 4294967296) = ((b.toNat : Nat) : Int) by omega, xor_u32 _ _ hh (by omega)]
  unfold Pl.sumStep
  omega

theorem sum_take (bs : List UInt8) (k : Nat) (hk : k < bs.length) : Pl.sumOf (bs.take (k + 1)) = Pl.sumStep (Pl.sumOf (bs.take k)) bs[k] := by
  unfold Pl.sumOf
  rw [List.take_succ_eq_append_getElem hk, Pl.sumFrom_snoc]

set_option maxRecDepth 20000 in
set_option maxHeartbeats 400000 in
theorem sumOf_any (w : World) (v : Value) (bs : List UInt8) (hown : OwnB w v bs) (hne : 0 < bs.length) (hb : bs.length ≤ 10000) :
    Calls Tryz.prog 153 #[v] w fun e w' => e = .returned (.int .u32 (Pl.sumOf bs)) ∧ w' = w := by
  obtain ⟨g, cap, rfl, h1, h2, h3, hc⟩ := hown.atBlock hne
  clear hown
  go_enter Tryz.func153, Tryz.ntmps153
  go_wp2
  go_loop [3, 8] (fun t i => ∃ k : Nat, k ≤ bs.length ∧ i = .int .i64 k ∧ t = .int .u32 (Pl.sumOf (bs.take k))) (fun _ i => bs.length - (intOf i).toNat)
  case atStart => exact ⟨0, Nat.zero_le _, rfl, rfl⟩
  case round =>
    obtain ⟨k, hk, rfl, rfl⟩ := hrel
    have hlt := Pl.sumOf_lt (bs.take k)
    by_cases hkl : k < bs.length
    · have hck := hc k hkl
      go_wp2_with fail
      go_round
      case rel =>
        refine ⟨k + 1, by omega, by go_num, ?_⟩
        rw [sum_take bs k hkl, ← sum_step _ _ hlt]
      case measure => simp [intOf]; omega
    · go_wp2_with fail
      go_ret
      rw [List.take_of_length_le (by omega)]
      exact ⟨rfl, rfl⟩

set_option maxRecDepth 20000 in
set_option maxHeartbeats 400000 in
theorem appendPair_any (w : World) (v : Value) (bs : List UInt8) (n : Nat) (hown : OwnB w v bs) (h1 : n < 65536) (hb : bs.length ≤ 10000) :
    Calls Tryz.prog 115 #[v, .int .i64 n] w fun e w' => ∃ v', e = .returned v' ∧ OwnB w' v' (bs ++ [UInt8.ofNat (n / 256), UInt8.ofNat (n % 256)]) ∧ Kp (Of v) w w' ∧ Sep w v v' := by
  go_enter Tryz.func115, Tryz.ntmps115
  go_wp2_with (at_builtin; go_must (refine wpList_append_b _ rfl _ _ 76 rfl _ _ rfl (own_alloc hown _) _ rfl 2 [UInt8.ofNat (n / 256), UInt8.ofNat (n % 256)] (src_arr _ _ _ _ rfl (pair_bytes n h1)) (by omega) ?_); intro v1 w1 o1 k1 s1)
  go_ret
  exact ⟨_, rfl, o1, kp_alloc_then (Kp.refl _ _) (Sep.refl _ _) k1, sep_alloc_then (v := v) (Kp.refl _ _) (Sep.refl _ _) s1⟩

set_option maxRecDepth 20000 in
set_option maxHeartbeats 400000 in
theorem appendSum_any (w : World) (v d : Value) (bs ds : List UInt8) (hown : OwnB w v bs) (hd : OwnB w d ds) (hne : 0 < ds.length) (hb : bs.length ≤ 10000) (hb2 : ds.length ≤ 10000) :
    Calls Tryz.prog 138 #[v, d] w fun e w' => ∃ v', e = .returned v' ∧ OwnB w' v' (bs ++ Pl.sum4 ds) ∧ Kp (Of v) w w' ∧ Sep w v v' := by
  go_enter Tryz.func138, Tryz.ntmps138
  go_wp2_with (first | (go_at_call 153; refine (sumOf_any _ _ _ hd hne hb2).mono ?_; rintro e w' ⟨rfl, rfl⟩) | (at_builtin; go_must (refine wpList_append_b _ rfl _ _ 76 rfl _ _ rfl (own_alloc hown _) _ rfl 4 (Pl.sum4 ds) (src_arr _ _ _ _ rfl (sum_bytes ds)) (by omega) ?_); intro v1 w1 o1 k1 s1))
  go_ret
  exact ⟨_, rfl, o1, kp_alloc_then (Kp.refl _ _) (Sep.refl _ _) k1, sep_alloc_then (v := v) (Kp.refl _ _) (Sep.refl _ _) s1⟩
end Go.Proofs.YthicgffppmbamaaGreat
