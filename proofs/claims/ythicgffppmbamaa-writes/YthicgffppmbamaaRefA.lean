/- The document's answer: numbers and sums as texts. -/
import Derived.Test.YthicgffppmbamaaFinish
namespace Go.Proofs.Ythicgffppmbamaa
open Go.RowKit

theorem ext_cells {u w' : World} (x : Ext u w') : ∀ b o, b < u.heap.size → w'.cell? ⟨b, o, none⟩ = u.cell? ⟨b, o, none⟩ := fun b o h => World.cell?_of_block (w := u) (a := ⟨b, o, none⟩) (x.block b h id)

abbrev T (l : List UInt8) : Value := .string ⟨l.toArray⟩

/-- string of one byte -/
theorem conv1 (x : Int) (hx : 0 ≤ x) (hx2 : x < 256) : ∀ (u : World) (a : Addr), u.cell? a = some (.int .u8 x) → (convert 41 9 (.slice (some a) 1 1)).run Try.prog u = .ok (T [UInt8.ofNat x.toNat]) u := by
  intro u a h
  have hb : (UInt8.ofNat x.toNat).toNat = x.toNat := by rw [UInt8.toNat_ofNat', Nat.mod_eq_of_lt (by omega)]
  refine run_convert_bytes_back (P := Try.prog) u _ _ 5 a 1 [UInt8.ofNat x.toNat] Try.underlying41 Try.underlying5 Try.underlying9 (fun j hj => ?_)
  have hj0 : j = 0 := by simp at hj; omega
  subst hj0
  rw [show a.add 0 = a by simp [Addr.add], h]
  simp only [List.getElem_cons_zero]
  rw [hb, Int.toNat_of_nonneg hx]

set_option maxRecDepth 20000 in
set_option maxHeartbeats 1000000 in
theorem varint_any (f : Nat) : ∀ (n : Int) (w : World), 0 ≤ n → n ≤ 1099511627775 → n ≤ f →
    Calls Try.prog 12 #[.int .i64 n] w fun e w' => e = .returned (T (Pl.vint n.toNat)) ∧ Ext w w' := by
  induction f with
  | zero =>
    intro n w h0 h1 h2
    obtain rfl : n = 0 := by omega
    have hcv := conv1 0 (by omega) (by omega)
    go_enter Try.func12, Try.ntmps12
    go_wp2
    go_ret
    exact ⟨rfl, (Kp.refl _ _).alloc _⟩
  | succ f ih =>
    intro n w h0 h1 h2
    by_cases h128 : n < 128
    · have hcv := conv1 n (by omega) (by omega)
      go_enter Try.func12, Try.ntmps12
      go_wp2
      go_ret
      exact ⟨by rw [Pl.vint_lt _ (by omega)]; rfl, (Kp.refl _ _).alloc _⟩
    · have IH := hide ih
      clear ih
      have hv := Pl.vint_ge n.toNat (by omega)
      obtain ⟨q, hq⟩ : ∃ q, q = n / 128 := ⟨_, rfl⟩
      obtain ⟨c, hc⟩ : ∃ c, c = n % 128 + 128 := ⟨_, rfl⟩
      have e1 : IntKind.i64.wrap (n.tdiv 128) = q := by
        rw [Int.tdiv_eq_ediv_of_nonneg h0, hq]
        simp [IntKind.wrap, IntKind.bits, IntKind.signed]
        omega
      have e2 : IntKind.u8.wrap (IntKind.i64.wrap (n.tmod 128 + 128)) = c := by
        rw [Int.tmod_eq_emod_of_nonneg h0, hc]
        simp [IntKind.wrap, IntKind.bits, IntKind.signed]
        omega
      have b1 : 0 ≤ q ∧ q ≤ 1099511627775 ∧ q ≤ f := by omega
      have b2 : 0 ≤ c ∧ c < 256 := by omega
      have hcv := conv1 c b2.1 b2.2
      have HV : Hid (Pl.vint n.toNat = UInt8.ofNat c.toNat :: Pl.vint q.toNat) := by
        show _ = _
        rw [hv, show n.toNat % 128 + 128 = c.toNat by omega, show n.toNat / 128 = q.toNat by omega]
      have hl := Pl.vint_len 5 q.toNat (by simp; omega)
      clear hq hc hv
      go_enter Try.func12, Try.ntmps12
      go_wp2_with fail
      go_region_with (go_at_call 12; go_must (refine ((unhide IH) q _ (by omega) (by omega) (by omega)).mono ?_); rintro e w1 ⟨rfl, x1⟩; have hx := ext_cells x1)
      all_goals
        go_wp2_with fail
        go_ret
        refine ⟨?_, ?_⟩
        · rw [HV.out]
          show Ending.returned (.string _) = _
          simp only [T, Ending.returned.injEq, Value.string.injEq]
          exact ByteArray.mk_append_mk [UInt8.ofNat c.toNat] (Pl.vint q.toNat)
        · first
            | exact ((Kp.refl _ _).drew.alloc _).trans x1
            | exact (((Kp.refl _ _).drew).trans x1).alloc _

theorem sum_take_s (s : ByteArray) (k : Nat) (hk : k < s.size) : Pl.sumOf ((bytesOf s).take (k + 1)) = Pl.sumStep (Pl.sumOf ((bytesOf s).take k)) s[k] := by
  rw [sum_take (bytesOf s) k (by rw [bytesOf_len]; exact hk)]
  rfl

set_option maxRecDepth 20000 in
set_option maxHeartbeats 1000000 in
theorem sumRef_any (s : ByteArray) (w : World) (hs : s.size ≤ 10000) :
    Calls Try.prog 14 #[.string s] w fun e w' => e = .returned (T (Pl.sum4 (bytesOf s))) ∧ Ext w w' := by
  go_enter Try.func14, Try.ntmps14
  go_wp2
  go_loop [3, 4] (fun t i => ∃ k : Nat, k ≤ s.size ∧ i = .int .i64 k ∧ t = .int .u32 (Pl.sumOf ((bytesOf s).take k))) (fun _ i => s.size - (intOf i).toNat)
  case atStart => exact ⟨0, Nat.zero_le _, rfl, rfl⟩
  case round =>
    obtain ⟨k, hk, rfl, rfl⟩ := hrel
    have hlt := Pl.sumOf_lt ((bytesOf s).take k)
    by_cases hkl : k < s.size
    · go_wp2_with fail
      go_round
      case rel =>
        refine ⟨k + 1, by omega, by go_num, ?_⟩
        rw [sum_take_s s k hkl, ← sum_step _ _ hlt]
      case measure => simp [intOf]; omega
    · rw [List.take_of_length_le (by rw [bytesOf_len]; omega)] at *
      have hcv : ∀ u : World, (convert 41 9 (.slice (some ⟨u.heap.size, 0, none⟩) 4 4)).run Try.prog (u.alloc (.cells #[Value.int .u8 ((Pl.sumOf (bytesOf s) : Int) / 16777216 % 256), Value.int .u8 ((Pl.sumOf (bytesOf s) : Int) / 65536 % 256), Value.int .u8 ((Pl.sumOf (bytesOf s) : Int) / 256 % 256), Value.int .u8 ((Pl.sumOf (bytesOf s) : Int) % 256)] 5)) = .ok (T (Pl.sum4 (bytesOf s))) (u.alloc (.cells #[Value.int .u8 ((Pl.sumOf (bytesOf s) : Int) / 16777216 % 256), Value.int .u8 ((Pl.sumOf (bytesOf s) : Int) / 65536 % 256), Value.int .u8 ((Pl.sumOf (bytesOf s) : Int) / 256 % 256), Value.int .u8 ((Pl.sumOf (bytesOf s) : Int) % 256)] 5)) := fun u =>
        run_string_b _ _ (Pl.sum4 (bytesOf s)) (own_built u _ 4 _ rfl (sum_bytes (bytesOf s)) (by omega)) (by rw [Pl.sum4_len]; omega)
      clear hlt
      go_wp2_with fail
      go_ret
      exact ⟨rfl, (Kp.refl _ _).alloc _⟩
end Go.Proofs.Ythicgffppmbamaa
