/- The document's answer: pages of each kind. -/
import Derived.Test.YthicgffppmbamaaRefA
import Derived.Test.YthicgffppmbamaaPageWrite
import Derived.BigQuiet
import Derived.Deep.QuietTactic
namespace Go.Proofs.Ythicgffppmbamaa
open Go.RowKit

theorem T_append (a b : List UInt8) : Value.string ({ data := a.toArray } ++ { data := b.toArray }) = T (a ++ b) := by rw [ByteArray.mk_append_mk]

theorem getD_at' {α : Type} (l : List α) (k : Nat) (d : α) (h : k < l.length) : l.getD k d = l[k] := by rw [List.getD_eq_getElem?_getD, List.getElem?_eq_getElem h]; rfl

theorem varintR (n : Int) (w : World) (h0 : 0 ≤ n) (h1 : n ≤ 1099511627775) : Calls Try.prog 12 #[.int .i64 n] w fun e w' => e = .returned (T (Pl.vint n.toNat)) ∧ Ext w w' :=
  varint_any n.toNat n w h0 h1 (by omega)

set_option maxRecDepth 20000 in
set_option maxHeartbeats 1000000 in
theorem encode0_any (B0 : Nat) (w : World) (v : Value) (xs : List Int) (hr : RdI B0 w v xs) (hx : ∀ x ∈ xs, 0 ≤ x ∧ x ≤ 1099511627775) (hl : xs.length ≤ 20) :
    Calls Try.prog 20 #[.int .i64 0, v] w fun e w' => e = .returned (T (0 :: Pl.plain xs)) ∧ Ext w w' := by
  have hr0 := hr
  obtain ⟨ao, cap, rfl, h1, h2, -⟩ := RdI.open hr
  clear hr
  have hcv := conv1 0 (by omega) (by omega)
  go_enter Try.func20, Try.ntmps20
  go_wp2_with fail
  go_loopw [5, 6] (fun t i wr => ∃ (k : Nat) (S : List UInt8), k ≤ xs.length ∧ i = .int .i64 k ∧ t = T S ∧ S.length ≤ 200 ∧ Hid (S = 0 :: Pl.plain (xs.take k)) ∧ Ext w wr) (fun _ i _ => xs.length - (intOf i).toNat)
  case atStart => exact ⟨0, [0], Nat.zero_le _, rfl, rfl, by simp, rfl, (Kp.refl _ _).alloc _⟩
  case round =>
    obtain ⟨k, S, hk, rfl, rfl, hS, HS, hext⟩ := hrel
    clear hcv
    by_cases hkl : k < xs.length
    · obtain ⟨ao', cap', he, _, _, h3⟩ := RdI.open (hr0.kept hext (fun _ f => f.elim))
      cases he
      obtain ⟨b, off, rfl, hb0, hc⟩ := h3 (by omega)
      have hck := hc k hkl
      rw [getD_at' xs k 0 hkl] at hck
      have hxk := hx xs[k] (List.getElem_mem hkl)
      have hpl := plain_len (xs.take (k + 1)) (fun x hx' => hx x (List.mem_of_mem_take hx'))
      have htk := Pl_plain_take xs k hkl
      clear hc h3
      have hvl := Pl.vint_len 5 xs[k].toNat (by simp; omega)
      have HN : Hid (S ++ Pl.vint xs[k].toNat = 0 :: Pl.plain (xs.take (k + 1))) := by show _ = _; rw [HS.out, htk]; rfl
      have hlen : (S ++ Pl.vint xs[k].toNat).length ≤ 200 := by rw [HN.out]; simp only [List.length_cons, List.length_take] at hpl ⊢; omega
      clear hpl htk
      generalize xs[k] = x at *
      go_wp2_with fail
      refine (varintR x _ hxk.1 hxk.2).mono ?_
      rintro e w1 ⟨rfl, x1⟩
      go_wp2_with fail
      exact ⟨⟨k + 1, S ++ Pl.vint x.toNat, by omega, by go_num, T_append _ _, hlen, HN, hext.trans x1⟩, by simp [intOf]; omega⟩
    · go_wp2_with fail
      go_ret
      rw [List.take_of_length_le (by omega)] at HS
      exact ⟨by rw [← HS.out]; rfl, hext⟩

end Go.Proofs.Ythicgffppmbamaa
