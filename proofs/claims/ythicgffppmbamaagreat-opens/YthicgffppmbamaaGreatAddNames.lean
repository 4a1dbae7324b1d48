/- addNames: the names in a footer. -/
import Derived.Test.YthicgffppmbamaaGreatAddGroup
import Derived.Test.YthicgffppmbamaaGreatCheck
namespace Go.Proofs.YthicgffppmbamaaGreat
open Go.RowKit

theorem src_string (w : World) (s : ByteArray) : Src Tryz.prog 1 9 (.string s) s.size ((bytesOf s).map B) w := Src.ofString (P := Tryz.prog) w Tryz.underlying9 s

theorem nameBytes_len (l : List (List UInt8)) (h : ∀ s ∈ l, s.length ≤ 8) : (Pl.nameBytes l).length ≤ 9 * l.length := by
  induction l with
  | nil => simp [Pl.nameBytes]
  | cons s r ih =>
    have h1 := h s (by simp)
    have h2 := Pl.vint_len 0 s.length (by simp; omega)
    have h3 := ih (fun x hx => h x (by simp [hx]))
    simp only [Pl.nameBytes, List.flatMap_cons, List.length_append, List.length_cons] at *
    omega

set_option maxRecDepth 20000 in
set_option maxHeartbeats 2000000 in
theorem addNames_any (B0 p : Nat) (w : World) (pv fv nv : Value) (ps fs : List UInt8) (ss : List ByteArray) (h : Wr B0 p w pv fv ps fs) (hr : RdS B0 w nv ss) (hfs : fs.length ≤ 100) (hl : ss.length ≤ 4) (hx : ∀ s ∈ ss, s.size ≤ 8) :
    Calls Tryz.prog 96 #[.pointer (some ⟨p, 0, none⟩), nv] w fun e w' => e = .returned (.tuple #[]) ∧ ∃ pv' fv', Wr B0 p w' pv' fv' ps (fs ++ Pl.vint ss.length ++ Pl.nameBytes (ss.map bytesOf)) ∧ Kp (From B0) w w' := by
  have c0 := h.cell0
  have c1 := h.cell1
  have f0 := h.free 0
  have f1 := h.free 1
  obtain ⟨pa, np, pc, rfl, hnp⟩ := h.op.shape'
  obtain ⟨fa, nf, fc, rfl, hnf⟩ := h.of.shape'
  have hr0 := hr
  obtain ⟨na, nc, rfl, hnc, hnm, -⟩ := RdS.open hr
  have hl1 := Pl.vint_len 0 ss.length (by simp; omega)
  go_enter Tryz.func96, Tryz.ntmps96
  go_wp2_with fail
  refine (appendVarint_any _ _ _ _ h.of (by omega) (by omega) (by omega)).mono ?_
  rintro e w1 ⟨v1, rfl, o1, k1, s1⟩
  simp only [Int.toNat_natCast] at o1
  obtain ⟨m0, m1, m2, m3⟩ := h.midF k1
  obtain ⟨a1, n1, cc1, rfl, hn1⟩ := o1.shape'
  obtain ⟨h1, kk1⟩ := h.growF k1 s1 o1
  go_wp2_with fail
  clear m0 m1 m2 m3 c0 c1 f0 f1
  generalize w1.setCell _ _ = W1 at *
  clear k1 s1 o1
  generalize hF : fs ++ Pl.vint ss.length = F1 at *
  have lF : F1.length ≤ 101 := by rw [← hF]; simp; omega
  have HF := hide hF
  clear hF
  go_loopw [18] (fun i wr => ∃ (k : Nat) (fv' : Value), k ≤ ss.length ∧ i = .int .i64 k ∧ Wr B0 p wr (.slice pa np pc) fv' ps (F1 ++ Pl.nameBytes ((ss.take k).map bytesOf)) ∧ Kp (From B0) w wr) (fun i _ => ss.length - (intOf i).toNat)
  case atStart => exact ⟨0, _, Nat.zero_le _, rfl, by simpa [Pl.nameBytes] using h1, kk1⟩
  case round =>
    obtain ⟨k, fv', hk, rfl, hW, hkw⟩ := hrel
    by_cases hkl : k < ss.length
    · obtain ⟨na', nc', he, _, _, hgo⟩ := RdS.open (hr0.kept hkw (fun i e => e))
      cases he
      obtain ⟨b, off, rfl, hb, hgo⟩ := hgo (by omega)
      have hc := hgo k hkl
      clear hgo
      rw [show ss.getD k ByteArray.empty = ss[k] by rw [List.getD_eq_getElem?_getD, List.getElem?_eq_getElem hkl]; rfl] at hc
      have hxk := hx ss[k] (List.getElem_mem hkl)
      have hnl := nameBytes_len ((ss.take k).map bytesOf) (fun s hs => by
        obtain ⟨y, hy, rfl⟩ := List.mem_map.1 hs
        rw [bytesOf_len]; exact hx y (List.mem_of_mem_take hy))
      simp only [List.length_map, List.length_take] at hnl
      have HT : Hid (Pl.nameBytes ((ss.take (k + 1)).map bytesOf) = Pl.nameBytes ((ss.take k).map bytesOf) ++ (Pl.vint (bytesOf ss[k]).length ++ bytesOf ss[k])) := by
        show _ = _
        rw [List.take_succ_eq_append_getElem hkl, List.map_append, List.map_singleton, Pl.nameBytes_snoc]
      rw [bytesOf_len] at HT
      generalize ss[k] = s at *
      generalize Pl.nameBytes ((ss.take k).map bytesOf) = nb at *
      have hl2 := Pl.vint_len 0 s.size (by simp; omega)
      have hl3 := bytesOf_len s
      have HL3 := hide hl3
      clear hl3
      have c0 := hW.cell0
      have c1 := hW.cell1
      have f1 := hW.free 1
      obtain ⟨fa', nf', fc', rfl, hnf'⟩ := hW.of.shape'
      go_wp2_with fail
      refine (appendVarint_any _ _ _ _ hW.of (by omega) (by omega) (by simp; omega)).mono ?_
      rintro e w2 ⟨v2, rfl, o2, k2, s2⟩
      simp only [Int.toNat_natCast] at o2
      obtain ⟨m0, m1, m2, m3⟩ := hW.midF k2
      obtain ⟨a2, n2, cc2, rfl, hn2⟩ := o2.shape'
      obtain ⟨h2, kk2⟩ := hW.growF k2 s2 o2
      clear c0 c1 f1
      go_wp2_with (at_builtin; go_must (refine wpList_append_b _ rfl _ _ 9 rfl _ _ rfl h2.of _ rfl _ (bytesOf s) (src_string _ s) (by simp; omega) ?_); intro v4 w4 o4 k4 s4; obtain ⟨q0, q1, q2, q3⟩ := h2.midF k4; obtain ⟨a4, n4, cc4, rfl, hn4⟩ := o4.shape')
      obtain ⟨h4, kk4⟩ := h2.growF k4 s4 o4
      go_roundw
      case rel => exact ⟨k + 1, _, by omega, by go_num, by rw [HT.out]; simpa using h4, (hkw.trans kk2).trans kk4⟩
      case measure => simp [intOf]; omega
    · go_wp2_with fail
      go_end0
      obtain rfl : k = ss.length := by omega
      rw [List.take_length] at hW
      exact ⟨rfl, _, fv', by rw [HF.out]; exact hW, hkw⟩
end Go.Proofs.YthicgffppmbamaaGreat
