/- addGroup: a group's rows and its pages. -/
import Derived.Test.YthicgffppmbamaaGreatFile
namespace Go.Proofs.YthicgffppmbamaaGreat
open Go.RowKit

theorem addPs_len (l : List (List Int)) : ∀ st : List UInt8 × List UInt8, st.1.length + 141 * l.length ≤ 5000 → (∀ x ∈ l, x.length ≤ 20 ∧ ∀ y ∈ x, 0 ≤ y ∧ y ≤ 1099511627775) → (Pl.addPs st l).1.length ≤ st.1.length + 141 * l.length ∧ (Pl.addPs st l).2.length ≤ st.2.length + 10 * l.length := by
  induction l with
  | nil => intro st _ _; exact ⟨Nat.le_refl _, Nat.le_refl _⟩
  | cons x r ih =>
    intro st h hx
    have h0 := page_len x (hx x (by simp)).1 (hx x (by simp)).2
    have e1 : (Pl.addP st x).1.length = st.1.length + (Pl.page x).length := by simp [Pl.addP]
    have v1 := Pl.vint_len 2 st.1.length (by simp at h ⊢; omega)
    have v2 := Pl.vint_len 2 (Pl.page x).length (by simp; omega)
    have e2 : (Pl.addP st x).2.length = st.2.length + (Pl.vint st.1.length).length + (Pl.vint (Pl.page x).length).length + 4 := by simp only [Pl.addP, List.length_append, Pl.sum4_len]
    have := ih (Pl.addP st x) (by simp only [List.length_cons] at h; omega) (fun y hy => hx y (by simp [hy]))
    show (Pl.addPs (Pl.addP st x) r).1.length ≤ _ ∧ (Pl.addPs (Pl.addP st x) r).2.length ≤ _
    simp only [List.length_cons] at *
    omega

set_option maxRecDepth 20000 in
set_option maxHeartbeats 2000000 in
theorem addGroup_any (B0 p : Nat) (w : World) (pv fv gv : Value) (ps fs : List UInt8) (g : List (List Int)) (h : Wr B0 p w pv fv ps fs) (hg : RdII B0 w gv g) (hne : 0 < g.length) (hps : ps.length + 141 * g.length ≤ 5000) (hfs : fs.length + 10 * g.length ≤ 4000) (hgl : g.length ≤ 4) (hx : ∀ x ∈ g, x.length ≤ 20 ∧ ∀ y ∈ x, 0 ≤ y ∧ y ≤ 1099511627775) :
    Calls Tryz.prog 98 #[.pointer (some ⟨p, 0, none⟩), gv] w fun e w' => e = .returned (.tuple #[]) ∧ ∃ pv' fv', Wr B0 p w' pv' fv' (Pl.addG (ps, fs) g).1 (Pl.addG (ps, fs) g).2 ∧ Kp (From B0) w w' := by
  have c0 := h.cell0
  have c1 := h.cell1
  have f0 := h.free 0
  have f1 := h.free 1
  obtain ⟨pa, pc, rfl⟩ := h.op.shape
  obtain ⟨fa, fc, rfl⟩ := h.of.shape
  have hg0 := hg
  obtain ⟨ga, gc, rfl, hgc, hgm, hgo⟩ := hg.open
  obtain ⟨b, off, rfl, hb, hgo⟩ := hgo hne
  obtain ⟨ai, ci, hc, hri⟩ := hgo 0 hne
  have hx0 := (hx (g.getD 0 []) (by rw [List.getD_eq_getElem?_getD, List.getElem?_eq_getElem hne]; exact List.getElem_mem hne)).1
  have HG0 : Hid (Pl.addG (ps, fs) g = Pl.addPs (ps, fs ++ Pl.vint (g.getD 0 []).length) g) := rfl
  generalize (g.getD 0 []).length = rows at *
  simp only [Nat.add_zero] at hc
  clear hgo
  have hlr := Pl.vint_len 0 rows (by simp; omega)
  go_enter Tryz.func98, Tryz.ntmps98
  go_wp2_with fail
  go_region_with (go_at_call 97; go_must (refine (appendVarint_any _ _ _ _ h.drew.of (by omega) (by omega) (by omega)).mono ?_); rintro e w1 ⟨v1, rfl, o1, k1, s1⟩; obtain ⟨c10, c11, f10, f11⟩ := h.drew.midF k1; obtain ⟨a1, n1, cc1, rfl, hn1⟩ := o1.shape')
  all_goals
    obtain ⟨h1, kk1⟩ := h.drew.growF k1 s1 o1
    simp only [Int.toNat_natCast] at h1 o1
    clear c10 c11 f10 f11 c0 c1 f0 f1 hc hri
    generalize w1.setCell _ _ = W1 at *
    have kw : Kp (From B0) w W1 := (Kp.of_ext (ext_drew w)).trans kk1
    clear kk1 k1 s1 o1
    generalize hst : ((ps, fs ++ Pl.vint rows) : List UInt8 × List UInt8) = st at *
    have e1 : ps = st.1 := by rw [← hst]
    have e2 : fs ++ Pl.vint rows = st.2 := by rw [← hst]
    have l2 : st.2.length ≤ fs.length + 1 := by rw [← e2]; simp; omega
    rw [e1, e2] at h1
    have E1 := hide e1
    clear e1 e2 hst
    go_wp2_with fail
    go_loopw [20] (fun i wr => ∃ (k : Nat) (pv' fv' : Value), k ≤ g.length ∧ i = .int .i64 k ∧ Wr B0 p wr pv' fv' (Pl.addPs st (g.take k)).1 (Pl.addPs st (g.take k)).2 ∧ Kp (From B0) w wr) (fun i _ => g.length - (intOf i).toNat)
    case atStart => exact ⟨0, _, _, Nat.zero_le _, rfl, h1, kw⟩
    case round =>
      obtain ⟨k, pv', fv', hk, rfl, hW, hkw⟩ := hrel
      by_cases hkl : k < g.length
      · obtain ⟨ga', gc', he, _, _, hgo⟩ := (hg0.kept hkw (fun i e => e)).open
        cases he
        obtain ⟨b', off', he, _, hgo⟩ := hgo hne
        cases he
        obtain ⟨ai', ci', hc, hri⟩ := hgo k hkl
        clear hgo
        have hgk : g.getD k [] = g[k] := by rw [List.getD_eq_getElem?_getD, List.getElem?_eq_getElem hkl]; rfl
        rw [hgk] at hc hri
        have hxk := hx g[k] (List.getElem_mem hkl)
        have hpl := page_len g[k] hxk.1 hxk.2
        have hal := addPs_len (g.take k) st (by rw [← E1.out]; simp; omega) (fun x hx' => hx x (List.mem_of_mem_take hx'))
        rw [← E1.out, List.length_take, Nat.min_eq_left (by omega)] at hal
        have HT : Hid (Pl.addPs st (g.take (k + 1)) = Pl.addP (Pl.addPs st (g.take k)) g[k]) := by
          show _ = _
          rw [List.take_succ_eq_append_getElem hkl, Pl.addPs_snoc]
        clear hgk
        generalize g[k] = xs at *
        generalize Pl.addPs st (g.take k) = sk at *
        go_wp2_with fail
        refine (pageWrite_any B0 _ _ xs hri (by have := hW.hB; have := hW.lt; omega) hxk.2 hxk.1).mono ?_
        rintro e w2 ⟨d, rfl, od, ⟨gd, ed, fd⟩, x2⟩
        have hW2 := hW.ext x2
        go_wp2_with fail
        refine (addPage_any B0 p _ _ _ d _ _ _ hW2 od (by omega) (fun g' hg' => by
          rw [ed] at hg'
          simp at hg'
          subst hg'
          exact ⟨by have := hW.lt; omega, fun e => by have := hW.op.lt e; omega, fun e => by have := hW.of.lt e; omega⟩) (by omega) (by omega) (by omega)).mono ?_
        rintro e w3 ⟨rfl, pv3, fv3, h3, k3⟩
        go_wp2_with fail
        go_roundw
        case rel => exact ⟨k + 1, pv3, fv3, by omega, by go_num, by rw [HT.out]; exact h3, (hkw.trans (Kp.of_ext x2)).trans k3⟩
        case measure => simp [intOf]; omega
      · go_wp2_with fail
        go_end0
        obtain rfl : k = g.length := by omega
        rw [List.take_length] at hW
        refine ⟨rfl, pv', fv', ?_, hkw⟩
        rw [HG0.out]; exact hW
end Go.Proofs.YthicgffppmbamaaGreat
