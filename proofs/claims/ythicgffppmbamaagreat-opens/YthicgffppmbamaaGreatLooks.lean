/- looks. -/
import Derived.Test.YthicgffppmbamaaGreatFulls
namespace Go.Proofs.YthicgffppmbamaaGreat
open Go.RowKit

theorem KeptAt.ext {C : Nat → Prop} {w w' : World} {iv av rv : Value} {li : List KI} {la : List KA} {lr : List KR} (h : KeptAt C w iv av rv li la lr) (k : Ext w w') : KeptAt C w' iv av rv li la lr :=
  ⟨h.oi.ext k, h.oa.ext k, h.orr.ext k, fun x hx => (h.ki x hx).go k (fun _ _ f => f) (fun _ _ e => e), fun x hx => (h.ka x hx).go k (fun _ _ f => f) (fun _ _ e => e), fun x hx => (h.kr x hx).go k (fun _ _ f => f) (fun _ _ e => e), h.bi, h.ba, h.br⟩

set_option maxRecDepth 20000 in
set_option maxHeartbeats 8000000 in
theorem looks_any (C : Nat → Prop) (w : World) (Wb : Nat) (tv iv av rv : Value) (li : List KI) (la : List KA) (lr : List KR) (hb : Blk w Wb [tv, iv, av, rv] 32) (h : KeptAt C w iv av rv li la lr) :
    Calls Tryz.prog 14 #[PtrTo Wb 0] w fun e w' => e = .returned (.bool true) ∧ Ext w w' := by
  obtain ⟨ia, ic, rfl, hic⟩ := h.oi.shape
  obtain ⟨aa, ac, rfl, hac⟩ := h.oa.shape
  obtain ⟨ra, rc, rfl, hrc⟩ := h.orr.shape
  have hbi := h.bi
  have hba := h.ba
  have hbr := h.br
  go_enter Tryz.func14, Tryz.ntmps14
  go_wp2_with fail
  go_loopw [3] (fun i wr => ∃ k : Nat, k ≤ li.length ∧ i = .int .i64 k ∧ Ext w wr) (fun i _ => li.length - (intOf i).toNat)
  case atStart => exact ⟨0, Nat.zero_le _, rfl, Kp.refl _ _⟩
  case round =>
    obtain ⟨k, hk, rfl, hx⟩ := hrel
    have q := (hb.kept hx id).cell 1
    simp only [List.getElem?_cons_zero, List.getElem?_cons_succ] at q
    by_cases hkl : k < li.length
    · have hK := h.ext hx
      obtain ⟨g, cap, he, -, -, -⟩ := hK.oi.at (by omega)
      cases he
      have hcell := Own.elem (f := kiCells) (fun _ => rfl) hK.oi k hkl
      have hk := hK.ki li[k] (List.getElem_mem hkl)
      generalize li[k] = x at *
      have d0 := hcell 0 (by omega)
      have d1 := hcell 1 (by omega)
      have d2 := hcell 2 (by omega)
      have d3 := hcell 3 (by omega)
      have d4 := hcell 4 (by omega)
      simp only [kiCells, List.getElem?_cons_zero, List.getElem?_cons_succ, Nat.add_zero] at d0 d1 d2 d3 d4
      clear hcell hK
      have h0 := hk.hl.go (C' := C) ((Kp.refl (fun _ => False) wr).alloc (.cells #[x.l, x.a, x.b, x.c, .int .i64 x.m] 91)) (fun _ _ f => f) (fun _ _ e => e)
      have h1 := hk.ha.go (C' := C) ((Kp.refl (fun _ => False) wr).alloc (.cells #[x.l, x.a, x.b, x.c, .int .i64 x.m] 91)) (fun _ _ f => f) (fun _ _ e => e)
      have h2 := hk.hb.go (C' := C) ((Kp.refl (fun _ => False) wr).alloc (.cells #[x.l, x.a, x.b, x.c, .int .i64 x.m] 91)) (fun _ _ f => f) (fun _ _ e => e)
      have h3 := hk.hc.go (C' := C) ((Kp.refl (fun _ => False) wr).alloc (.cells #[x.l, x.a, x.b, x.c, .int .i64 x.m] 91)) (fun _ _ f => f) (fun _ _ e => e)
      obtain ⟨l0, n0, c0, e0⟩ : ∃ l n c, x.l = .slice l n c := (by obtain ⟨_, l, c, e, _⟩ := h0; exact ⟨_, _, _, e⟩)
      obtain ⟨l1, n1, c1, e1⟩ : ∃ l n c, x.a = .slice l n c := (by obtain ⟨_, l, c, e, _⟩ := h1; exact ⟨_, _, _, e⟩)
      obtain ⟨l2, n2, c2, e2⟩ : ∃ l n c, x.b = .slice l n c := (by obtain ⟨_, l, c, e, _⟩ := h2; exact ⟨_, _, _, e⟩)
      obtain ⟨l3, n3, c3, e3⟩ : ∃ l n c, x.c = .slice l n c := (by obtain ⟨_, l, c, e, _⟩ := h3; exact ⟨_, _, _, e⟩)
      have HC0 := hide (fullInts_any _ C false _ _ _ h0 (by have := hk.nl; omega))
      have HC1 := hide (fullInts_any _ C false _ _ _ h1 (by have := hk.nl; omega))
      have HC2 := hide (fullInts_any _ C false _ _ _ h2 (by have := hk.nl; omega))
      have HC3 := hide (fullInts_any _ C false _ _ _ h3 (by have := hk.nl; omega))
      rw [e0] at d0 HC0 HC1 HC2 HC3
      rw [e1] at d1 HC0 HC1 HC2 HC3
      rw [e2] at d2 HC0 HC1 HC2 HC3
      rw [e3] at d3 HC0 HC1 HC2 HC3
      clear e0 e1 e2 e3 h0 h1 h2 h3 hk
      generalize x.m = m at *
      go_wp2_with fail
      refine (unhide HC0).mono ?_
      rintro e _ ⟨rfl, rfl⟩
      go_wp2_with fail
      refine (unhide HC1).mono ?_
      rintro e _ ⟨rfl, rfl⟩
      go_wp2_with fail
      refine (unhide HC2).mono ?_
      rintro e _ ⟨rfl, rfl⟩
      go_wp2_with fail
      refine (unhide HC3).mono ?_
      rintro e _ ⟨rfl, rfl⟩
      go_wp2_with fail
      exact ⟨⟨k + 1, by omega, by go_num, hx.alloc _⟩, by simp [intOf]; omega⟩
    · go_wp2_with fail
      clear q hkl
      go_loopw [5] (fun i wr => ∃ k : Nat, k ≤ lr.length ∧ i = .int .i64 k ∧ Ext w wr) (fun i _ => lr.length - (intOf i).toNat)
      case atStart => exact ⟨0, Nat.zero_le _, rfl, hx⟩
      case round =>
        clear hx; obtain ⟨k, hk, rfl, hx⟩ := hrel
        have q := (hb.kept hx id).cell 3
        simp only [List.getElem?_cons_zero, List.getElem?_cons_succ] at q
        by_cases hkl : k < lr.length
        · have hK := h.ext hx
          obtain ⟨g, cap, he, -, -, -⟩ := hK.orr.at (by omega)
          cases he
          have hcell := Own.elem (f := krCells) (fun _ => rfl) hK.orr k hkl
          have hk := hK.kr lr[k] (List.getElem_mem hkl)
          generalize lr[k] = x at *
          have d0 := hcell 0 (by omega)
          have d1 := hcell 1 (by omega)
          have d2 := hcell 2 (by omega)
          have d3 := hcell 3 (by omega)
          have d4 := hcell 4 (by omega)
          simp only [krCells, List.getElem?_cons_zero, List.getElem?_cons_succ, Nat.add_zero] at d0 d1 d2 d3 d4
          clear hcell hK
          have h0 := hk.hl.go (C' := C) ((Kp.refl (fun _ => False) wr).alloc (.cells #[x.l, x.a, x.b, x.c, .int .i64 x.m] 94)) (fun _ _ f => f) (fun _ _ e => e)
          have h1 := hk.ha.go (C' := C) ((Kp.refl (fun _ => False) wr).alloc (.cells #[x.l, x.a, x.b, x.c, .int .i64 x.m] 94)) (fun _ _ f => f) (fun _ _ e => e)
          have h2 := hk.hb.go (C' := C) ((Kp.refl (fun _ => False) wr).alloc (.cells #[x.l, x.a, x.b, x.c, .int .i64 x.m] 94)) (fun _ _ f => f) (fun _ _ e => e)
          have h3 := hk.hc.go (C' := C) ((Kp.refl (fun _ => False) wr).alloc (.cells #[x.l, x.a, x.b, x.c, .int .i64 x.m] 94)) (fun _ _ f => f) (fun _ _ e => e)
          obtain ⟨l0, n0, c0, e0⟩ : ∃ l n c, x.l = .slice l n c := (by obtain ⟨_, l, c, e, _⟩ := h0.2.1; exact ⟨_, _, _, e⟩)
          obtain ⟨l1, n1, c1, e1⟩ : ∃ l n c, x.a = .slice l n c := (by obtain ⟨_, l, c, e, _⟩ := h1.2.1; exact ⟨_, _, _, e⟩)
          obtain ⟨l2, n2, c2, e2⟩ : ∃ l n c, x.b = .slice l n c := (by obtain ⟨_, l, c, e, _⟩ := h2.2.1; exact ⟨_, _, _, e⟩)
          obtain ⟨l3, n3, c3, e3⟩ : ∃ l n c, x.c = .slice l n c := (by obtain ⟨_, l, c, e, _⟩ := h3.2.1; exact ⟨_, _, _, e⟩)
          have HC0 := hide (fullRows_any _ C C false _ _ _ h0.2.1 h0.2.2 (by have := h0.1; omega))
          have HC1 := hide (fullRows_any _ C C false _ _ _ h1.2.1 h1.2.2 (by have := h1.1; omega))
          have HC2 := hide (fullRows_any _ C C false _ _ _ h2.2.1 h2.2.2 (by have := h2.1; omega))
          have HC3 := hide (fullRows_any _ C C false _ _ _ h3.2.1 h3.2.2 (by have := h3.1; omega))
          rw [e0] at d0 HC0 HC1 HC2 HC3
          rw [e1] at d1 HC0 HC1 HC2 HC3
          rw [e2] at d2 HC0 HC1 HC2 HC3
          rw [e3] at d3 HC0 HC1 HC2 HC3
          clear e0 e1 e2 e3 h0 h1 h2 h3 hk
          generalize x.m = m at *
          go_wp2_with fail
          refine (unhide HC0).mono ?_
          rintro e _ ⟨rfl, rfl⟩
          go_wp2_with fail
          refine (unhide HC1).mono ?_
          rintro e _ ⟨rfl, rfl⟩
          go_wp2_with fail
          refine (unhide HC2).mono ?_
          rintro e _ ⟨rfl, rfl⟩
          go_wp2_with fail
          refine (unhide HC3).mono ?_
          rintro e _ ⟨rfl, rfl⟩
          go_wp2_with fail
          exact ⟨⟨k + 1, by omega, by go_num, hx.alloc _⟩, by simp [intOf]; omega⟩
        · go_wp2_with fail
          clear q hkl
          go_loopw [7] (fun i wr => ∃ k : Nat, k ≤ la.length ∧ i = .int .i64 k ∧ Ext w wr) (fun i _ => la.length - (intOf i).toNat)
          case atStart => exact ⟨0, Nat.zero_le _, rfl, hx⟩
          case round =>
            clear hx; obtain ⟨k, hk, rfl, hx⟩ := hrel
            have q := (hb.kept hx id).cell 2
            simp only [List.getElem?_cons_zero, List.getElem?_cons_succ] at q
            by_cases hkl : k < la.length
            · have hK := h.ext hx
              obtain ⟨g, cap, he, -, -, -⟩ := hK.oa.at (by omega)
              cases he
              have hcell := Own.elem (f := kaCells) (fun _ => rfl) hK.oa k hkl
              have hk := hK.ka la[k] (List.getElem_mem hkl)
              generalize la[k] = x at *
              have d0 := hcell 0 (by omega)
              have d1 := hcell 1 (by omega)
              have d2 := hcell 2 (by omega)
              have d3 := hcell 3 (by omega)
              have d4 := hcell 4 (by omega)
              simp only [kaCells, List.getElem?_cons_zero, List.getElem?_cons_succ, Nat.add_zero] at d0 d1 d2 d3 d4
              clear hcell hK
              have h0 := hk.hl.go (C' := C) ((Kp.refl (fun _ => False) wr).alloc (.cells #[x.l, x.a, x.b, x.c, .int .i64 x.m] 97)) (fun _ _ f => f) (fun _ _ e => e)
              have h1 := hk.ha.go (C' := C) ((Kp.refl (fun _ => False) wr).alloc (.cells #[x.l, x.a, x.b, x.c, .int .i64 x.m] 97)) (fun _ _ f => f) (fun _ _ e => e)
              have h2 := hk.hb.go (C' := C) ((Kp.refl (fun _ => False) wr).alloc (.cells #[x.l, x.a, x.b, x.c, .int .i64 x.m] 97)) (fun _ _ f => f) (fun _ _ e => e)
              have h3 := hk.hc.go (C' := C) ((Kp.refl (fun _ => False) wr).alloc (.cells #[x.l, x.a, x.b, x.c, .int .i64 x.m] 97)) (fun _ _ f => f) (fun _ _ e => e)
              obtain ⟨l0, n0, c0, e0⟩ : ∃ l n c, x.l = .slice l n c := (by obtain ⟨_, l, c, e, _⟩ := h0; exact ⟨_, _, _, e⟩)
              obtain ⟨l1, n1, c1, e1⟩ : ∃ l n c, x.a = .slice l n c := (by obtain ⟨_, l, c, e, _⟩ := h1; exact ⟨_, _, _, e⟩)
              obtain ⟨l2, n2, c2, e2⟩ : ∃ l n c, x.b = .slice l n c := (by obtain ⟨_, l, c, e, _⟩ := h2; exact ⟨_, _, _, e⟩)
              obtain ⟨l3, n3, c3, e3⟩ : ∃ l n c, x.c = .slice l n c := (by obtain ⟨_, l, c, e, _⟩ := h3; exact ⟨_, _, _, e⟩)
              have HC0 := hide (fullAsks_any _ C false _ _ _ h0 (by have := hk.nl; omega))
              have HC1 := hide (fullAsks_any _ C false _ _ _ h1 (by have := hk.nl; omega))
              have HC2 := hide (fullAsks_any _ C false _ _ _ h2 (by have := hk.nl; omega))
              have HC3 := hide (fullAsks_any _ C false _ _ _ h3 (by have := hk.nl; omega))
              rw [e0] at d0 HC0 HC1 HC2 HC3
              rw [e1] at d1 HC0 HC1 HC2 HC3
              rw [e2] at d2 HC0 HC1 HC2 HC3
              rw [e3] at d3 HC0 HC1 HC2 HC3
              clear e0 e1 e2 e3 h0 h1 h2 h3 hk
              generalize x.m = m at *
              go_wp2_with fail
              refine (unhide HC0).mono ?_
              rintro e _ ⟨rfl, rfl⟩
              go_wp2_with fail
              refine (unhide HC1).mono ?_
              rintro e _ ⟨rfl, rfl⟩
              go_wp2_with fail
              refine (unhide HC2).mono ?_
              rintro e _ ⟨rfl, rfl⟩
              go_wp2_with fail
              refine (unhide HC3).mono ?_
              rintro e _ ⟨rfl, rfl⟩
              go_wp2_with fail
              exact ⟨⟨k + 1, by omega, by go_num, hx.alloc _⟩, by simp [intOf]; omega⟩
            · go_wp2_with fail
              clear q hkl
              go_ret
              exact ⟨rfl, hx⟩
end Go.Proofs.YthicgffppmbamaaGreat
