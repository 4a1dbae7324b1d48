/- Package page: the three kinds. -/
import Derived.Test.YthicgffppmbamaaGreatWire
import Derived.Test.YthicgffppmbamaaGreatRead
namespace Go.Proofs.YthicgffppmbamaaGreat
open Go.RowKit

theorem kp_then {w wr w1 : World} {v t : Value} (h : Kp (Of v) w wr) (hs : Sep w v t) (k : Kp (Of t) wr w1) : Kp (Of v) w w1 :=
  h.then k (fun i hi e => by
    rcases hs with hs | ⟨g, h1, h2⟩
    · show v.ownBlock = some i
      rw [← hs]; exact e
    · have e' : t.ownBlock = some i := e
      rw [h1] at e'
      simp at e'
      omega)
theorem Pl_plain_take (xs : List Int) (k : Nat) (h : k < xs.length) : Pl.plain (xs.take (k + 1)) = Pl.plain (xs.take k) ++ Pl.vint xs[k].toNat := by
  rw [List.take_succ_eq_append_getElem h, Pl.plain_snoc]
theorem plain_len (xs : List Int) (h : ∀ x ∈ xs, 0 ≤ x ∧ x ≤ 1099511627775) : (Pl.plain xs).length ≤ 6 * xs.length := by
  induction xs with
  | nil => simp [Pl.plain]
  | cons x r ih =>
    have h1 := Pl.vint_len 5 x.toNat (by have := h x (by simp); simp; omega)
    have h2 := ih (fun y hy => h y (by simp [hy]))
    simp only [Pl.plain, List.flatMap_cons, List.length_append, List.length_cons] at *
    omega

set_option maxRecDepth 20000 in
set_option maxHeartbeats 400000 in
theorem writePlain_any (B0 : Nat) (w : World) (v pg : Value) (xs : List Int) (bs : List UInt8) (hr : RdI B0 w v xs) (hown : OwnB w pg bs) (hpg : ∀ g, pg.ownBlock = some g → B0 ≤ g) (hx : ∀ x ∈ xs, 0 ≤ x ∧ x ≤ 1099511627775) (hl : xs.length ≤ 20) (hb : bs.length ≤ 100) :
    Calls Tryz.prog 154 #[v, pg] w fun e w' => ∃ v', e = .returned (.tuple #[v', .bool true]) ∧ OwnB w' v' (bs ++ Pl.plain xs) ∧ Kp (Of pg) w w' ∧ Sep w pg v' := by
  have hr0 := hr
  obtain ⟨ao, cap, rfl, h1, h2, h3⟩ := RdI.open hr
  clear h3 hr
  go_enter Tryz.func154, Tryz.ntmps154
  go_wp2
  go_loopw [1, 10] (fun t i wr => ∃ k : Nat, k ≤ xs.length ∧ i = .int .i64 k ∧ OwnB wr t (bs ++ Pl.plain (xs.take k)) ∧ Kp (Of pg) w wr ∧ Sep w pg t) (fun _ i _ => xs.length - (intOf i).toNat)
  case atStart => exact ⟨0, Nat.zero_le _, rfl, by simpa [Pl.plain] using hown, Kp.refl _ _, Sep.refl _ _⟩
  case round =>
    obtain ⟨k, hk, rfl, hown', hkp, hs⟩ := hrel
    have hpl := plain_len (xs.take k) (fun x hx' => hx x (List.mem_of_mem_take hx'))
    by_cases hkl : k < xs.length
    · obtain ⟨ao', cap', he, _, _, h3⟩ := RdI.open (hr0.kept hkp (fun i e => hpg i e))
      cases he
      obtain ⟨b, off, rfl, hb0, hc⟩ := h3 (by omega)
      have hck := hc k hkl
      have hxk := hx xs[k] (List.getElem_mem hkl)
      clear hc h3 hr0 hx
      simp only [List.length_take] at hpl
      go_wp2_with (go_at_call 97; go_must (refine (appendVarint_any _ _ _ _ hown' (by omega) (by omega) (by simp; omega)).mono ?_); rintro e w1 ⟨v1, rfl, o1, k1, s1⟩)
      go_roundw
      case rel => exact ⟨k + 1, by omega, by go_num, by rw [Pl_plain_take xs k hkl, ← List.append_assoc]; exact o1, kp_then hkp hs k1, hs.trans hkp.size s1⟩
      case measure => simp [intOf]; omega
    · go_wp2_with fail
      go_ret2
      exact ⟨_, rfl, by rw [List.take_of_length_le (by omega)] at hown'; exact hown', hkp, hs⟩

theorem runLen_is (x : Int) : ∀ (xs : List Int) (k : Nat), (∀ j, j < k → xs.getD j 0 = x) → k ≤ xs.length → (∀ _ : k < xs.length, xs.getD k 0 ≠ x) → Pl.runLen x xs = k := by
  intro xs
  induction xs with
  | nil => intro k _ h2 _; simp at h2; simp [Pl.runLen, h2]
  | cons y r ih =>
    intro k h1 h2 h3
    cases k with
    | zero => have := h3 (by simp); simp at this; simp [Pl.runLen, this]
    | succ k =>
      have h0 := h1 0 (by omega)
      simp at h0
      simp only [Pl.runLen, h0, if_true]
      rw [ih k (fun j hj => by have := h1 (j + 1) (by omega); simpa using this) (by simp at h2; omega) (fun hk => by have := h3 (by simp; omega); simpa using this)]

set_option maxRecDepth 20000 in
set_option maxHeartbeats 400000 in
theorem firstRun_any (B0 : Nat) (w : World) (v : Value) (xs : List Int) (hr : RdI B0 w v xs) (_hl : xs.length ≤ 20) (hp : 0 < xs.length) :
    Calls Tryz.prog 171 #[v] w fun e w' => e = .returned (.int .i64 (Pl.runLen (xs.getD 0 0) xs)) ∧ w' = w := by
  obtain ⟨ao, cap, rfl, h1, h2, h3⟩ := RdI.open hr
  obtain ⟨b, off, rfl, hb, hc⟩ := h3 hp
  clear h3 hr
  have hc0 := hc 0 hp
  simp only [Nat.add_zero] at hc0
  generalize hx : xs.getD 0 0 = x at *
  have HX := hide hx
  clear hx
  go_enter Tryz.func171, Tryz.ntmps171
  go_wp2
  go_loop [7] (fun i => ∃ k : Nat, k ≤ xs.length ∧ i = .int .i64 k ∧ Hid (∀ j, j < k → xs.getD j 0 = x)) (fun i => xs.length - (intOf i).toNat)
  case atStart => exact ⟨0, Nat.zero_le _, rfl, fun j hj => absurd hj (by omega)⟩
  case round =>
    obtain ⟨k, hk, rfl, hall⟩ := hrel
    by_cases hkl : k < xs.length
    · have hck := hc k hkl
      generalize hy : xs.getD k 0 = y at *
      have HY := hide hy
      clear hy hc
      by_cases hxy : y = x
      · have hn : (y != x) = false := by simp [hxy]
        have HXY := hide hxy
        clear hxy
        go_wp2_with fail
        go_round
        case rel => exact ⟨k + 1, by omega, by go_num, fun j hj => by
          by_cases e : j = k
          · subst e; rw [unhide HY, unhide HXY]
          · exact hall.out j (by omega)⟩
        case measure => simp [intOf]; omega
      · have hn : (y != x) = true := by simp [hxy]
        have HXY := hide hxy
        clear hxy
        go_wp2_with fail
        go_ret
        refine ⟨?_, rfl⟩
        rw [runLen_is x xs k hall.out (by omega) (fun _ => by rw [unhide HY]; exact unhide HXY)]
        rfl
    · go_wp2_with fail
      go_ret
      refine ⟨?_, rfl⟩
      rw [runLen_is x xs xs.length (fun j hj => hall.out j (by omega)) (by omega) (fun h => absurd h (by omega))]
      rfl

set_option maxRecDepth 20000 in
set_option maxHeartbeats 400000 in
theorem writeRuns_any (B0 : Nat) (w : World) (v pg : Value) (xs : List Int) (bs : List UInt8) (hr : RdI B0 w v xs) (hown : OwnB w pg bs) (hpg : ∀ g, pg.ownBlock = some g → B0 ≤ g) (hx : ∀ x ∈ xs, 0 ≤ x ∧ x ≤ 1099511627775) (hl : xs.length ≤ 20) (hb : bs.length ≤ 100) :
    Calls Tryz.prog 156 #[v, pg] w fun e w' => ∃ v', e = .returned (.tuple #[v', .bool true]) ∧ OwnB w' v' (bs ++ Pl.runs xs) ∧ Kp (Of pg) w w' ∧ Sep w pg v' := by
  go_enter Tryz.func156, Tryz.ntmps156
  go_wp2
  go_loopw [0, 1] (fun a t wr => ∃ (ys : List Int) (done : List UInt8), RdI B0 w a ys ∧ (∀ x ∈ ys, 0 ≤ x ∧ x ≤ 1099511627775) ∧ ys.length ≤ 20 ∧ done.length + 8 * ys.length ≤ 1000 ∧ Hid (done ++ Pl.runs ys = bs ++ Pl.runs xs) ∧ OwnB wr t done ∧ Kp (Of pg) w wr ∧ Sep w pg t) (fun a _ _ => (match a with | .slice _ n _ => n | _ => 0))
  case atStart => exact ⟨xs, bs, hr, hx, hl, by omega, rfl, hown, Kp.refl _ _, Sep.refl _ _⟩
  case round =>
    obtain ⟨ys, done, hry, hy, hyl, hdl, HD, hown', hkp, hs⟩ := hrel
    obtain ⟨ao, cap, rfl, h1, h2, h3⟩ := RdI.open hry
    by_cases hkl : 0 < ys.length
    · obtain ⟨b, off, rfl, hb0, hc⟩ := h3 hkl
      have hrw := hry.kept hkp (fun i e => hpg i e)
      obtain ⟨x0, r, rfl⟩ : ∃ x0 r, ys = x0 :: r := by cases ys with
        | nil => simp at hkl
        | cons x0 r => exact ⟨x0, r, rfl⟩
      have hx0 := hy x0 (by simp)
      have hc0 := hc 0 hkl
      simp only [Nat.add_zero, List.getD_cons_zero] at hc0
      have hq1 : 1 ≤ Pl.runLen x0 (x0 :: r) := by simp [Pl.runLen]
      have hq2 := Pl.runLen_le x0 (x0 :: r)
      have hq3 : Pl.runLen x0 (x0 :: r) = Pl.runLen x0 r + 1 := by simp [Pl.runLen]
      generalize hL : (x0 :: r).length = L at *
      generalize hq : Pl.runLen x0 (x0 :: r) = q at *
      have HL := hide hL
      have HQ := hide hq3
      have HQ0 := hide hq
      clear hL hq hq3 hc h3
      have hlq := Pl.vint_len 0 q (by omega)
      have hlx := Pl.vint_len 5 x0.toNat (by simp; omega)
      go_wp2_with fail
      have hfr := firstRun_any B0 wr _ _ hrw (by rw [HL.out]; exact hyl) (by rw [HL.out]; exact hkl)
      rw [show Pl.runLen ((x0 :: r).getD 0 0) (x0 :: r) = q from HQ0.out] at hfr
      refine hfr.mono ?_
      clear hfr
      rintro e w1 ⟨rfl, rfl⟩
      go_wp2_with fail
      refine (appendVarint_any _ _ _ (q : Int) hown' (by omega) (by omega) (by omega)).mono ?_
      rintro e w2 ⟨v2, rfl, o2, k2, s2⟩
      have hkp2 := kp_then hkp hs k2
      have hs2 := hs.trans hkp.size s2
      have hc2 := hkp2.cell hc0 (fun e => by have := hpg _ e; simp at this; omega)
      go_wp2_with fail
      refine (appendVarint_any _ _ _ x0 o2 (by omega) (by omega) (by simp; omega)).mono ?_
      rintro e w3 ⟨v3, rfl, o3, k3, s3⟩
      have hkp3 := kp_then hkp2 hs2 k3
      have hs3 := hs2.trans hkp2.size s3
      go_wp2_with fail
      have hdrop : RdI B0 w (Value.slice (if cap = q then some { block := b, off := off } else some { block := b, off := off + q }) (L - q) (cap - q)) ((x0 :: r).drop q) := by
        have := Rd.drop hry (q := q) (by rw [List.length_map, HL.out]) (by omega)
        rw [← List.map_drop] at this
        exact this
      have hLq : ((x0 :: r).drop q).length = L - q := by rw [List.length_drop, HL.out]
      refine ⟨⟨(x0 :: r).drop q, done ++ Pl.vint q ++ Pl.vint x0.toNat, hdrop, fun x hx => hy x (List.mem_of_mem_drop hx), by omega, ?_, ?_, ?_, hkp3, hs3⟩, ?_⟩
      · simp only [List.length_append]; omega
      · have := HD.out
        rw [Pl.runs_cons, ← HQ.out] at this
        show done ++ Pl.vint q ++ Pl.vint x0.toNat ++ Pl.runs ((x0 :: r).drop q) = bs ++ Pl.runs xs
        rw [← this, show (x0 :: r).drop q = r.drop (Pl.runLen x0 r) by rw [HQ.out]; rfl]
        simp
      · simpa using o3
      · simp; omega
    · go_wp2_with fail
      go_ret2
      obtain rfl : ys = [] := List.eq_nil_of_length_eq_zero (by omega)
      exact ⟨_, rfl, by rw [← HD.out, Pl.runs_nil, List.append_nil]; exact hown', hkp, hs⟩

set_option maxRecDepth 20000 in
set_option maxHeartbeats 400000 in
theorem writeRising_any (B0 : Nat) (w : World) (v pg : Value) (xs : List Int) (bs : List UInt8) (hr : RdI B0 w v xs) (hown : OwnB w pg bs) (hpg : ∀ g, pg.ownBlock = some g → B0 ≤ g) (hx : ∀ x ∈ xs, 0 ≤ x ∧ x ≤ 1099511627775) (hl : xs.length ≤ 20) (hb : bs.length ≤ 100) :
    Calls Tryz.prog 158 #[v, pg] w fun e w' => ∃ v', e = .returned (.tuple #[v', .bool (Pl.rises 0 xs)]) ∧ (Pl.rises 0 xs = true → OwnB w' v' (bs ++ Pl.rising 0 xs) ∧ Sep w pg v') ∧ (Pl.rises 0 xs = false → v' = .slice none 0 0) ∧ Kp (Of pg) w w' := by
  have hr0 := hr
  obtain ⟨ao, cap, rfl, h1, h2, h3⟩ := RdI.open hr
  clear h3 hr
  go_enter Tryz.func158, Tryz.ntmps158
  go_wp2
  go_loopw [1, 6, 11] (fun t p i wr => ∃ (k : Nat) (a : Int) (done : List UInt8), k ≤ xs.length ∧ i = .int .i64 k ∧ p = .int .i64 a ∧ 0 ≤ a ∧ a ≤ 1099511627775 ∧ done.length ≤ 100 + 6 * k ∧ Hid (Pl.rises 0 xs = Pl.rises a (xs.drop k)) ∧ Hid (done ++ Pl.rising a (xs.drop k) = bs ++ Pl.rising 0 xs) ∧ OwnB wr t done ∧ Kp (Of pg) w wr ∧ Sep w pg t) (fun _ _ i _ => xs.length - (intOf i).toNat)
  case atStart => exact ⟨0, 0, bs, Nat.zero_le _, rfl, rfl, by omega, by omega, by omega, rfl, rfl, hown, Kp.refl _ _, Sep.refl _ _⟩
  case round =>
    obtain ⟨k, a, done, hk, rfl, rfl, ha0, ha1, hdl, HR, HD, hown', hkp, hs⟩ := hrel
    by_cases hkl : k < xs.length
    · obtain ⟨ao', cap', he, _, _, h3⟩ := RdI.open (hr0.kept hkp (fun i e => hpg i e))
      cases he
      obtain ⟨b, off, rfl, hb0, hc⟩ := h3 (by omega)
      have hck := hc k hkl
      rw [show xs.getD k 0 = xs[k] by simp [hkl]] at hck
      have hxk := hx xs[k] (List.getElem_mem hkl)
      have hdr : xs.drop k = xs[k] :: xs.drop (k + 1) := List.drop_eq_getElem_cons hkl
      rw [hdr] at HR HD
      clear hdr
      generalize xs[k] = x at *
      clear hc h3 hr0 hx
      by_cases hlt : x < a
      · go_wp2_with fail
        go_ret2
        have e : Pl.rises 0 xs = false := by rw [HR.out]; simp [Pl.rises]; omega
        rw [e]
        exact ⟨_, rfl, (fun h => by cases h), fun _ => rfl, hkp⟩
      · have hlv := Pl.vint_len 5 (x - a).toNat (by simp; omega)
        go_wp2_with (go_at_call 97; go_must (refine (appendVarint_any _ _ _ _ hown' (by omega) (by omega) (by omega)).mono ?_); rintro e w1 ⟨v1, rfl, o1, k1, s1⟩)
        go_roundw
        case rel => exact ⟨k + 1, x, done ++ Pl.vint (x - a).toNat, by omega, by go_num, rfl, by omega, by omega, by simp only [List.length_append]; omega, by
            show _ = _
            rw [HR.out]; simp only [Pl.rises]; rw [decide_eq_true (by omega : a ≤ x)]; rfl, by
            show _ = _
            rw [← HD.out]; simp [Pl.rising], o1, kp_then hkp hs k1, hs.trans hkp.size s1⟩
        case measure => simp [intOf]; omega
    · go_wp2_with fail
      go_ret2
      have hdr : xs.drop k = [] := List.drop_eq_nil_of_le (by omega)
      rw [hdr] at HR HD
      have e : Pl.rises 0 xs = true := HR.out
      rw [e]
      exact ⟨_, rfl, fun _ => ⟨by rw [← HD.out]; simpa [Pl.rising] using hown', hs⟩, (fun h => by cases h), hkp⟩
end Go.Proofs.YthicgffppmbamaaGreat
