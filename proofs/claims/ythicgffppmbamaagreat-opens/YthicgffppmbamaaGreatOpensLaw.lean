/- Opens: the statement's function. -/
import Derived.Test.YthicgffppmbamaaGreatOpens1
namespace Go.Proofs.YthicgffppmbamaaGreat
open Go.RowKit

theorem rOpen_ge (size : Nat) (want : List (List UInt8)) (w t n g : Nat) (hs : ¬ size < 10) (hw : 1 ≤ w) : Pl.rOpen size want w t n g = { size := size, want := want, win := w, tries := t, nrows := n, gap := g, pieces := [{ kind := 0, place := size - 6, length := 6, id := 1 }], made := 1 } := by
  unfold Pl.rOpen
  rw [if_neg hs]
  unfold Pl.rAsk
  simp only [List.length_cons, List.length_nil, Nat.zero_add, Pl.rAskF]
  rw [if_pos (by simp; omega)]
  simp [Pl.rMake1]
theorem open_sim (size : Nat) (want : List (List UInt8)) (w t n g : Nat) (hw : 1 ≤ w) :
    (Pl.openSc size want w t n g).asked.map Pl.reqOf = Pl.rAsked (Pl.rOpen size want w t n g) ∧ (Pl.openSc size want w t n g).state = (Pl.rOpen size want w t n g).state ∧ (Pl.rOpen size want w t n g).made ≤ 1 ∧ (Pl.rOpen size want w t n g).pieces.length ≤ 1 ∧ (∀ p ∈ (Pl.rOpen size want w t n g).pieces, p.length ≤ 6 ∧ p.got.length ≤ p.length ∧ p.place ≤ size) ∧ (Pl.openSc size want w t n g).asked.length ≤ 1 := by
  by_cases hs : size < 10
  · have e1 : Pl.openSc size want w t n g = Pl.ended 2 := by unfold Pl.openSc; rw [if_pos hs]
    have e2 : Pl.rOpen size want w t n g = { size := size, want := want, win := w, tries := t, nrows := n, gap := g, state := 2 } := by unfold Pl.rOpen; rw [if_pos hs]
    rw [e1, e2]
    refine ⟨?_, rfl, by simp, by simp, fun p hp => by simp at hp, by simp [Pl.ended]⟩
    simp [Pl.ended, Pl.rAsked]
  · rw [rOpen_ge size want w t n g hs hw]
    have e1 : Pl.openSc size want w t n g = Pl.fetch { size := size, want := Pl.keepNames want, win := w, tries := t, nrows := n, gap := g } (size - 6) 6 .tail := by unfold Pl.openSc; rw [if_neg hs]
    rw [e1]
    refine ⟨?_, rfl, by simp, by simp, fun p hp => ?_, by simp [Pl.fetch, Pl.ask]⟩
    · simp [Pl.fetch, Pl.ask, Pl.rAsked, Pl.askedTo, Pl.askedAt, Pl.reqOf]
    · simp at hp
      subst hp
      simp

set_option maxRecDepth 20000 in
set_option maxHeartbeats 400000 in
theorem pick0 (u : World) : Calls Tryz.prog 33 #[.int .i64 0, .int .i64 1] u fun e u' => e = .returned (.int .i64 (0 : Nat)) ∧ u' = u := by
  go_enter Tryz.func33, Tryz.ntmps33
  go_wp2
  go_ret
  exact ⟨rfl, rfl⟩

set_option maxRecDepth 20000 in
set_option maxHeartbeats 4000000 in
theorem opensLaw_any (w : World) (v : Value) (ss : List ByteArray) (size W T R G : Int) (hr : RdS w.heap.size w v ss) (hss : ss.length ≤ 8796093021952) :
    Calls Tryz.prog 3 #[.int .i64 size, v, setV W T R G] w fun e w' => e = .returned (.bool true) ∧ Ext w w' := by
  have hr0 := hr
  obtain ⟨ao, cap, rfl, n1, n2, -⟩ := RdS.open hr
  clear hr
  go_enter Tryz.func3, Tryz.ntmps3
  go_wp2_with fail
  refine (works_any _).mono ?_
  rintro e w1 ⟨rfl, x1⟩
  have q0 : w1.cell? ⟨w.heap.size, 0, none⟩ = some (.int .i64 W) := x1.cell (World.cell?_alloc_new w _ _ 0) id
  have q1 : w1.cell? ⟨w.heap.size, 1, none⟩ = some (.int .i64 T) := x1.cell (World.cell?_alloc_new w _ _ 1) id
  have q2 : w1.cell? ⟨w.heap.size, 2, none⟩ = some (.int .i64 R) := x1.cell (World.cell?_alloc_new w _ _ 2) id
  have q3 : w1.cell? ⟨w.heap.size, 3, none⟩ = some (.int .i64 G) := x1.cell (World.cell?_alloc_new w _ _ 3) id
  have xw1 : Ext w w1 := ((Kp.refl _ _).alloc _).trans x1
  go_upto_region 3 with fail
  have hB : Blk (w1.alloc (.cells #[.slice none 0 0, .slice none 0 0, .slice none 0 0, .slice none 0 0] 32)) w1.heap.size [.slice none 0 0, .slice none 0 0, .slice none 0 0, .slice none 0 0] 32 := Blk.of_alloc w1 [.slice none 0 0, .slice none 0 0, .slice none 0 0, .slice none 0 0] _
  have xw2 : Ext w (w1.alloc (.cells #[.slice none 0 0, .slice none 0 0, .slice none 0 0, .slice none 0 0] 32)) := xw1.alloc _
  have zw2 : w1.heap.size < (w1.alloc (.cells #[.slice none 0 0, .slice none 0 0, .slice none 0 0, .slice none 0 0] 32)).heap.size := by simp
  have x12 : Ext w1 (w1.alloc (.cells #[.slice none 0 0, .slice none 0 0, .slice none 0 0, .slice none 0 0] 32)) := (Kp.refl _ _).alloc _
  replace q0 := x12.cell q0 id
  replace q1 := x12.cell q1 id
  replace q2 := x12.cell q2 id
  replace q3 := x12.cell q3 id
  have hWb := xw1.size
  generalize w1.alloc _ = W2 at *
  generalize w1.heap.size = Wb at *
  go_wp2_with fail
  refine (opens_any w.heap.size W2 Wb _ _ _ _ _ 0 [] ⟨#[]⟩ ss size W T R G hB (Own.nil _ _) (by omega) (by simp [Value.ownBlock]) (hr0.kept xw2 (fun _ f => f.elim)) xw2.size hss).mono ?_
  rintro e w3 ⟨rfl, ⟨_, x3⟩ | ⟨hok, ⟨tv', X, Y, P, col, colr, hb3, ho3, hX, hY, low, dis, tout, tnew, k3⟩⟩⟩
  · have c0 := (hB.kept x3 id).cell 0
    simp only [List.getElem?_cons_zero] at c0
    go_wp2_with fail
    go_ret
    exact ⟨rfl, xw2.trans x3⟩
  · obtain ⟨⟨z1, z2⟩, ⟨w1', w2'⟩, -⟩ := (okSet_iff _ _ _ _ _).1 hok
    obtain ⟨e1, e2, e3, e4, e5, e6⟩ := open_sim size.toNat (ss.map bytesOf) W.toNat T.toNat R.toNat G.toNat (by omega)
    obtain ⟨g, tc, rfl, htc, hg, hcell⟩ := ho3.at (by omega)
    have hgn : W2.heap.size ≤ g := by
      rcases tnew g rfl with e | e
      · simp [Value.ownBlock] at e
      · exact e
    have t0 := hcell 0 (by omega)
    have t1 := hcell 1 (by omega)
    have t2 := hcell 2 (by omega)
    simp only [List.nil_append, List.getElem?_cons_zero, List.getElem?_cons_succ] at t0 t1 t2
    have c0 := hb3.cell 0
    simp only [List.getElem?_cons_zero] at c0
    have on3 : On w3 Wb (.slice (some ⟨g, 0, none⟩) (0 + 1) tc) (.slice none 0 0) (.slice none 0 0) (.slice none 0 0) (0 + 1) 0 X Y ⟨#[]⟩ 0 := ⟨hb3, by omega, ⟨g, tc, rfl, htc, hg, t0, t1, t2⟩, pick0⟩
    have hA := actAsked_any w3 Wb _ _ _ _ (0 + 1) 0 X Y P 0 ⟨#[]⟩ ⟨#[]⟩ 0 0 0 [] col colr _ _ on3 (by omega) (Own.nil _ _) (by simp [Value.ownBlock]) (by omega) hX hY e1 (by omega) (by omega) (by omega) (fun p hp => by have := e5 p hp; omega)
    have HA := hide hA
    have HON := hide on3
    have hxk : Kp (fun k => k = Wb) W2 w3 := k3.mono (fun i _ h => by
      rcases h with h | h
      · exact h
      · simp [Of, Value.ownBlock] at h)
    clear hA on3 hcell tnew ho3
    simp only [Nat.zero_add] at *
    go_wp2_with fail
    refine (unhide HA).mono ?_
    rintro e w4 ⟨rfl, av', x, hb4, ho4, hk4, k4, hav4⟩
    have k4' : Kp (fun k => k = Wb) w3 w4 := k4.mono (fun i _ h => by
      rcases h with h | h
      · exact h
      · simp [Of, Value.ownBlock] at h)
    have on3 := unhide HON
    have hX4 := hX.kept k4' (fun i e => by rw [e]; exact (low Wb zw2).1)
    have hY4 := hY.kept k4' (fun i e => by rw [e]; exact (low Wb zw2).2)
    have gW : ¬ g = Wb := by omega
    have on4 : On w4 Wb (.slice (some ⟨g, 0, none⟩) 1 tc) (.slice none 0 0) av' (.slice none 0 0) 1 0 X Y ⟨#[]⟩ 0 := ⟨hb4, by omega, ⟨g, tc, rfl, htc, Nat.lt_of_lt_of_le hg k4'.size, k4'.cell t0 gW, k4'.cell t1 gW, k4'.cell t2 gW⟩, pick0⟩
    have HS := hide (actState_any w4 Wb _ _ _ _ 1 0 X Y P ⟨#[]⟩ ⟨#[]⟩ 0 0 0 col colr _ _ on4 (by omega) hX4 hY4 e2)
    clear on3 on4 HON HA hX hY hX4 hY4
    go_wp2_with fail
    refine (unhide HS).mono ?_
    rintro e w5 ⟨rfl, x5⟩
    have hKept : KeptAt (fun b => w3.heap.size ≤ b ∧ av'.ownBlock ≠ some b) w5 (.slice none 0 0) av' (.slice none 0 0) [] [x] [] :=
      ⟨Own.nil _ _, by simpa using ho4.ext x5, Own.nil _ _, fun y hy => (by simp at hy), fun y hy => by
        simp at hy
        subst hy
        exact hk4.go x5 (fun _ _ f => f) (fun _ _ e => e), fun y hy => (by simp at hy), by simp, by simp, by simp⟩
    have HL := hide (looks_any _ w5 Wb _ _ _ _ [] [x] [] (hb4.kept x5 id) hKept)
    clear hKept HS
    go_wp2_with fail
    refine (unhide HL).mono ?_
    rintro e w6 ⟨rfl, x6⟩
    go_wp2_with fail
    go_ret
    refine ⟨rfl, ?_⟩
    have kk : Kp (fun k => k = Wb) W2 w6 := ((hxk.trans k4').trans (Kp.of_ext x5)).trans (Kp.of_ext x6)
    exact xw2.then kk (fun i hi e => by omega)
end Go.Proofs.YthicgffppmbamaaGreat
