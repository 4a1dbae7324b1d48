/- works: the document's example up to the first request. -/
import Derived.Test.YthicgffppmbamaaGreatActState
import Derived.Test.YthicgffppmbamaaGreatWrote
namespace Go.Proofs.YthicgffppmbamaaGreat
open Go.RowKit

theorem ex_asked : (Pl.openSc 24 [[97]] 1 2 2 0).asked.map Pl.reqOf = [(1, 18, 6)] := by decide +kernel
theorem ex_okSet : Pl.okSet 24 1 2 2 0 = true := by decide +kernel

set_option maxRecDepth 20000 in
set_option maxHeartbeats 2000000 in
theorem works_any (w : World) : Calls Tryz.prog 11 #[] w fun e w' => e = .returned (.bool true) ∧ Ext w w' := by
  have hop : Hid (∀ u : World, Blk u w.heap.size [.string ⟨#[97]⟩] 9 → Calls Tryz.prog 22 #[.int .i64 24, .slice (some ⟨w.heap.size, 0, none⟩) 1 1, setV 1 2 2 0] u fun e w' => Ext u w' ∧ ∃ X, e = .returned (.tuple #[PtrTo X 0, .int .i64 0]) ∧ Calls Tryz.prog 23 #[PtrTo X 0] w' fun e w'' => ∃ v, e = .returned v ∧ Own w'' 3 v 1 (trCells (1, 18, 6)) ∧ Ext w' w'') := fun u hu => by
    have hr : RdS u.heap.size u (.slice (some ⟨w.heap.size, 0, none⟩) 1 1) [⟨#[97]⟩] := rd_one hu (by simp)
    refine (xOpen_any u.heap.size u _ [⟨#[97]⟩] 24 1 2 2 0 hr).mono ?_
    rintro e w1 ⟨x1, h⟩
    refine ⟨x1, ?_⟩
    rcases h with ⟨hbad, _⟩ | ⟨_, X, P, col, rfl, hx, _⟩
    · rw [ex_okSet] at hbad; cases hbad
    · refine ⟨X, rfl, ?_⟩
      have hl : (Pl.openSc 24 [[97]] 1 2 2 0).asked.length = 1 := by
        have := congrArg List.length ex_asked
        simpa using this
      refine (xAsked_any col w1 X P (Pl.openSc 24 [[97]] 1 2 2 0) hx (by rw [hl]; omega)).mono ?_
      rintro e w2 ⟨v, rfl, o2, x2, _⟩
      rw [ask_tr, ex_asked, hl] at o2
      exact ⟨v, rfl, by simpa using o2, x2⟩
  have hB : Hid (Blk (w.alloc (.cells #[.string ⟨#[97]⟩] 9)) w.heap.size [.string ⟨#[97]⟩] 9) := Blk.of_alloc w [.string ⟨#[97]⟩] _
  go_enter Tryz.func11, Tryz.ntmps11
  go_wp2_with fail
  refine ((unhide hop) _ (unhide hB)).mono ?_
  rintro e w1 ⟨x1, X, rfl, hask⟩
  have HA := hide hask
  clear hask
  go_wp2_with fail
  refine (unhide HA).mono ?_
  rintro e w2 ⟨v, rfl, o2, x2⟩
  obtain ⟨g, cap, rfl, -, -, hc⟩ := o2.at (by omega)
  have d0 := hc 0 (by omega)
  have d1 := hc 1 (by omega)
  have d2 := hc 2 (by omega)
  simp only [trCells, I, List.getElem?_cons_zero, List.getElem?_cons_succ] at d0 d1 d2
  clear hc o2
  go_wp2_with fail
  go_ret
  refine ⟨?_, (((Kp.refl _ _).alloc _).trans x1).trans x2⟩
  first | rfl | trace_state
end Go.Proofs.YthicgffppmbamaaGreat
