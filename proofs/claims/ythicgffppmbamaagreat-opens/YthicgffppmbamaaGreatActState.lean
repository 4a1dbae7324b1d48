/- act: State on both sides. -/
import Derived.Test.YthicgffppmbamaaGreatActAsked
namespace Go.Proofs.YthicgffppmbamaaGreat
open Go.RowKit

set_option maxRecDepth 20000 in
set_option maxHeartbeats 8000000 in
theorem actState_any (w : World) (Wb : Nat) (tv iv av rv : Value) (nt i X Y P : Nat) (file sv : ByteArray) (Wn A B : Int) (col colr : Colr) (m : Pl.Sc) (r : Pl.RSc) (ho : On w Wb tv iv av rv nt i X Y file Wn) (_hnt : nt ≤ 1000)
    (hx : IsX col w X m P) (hy : IsR colr w Y r) (heq : m.state = r.state) :
    Calls Tryz.prog 13 #[PtrTo Wb 0, actV 8 Wn A B sv] w fun e w' => e = .returned (.bool true) ∧ Ext w w' := by
  obtain ⟨hb, hi, ⟨g, cap, rfl, hnc, hg, t0, t1, t2⟩, hpick⟩ := ho
  have q0 := hb.cell 0
  simp only [List.getElem?_cons_zero] at q0
  have hblt := hb.lt
  have i0 : (0 : Int) ≤ (i : Int) := by omega
  have i1 : (i : Int) < (nt : Int) := by omega
  have HPK := hide hpick
  have HXA : Hid (∀ u, Ext w u → Calls Tryz.prog 18 #[PtrTo X 0] u fun e w' => e = .returned (.int .i64 m.state) ∧ w' = u) := fun u hu => xState_any col u X P m (hx.kept hu (fun _ f => f.elim))
  have HYA : Hid (∀ u, Ext w u → Calls Tryz.prog 41 #[PtrTo Y 0] u fun e w' => e = .returned (.int .i64 r.state) ∧ w' = u) := fun u hu => rState_any colr u Y r (hy.kept hu (fun _ f => f.elim))
  rw [heq] at HXA
  clear hx hy heq hpick
  generalize r.state = st at *
  have n0 := World.new_ne w _ q0
  have n1 := World.new_ne w _ t0
  go_enter Tryz.func13, Tryz.ntmps13
  go_wp2_with fail
  go_region_held3 (fun u => u.cell? ⟨Wb, 0, none⟩ = some (.slice (some ⟨g, 0, none⟩) nt cap) ∧ u.cell? ⟨w.heap.size, 1, none⟩ = some (.int .i64 Wn) ∧ u.cell? ⟨g, i * 3, none⟩ = some (PtrTo X 0) ∧ u.cell? ⟨g, i * 3 + 1, none⟩ = some (PtrTo Y 0) ∧ u.cell? ⟨g, i * 3 + 2, none⟩ = some (.string file)) (go_keep) (first | (go_at_call 33; refine ((unhide HPK) _).mono ?_; rintro e w' ⟨rfl, rfl⟩) | fail)
  all_goals
    have xw2 : Ext w ((w.alloc (.cells #[.int .i64 8, .int .i64 Wn, .int .i64 A, .int .i64 B, .string sv] 36)).alloc (.cells #[PtrTo X 0, PtrTo Y 0, .string file] 85)).drew := (((Kp.refl _ _).alloc _).alloc _).drew
    have hB1 : Blk ((w.alloc (.cells #[.int .i64 8, .int .i64 Wn, .int .i64 A, .int .i64 B, .string sv] 36)).alloc (.cells #[PtrTo X 0, PtrTo Y 0, .string file] 85)).drew w.heap.size [.int .i64 8, .int .i64 Wn, .int .i64 A, .int .i64 B, .string sv] 36 := (Blk.of_alloc w [.int .i64 8, .int .i64 Wn, .int .i64 A, .int .i64 B, .string sv] 36).kept (((Kp.refl (fun _ => False) _).alloc _).drew) id
    have hB2 : Blk ((w.alloc (.cells #[.int .i64 8, .int .i64 Wn, .int .i64 A, .int .i64 B, .string sv] 36)).alloc (.cells #[PtrTo X 0, PtrTo Y 0, .string file] 85)).drew (w.heap.size + 1) [PtrTo X 0, PtrTo Y 0, .string file] 85 := by
      have := Blk.of_alloc (w.alloc (.cells #[.int .i64 8, .int .i64 Wn, .int .i64 A, .int .i64 B, .string sv] 36)) [PtrTo X 0, PtrTo Y 0, .string file] 85
      rw [show (w.alloc (.cells #[.int .i64 8, .int .i64 Wn, .int .i64 A, .int .i64 B, .string sv] 36)).heap.size = w.heap.size + 1 by simp] at this
      exact this
    have zz : w.heap.size + 2 ≤ (((w.alloc (.cells #[.int .i64 8, .int .i64 Wn, .int .i64 A, .int .i64 B, .string sv] 36)).alloc (.cells #[PtrTo X 0, PtrTo Y 0, .string file] 85)).drew).heap.size := by show _ ≤ (World.alloc _ _).heap.size; simp
    generalize ((w.alloc _).alloc _).drew = W2 at *
    have a0 := hB1.cell 0
    have c0 := hB2.cell 0
    have c1 := hB2.cell 1
    simp only [List.getElem?_cons_zero, List.getElem?_cons_succ] at a0 c0 c1
    clear n0 n1 q0 t0 t1 t2
    go_wp2_with fail
    refine ((unhide HXA) W2 xw2).mono ?_
    rintro e _ ⟨rfl, rfl⟩
    go_wp2_with fail
    refine ((unhide HYA) _ xw2).mono ?_
    rintro e _ ⟨rfl, rfl⟩
    go_wp2_with fail
    go_ret
    exact ⟨by simp, xw2⟩
end Go.Proofs.YthicgffppmbamaaGreat
