/- wrote: the document's example. -/
import Derived.Test.YthicgffppmbamaaGreatFileWrite
import Derived.Test.YthicgffppmbamaaGreatLent0
namespace Go.Proofs.YthicgffppmbamaaGreat
open Go.RowKit

def exFile : List UInt8 := [67, 79, 76, 49, 1, 3, 5, 1, 1, 97, 1, 3, 4, 3, 120, 209, 171, 200, 0, 11, 67, 79, 76, 49]
theorem ex_sum : Pl.sumOf [1, 3, 5] = 2027006920 := by
  unfold Pl.sumOf
  decide +kernel
theorem ex_page : Pl.page [5, 5, 5] = [1, 3, 5] := by decide +kernel
theorem ex_ok : Pl.okTable [[97]] [[[5, 5, 5]]] = true := by decide +kernel
theorem ex_parts : Pl.parts [[97]] [[[5, 5, 5]]] = ([67, 79, 76, 49, 1, 3, 5], [1, 1, 97, 1, 3, 4, 3, 120, 209, 171, 200]) := by decide +kernel
theorem ex_write : Pl.write [[97]] [[[5, 5, 5]]] = (exFile, 0) := by
  unfold Pl.write
  rw [ex_ok, if_pos rfl, ex_parts]
  decide +kernel

theorem ex_cut : ((({ data := #[67, 79, 76, 49, 1, 3, 5, 1, 1, 97, 1, 3, 4, 3, 120, 209, 171, 200, 0, 11, 67, 79, 76, 49] } : ByteArray).extract 4 7).toList == [1, 3, 5]) = true := by
  rw [ByteArray.toList_eq]
  decide +kernel
theorem rd_one {w : World} {b : Nat} {cs : List Value} {e : TypeId} (h : Blk w b cs e) (hm : cs.length ≤ 1000) : Rd w.heap.size w (.slice (some ⟨b, 0, none⟩) cs.length cs.length) cs :=
  ⟨_, _, rfl, Nat.le_refl _, by omega, fun _ => ⟨b, 0, rfl, h.lt, fun j _ => by rw [Nat.zero_add, h.cell]⟩⟩

set_option maxRecDepth 20000 in
set_option maxHeartbeats 1000000 in
theorem wrote_any (w : World) : Calls Tryz.prog 61 #[] w fun e w' => e = .returned (.bool true) ∧ Ext w w' := by
  go_enter Tryz.func61, Tryz.ntmps61
  go_wp2_with fail
  have h1 := Blk.of_alloc w [.string ⟨#[97]⟩] 9
  have h2 := Blk.of_alloc (w.alloc (.cells #[.string ⟨#[97]⟩] 9)) [.int .i64 5, .int .i64 5, .int .i64 5] 3
  have h3 := Blk.of_alloc ((w.alloc (.cells #[.string ⟨#[97]⟩] 9)).alloc (.cells #[.int .i64 5, .int .i64 5, .int .i64 5] 3)) [.slice (some ⟨w.heap.size + 1, 0, none⟩) 3 3] 46
  have h4 := Blk.of_alloc (((w.alloc (.cells #[.string ⟨#[97]⟩] 9)).alloc (.cells #[.int .i64 5, .int .i64 5, .int .i64 5] 3)).alloc (.cells #[.slice (some ⟨w.heap.size + 1, 0, none⟩) 3 3] 46)) [.slice (some ⟨w.heap.size + 2, 0, none⟩) 1 1] 51
  have x4 : Ext w ((((w.alloc (.cells #[.string ⟨#[97]⟩] 9)).alloc (.cells #[.int .i64 5, .int .i64 5, .int .i64 5] 3)).alloc (.cells #[.slice (some ⟨w.heap.size + 1, 0, none⟩) 3 3] 46)).alloc (.cells #[.slice (some ⟨w.heap.size + 2, 0, none⟩) 1 1] 51)) := ((((Kp.refl _ _).alloc _).alloc _).alloc _).alloc _
  simp only [World.size_alloc] at h2 h3 h4
  replace h1 := ((h1.kept ((Kp.refl (fun _ => False) _).alloc (.cells #[.int .i64 5, .int .i64 5, .int .i64 5] 3)) id).kept ((Kp.refl (fun _ => False) _).alloc (.cells #[.slice (some ⟨w.heap.size + 1, 0, none⟩) 3 3] 46)) id).kept ((Kp.refl (fun _ => False) _).alloc (.cells #[.slice (some ⟨w.heap.size + 2, 0, none⟩) 1 1] 51)) id
  replace h2 := (h2.kept ((Kp.refl (fun _ => False) _).alloc (.cells #[.slice (some ⟨w.heap.size + 1, 0, none⟩) 3 3] 46)) id).kept ((Kp.refl (fun _ => False) _).alloc (.cells #[.slice (some ⟨w.heap.size + 2, 0, none⟩) 1 1] 51)) id
  replace h3 := h3.kept ((Kp.refl (fun _ => False) _).alloc (.cells #[.slice (some ⟨w.heap.size + 2, 0, none⟩) 1 1] 51)) id
  simp only [Nat.add_assoc, Nat.reduceAdd] at h1 h2 h3 h4 x4 ⊢
  generalize (((w.alloc _).alloc _).alloc _).alloc _ = W4 at *
  have r1 : RdS W4.heap.size W4 (.slice (some ⟨w.heap.size, 0, none⟩) 1 1) [⟨#[97]⟩] := rd_one h1 (by simp)
  have r2 : RdI W4.heap.size W4 (.slice (some ⟨w.heap.size + 1, 0, none⟩) 3 3) [5, 5, 5] := rd_one h2 (by simp)
  have r3 : RdII W4.heap.size W4 (.slice (some ⟨w.heap.size + 2, 0, none⟩) 1 1) [[5, 5, 5]] := ⟨[.slice (some ⟨w.heap.size + 1, 0, none⟩) 3 3], rd_one h3 (by simp), rfl, fun i x xs hx hxs => by
    match i with
    | 0 => simp at hx hxs; subst hx; subst hxs; exact r2
    | i + 1 => simp at hx⟩
  have r4 : RdIII W4.heap.size W4 (.slice (some ⟨w.heap.size + 3, 0, none⟩) 1 1) [[[5, 5, 5]]] := ⟨[.slice (some ⟨w.heap.size + 2, 0, none⟩) 1 1], rd_one h4 (by simp), rfl, fun i x xs hx hxs => by
    match i with
    | 0 => simp at hx hxs; subst hx; subst hxs; exact r3
    | i + 1 => simp at hx⟩
  have hwr := write_any W4.heap.size W4 _ _ [⟨#[97]⟩] [[[5, 5, 5]]] r1 r4 (Nat.le_refl _)
  rw [show ([⟨#[97]⟩] : List ByteArray).map bytesOf = [[97]] from rfl, ex_write] at hwr
  refine hwr.mono ?_
  rintro e w5 ⟨rfl, x5⟩
  clear hwr r1 r2 r3 r4 h1 h2 h3 h4
  show _
  simp only [exFile]
  go_wp2_with fail
  go_ret
  refine ⟨?_, x4.trans x5⟩
  show Ending.returned (.bool _) = _
  rw [ex_cut]
end Go.Proofs.YthicgffppmbamaaGreat
