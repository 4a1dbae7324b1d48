/- Fetch: a new part, which asks. -/
import Derived.Test.YthicgffppmbamaaGreatAsk
namespace Go.Proofs.YthicgffppmbamaaGreat
open Go.RowKit

set_option maxRecDepth 20000 in
set_option maxHeartbeats 1000000 in
theorem fetch_any (col : Colr) (w : World) (P : Nat) (m : Pl.Sc) (place length : Int) (aim : Pl.Aim) (ps qs : List Nat) (nv av wv hv gv xv : Value) (h : Rep col w P m ps qs nv av wv hv gv) (hx : AimAt col w P xv aim) (hxo : ∃ f fi, xv = .func f fi #[]) (hid : m.lastId ≤ 1000000000000) (hal : m.asked.length ≤ 1000) (h0 : 0 ≤ place) (h1 : 0 ≤ length) (hpl : place + length ≤ 1000000) :
    Calls Tryz.prog 83 #[PtrTo P 7, .int .i64 place, .int .i64 length, xv] w fun e w' => e = .returned (.tuple #[]) ∧ ∃ col' p av', Rep col' w' P (Pl.fetch m place.toNat length.toNat aim) (ps ++ [p]) qs nv av' wv hv gv ∧ Went col w w' col' := by
  obtain ⟨f, fi, rfl⟩ := hxo
  obtain ⟨pl, rfl⟩ := Int.eq_ofNat_of_zero_le h0
  obtain ⟨ln, rfl⟩ := Int.eq_ofNat_of_zero_le h1
  simp only [Int.toNat_natCast]
  obtain ⟨c1, hc1⟩ : ∃ c1, c1 = paint col w.heap.size (w.heap.size + 1) .part := ⟨_, rfl⟩
  have hlt : ∀ i, i < w.heap.size → c1 i = col i := fun i hi => by rw [hc1]; exact paint_lt _ _ _ _ _ hi
  have hat : c1 w.heap.size = .part := by rw [hc1]; exact paint_in _ _ _ _ _ (Nat.le_refl _) (by omega)
  have htop : ∀ i, w.heap.size + 1 ≤ i → c1 i = .out := fun i hi => by rw [hc1, paint_ge _ _ _ _ _ hi]; exact h.inn.top i (by omega)
  have hext : ∀ o, Ext w (w.alloc o) := fun o => (Kp.refl _ _).alloc o
  have hR : ∀ o, Rep c1 (w.alloc o) P m ps qs nv av wv hv gv := fun o => ⟨h.blk.kept (hext o) id, h.inn.go (hext o) h.blk.lt (fun _ f => f.elim) hlt (fun i hi => htop i (by simpa using hi))⟩
  have hP : PartAt c1 (w.alloc (.cells #[PtrTo P 7, .int .i64 (pl : Int), .int .i64 (ln : Int), .slice none 0 0, .int .i64 0, .func f fi #[]] 164)) P w.heap.size ⟨pl, ln, [], 0, aim⟩ (.slice none 0 0) (.func f fi #[]) :=
    ⟨Blk.of_alloc w [PtrTo P 7, .int .i64 (pl : Int), .int .i64 (ln : Int), .slice none 0 0, .int .i64 0, .func f fi #[]] _, OwnB.nil _, fun g hg => by simp [Value.ownBlock] at hg, hx.go (hext _) (fun _ f => f.elim) hlt, hat⟩
  have hn : w.heap.size ∉ ps ++ qs := fun hm => by
    rcases List.mem_append.1 hm with hm | hm
    · have := (h.inn.aparts.lt hm).1; omega
    · have := (h.inn.wparts.lt hm).1; omega
  have HR := hide hR
  have HP := hide hP
  have HE := hide hext
  have HL := hide hlt
  clear hR hP hext hlt htop hat hc1 hx
  go_enter Tryz.func83, Tryz.ntmps83
  go_wp2_with fail
  refine (ask_any c1 _ P w.heap.size m ⟨pl, ln, [], 0, aim⟩ ps qs nv av wv hv gv _ _ ((unhide HR) _) (unhide HP) hn hid hal (by show pl + ln ≤ _; omega) (by simp)).mono ?_
  rintro e w1 ⟨rfl, c2, av2, r2, g2⟩
  go_wp2_with fail
  go_end0
  exact ⟨rfl, c2, _, av2, r2, (⟨Kp.of_ext ((unhide HE) _), unhide HL⟩ : Went col w _ c1).trans g2⟩
end Go.Proofs.YthicgffppmbamaaGreat
