/- The law: every Write. -/
import Derived.Test.YthicgffppmbamaaWrote
import Derived.Test.YthicgffppmbamaaRefW
import Derived.Test.YthicgffppmbamaaLent2
import Derived.Test.YthicgffppmbamaaStill
namespace Go.Proofs.Ythicgffppmbamaa
open Go.RowKit

abbrev Tab := List ByteArray × List (List (List Int))
/-- a list of tables -/
def RdTs (B : Nat) (w : World) (v : Value) (ts : List Tab) : Prop :=
  ∃ ao cap, v = .slice ao ts.length cap ∧ ts.length ≤ cap ∧ cap ≤ 17592186044416 ∧ (0 < ts.length → ∃ b off, ao = some ⟨b, off, none⟩ ∧ b < B ∧
    ∀ j (hj : j < ts.length), ∃ nv gv, w.cell? ⟨b, off + j * 2, none⟩ = some nv ∧ w.cell? ⟨b, off + j * 2 + 1, none⟩ = some gv ∧ RdS B w nv ts[j].1 ∧ RdIII B w gv ts[j].2 ∧ Small ts[j].1 ts[j].2)

set_option maxRecDepth 20000 in
set_option maxHeartbeats 4000000 in
theorem writes_any (w : World) (v : Value) (ts : List Tab) (hr : RdTs w.heap.size w v ts) :
    Calls Try.prog 3 #[v] w fun e w' => e = .returned (.bool true) ∧ Ext w w' := by
  obtain ⟨ao, cap, rfl, c1, c2, c3⟩ := hr
  go_enter Try.func3, Try.ntmps3
  go_wp2_with fail
  refine (wrote_any _).mono ?_
  rintro e w0 ⟨rfl, x0⟩
  go_wp2_with fail
  go_loopw [3, 4] (fun t i wr => ∃ k : Nat, k ≤ ts.length ∧ i = .int .i64 k ∧ t = .bool true ∧ Ext w wr) (fun _ i _ => ts.length - (intOf i).toNat)
  case atStart => exact ⟨0, Nat.zero_le _, rfl, rfl, x0⟩
  case round =>
    clear x0
    obtain ⟨k, hk, rfl, rfl, xk⟩ := hrel
    by_cases hkl : k < ts.length
    · obtain ⟨b, off, rfl, hb, hc⟩ := c3 (by omega)
      obtain ⟨nv, gv, d0, d1, rS, rG, hsm⟩ := hc k hkl
      clear hc
      generalize hss : ts[k].1 = ss at *
      generalize hgs : ts[k].2 = gs at *
      clear hss hgs
      have e0 := xk.cell d0 id
      have e1 := xk.cell d1 id
      have rS' := rS.kept xk (fun _ f => f.elim)
      have rG' := rG.kept xk (fun _ f => f.elim)
      obtain ⟨an, cn, rfl, -⟩ := RdS.open rS
      obtain ⟨ag, cg, rfl, -⟩ := rG.open
      go_wp2_with fail
      refine (lent_any w.heap.size _ _ _ ss gs rS' rG' xk.size hsm).mono ?_
      rintro e w1 ⟨bN, bG, gbs, rfl, hl, hfl, x1⟩
      go_wp2_with fail
      have xa : Ext w1 (w1.alloc (.cells #[sl bN ss.length, sl bG gs.length] 27)) := (Kp.refl _ _).alloc _
      have hxb := Blk.of_alloc w1 [sl bN ss.length, sl bG gs.length] 27
      have l2 := hl.ext xa
      have hz := x1.size
      clear hl
      generalize w1.alloc _ = w2 at *
      refine (write_any w2.heap.size w2 _ _ ss gs (l2.rdS hsm) (l2.rdIII hsm) (Nat.le_refl _)).mono ?_
      rintro e w3 ⟨rfl, x3⟩
      generalize hrr : Pl.write (ss.map bytesOf) gs = rr
      have HRR := hide hrr
      clear hrr
      have x13 := x1.trans (xa.trans x3)
      have xk3 := xk.trans x13
      have l3 := l2.ext x3
      have hxb3 := hxb.kept x3 id
      have q0 : w3.cell? ⟨w1.heap.size, 0, none⟩ = some (sl bN ss.length) := hxb3.cell 0
      have q1 : w3.cell? ⟨w1.heap.size, 1, none⟩ = some (sl bG gs.length) := hxb3.cell 1
      have p0 := xk3.cell d0 id
      have p1 := xk3.cell d1 id
      have hflB : ∀ b ∈ flat gbs, w.heap.size ≤ b := fun b hb => by have := hfl b hb; have := xk.size; omega
      have hst : Calls Try.prog 7 #[.agg #[sl bN ss.length, sl bG gs.length], .agg #[.slice an ss.length cn, .slice ag gs.length cg]] w3.drew fun e w' => e = .returned (.bool true) ∧ Kp (fun k => k ∈ flat gbs) w3.drew w' :=
        still_any w.heap.size w3.drew _ _ ss gs (rS.kept (xk3.drew) (fun _ f => f.elim)) (rG.kept (xk3.drew) (fun _ f => f.elim)) hsm bN bG gbs (l3.ext (ext_drewS w3)) hflB
      have HST := hide hst
      clear hst e0 e1 rS' rG' l2 l3 hxb
      go_upto_region 7 with fail
      go_region_with (go_at_call 7; go_must (refine (unhide HST).mono ?_); rintro e w4 ⟨rfl, k4⟩)
      all_goals
        have xk4 : Ext w w4 := (xk3.drew).then k4 (fun i hi e => by have := hflB i e; omega)
        have p04 := xk4.cell d0 id
        have p14 := xk4.cell d1 id
        have hwr := writeRef_any w.heap.size w4 _ _ ss gs (rS.kept xk4 (fun _ f => f.elim)) (rG.kept xk4 (fun _ f => f.elim))
        rw [HRR.out] at hwr
        have HWR := hide hwr
        clear hwr
        have es : (({ data := rr.1.toArray } : ByteArray).toList == ({ data := rr.1.toArray } : ByteArray).toList) = true := by simp
        have ee : (rr.2 == rr.2) = true := by simp
        have es2 : (rr.1 == rr.1) = true := by simp
        go_wp2_with fail
        refine (unhide HWR).mono ?_
        rintro e w5 ⟨rfl, x5⟩
        go_wp2_with fail
        exact ⟨⟨k + 1, by omega, by go_num, rfl, xk4.trans x5⟩, by simp [intOf]; omega⟩
    · go_wp2_with fail
      go_ret
      exact ⟨rfl, xk⟩
end Go.Proofs.Ythicgffppmbamaa
