/- finish: the whole file. -/
import Derived.Test.YthicgffppmbamaaGreatAddNames
import Derived.Deep.RegionLaw
namespace Go.Proofs.YthicgffppmbamaaGreat
open Go.RowKit

theorem step_append_b {ops : Array Oper} {o : Oper} {a : Act} {w : World} {K : Act → World → Prop} {Q : Exit → Act → World → Prop} {E : Prop}
    (hg : o.guard = none) (s x : Operand) (tx : TypeId) (ho : o.op = .call { callee := .builtin .append, args := #[s, x], argTypes := #[76, tx] })
    (v : Value) (bs : List UInt8) (hv : a.eval s = v) (hown : OwnB w v bs) (xv : Value) (hx : a.eval x = xv) (n : Nat) (news : List UInt8) (hs : Src Tryz.prog 1 tx xv n (news.map B) w) (hb : bs.length + n ≤ 1000000)
    (hK : ∀ v' w', OwnB w' v' (bs ++ news) → Kp (Of v) w w' → Sep w v v' → K (a.put o.dst v') w') :
    if Region.wanted o (yielded ops a.tmps) = true then Oper.wp Tryz.prog o a w K Q else E := by
  have hw : Region.wanted o (yielded ops a.tmps) = true := by simp [Region.wanted, hg]
  rw [if_pos hw]
  obtain ⟨v', w', hrun, r1, r2, r3⟩ := run_append_b w v bs hown tx o.type xv n news hs hb
  unfold Oper.wp
  simp [execOp, ho, resolve, invoke, builtin, hv, hx, hrun, Result.andThen]
  exact hK v' w' r1 r2 r3

theorem fold_push (ns : List UInt8) : ∀ s : ByteArray, List.foldl (fun (r : ByteArray) (n : Int) => r.push (UInt8.ofNat n.toNat)) s (ns.map fun b => (b.toNat : Int)) = ⟨s.data ++ ns.toArray⟩ := by
  induction ns with
  | nil => intro s; simp
  | cons b r ih =>
    intro s
    simp only [List.map_cons, List.foldl_cons]
    rw [ih]
    simp [ByteArray.push]

/-- string(b), b a row of one's own -/
theorem run_string_b (w : World) (v : Value) (bs : List UInt8) (h : OwnB w v bs) (hne : 0 < bs.length) : (convert 76 9 v).run Tryz.prog w = .ok (.string ⟨bs.toArray⟩) w := by
  rcases h with ⟨rfl, rfl⟩ | ⟨g, cap, rfl, h1, h2, h3, h4, h5⟩
  · simp at hne
  · rw [run_convert_bytes_string w _ _ 5 _ _ _ Tryz.underlying76 Tryz.underlying5 Tryz.underlying9]
    have hl : (loadCells ⟨g, 0, none⟩ bs.length).run Tryz.prog w = .ok ((bs.map fun b => (b.toNat : Int)).map (Value.int .u8)).toArray w := by
      have := run_firstCells_some (P := Tryz.prog) w 1 bs.length ⟨g, 0, none⟩ bs.length cap (bs.map B) (by simp) (fun j u hu => by
        have hj := (List.getElem?_eq_some_iff.1 hu).1
        simp at hj
        rw [Addr.add_lit, Nat.zero_add, h4 j hj]; exact hu)
      simp only [Builtin.firstCells, Nat.mul_one] at this
      rw [this]
      simp [B, Function.comp_def]
    rw [run_bytesToString w _ _ _ _ hl, fold_push]
    simp

set_option maxRecDepth 20000 in
set_option maxHeartbeats 2000000 in
theorem finish_any (B0 p : Nat) (w : World) (pv fv : Value) (ps fs : List UInt8) (h : Wr B0 p w pv fv ps fs) (hps : ps.length ≤ 5000) (hfs : fs.length ≤ 4000) :
    Calls Tryz.prog 99 #[.pointer (some ⟨p, 0, none⟩)] w fun e w' => e = .returned (.tuple #[.string ⟨(Pl.sealed (ps, fs)).1.toArray⟩, .int .i64 (Pl.sealed (ps, fs)).2]) ∧ Kp (From B0) w w' := by
  have c0 := h.cell0
  have c1 := h.cell1
  obtain ⟨pa, np, pc, rfl, hnp⟩ := h.op.shape'
  obtain ⟨fa, nf, fc, rfl, hnf⟩ := h.of.shape'
  go_enter Tryz.func99, Tryz.ntmps99
  go_wp2_with fail
  go_region_law (refine step_append_b rfl _ _ 76 rfl _ _ rfl h.drew.op _ rfl _ fs (src_own h.drew.of) (by omega) ?_; intro v1 w1 o1 k1 s1)
  all_goals
    obtain ⟨q0, q1, q2, q3⟩ := h.drew.midP k1
    have kw1 : Kp (From B0) w w1 := (Kp.of_ext (ext_drew w)).trans (k1.mono (fun k _ e => (h.bp k e).1))
    have nb1 : ∀ g, v1.ownBlock = some g → B0 ≤ g := fun g hg => by
      rcases sep_new s1 hg with e | e
      · exact (h.bp g e).1
      · have := h.hB; have := h.lt; have : w.drew.heap.size = w.heap.size := rfl; omega
    have hnf2 : nf < 65536 := by rw [hnf.out]; omega
    obtain ⟨a1, n1, cc1, rfl, hn1⟩ := o1.shape'
    go_wp2_with fail
    refine (appendPair_any _ _ _ nf o1 hnf2 (by simp; omega)).mono ?_
    rintro e w2 ⟨v2, rfl, o2, k2, s2⟩
    have kw2 : Kp (From B0) w w2 := kw1.trans (k2.mono (fun k _ e => nb1 k e))
    have nb2 : ∀ g, v2.ownBlock = some g → B0 ≤ g := fun g hg => by
      rcases sep_new s2 hg with e | e
      · exact nb1 g e
      · have := kw1.size; have := h.hB; have := h.lt; omega
    go_wp2_with (at_builtin; go_must (refine wpList_append_b _ rfl _ _ 9 rfl _ _ rfl o2 _ rfl _ Pl.mark (src_string _ _) (by simp [ByteArray.size]; omega) ?_); intro v3 w3 o3 k3 s3; obtain ⟨a3, n3, cc3, rfl, hn3⟩ := o3.shape'; have hconv := run_string_b _ _ _ o3 (by simp; omega))
    all_goals
      have kw3 : Kp (From B0) w w3 := kw2.trans (k3.mono (fun k _ e => nb2 k e))
      have hwh : ps ++ fs ++ [UInt8.ofNat (nf / 256), UInt8.ofNat (nf % 256)] ++ Pl.mark = Pl.whole (ps, fs) := by rw [hnf.out]; rfl
      have hn := hn3.out
      rw [hwh] at hn
    · rw [Pl.sealed_gt _ (by omega)]
      go_ret2
      exact ⟨rfl, kw3⟩
    · rw [Pl.sealed_le _ (by omega), ← hwh]
      go_ret2
      exact ⟨by simp, kw3⟩
end Go.Proofs.YthicgffppmbamaaGreat
