/- Package file: the writer. -/
import Derived.Test.YthicgffppmbamaaGreatPageWrite
import Derived.Deep.RegionWith
import Derived.Deep.DeepCutAuto
namespace Go.Proofs.YthicgffppmbamaaGreat
open Go.RowKit

/-- A writer at block p: its two rows, of its own, from B on. -/
structure Wr (B p : Nat) (w : World) (pv fv : Value) (ps fs : List UInt8) : Prop where
  hB : B ≤ p
  blk : w.heap[p]? = some (.cells #[pv, fv] 156 (0, 0))
  op : OwnB w pv ps
  of : OwnB w fv fs
  bp : ∀ g, pv.ownBlock = some g → B ≤ g ∧ g ≠ p
  bf : ∀ g, fv.ownBlock = some g → B ≤ g ∧ g ≠ p
  ne : ∀ g, pv.ownBlock = some g → fv.ownBlock ≠ some g

theorem Wr.cell0 {B p : Nat} {w : World} {pv fv : Value} {ps fs : List UInt8} (h : Wr B p w pv fv ps fs) : w.cell? ⟨p, 0, none⟩ = some pv := by simp [World.cell?, h.blk]
theorem Wr.cell1 {B p : Nat} {w : World} {pv fv : Value} {ps fs : List UInt8} (h : Wr B p w pv fv ps fs) : w.cell? ⟨p, 1, none⟩ = some fv := by simp [World.cell?, h.blk]
theorem Wr.free {B p : Nat} {w : World} {pv fv : Value} {ps fs : List UInt8} (h : Wr B p w pv fv ps fs) (j : Nat) : w.frozen? ⟨p, j, none⟩ = false := by simp [World.frozen?, h.blk]

theorem Wr.lt {B p : Nat} {w : World} {pv fv : Value} {ps fs : List UInt8} (h : Wr B p w pv fv ps fs) : p < w.heap.size := lt_of_block h.blk
theorem Wr.kept {S : Nat → Prop} {B p : Nat} {w w' : World} {pv fv : Value} {ps fs : List UInt8} (h : Wr B p w pv fv ps fs) (k : Kp S w w') (hp : ¬ S p) (h1 : ∀ g, pv.ownBlock = some g → ¬ S g) (h2 : ∀ g, fv.ownBlock = some g → ¬ S g) : Wr B p w' pv fv ps fs :=
  ⟨h.hB, by rw [k.block p h.lt hp]; exact h.blk, h.op.kept k h1, h.of.kept k h2, h.bp, h.bf, h.ne⟩
theorem Wr.ext {B p : Nat} {w w' : World} {pv fv : Value} {ps fs : List UInt8} (h : Wr B p w pv fv ps fs) (k : Ext w w') : Wr B p w' pv fv ps fs := h.kept k id (fun _ _ => id) (fun _ _ => id)
theorem ext_drew (w : World) : Ext w w.drew := (Kp.refl _ _).drew
theorem Wr.drew {B p : Nat} {w : World} {pv fv : Value} {ps fs : List UInt8} (h : Wr B p w pv fv ps fs) : Wr B p w.drew pv fv ps fs := h.ext (ext_drew w)
theorem heap_set1 {w : World} {p : Nat} {a b v : Value} {t : TypeId} (h : w.heap[p]? = some (.cells #[a, b] t (0, 0))) : (w.setCell ⟨p, 1, none⟩ v).heap[p]? = some (.cells #[a, v] t (0, 0)) := by
  simp only [World.setCell, Array.getElem?_modify, h]
  simp
theorem heap_set0 {w : World} {p : Nat} {a b v : Value} {t : TypeId} (h : w.heap[p]? = some (.cells #[a, b] t (0, 0))) : (w.setCell ⟨p, 0, none⟩ v).heap[p]? = some (.cells #[v, b] t (0, 0)) := by
  simp only [World.setCell, Array.getElem?_modify, h]
  simp
theorem sep_new {w : World} {v v1 : Value} (s : Sep w v v1) {g : Nat} (hg : v1.ownBlock = some g) : v.ownBlock = some g ∨ w.heap.size ≤ g := by
  rcases s with s | ⟨g', h1, h2⟩
  · exact .inl (s ▸ hg)
  · rw [h1] at hg; simp at hg; exact .inr (by omega)
theorem kp_set (w : World) (p j : Nat) (v : Value) : Kp (fun k => k = p) w (w.setCell ⟨p, j, none⟩ v) := Kp.setCell (S := fun k => k = p) (p := ⟨p, j, none⟩) (Kp.refl _ _) (.inl rfl) v

/-- the footer has grown -/
theorem Wr.growF {B p : Nat} {w w1 : World} {pv fv v1 : Value} {ps fs fs' : List UInt8} (h : Wr B p w pv fv ps fs) (k1 : Kp (Of fv) w w1) (s1 : Sep w fv v1) (o1 : OwnB w1 v1 fs') :
    Wr B p (w1.setCell ⟨p, 1, none⟩ v1) pv v1 ps fs' ∧ Kp (From B) w (w1.setCell ⟨p, 1, none⟩ v1) := by
  have hlt := h.lt
  have hb1 : w1.heap[p]? = some (.cells #[pv, fv] 156 (0, 0)) := by rw [k1.block p hlt (fun e => (h.bf p e).2 rfl)]; exact h.blk
  have nb : ∀ g, v1.ownBlock = some g → B ≤ g ∧ g ≠ p ∧ pv.ownBlock ≠ some g := fun g hg => by
    rcases sep_new s1 hg with e | e
    · exact ⟨(h.bf g e).1, (h.bf g e).2, fun e' => h.ne g e' e⟩
    · exact ⟨by have := h.hB; omega, by omega, fun e' => by have := h.op.lt e'; omega⟩
  refine ⟨⟨h.hB, heap_set1 hb1, ?_, ?_, h.bp, fun g hg => ⟨(nb g hg).1, (nb g hg).2.1⟩, fun g hg e => (nb g e).2.2 hg⟩, ?_⟩
  · exact (h.op.kept k1 (fun g hg e => h.ne g hg e)).kept (kp_set _ _ _ _) (fun g hg => (h.bp g hg).2)
  · exact o1.kept (kp_set _ _ _ _) (fun g hg => (nb g hg).2.1)
  · exact (k1.mono (fun k _ e => (h.bf k e).1)).setCell (.inl h.hB) v1
theorem Wr.growP {B p : Nat} {w w1 : World} {pv fv v1 : Value} {ps fs ps' : List UInt8} (h : Wr B p w pv fv ps fs) (k1 : Kp (Of pv) w w1) (s1 : Sep w pv v1) (o1 : OwnB w1 v1 ps') :
    Wr B p (w1.setCell ⟨p, 0, none⟩ v1) v1 fv ps' fs ∧ Kp (From B) w (w1.setCell ⟨p, 0, none⟩ v1) := by
  have hlt := h.lt
  have hb1 : w1.heap[p]? = some (.cells #[pv, fv] 156 (0, 0)) := by rw [k1.block p hlt (fun e => (h.bp p e).2 rfl)]; exact h.blk
  have nb : ∀ g, v1.ownBlock = some g → B ≤ g ∧ g ≠ p ∧ fv.ownBlock ≠ some g := fun g hg => by
    rcases sep_new s1 hg with e | e
    · exact ⟨(h.bp g e).1, (h.bp g e).2, h.ne g e⟩
    · exact ⟨by have := h.hB; omega, by omega, fun e' => by have := h.of.lt e'; omega⟩
  refine ⟨⟨h.hB, heap_set0 hb1, ?_, ?_, fun g hg => ⟨(nb g hg).1, (nb g hg).2.1⟩, h.bf, fun g hg => (nb g hg).2.2⟩, ?_⟩
  · exact o1.kept (kp_set _ _ _ _) (fun g hg => (nb g hg).2.1)
  · exact (h.of.kept k1 (fun g hg e => h.ne g e hg)).kept (kp_set _ _ _ _) (fun g hg => (h.bf g hg).2)
  · exact (k1.mono (fun k _ e => (h.bp k e).1)).setCell (.inl h.hB) v1
/-- what the walk asks of the world behind an append onto the footer -/
theorem Wr.midF {B p : Nat} {w w1 : World} {pv fv : Value} {ps fs : List UInt8} (h : Wr B p w pv fv ps fs) (k1 : Kp (Of fv) w w1) : w1.cell? ⟨p, 0, none⟩ = some pv ∧ w1.cell? ⟨p, 1, none⟩ = some fv ∧ w1.frozen? ⟨p, 0, none⟩ = false ∧ w1.frozen? ⟨p, 1, none⟩ = false := by
  have hb1 : w1.heap[p]? = some (.cells #[pv, fv] 156 (0, 0)) := by rw [k1.block p h.lt (fun e => (h.bf p e).2 rfl)]; exact h.blk
  simp [World.cell?, World.frozen?, hb1]
theorem Wr.midP {B p : Nat} {w w1 : World} {pv fv : Value} {ps fs : List UInt8} (h : Wr B p w pv fv ps fs) (k1 : Kp (Of pv) w w1) : w1.cell? ⟨p, 0, none⟩ = some pv ∧ w1.cell? ⟨p, 1, none⟩ = some fv ∧ w1.frozen? ⟨p, 0, none⟩ = false ∧ w1.frozen? ⟨p, 1, none⟩ = false := by
  have hb1 : w1.heap[p]? = some (.cells #[pv, fv] 156 (0, 0)) := by rw [k1.block p h.lt (fun e => (h.bp p e).2 rfl)]; exact h.blk
  simp [World.cell?, World.frozen?, hb1]

theorem src_own {w : World} {d : Value} {ds : List UInt8} (h : OwnB w d ds) : Src Tryz.prog 1 76 d ds.length (ds.map B) w := by
  rcases h with ⟨rfl, rfl⟩ | ⟨g, cap, rfl, _, _, _, h4, _⟩
  · exact Src.ofNil (P := Tryz.prog) w (e' := 5) Tryz.underlying76 0
  · exact Src.ofSlice (P := Tryz.prog) w (e' := 5) Tryz.underlying76 _ _ _ _ (by simp) (fun j u hu => by
      have hj := (List.getElem?_eq_some_iff.1 hu).1
      simp at hj
      rw [Addr.add_lit, Nat.zero_add, h4 j hj]; exact hu) (B_one _)

set_option maxRecDepth 20000 in
set_option maxHeartbeats 2000000 in
theorem addPage_any (B0 p : Nat) (w : World) (pv fv d : Value) (ps fs ds : List UInt8) (h : Wr B0 p w pv fv ps fs) (hd : OwnB w d ds) (hne : 0 < ds.length) (hdb : ∀ g, d.ownBlock = some g → g ≠ p ∧ pv.ownBlock ≠ some g ∧ fv.ownBlock ≠ some g) (hps : ps.length ≤ 5000) (hfs : fs.length ≤ 5000) (hds : ds.length ≤ 200) :
    Calls Tryz.prog 113 #[.pointer (some ⟨p, 0, none⟩), d] w fun e w' => e = .returned (.tuple #[]) ∧ ∃ pv' fv', Wr B0 p w' pv' fv' (ps ++ ds) (fs ++ Pl.vint ps.length ++ Pl.vint ds.length ++ Pl.sum4 ds) ∧ Kp (From B0) w w' := by
  have c0 := h.cell0
  have c1 := h.cell1
  have f0 := h.free 0
  have f1 := h.free 1
  obtain ⟨pa, pc, rfl⟩ := h.op.shape
  obtain ⟨fa, fc, rfl⟩ := h.of.shape
  obtain ⟨da, dc, rfl⟩ := hd.shape
  go_enter Tryz.func113, Tryz.ntmps113
  go_wp2_with fail
  go_region_with (go_at_call 97; go_must (refine (appendVarint_any _ _ _ _ h.drew.of (by omega) (by omega) (by omega)).mono ?_); rintro e w1 ⟨v1, rfl, o1, k1, s1⟩; obtain ⟨c10, c11, f10, f11⟩ := h.drew.midF k1; obtain ⟨a1, n1, cc1, rfl, hn1⟩ := o1.shape')
  all_goals
    obtain ⟨h1, kk1⟩ := h.drew.growF k1 s1 o1
    have hd1 := (hd.ext (ext_drew w)).kept k1 (fun g hg e => (hdb g hg).2.2 e) |>.kept (kp_set _ p 1 (.slice a1 n1 cc1)) (fun g hg => (hdb g hg).1)
    clear c10 c11 f10 f11 c0 c1 f0 f1
    generalize w1.setCell _ _ = W1 at *
    have c0 := h1.cell0
    have c1 := h1.cell1
    have hl1 := Pl.vint_len 2 ps.length (by simp; omega)
    have hl2 := Pl.vint_len 2 ds.length (by simp; omega)
    have hl3 := Pl.sum4_len ds
    simp only [Int.toNat_natCast] at h1 o1 hn1
    go_wp2_with fail
    refine (appendVarint_any _ _ _ _ h1.of (by omega) (by omega) (by simp; omega)).mono ?_
    rintro e w2 ⟨v2, rfl, o2, k2, s2⟩
    obtain ⟨m0, m1, m2, m3⟩ := h1.midF k2
    obtain ⟨a2, n2, cc2, rfl, hn2⟩ := o2.shape'
    obtain ⟨h2, kk2⟩ := h1.growF k2 s2 o2
    have db1 : ∀ g, (Value.slice da ds.length dc).ownBlock = some g → (Value.slice a1 n1 cc1).ownBlock ≠ some g := fun g hg e => by
      rcases sep_new s1 e with e' | e'
      · exact (hdb g hg).2.2 e'
      · have := hd.lt hg; have : w.drew.heap.size = w.heap.size := rfl; omega
    have hd2 := hd1.kept k2 (fun g hg e => db1 g hg e) |>.kept (kp_set _ p 1 (.slice a2 n2 cc2)) (fun g hg => (hdb g hg).1)
    go_wp2_with fail
    clear m0 m1 m2 m3 c0 c1
    generalize w2.setCell _ _ = W2 at *
    refine (appendSum_any _ _ _ _ ds h2.of hd2 hne (by simp; omega) (by omega)).mono ?_
    simp only [Int.toNat_natCast] at *
    rintro e w3 ⟨v3, rfl, o3, k3, s3⟩
    obtain ⟨m0, m1, m2, m3⟩ := h2.midF k3
    obtain ⟨a3, n3, cc3, rfl, hn3⟩ := o3.shape'
    obtain ⟨h3, kk3⟩ := h2.growF k3 s3 o3
    have db2 : ∀ g, (Value.slice da ds.length dc).ownBlock = some g → (Value.slice a2 n2 cc2).ownBlock ≠ some g := fun g hg e => by
      rcases sep_new s2 e with e' | e'
      · exact db1 g hg e'
      · have := hd1.lt hg; omega
    have hd3 := hd2.kept k3 (fun g hg e => db2 g hg e) |>.kept (kp_set _ p 1 (.slice a3 n3 cc3)) (fun g hg => (hdb g hg).1)
    go_wp2_with (at_builtin; go_must (refine wpList_append_b _ rfl _ _ 76 rfl _ _ rfl h3.op _ rfl _ ds (src_own hd3) (by omega) ?_); intro v4 w4 o4 k4 s4; obtain ⟨q0, q1, q2, q3⟩ := h3.midP k4; obtain ⟨a4, n4, cc4, rfl, hn4⟩ := o4.shape')
    go_end0
    obtain ⟨h4, kk4⟩ := h3.growP k4 s4 o4
    exact ⟨rfl, _, _, h4, (Kp.of_ext (ext_drew w)).trans ((kk1.trans kk2).trans (kk3.trans kk4))⟩
end Go.Proofs.YthicgffppmbamaaGreat
