/- Lists that are read, in a block of which something is known. -/
import Derived.Test.YthicgffppmbamaaGreatRead
namespace Go.Proofs.YthicgffppmbamaaGreat
open Go.RowKit

/-- v is a slice of elements of one cell each, cs, in a block with C -/
def RdP (C : Nat → Prop) (w : World) (v : Value) (cs : List Value) : Prop :=
  ∃ ao cap, v = .slice ao cs.length cap ∧ cs.length ≤ cap ∧ cap ≤ 17592186044416 ∧ (0 < cs.length → ∃ b off, ao = some ⟨b, off, none⟩ ∧ C b ∧ ∀ j, j < cs.length → w.cell? ⟨b, off + j, none⟩ = cs[j]?)

theorem RdP.kept {C : Nat → Prop} {S : Nat → Prop} {w w' : World} {v : Value} {cs : List Value} (h : RdP C w v cs) (k : Kp S w w') (hS : ∀ i, C i → ¬ S i) : RdP C w' v cs := by
  obtain ⟨ao, cap, rfl, h1, h2, h3⟩ := h
  refine ⟨ao, cap, rfl, h1, h2, fun hp => ?_⟩
  obtain ⟨b, off, rfl, hb, hc⟩ := h3 hp
  refine ⟨b, off, rfl, hb, fun j hj => ?_⟩
  have := hc j hj
  rw [List.getElem?_eq_getElem hj] at this ⊢
  exact k.cell this (hS b hb)
theorem RdP.mono {C C' : Nat → Prop} {w : World} {v : Value} {cs : List Value} (h : RdP C w v cs) (hC : ∀ b, b < w.heap.size → C b → C' b) : RdP C' w v cs := by
  obtain ⟨ao, cap, rfl, h1, h2, h3⟩ := h
  refine ⟨ao, cap, rfl, h1, h2, fun hp => ?_⟩
  obtain ⟨b, off, rfl, hb, hc⟩ := h3 hp
  refine ⟨b, off, rfl, hC b ?_ hb, hc⟩
  have := hc 0 hp
  rw [List.getElem?_eq_getElem hp] at this
  simpa using World.block_lt_of_cell? _ _ this
theorem RdP.rd {C : Nat → Prop} {w : World} {v : Value} {cs : List Value} (h : RdP C w v cs) : Rd w.heap.size w v cs := h.mono (C' := fun b => b < w.heap.size) (fun _ hb _ => hb)
theorem Rd.rdP {B : Nat} {w : World} {v : Value} {cs : List Value} (h : Rd B w v cs) : RdP (fun b => b < B) w v cs := h
theorem RdP.nil (C : Nat → Prop) (w : World) : RdP C w (.slice none 0 0) [] := ⟨none, 0, rfl, Nat.le_refl _, by omega, fun h => absurd h (by simp)⟩

theorem RdP.drop {C : Nat → Prop} {w : World} {b off L cap q : Nat} {cs : List Value} (h : RdP C w (.slice (some ⟨b, off, none⟩) L cap) cs) (hL : cs.length = L) (hq : q ≤ L) :
    RdP C w (.slice (if cap = q then some ⟨b, off, none⟩ else some ⟨b, off + q, none⟩) (L - q) (cap - q)) (cs.drop q) := by
  obtain ⟨ao, cap', e, h1, h2, h3⟩ := h
  simp only [Value.slice.injEq] at e
  obtain ⟨rfl, _, rfl⟩ := e
  refine ⟨_, cap - q, by rw [List.length_drop, hL], by rw [List.length_drop]; omega, by omega, fun hp => ?_⟩
  rw [List.length_drop] at hp
  obtain ⟨b', off', e, hb, hc⟩ := h3 (by omega)
  simp only [Option.some.injEq, Addr.mk.injEq] at e
  obtain ⟨rfl, rfl, _⟩ := e
  refine ⟨b, off + q, by rw [if_neg (by omega)], hb, fun j hj => ?_⟩
  rw [List.length_drop] at hj
  rw [Nat.add_assoc, hc (q + j) (by omega), List.getElem?_drop]
theorem RdP.take {C : Nat → Prop} {w : World} {ao : Option Addr} {L cap q : Nat} {cs : List Value} (h : RdP C w (.slice ao L cap) cs) (hL : cs.length = L) (hq : q ≤ L) : RdP C w (.slice ao q cap) (cs.take q) := by
  obtain ⟨ao', cap', e, h1, h2, h3⟩ := h
  simp only [Value.slice.injEq] at e
  obtain ⟨rfl, _, rfl⟩ := e
  have hl : (cs.take q).length = q := by rw [List.length_take]; omega
  refine ⟨ao, cap, by rw [hl], by omega, h2, fun hp => ?_⟩
  obtain ⟨b', off', e, hb, hc⟩ := h3 (by omega)
  refine ⟨b', off', e, hb, fun j hj => ?_⟩
  rw [hc j (by omega), List.getElem?_take_of_lt (by omega)]

/-- bytes that are read -/
abbrev RdB (C : Nat → Prop) (w : World) (v : Value) (bs : List UInt8) : Prop := RdP C w v (bs.map B)
theorem RdB.open {C : Nat → Prop} {w : World} {v : Value} {bs : List UInt8} (h : RdB C w v bs) : ∃ ao cap, v = .slice ao bs.length cap ∧ bs.length ≤ cap ∧ cap ≤ 17592186044416 ∧
    (0 < bs.length → ∃ b off, ao = some ⟨b, off, none⟩ ∧ C b ∧ ∀ j, j < bs.length → w.cell? ⟨b, off + j, none⟩ = some (.int .u8 ((bs.getD j 0).toNat))) := by
  obtain ⟨ao, cap, rfl, h1, h2, h3⟩ := h
  simp only [List.length_map] at h1 h3 ⊢
  refine ⟨ao, cap, rfl, h1, h2, fun hp => ?_⟩
  obtain ⟨b, off, rfl, hb, hc⟩ := h3 hp
  exact ⟨b, off, rfl, hb, fun j hj => by rw [hc j hj]; simp [B, List.getElem?_eq_getElem hj]⟩
theorem OwnB.rdB {w : World} {v : Value} {bs : List UInt8} (h : OwnB w v bs) (hl : bs.length ≤ 100000) (C : Nat → Prop) (hC : ∀ g, v.ownBlock = some g → C g) : RdB C w (match v with | .slice a n c => .slice a n (min c 17592186044416) | x => x) bs := by
  rcases h with ⟨rfl, rfl⟩ | ⟨g, cap, rfl, h1, h2, h3, h4, _⟩
  · exact RdP.nil C w
  · refine ⟨_, _, by simp only [List.length_map]; rfl, by simp only [List.length_map]; omega, by omega, fun _ => ⟨g, 0, rfl, hC g rfl, fun j hj => ?_⟩⟩
    simp only [List.length_map] at hj
    rw [Nat.zero_add]; exact h4 j hj

end Go.Proofs.YthicgffppmbamaaGreat
