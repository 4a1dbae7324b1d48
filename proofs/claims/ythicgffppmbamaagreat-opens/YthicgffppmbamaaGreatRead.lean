/- Lists that are read. -/
import Derived.Test.YthicgffppmbamaaGreatBase
namespace Go.Proofs.YthicgffppmbamaaGreat
open Go.RowKit

/-- v is a slice whose elements are the cells cs, in a block below B -/
def Rd (B : Nat) (w : World) (v : Value) (cs : List Value) : Prop :=
  ∃ ao cap, v = .slice ao cs.length cap ∧ cs.length ≤ cap ∧ cap ≤ 17592186044416 ∧ (0 < cs.length → ∃ b off, ao = some ⟨b, off, none⟩ ∧ b < B ∧ ∀ j, j < cs.length → w.cell? ⟨b, off + j, none⟩ = cs[j]?)

theorem Rd.kept {B : Nat} {S : Nat → Prop} {w w' : World} {v : Value} {cs : List Value} (h : Rd B w v cs) (k : Kp S w w') (hS : ∀ i, S i → B ≤ i) : Rd B w' v cs := by
  obtain ⟨ao, cap, rfl, h1, h2, h3⟩ := h
  refine ⟨ao, cap, rfl, h1, h2, fun hp => ?_⟩
  obtain ⟨b, off, rfl, hb, hc⟩ := h3 hp
  refine ⟨b, off, rfl, hb, fun j hj => ?_⟩
  have := hc j hj
  rw [List.getElem?_eq_getElem hj] at this ⊢
  exact k.cell this (fun e => by have := hS _ e; simp at this; omega)
theorem Rd.mono {B B' : Nat} {w : World} {v : Value} {cs : List Value} (h : Rd B w v cs) (hB : B ≤ B') : Rd B' w v cs := by
  obtain ⟨ao, cap, rfl, h1, h2, h3⟩ := h
  exact ⟨ao, cap, rfl, h1, h2, fun hp => let ⟨b, off, e, hb, hc⟩ := h3 hp; ⟨b, off, e, by omega, hc⟩⟩

theorem Rd.drop {B : Nat} {w : World} {b off L cap q : Nat} {cs : List Value} (h : Rd B w (.slice (some ⟨b, off, none⟩) L cap) cs) (hL : cs.length = L) (hq : q ≤ L) :
    Rd B w (.slice (if cap = q then some ⟨b, off, none⟩ else some ⟨b, off + q, none⟩) (L - q) (cap - q)) (cs.drop q) := by
  obtain ⟨ao, cap', e, h1, h2, h3⟩ := h
  simp only [Value.slice.injEq] at e
  obtain ⟨rfl, _, rfl⟩ := e
  refine ⟨_, cap - q, by rw [List.length_drop, hL], by rw [List.length_drop]; omega, by omega, fun hp => ?_⟩
  rw [List.length_drop] at hp
  obtain ⟨b', off', e, hb, hc⟩ := h3 (by omega)
  simp only [Option.some.injEq, Addr.mk.injEq] at e
  obtain ⟨rfl, rfl, _⟩ := e
  refine ⟨b, off + q, by rw [if_neg (by omega)], hb, fun j hj => ?_⟩
  rw [List.length_drop] at hj
  rw [Nat.add_assoc, hc (q + j) (by omega), List.getElem?_drop]

theorem Rd.take {B : Nat} {w : World} {ao : Option Addr} {L cap q : Nat} {cs : List Value} (h : Rd B w (.slice ao L cap) cs) (hL : cs.length = L) (hq : q ≤ L) : Rd B w (.slice ao q cap) (cs.take q) := by
  obtain ⟨ao', cap', e, h1, h2, h3⟩ := h
  simp only [Value.slice.injEq] at e
  obtain ⟨rfl, _, rfl⟩ := e
  have hl : (cs.take q).length = q := by rw [List.length_take]; omega
  refine ⟨ao, cap, by rw [hl], by omega, h2, fun hp => ?_⟩
  obtain ⟨b', off', e, hb, hc⟩ := h3 (by omega)
  refine ⟨b', off', e, hb, fun j hj => ?_⟩
  rw [hc j (by omega), List.getElem?_take_of_lt (by omega)]

def I (x : Int) : Value := .int .i64 x
abbrev RdI (B : Nat) (w : World) (v : Value) (xs : List Int) : Prop := Rd B w v (xs.map I)
abbrev RdS (B : Nat) (w : World) (v : Value) (ss : List ByteArray) : Prop := Rd B w v (ss.map Value.string)

/-- what a walk asks of a list of numbers -/
theorem RdI.open {B : Nat} {w : World} {v : Value} {xs : List Int} (h : RdI B w v xs) : ∃ ao cap, v = .slice ao xs.length cap ∧ xs.length ≤ cap ∧ cap ≤ 17592186044416 ∧
    (0 < xs.length → ∃ b off, ao = some ⟨b, off, none⟩ ∧ b < B ∧ ∀ j, j < xs.length → w.cell? ⟨b, off + j, none⟩ = some (.int .i64 (xs.getD j 0))) := by
  obtain ⟨ao, cap, rfl, h1, h2, h3⟩ := h
  simp only [List.length_map] at h1 h3 ⊢
  refine ⟨ao, cap, rfl, h1, h2, fun hp => ?_⟩
  obtain ⟨b, off, rfl, hb, hc⟩ := h3 hp
  exact ⟨b, off, rfl, hb, fun j hj => by rw [hc j hj]; simp [I, List.getElem?_eq_getElem hj]⟩
theorem RdS.open {B : Nat} {w : World} {v : Value} {xs : List ByteArray} (h : RdS B w v xs) : ∃ ao cap, v = .slice ao xs.length cap ∧ xs.length ≤ cap ∧ cap ≤ 17592186044416 ∧
    (0 < xs.length → ∃ b off, ao = some ⟨b, off, none⟩ ∧ b < B ∧ ∀ j, j < xs.length → w.cell? ⟨b, off + j, none⟩ = some (.string (xs.getD j ByteArray.empty))) := by
  obtain ⟨ao, cap, rfl, h1, h2, h3⟩ := h
  simp only [List.length_map] at h1 h3 ⊢
  refine ⟨ao, cap, rfl, h1, h2, fun hp => ?_⟩
  obtain ⟨b, off, rfl, hb, hc⟩ := h3 hp
  exact ⟨b, off, rfl, hb, fun j hj => by rw [hc j hj]; simp [List.getElem?_eq_getElem hj]⟩

/-- lists of lists -/
def RdII (B : Nat) (w : World) (v : Value) (xss : List (List Int)) : Prop :=
  ∃ vs : List Value, Rd B w v vs ∧ vs.length = xss.length ∧ ∀ (i : Nat) (x : Value) (xs : List Int), vs[i]? = some x → xss[i]? = some xs → RdI B w x xs
def RdIII (B : Nat) (w : World) (v : Value) (gs : List (List (List Int))) : Prop :=
  ∃ vs : List Value, Rd B w v vs ∧ vs.length = gs.length ∧ ∀ (i : Nat) (x : Value) (xs : List (List Int)), vs[i]? = some x → gs[i]? = some xs → RdII B w x xs

theorem RdII.kept {B : Nat} {S : Nat → Prop} {w w' : World} {v : Value} {xss : List (List Int)} (h : RdII B w v xss) (k : Kp S w w') (hS : ∀ i, S i → B ≤ i) : RdII B w' v xss := by
  obtain ⟨vs, h1, h2, h3⟩ := h
  exact ⟨vs, h1.kept k hS, h2, fun i x xs a b => (h3 i x xs a b).kept k hS⟩
theorem RdIII.kept {B : Nat} {S : Nat → Prop} {w w' : World} {v : Value} {xss : List (List (List Int))} (h : RdIII B w v xss) (k : Kp S w w') (hS : ∀ i, S i → B ≤ i) : RdIII B w' v xss := by
  obtain ⟨vs, h1, h2, h3⟩ := h
  exact ⟨vs, h1.kept k hS, h2, fun i x xs a b => (h3 i x xs a b).kept k hS⟩
theorem RdII.mono {B B' : Nat} {w : World} {v : Value} {xss : List (List Int)} (h : RdII B w v xss) (hB : B ≤ B') : RdII B' w v xss := by
  obtain ⟨vs, h1, h2, h3⟩ := h
  exact ⟨vs, h1.mono hB, h2, fun i x xs a b => (h3 i x xs a b).mono hB⟩
theorem RdIII.mono {B B' : Nat} {w : World} {v : Value} {xss : List (List (List Int))} (h : RdIII B w v xss) (hB : B ≤ B') : RdIII B' w v xss := by
  obtain ⟨vs, h1, h2, h3⟩ := h
  exact ⟨vs, h1.mono hB, h2, fun i x xs a b => (h3 i x xs a b).mono hB⟩

/-- what a walk asks of a list of lists: the i-th is some slice, and it reads -/
theorem RdII.open {B : Nat} {w : World} {v : Value} {xss : List (List Int)} (h : RdII B w v xss) : ∃ ao cap, v = .slice ao xss.length cap ∧ xss.length ≤ cap ∧ cap ≤ 17592186044416 ∧
    (0 < xss.length → ∃ b off, ao = some ⟨b, off, none⟩ ∧ b < B ∧ ∀ j, j < xss.length → ∃ ai ci, w.cell? ⟨b, off + j, none⟩ = some (.slice ai (xss.getD j []).length ci) ∧ RdI B w (.slice ai (xss.getD j []).length ci) (xss.getD j [])) := by
  obtain ⟨vs, ⟨ao, cap, rfl, h1, h2, h3⟩, h4, h5⟩ := h
  rw [h4] at h1 h3 ⊢
  refine ⟨ao, cap, rfl, h1, h2, fun hp => ?_⟩
  obtain ⟨b, off, rfl, hb, hc⟩ := h3 hp
  refine ⟨b, off, rfl, hb, fun j hj => ?_⟩
  have e1 : vs[j]? = some vs[j] := List.getElem?_eq_getElem (by omega)
  have e2 : xss[j]? = some xss[j] := List.getElem?_eq_getElem hj
  have hr := h5 j _ _ e1 e2
  have hg : xss.getD j [] = xss[j] := by simp [e2]
  rw [hg]
  obtain ⟨ai, ci, hv, _⟩ := hr.open
  refine ⟨ai, ci, ?_, ?_⟩
  · rw [hc j hj, e1, hv]
  · rw [← hv]; exact hr
theorem RdIII.open {B : Nat} {w : World} {v : Value} {xss : List (List (List Int))} (h : RdIII B w v xss) : ∃ ao cap, v = .slice ao xss.length cap ∧ xss.length ≤ cap ∧ cap ≤ 17592186044416 ∧
    (0 < xss.length → ∃ b off, ao = some ⟨b, off, none⟩ ∧ b < B ∧ ∀ j, j < xss.length → ∃ ai ci, w.cell? ⟨b, off + j, none⟩ = some (.slice ai (xss.getD j []).length ci) ∧ RdII B w (.slice ai (xss.getD j []).length ci) (xss.getD j [])) := by
  obtain ⟨vs, ⟨ao, cap, rfl, h1, h2, h3⟩, h4, h5⟩ := h
  rw [h4] at h1 h3 ⊢
  refine ⟨ao, cap, rfl, h1, h2, fun hp => ?_⟩
  obtain ⟨b, off, rfl, hb, hc⟩ := h3 hp
  refine ⟨b, off, rfl, hb, fun j hj => ?_⟩
  have e1 : vs[j]? = some vs[j] := List.getElem?_eq_getElem (by omega)
  have e2 : xss[j]? = some xss[j] := List.getElem?_eq_getElem hj
  have hr := h5 j _ _ e1 e2
  have hg : xss.getD j [] = xss[j] := by simp [e2]
  rw [hg]
  obtain ⟨ai, ci, hv, _⟩ := hr.open
  refine ⟨ai, ci, ?_, ?_⟩
  · rw [hc j hj, e1, hv]
  · rw [← hv]; exact hr

end Go.Proofs.YthicgffppmbamaaGreat
