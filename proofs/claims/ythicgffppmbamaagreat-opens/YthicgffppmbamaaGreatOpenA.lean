/- Arguments, opened: lists of numbers and of texts. -/
import Derived.Test.YthicgffppmbamaaGreatRead
import Derived.Deep.Slices
import Derived.SizedLaws
import Derived.ProofKit
namespace Go.Proofs.YthicgffppmbamaaGreat
open Go.RowKit Go.ChangeShapes Go.WideShapes Go.Deep

section
variable {H : Type} {enc : TypeId × Value → H} {W : World}

/-- each slice in it takes no more than the reach -/
def FitsIn (t : TypeId) (d : DataW H) : Prop := ∀ n ∈ d.weights Tryz.prog t, n ≤ reachBytes
theorem weightsAll_mem {e : TypeId} {l : List (DataW H)} {d : DataW H} (h : d ∈ l) {n : Nat} (hn : n ∈ d.weights Tryz.prog e) : n ∈ DataW.weightsAll Tryz.prog e l := by
  induction l with
  | nil => cases h
  | cons x r ih =>
    simp only [DataW.weightsAll, List.mem_append]
    cases List.mem_cons.1 h with
    | inl e => subst e; exact .inl hn
    | inr e => exact .inr (ih e)
theorem FitsIn.slice {t e : TypeId} {elems spare : List (DataW H)} (hu : Tryz.prog.underlying t = some (.slice e)) (h : FitsIn t (.slice elems spare)) : (elems.length + spare.length) * Tryz.prog.bytesOf e ≤ reachBytes ∧ ∀ d ∈ elems, FitsIn e d := by
  refine ⟨h _ (by simp [DataW.weights, hu]), fun d hd n hn => h n ?_⟩
  simp only [DataW.weights, hu, List.mem_cons, List.mem_append]
  exact .inr (.inl (weightsAll_mem hd hn))

/-- a slice whose elements are one cell each -/
theorem rd_open {t e : TypeId} {bytes : Nat} (ht : Tryz.prog.underlying t = some (.slice e)) (hc : Tryz.prog.cellsOf e = 1) (hb : Tryz.prog.bytesOf e = bytes) (hb8 : 8 ≤ bytes) {fuel : Nat} {v : Value} {d : DataW H} {pl : List MemPlace}
    (h : DataW.trod enc Tryz.prog W 0 (fun _ => true) true fuel t [v] = some (d, pl)) (hf : FitsIn t d) :
    ∃ vs : List Value, Rd W.heap.size W v vs ∧ vs.length * bytes ≤ reachBytes ∧ ∃ n, ∀ u ∈ vs, ∃ x : DataW H × List MemPlace, DataW.trod enc Tryz.prog W 0 (fun _ => true) true n e [u] = some x ∧ FitsIn e x.1 := by
  rcases open_slice1 ht hc h with ⟨hcs, _⟩ | ⟨a, len, cap, m, n, V, D, Pl, hcs, _, hl, _, hm, hx, he⟩
  · simp only [List.cons.injEq, and_true] at hcs
    subst hcs
    exact ⟨[], ⟨none, 0, rfl, Nat.le_refl _, by omega, fun h => absurd h (by simp)⟩, by simp, 0, fun u hu => by cases hu⟩
  · simp only [List.cons.injEq, and_true] at hcs
    subst hcs
    simp only [if_true] at hm
    rw [hm] at hx he
    clear hm
    simp only [Prod.mk.injEq] at hx
    obtain ⟨rfl, _⟩ := hx
    have hsz := hf.slice ht
    simp only [List.length_map, List.length_range, hb] at hsz
    have hcap : cap * bytes ≤ reachBytes := by have := hsz.1; rwa [show len + (cap - len) = cap by omega] at this
    have hcap2 : cap ≤ 17592186044416 := by
      have h1 : cap * 8 ≤ cap * bytes := Nat.mul_le_mul_left _ hb8
      have : reachBytes = 140737488351232 := rfl
      omega
    refine ⟨(List.range len).map V, ⟨some a, cap, by simp, by simpa using hl, hcap2, fun hp => ?_⟩, ?_, n, fun u hu => ?_⟩
    · simp only [List.length_map, List.length_range] at hp
      have h0 := (he 0 (by omega)).1
      obtain ⟨b, off, spot⟩ := a
      have hspot : spot = none := by
        have := World.cell?_spot h0
        simpa [Addr.add] using this
      subst hspot
      refine ⟨b, off, rfl, ?_, fun j hj => ?_⟩
      · have := World.block_lt_of_cell? _ _ h0
        simpa [Addr.add] using this
      · simp only [List.length_map, List.length_range] at hj
        have := (he j (by omega)).1
        rw [Addr.add_lit] at this
        rw [this]
        simp [hj]
    · simp only [List.length_map, List.length_range]
      exact Nat.le_trans (Nat.mul_le_mul_right _ hl) hcap
    · obtain ⟨i, hi, rfl⟩ := List.mem_map.1 hu
      rw [List.mem_range] at hi
      exact ⟨_, (he i (by omega)).2, hsz.2 _ (List.mem_map.2 ⟨i, List.mem_range.2 hi, rfl⟩)⟩

theorem reach_eq : reachBytes = 140737488351232 := rfl
theorem bytes3 : Tryz.prog.bytesOf 3 = 8 := by kernel_rfl
theorem bytes9 : Tryz.prog.bytesOf 9 = 16 := by kernel_rfl
theorem bytes34 : Tryz.prog.bytesOf 46 = 24 := by kernel_rfl
theorem bytes35 : Tryz.prog.bytesOf 51 = 24 := by kernel_rfl
theorem bytes27 : Tryz.prog.bytesOf 42 = 48 := by kernel_rfl
theorem cells3 : Tryz.prog.cellsOf 3 = 1 := by kernel_rfl
theorem cells9 : Tryz.prog.cellsOf 9 = 1 := by kernel_rfl
theorem cells34 : Tryz.prog.cellsOf 46 = 1 := by kernel_rfl
theorem cells35 : Tryz.prog.cellsOf 51 = 1 := by kernel_rfl
theorem cells24 : Tryz.prog.cellsOf 22 = 1 := by kernel_rfl
theorem cells25 : Tryz.prog.cellsOf 40 = 1 := by kernel_rfl
theorem cells27 : Tryz.prog.cellsOf 42 = 2 := by kernel_rfl

def strOf : Value → ByteArray
  | .string s => s
  | _ => ByteArray.empty

theorem rdI_open {fuel : Nat} {v : Value} {d : DataW H} {pl : List MemPlace} (h : DataW.trod enc Tryz.prog W 0 (fun _ => true) true fuel 46 [v] = some (d, pl)) (hf : FitsIn 46 d) : ∃ xs : List Int, RdI W.heap.size W v xs ∧ xs.length ≤ 17592186043904 := by
  obtain ⟨vs, hr, hl, n, he⟩ := rd_open Tryz.underlying46 cells3 bytes3 (by omega) h hf
  have e : vs = (vs.map intOf).map I := by
    rw [List.map_map]
    conv => lhs; rw [← List.map_id vs]
    refine List.map_congr_left (fun u hu => ?_)
    obtain ⟨x, hx, _⟩ := he u hu
    obtain ⟨k, hk, _⟩ := DataW.trod_int Tryz.underlying3 hx
    simp only [List.cons.injEq, and_true] at hk
    subst hk
    rfl
  refine ⟨vs.map intOf, by unfold RdI; rw [← e]; exact hr, ?_⟩
  rw [List.length_map]
  rw [reach_eq] at hl
  omega
theorem rdS_open {fuel : Nat} {v : Value} {d : DataW H} {pl : List MemPlace} (h : DataW.trod enc Tryz.prog W 0 (fun _ => true) true fuel 22 [v] = some (d, pl)) (hf : FitsIn 22 d) : ∃ ss : List ByteArray, RdS W.heap.size W v ss ∧ ss.length ≤ 8796093021952 := by
  obtain ⟨vs, hr, hl, n, he⟩ := rd_open Tryz.underlying22 cells9 bytes9 (by omega) h hf
  have e : vs = (vs.map strOf).map Value.string := by
    rw [List.map_map]
    conv => lhs; rw [← List.map_id vs]
    refine List.map_congr_left (fun u hu => ?_)
    obtain ⟨x, hx, _⟩ := he u hu
    obtain ⟨k, hk, _⟩ := DataW.trod_string Tryz.underlying9 hx
    simp only [List.cons.injEq, and_true] at hk
    subst hk
    rfl
  refine ⟨vs.map strOf, by unfold RdS; rw [← e]; exact hr, ?_⟩
  rw [List.length_map]
  rw [reach_eq] at hl
  omega

end
end Go.Proofs.YthicgffppmbamaaGreat
