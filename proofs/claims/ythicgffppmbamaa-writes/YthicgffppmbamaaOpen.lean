/- The argument, opened: a list of tables, as the proof reads it. -/
import Derived.Test.YthicgffppmbamaaLaw
import Derived.Deep.Slices
import Derived.SizedLaws
import Derived.ProofKit
namespace Go.Proofs.Ythicgffppmbamaa
open Go.RowKit Go.ChangeShapes Go.WideShapes Go.Deep

section
variable {H : Type} {enc : TypeId × Value → H} {W : World}

/-- each slice in it takes no more than the reach -/
def FitsIn (t : TypeId) (d : DataW H) : Prop := ∀ n ∈ d.weights Try.prog t, n ≤ reachBytes
theorem weightsAll_mem {e : TypeId} {l : List (DataW H)} {d : DataW H} (h : d ∈ l) {n : Nat} (hn : n ∈ d.weights Try.prog e) : n ∈ DataW.weightsAll Try.prog e l := by
  induction l with
  | nil => cases h
  | cons x r ih =>
    simp only [DataW.weightsAll, List.mem_append]
    cases List.mem_cons.1 h with
    | inl e => subst e; exact .inl hn
    | inr e => exact .inr (ih e)
theorem FitsIn.slice {t e : TypeId} {elems spare : List (DataW H)} (hu : Try.prog.underlying t = some (.slice e)) (h : FitsIn t (.slice elems spare)) : (elems.length + spare.length) * Try.prog.bytesOf e ≤ reachBytes ∧ ∀ d ∈ elems, FitsIn e d := by
  refine ⟨h _ (by simp [DataW.weights, hu]), fun d hd n hn => h n ?_⟩
  simp only [DataW.weights, hu, List.mem_cons, List.mem_append]
  exact .inr (.inl (weightsAll_mem hd hn))

/-- a slice whose elements are one cell each -/
theorem rd_open {t e : TypeId} {bytes : Nat} (ht : Try.prog.underlying t = some (.slice e)) (hc : Try.prog.cellsOf e = 1) (hb : Try.prog.bytesOf e = bytes) (hb8 : 8 ≤ bytes) {fuel : Nat} {v : Value} {d : DataW H} {pl : List MemPlace}
    (h : DataW.trod enc Try.prog W 0 (fun _ => true) true fuel t [v] = some (d, pl)) (hf : FitsIn t d) :
    ∃ vs : List Value, Rd W.heap.size W v vs ∧ vs.length * bytes ≤ reachBytes ∧ ∃ n, ∀ u ∈ vs, ∃ x : DataW H × List MemPlace, DataW.trod enc Try.prog W 0 (fun _ => true) true n e [u] = some x ∧ FitsIn e x.1 := by
  rcases open_slice1 ht hc h with ⟨hcs, _⟩ | ⟨a, len, cap, m, n, V, D, Pl, hcs, _, hl, _, hm, hx, he⟩
  · simp only [List.cons.injEq, and_true] at hcs
    subst hcs
    exact ⟨[], ⟨none, 0, rfl, Nat.le_refl _, by omega, fun h => absurd h (by simp)⟩, by simp, 0, fun u hu => by cases hu⟩
  · simp only [List.cons.injEq, and_true] at hcs
    subst hcs
    simp only [if_true] at hm
    rw [hm] at hx he
    clear hm
    simp only [Prod.mk.injEq] at hx
    obtain ⟨rfl, _⟩ := hx
    have hsz := hf.slice ht
    simp only [List.length_map, List.length_range, hb] at hsz
    have hcap : cap * bytes ≤ reachBytes := by have := hsz.1; rwa [show len + (cap - len) = cap by omega] at this
    have hcap2 : cap ≤ 17592186044416 := by
      have h1 : cap * 8 ≤ cap * bytes := Nat.mul_le_mul_left _ hb8
      have : reachBytes = 140737488351232 := rfl
      omega
    refine ⟨(List.range len).map V, ⟨some a, cap, by simp, by simpa using hl, hcap2, fun hp => ?_⟩, ?_, n, fun u hu => ?_⟩
    · simp only [List.length_map, List.length_range] at hp
      have h0 := (he 0 (by omega)).1
      obtain ⟨b, off, spot⟩ := a
      have hspot : spot = none := by
        have := World.cell?_spot h0
        simpa [Addr.add] using this
      subst hspot
      refine ⟨b, off, rfl, ?_, fun j hj => ?_⟩
      · have := World.block_lt_of_cell? _ _ h0
        simpa [Addr.add] using this
      · simp only [List.length_map, List.length_range] at hj
        have := (he j (by omega)).1
        rw [Addr.add_lit] at this
        rw [this]
        simp [hj]
    · simp only [List.length_map, List.length_range]
      exact Nat.le_trans (Nat.mul_le_mul_right _ hl) hcap
    · obtain ⟨i, hi, rfl⟩ := List.mem_map.1 hu
      rw [List.mem_range] at hi
      exact ⟨_, (he i (by omega)).2, hsz.2 _ (List.mem_map.2 ⟨i, List.mem_range.2 hi, rfl⟩)⟩

theorem reach_eq : reachBytes = 140737488351232 := rfl
theorem bytes3 : Try.prog.bytesOf 3 = 8 := by kernel_rfl
theorem bytes9 : Try.prog.bytesOf 9 = 16 := by kernel_rfl
theorem bytes34 : Try.prog.bytesOf 34 = 24 := by kernel_rfl
theorem bytes35 : Try.prog.bytesOf 35 = 24 := by kernel_rfl
theorem bytes27 : Try.prog.bytesOf 27 = 48 := by kernel_rfl
theorem cells3 : Try.prog.cellsOf 3 = 1 := by kernel_rfl
theorem cells9 : Try.prog.cellsOf 9 = 1 := by kernel_rfl
theorem cells34 : Try.prog.cellsOf 34 = 1 := by kernel_rfl
theorem cells35 : Try.prog.cellsOf 35 = 1 := by kernel_rfl
theorem cells24 : Try.prog.cellsOf 24 = 1 := by kernel_rfl
theorem cells25 : Try.prog.cellsOf 25 = 1 := by kernel_rfl
theorem cells27 : Try.prog.cellsOf 27 = 2 := by kernel_rfl

def strOf : Value → ByteArray
  | .string s => s
  | _ => ByteArray.empty

theorem rdI_open {fuel : Nat} {v : Value} {d : DataW H} {pl : List MemPlace} (h : DataW.trod enc Try.prog W 0 (fun _ => true) true fuel 34 [v] = some (d, pl)) (hf : FitsIn 34 d) : ∃ xs : List Int, RdI W.heap.size W v xs ∧ xs.length ≤ 17592186043904 := by
  obtain ⟨vs, hr, hl, n, he⟩ := rd_open Try.underlying34 cells3 bytes3 (by omega) h hf
  have e : vs = (vs.map intOf).map I := by
    rw [List.map_map]
    conv => lhs; rw [← List.map_id vs]
    refine List.map_congr_left (fun u hu => ?_)
    obtain ⟨x, hx, _⟩ := he u hu
    obtain ⟨k, hk, _⟩ := DataW.trod_int Try.underlying3 hx
    simp only [List.cons.injEq, and_true] at hk
    subst hk
    rfl
  refine ⟨vs.map intOf, by unfold RdI; rw [← e]; exact hr, ?_⟩
  rw [List.length_map]
  rw [reach_eq] at hl
  omega
theorem rdS_open {fuel : Nat} {v : Value} {d : DataW H} {pl : List MemPlace} (h : DataW.trod enc Try.prog W 0 (fun _ => true) true fuel 24 [v] = some (d, pl)) (hf : FitsIn 24 d) : ∃ ss : List ByteArray, RdS W.heap.size W v ss ∧ ss.length ≤ 8796093021952 := by
  obtain ⟨vs, hr, hl, n, he⟩ := rd_open Try.underlying24 cells9 bytes9 (by omega) h hf
  have e : vs = (vs.map strOf).map Value.string := by
    rw [List.map_map]
    conv => lhs; rw [← List.map_id vs]
    refine List.map_congr_left (fun u hu => ?_)
    obtain ⟨x, hx, _⟩ := he u hu
    obtain ⟨k, hk, _⟩ := DataW.trod_string Try.underlying9 hx
    simp only [List.cons.injEq, and_true] at hk
    subst hk
    rfl
  refine ⟨vs.map strOf, by unfold RdS; rw [← e]; exact hr, ?_⟩
  rw [List.length_map]
  rw [reach_eq] at hl
  omega

/-- from 'for each there is one' to a list of them -/
theorem choose_list {α β : Type} (Q : α → β → Prop) (vs : List α) (h : ∀ u ∈ vs, ∃ y, Q u y) : ∃ ys : List β, vs.length = ys.length ∧ ∀ (i : Nat) (u : α) (y : β), vs[i]? = some u → ys[i]? = some y → Q u y := by
  induction vs with
  | nil => exact ⟨[], rfl, fun i u y hu => by simp at hu⟩
  | cons v r ih =>
    obtain ⟨y0, h0⟩ := h v (by simp)
    obtain ⟨ys, hl, hq⟩ := ih (fun u hu => h u (by simp [hu]))
    refine ⟨y0 :: ys, by simp [hl], fun i u y hu hy => ?_⟩
    cases i with
    | zero => simp at hu hy; subst hu; subst hy; exact h0
    | succ i => simp at hu hy; exact hq i u y hu hy
theorem chosen_mem {α β : Type} {Q : α → β → Prop} {vs : List α} {ys : List β} (hl : vs.length = ys.length) (hq : ∀ (i : Nat) (u : α) (y : β), vs[i]? = some u → ys[i]? = some y → Q u y) : ∀ y ∈ ys, ∃ u, Q u y := by
  intro y hy
  obtain ⟨i, hi⟩ := List.getElem?_of_mem hy
  have hil := (List.getElem?_eq_some_iff.1 hi).1
  exact ⟨vs[i]'(by omega), hq i _ y (List.getElem?_eq_getElem (by omega)) hi⟩

theorem rdII_open {fuel : Nat} {v : Value} {d : DataW H} {pl : List MemPlace} (h : DataW.trod enc Try.prog W 0 (fun _ => true) true fuel 35 [v] = some (d, pl)) (hf : FitsIn 35 d) : ∃ g : List (List Int), RdII W.heap.size W v g ∧ g.length ≤ 5864062014634 ∧ ∀ l ∈ g, l.length ≤ 17592186043904 := by
  obtain ⟨vs, hr, hl, n, he⟩ := rd_open Try.underlying35 cells34 bytes34 (by omega) h hf
  obtain ⟨g, hgl, hq⟩ := choose_list (fun u xs => RdI W.heap.size W u xs ∧ xs.length ≤ 17592186043904) vs (fun u hu => by
    obtain ⟨x, hx, hfx⟩ := he u hu
    exact rdI_open hx hfx)
  refine ⟨g, ⟨vs, hr, hgl, fun i x xs a b => (hq i x xs a b).1⟩, ?_, fun l hl' => ?_⟩
  · rw [reach_eq] at hl
    omega
  · obtain ⟨u, hu⟩ := chosen_mem hgl hq l hl'
    exact hu.2
theorem rdIII_open {fuel : Nat} {v : Value} {d : DataW H} {pl : List MemPlace} (h : DataW.trod enc Try.prog W 0 (fun _ => true) true fuel 25 [v] = some (d, pl)) (hf : FitsIn 25 d) : ∃ gs : List (List (List Int)), RdIII W.heap.size W v gs ∧ gs.length ≤ 5864062014634 ∧ ∀ g ∈ gs, g.length ≤ 5864062014634 ∧ ∀ l ∈ g, l.length ≤ 17592186043904 := by
  obtain ⟨vs, hr, hl, n, he⟩ := rd_open Try.underlying25 cells35 bytes35 (by omega) h hf
  obtain ⟨g, hgl, hq⟩ := choose_list (fun u xs => RdII W.heap.size W u xs ∧ xs.length ≤ 5864062014634 ∧ ∀ l ∈ xs, l.length ≤ 17592186043904) vs (fun u hu => by
    obtain ⟨x, hx, hfx⟩ := he u hu
    exact rdII_open hx hfx)
  refine ⟨g, ⟨vs, hr, hgl, fun i x xs a b => (hq i x xs a b).1⟩, ?_, fun l hl' => ?_⟩
  · rw [reach_eq] at hl
    omega
  · obtain ⟨u, hu⟩ := chosen_mem hgl hq l hl'
    exact hu.2

/-- the whole argument -/
theorem rdTs_open {fuel : Nat} {v : Value} {d : DataW H} {pl : List MemPlace} (h : DataW.trod enc Try.prog W 0 (fun _ => true) true fuel 22 [v] = some (d, pl)) (hf : FitsIn 22 d) : ∃ ts : List Tab, RdTs W.heap.size W v ts := by
  rcases open_slice Try.underlying22 h with ⟨hcs, _⟩ | ⟨a, len, cap, m, n, D, Pl, hcs, _, hl, _, hm, hx, he⟩
  · simp only [List.cons.injEq, and_true] at hcs
    subst hcs
    exact ⟨[], none, 0, rfl, Nat.le_refl _, by omega, fun h => absurd h (by simp)⟩
  · simp only [List.cons.injEq, and_true] at hcs
    subst hcs
    simp only [if_true] at hm
    rw [hm] at hx he
    clear hm
    simp only [Prod.mk.injEq] at hx
    obtain ⟨rfl, _⟩ := hx
    have hsz := hf.slice Try.underlying22
    simp only [List.length_map, List.length_range, bytes27, reach_eq] at hsz
    have hone : ∀ i ∈ List.range len, ∃ tb : Tab, ∃ nv gv, W.cell? (a.add (i * 2)) = some nv ∧ W.cell? ((a.add (i * 2)).add 1) = some gv ∧ RdS W.heap.size W nv tb.1 ∧ RdIII W.heap.size W gv tb.2 ∧ Small tb.1 tb.2 := fun i hi => by
      rw [List.mem_range] at hi
      obtain ⟨cs, hc, ht⟩ := he i (by omega)
      rw [cells27] at hc
      have hfit := hsz.2 _ (List.mem_map.2 ⟨i, List.mem_range.2 hi, rfl⟩)
      obtain ⟨_, hcl, hcc⟩ := World.cells?_some hc
      obtain ⟨y0, y1, k, hy, _, h0, h1⟩ := trod_struct2 Try.underlying27 ht
      match cs, hcl with
      | [nv, gv], _ =>
        simp only [cells24, cells25] at h0 h1
        simp only [List.drop_zero, List.take_succ_cons, List.take_zero, List.drop_succ_cons] at h0 h1
        simp only [Prod.mk.injEq] at hy
        rw [hy.1] at hfit
        have hf0 : FitsIn 24 y0.1 := fun n hn => hfit n (by
          simp only [DataW.weights, Try.underlying27]
          exact DataW.weights_mem_each (j := 0) rfl rfl n hn)
        have hf1 : FitsIn 25 y1.1 := fun n hn => hfit n (by
          simp only [DataW.weights, Try.underlying27]
          exact DataW.weights_mem_each (j := 1) rfl rfl n hn)
        obtain ⟨ss, r0, s0⟩ := rdS_open (d := y0.1) (pl := y0.2) h0 hf0
        obtain ⟨gs, r1, s1, s2⟩ := rdIII_open (d := y1.1) (pl := y1.2) h1 hf1
        refine ⟨(ss, gs), nv, gv, ?_, ?_, r0, r1, ⟨s0, s1, fun g hg => (s2 g hg).1, fun g hg => (s2 g hg).2⟩⟩
        · have := hcc 0 (by omega)
          simpa [Addr.add] using this
        · simpa using hcc 1 (by omega)
    obtain ⟨ts, htl, hq⟩ := choose_list _ (List.range len) hone
    rw [List.length_range] at htl
    refine ⟨ts, some a, cap, by rw [← htl], by omega, by omega, fun hp => ?_⟩
    have hget : ∀ j (hj : j < ts.length), ∃ nv gv, W.cell? (a.add (j * 2)) = some nv ∧ W.cell? ((a.add (j * 2)).add 1) = some gv ∧ RdS W.heap.size W nv ts[j].1 ∧ RdIII W.heap.size W gv ts[j].2 ∧ Small ts[j].1 ts[j].2 := fun j hj =>
      hq j j ts[j] (by rw [List.getElem?_range (by omega)]) (List.getElem?_eq_getElem hj)
    obtain ⟨nv0, gv0, c0, _⟩ := hget 0 hp
    obtain ⟨b, off, spot⟩ := a
    have hspot : spot = none := by
      have := World.cell?_spot c0
      simpa [Addr.add] using this
    subst hspot
    refine ⟨b, off, rfl, ?_, fun j hj => ?_⟩
    · have := World.block_lt_of_cell? _ _ c0
      simpa [Addr.add] using this
    · obtain ⟨nv, gv, c1, c2, r⟩ := hget j hj
      rw [Addr.add_lit] at c1 c2
      rw [Addr.add_lit] at c2
      exact ⟨nv, gv, c1, c2, r⟩
end
end Go.Proofs.Ythicgffppmbamaa
