/- Plain facts on what may be written. -/
import Derived.Test.YthicgffppmbamaaGreatPlain
namespace Go.Proofs.YthicgffppmbamaaGreat.Pl

def okTo (L : List (List UInt8)) (k : Nat) : Prop := (L.take k).all okName = true ∧ (L.take k).Nodup

theorem okTo_zero (L : List (List UInt8)) : okTo L 0 := by simp [okTo]
theorem okTo_succ (L : List (List UInt8)) (k : Nat) (hk : k < L.length) : okTo L (k + 1) ↔ okTo L k ∧ okName L[k] = true ∧ L[k] ∉ L.take k := by
  unfold okTo
  rw [List.take_succ_eq_append_getElem hk]
  rw [List.all_append, List.nodup_append]
  simp only [List.all_cons, List.all_nil, Bool.and_true, Bool.and_eq_true]
  constructor
  · rintro ⟨⟨a, b⟩, c, d, e⟩
    exact ⟨⟨a, c⟩, b, fun h => e _ h _ (by simp) rfl⟩
  · rintro ⟨⟨a, c⟩, b, d⟩
    refine ⟨⟨a, b⟩, c, by simp, fun x hx y hy e => ?_⟩
    simp at hy
    subst hy
    exact d (e ▸ hx)
theorem okTo_mono (L : List (List UInt8)) (k : Nat) : ∀ n, okTo L (k + n) → okTo L k := by
  intro n h
  unfold okTo at *
  have e : L.take k = (L.take (k + n)).take k := by rw [List.take_take, Nat.min_eq_left (by omega)]
  rw [e]
  refine ⟨?_, h.2.sublist (List.take_sublist _ _)⟩
  rw [List.all_eq_true] at *
  exact fun x hx => h.1 x (List.mem_of_mem_take hx)
theorem okNames_iff (L : List (List UInt8)) : okNames L = true ↔ 1 ≤ L.length ∧ L.length ≤ 4 ∧ okTo L L.length := by
  unfold okNames okTo
  rw [List.take_length]
  simp only [Bool.and_eq_true, decide_eq_true_eq]
  constructor
  · rintro ⟨⟨⟨a, b⟩, c⟩, d⟩; exact ⟨a, b, c, d⟩
  · rintro ⟨a, b, c, d⟩; exact ⟨⟨⟨a, b⟩, c⟩, d⟩
theorem okNames_false (L : List (List UInt8)) (k : Nat) (hk : k ≤ L.length) (h : ¬ okTo L k) : okNames L = false := by
  rw [← Bool.not_eq_true, okNames_iff]
  rintro ⟨_, _, c⟩
  exact h (okTo_mono L k (L.length - k) (by rwa [show k + (L.length - k) = L.length by omega]))
theorem okName_iff (s : List UInt8) : okName s = true ↔ 1 ≤ s.length ∧ s.length ≤ 8 := by
  unfold okName
  simp only [Bool.and_eq_true, decide_eq_true_eq]
theorem okVal_iff (x : Int) : okVal x = true ↔ 0 ≤ x ∧ x ≤ 1099511627775 := by
  unfold okVal
  simp only [Bool.and_eq_true, decide_eq_true_eq]

/-- is a value out of bounds? -/
def badIn (xs : List Int) : Bool := !xs.all okVal
theorem badIn_all {xs : List Int} (h : xs.all okVal = true) : badIn xs = false := by unfold badIn; rw [h]; rfl
theorem badIn_not {xs : List Int} (h : xs.all okVal = false) : badIn xs = true := by unfold badIn; rw [h]; rfl
/-- one list of a group -/
def okList (rows : Nat) (l : List Int) : Bool := decide (l.length = rows) && l.all okVal
theorem okGroup_iff (cols : Nat) (g : List (List Int)) : okGroup cols g = true ↔ g.length = cols ∧ 1 ≤ (g.getD 0 []).length ∧ (g.getD 0 []).length ≤ 20 ∧ ∀ l ∈ g, okList (g.getD 0 []).length l = true := by
  unfold okGroup okList
  simp only [Bool.and_eq_true, decide_eq_true_eq, List.all_eq_true]
  constructor
  · rintro ⟨⟨⟨a, b⟩, c⟩, d⟩; exact ⟨a, b, c, d⟩
  · rintro ⟨a, b, c, d⟩; exact ⟨⟨⟨a, b⟩, c⟩, d⟩
theorem okTable_iff (names : List (List UInt8)) (gs : List (List (List Int))) : okTable names gs = true ↔ okNames names = true ∧ gs.length ≤ 6 ∧ ∀ g ∈ gs, okGroup names.length g = true := by
  unfold okTable
  simp only [Bool.and_eq_true, decide_eq_true_eq, List.all_eq_true]
  constructor
  · rintro ⟨⟨a, b⟩, c⟩; exact ⟨a, b, c⟩
  · rintro ⟨a, b, c⟩; exact ⟨⟨a, b⟩, c⟩

end Go.Proofs.YthicgffppmbamaaGreat.Pl
