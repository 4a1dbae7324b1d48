/- The law: do the kept lists still read as their owner wrote them? -/
import Derived.Test.YthicgffppmbamaaGreatKeepAsks
namespace Go.Proofs.YthicgffppmbamaaGreat
open Go.RowKit

set_option maxRecDepth 20000 in
set_option maxHeartbeats 1000000 in
theorem fullInts_any (w : World) (C : Nat → Prop) (fr : Bool) (v : Value) (m : Int) (n : Nat) (h : RowAt C fr w 1 v n (List.replicate n (.int .i64 m))) (hn : n ≤ 1000000000000000) :
    Calls Tryz.prog 43 #[v, .int .i64 m] w fun e w' => e = .returned (.bool true) ∧ w' = w := by
  obtain ⟨-, ao, cap, rfl, h1, h3⟩ := h
  go_enter Tryz.func43, Tryz.ntmps43
  go_wp2_with fail
  go_loop [5] (fun i => ∃ k : Nat, k ≤ n ∧ i = .int .i64 k) (fun i => n - (intOf i).toNat)
  case atStart => exact ⟨0, Nat.zero_le _, rfl⟩
  case round =>
    obtain ⟨k, hk, rfl⟩ := hrel
    by_cases hkl : k < n
    · obtain ⟨g, off, rfl, -, -, hc, -⟩ := h3 (by omega)
      have d0 := hc k (by omega)
      rw [List.getElem?_replicate, if_pos hkl] at d0
      clear hc h3
      go_wp2_with fail
      exact ⟨⟨k + 1, by omega, by go_num⟩, by simp [intOf]; omega⟩
    · go_wp2_with fail
      go_ret
      exact ⟨rfl, rfl⟩

/-- a list that holds one mark -/
def OneMark (C : Nat → Prop) (w : World) (v : Value) (m : Int) : Prop := ∃ b off cap, v = .slice (some ⟨b, off, none⟩) 1 cap ∧ 1 ≤ cap ∧ C b ∧ b < w.heap.size ∧ w.cell? ⟨b, off, none⟩ = some (.int .i64 m)
theorem OneMark.go {C C' : Nat → Prop} {S : Nat → Prop} {w w' : World} {v : Value} {m : Int} (h : OneMark C w v m) (k : Kp S w w') (hS : ∀ i, C i → ¬ S i) (hC : ∀ i, i < w.heap.size → C i → C' i) : OneMark C' w' v m := by
  obtain ⟨b, off, cap, rfl, h1, h2, h3, h4⟩ := h
  exact ⟨b, off, cap, rfl, h1, hC b h3 h2, Nat.lt_of_lt_of_le h3 k.size, k.cell h4 (hS b h2)⟩

set_option maxRecDepth 20000 in
set_option maxHeartbeats 1000000 in
theorem fullRows_any (w : World) (C C' : Nat → Prop) (fr : Bool) (v : Value) (m : Int) (vs : List Value) (h : RowAt C fr w 1 v vs.length vs) (hv : ∀ u ∈ vs, OneMark C' w u m) (hn : vs.length ≤ 1000000000000000) :
    Calls Tryz.prog 44 #[v, .int .i64 m] w fun e w' => e = .returned (.bool true) ∧ w' = w := by
  obtain ⟨-, ao, cap, rfl, h1, h3⟩ := h
  generalize hL : vs.length = n at *
  go_enter Tryz.func44, Tryz.ntmps44
  go_wp2_with fail
  go_loop [5] (fun i => ∃ k : Nat, k ≤ n ∧ i = .int .i64 k) (fun i => n - (intOf i).toNat)
  case atStart => exact ⟨0, Nat.zero_le _, rfl⟩
  case round =>
    obtain ⟨k, hk, rfl⟩ := hrel
    by_cases hkl : k < n
    · obtain ⟨g, off, rfl, -, -, hc, -⟩ := h3 (by omega)
      have d0 := hc k (by omega)
      rw [List.getElem?_eq_getElem (by omega)] at d0
      obtain ⟨b, o2, cap2, e, h2, -, -, h4⟩ := hv (vs[k]'(by omega)) (List.getElem_mem _)
      rw [e] at d0
      clear hc h3 hv hL e
      go_wp2_with fail
      exact ⟨⟨k + 1, by omega, by go_num⟩, by simp [intOf]; omega⟩
    · clear hL hv h3
      go_wp2_with fail
      go_ret
      exact ⟨rfl, rfl⟩
/-- a kept list of values; a kept list of lists -/
structure KI where
  l : Value
  a : Value
  b : Value
  c : Value
  n : Nat
  m : Int
def kiCells (x : KI) : List Value := [x.l, x.a, x.b, x.c, .int .i64 x.m]
structure KIAt (C : Nat → Prop) (w : World) (x : KI) : Prop where
  nl : x.n ≤ 1000000000
  hl : RowAt C false w 1 x.l x.n (List.replicate x.n (.int .i64 x.m))
  ha : RowAt C false w 1 x.a (x.n + 1) (List.replicate (x.n + 1) (.int .i64 x.m))
  hb : RowAt C false w 1 x.b (x.n + 2) (List.replicate (x.n + 2) (.int .i64 x.m))
  hc : RowAt C false w 1 x.c (x.n + 3) (List.replicate (x.n + 3) (.int .i64 x.m))
structure KR where
  l : Value
  a : Value
  b : Value
  c : Value
  vl : List Value
  va : List Value
  vb : List Value
  vc : List Value
  m : Int
def krCells (x : KR) : List Value := [x.l, x.a, x.b, x.c, .int .i64 x.m]
def MarkRow (C : Nat → Prop) (w : World) (v : Value) (vs : List Value) (m : Int) : Prop := vs.length ≤ 1000000000 ∧ RowAt C false w 1 v vs.length vs ∧ ∀ u ∈ vs, OneMark C w u m
structure KRAt (C : Nat → Prop) (w : World) (x : KR) : Prop where
  hl : MarkRow C w x.l x.vl x.m
  ha : MarkRow C w x.a x.va x.m
  hb : MarkRow C w x.b x.vb x.m
  hc : MarkRow C w x.c x.vc x.m
theorem MarkRow.go {C C' : Nat → Prop} {S : Nat → Prop} {w w' : World} {v : Value} {vs : List Value} {m : Int} (h : MarkRow C w v vs m) (k : Kp S w w') (hS : ∀ i, C i → ¬ S i) (hC : ∀ i, i < w.heap.size → C i → C' i) : MarkRow C' w' v vs m :=
  ⟨h.1, h.2.1.go k hS hC, fun u hu => (h.2.2 u hu).go k hS hC⟩
theorem KIAt.go {C C' : Nat → Prop} {S : Nat → Prop} {w w' : World} {x : KI} (h : KIAt C w x) (k : Kp S w w') (hS : ∀ i, C i → ¬ S i) (hC : ∀ i, i < w.heap.size → C i → C' i) : KIAt C' w' x :=
  ⟨h.nl, h.hl.go k hS hC, h.ha.go k hS hC, h.hb.go k hS hC, h.hc.go k hS hC⟩
theorem KRAt.go {C C' : Nat → Prop} {S : Nat → Prop} {w w' : World} {x : KR} (h : KRAt C w x) (k : Kp S w w') (hS : ∀ i, C i → ¬ S i) (hC : ∀ i, i < w.heap.size → C i → C' i) : KRAt C' w' x :=
  ⟨h.hl.go k hS hC, h.ha.go k hS hC, h.hb.go k hS hC, h.hc.go k hS hC⟩

/-- the kept lists of a world of the law -/
structure KeptAt (C : Nat → Prop) (w : World) (iv av rv : Value) (li : List KI) (la : List KA) (lr : List KR) : Prop where
  oi : Own w 5 iv li.length (li.flatMap kiCells)
  oa : Own w 5 av la.length (la.flatMap kaCells)
  orr : Own w 5 rv lr.length (lr.flatMap krCells)
  ki : ∀ x ∈ li, KIAt C w x
  ka : ∀ x ∈ la, KAAt C w x
  kr : ∀ x ∈ lr, KRAt C w x
  bi : li.length ≤ 1000000000
  ba : la.length ≤ 1000000000
  br : lr.length ≤ 1000000000

theorem flatMap_at {α : Type} (s : Nat) (f : α → List Value) (hf : ∀ x, (f x).length = s) (l : List α) (i j : Nat) (hi : i < l.length) (hj : j < s) : (l.flatMap f)[i * s + j]? = (f l[i])[j]? := by
  rw [List.flatMap_def]
  refine flatten_at s _ (fun e he => ?_) i j hj _ ?_
  · obtain ⟨x, _, rfl⟩ := List.mem_map.1 he
    exact hf x
  · rw [List.getElem?_map, List.getElem?_eq_getElem hi]; rfl
/-- the cells of an element of a row -/
theorem Own.elem {α : Type} {w : World} {s g cap : Nat} {f : α → List Value} {l : List α} (hf : ∀ x, (f x).length = s) (h : Own w s (.slice (some ⟨g, 0, none⟩) l.length cap) l.length (l.flatMap f)) (i : Nat) (hi : i < l.length) : ∀ j, j < s → w.cell? ⟨g, i * s + j, none⟩ = (f l[i])[j]? := fun j hj => by
  rcases h.2 with ⟨e, _⟩ | ⟨g', cap', e, _, _, _, h4, _⟩
  · cases e
  · cases e
    rw [h4 _ (by have : (i + 1) * s ≤ l.length * s := Nat.mul_le_mul_right _ hi
                 rw [Nat.add_mul] at this
                 omega), flatMap_at s f hf l i j hi hj]
end Go.Proofs.YthicgffppmbamaaGreat
