/- The law: lists of requests that are kept. -/
import Derived.Test.YthicgffppmbamaaGreatRefAsked
import Derived.Test.YthicgffppmbamaaGreatLate
namespace Go.Proofs.YthicgffppmbamaaGreat
open Go.RowKit

/-- what a marked request's cells are -/
def pat (m : Int) : List Value := [.int .i64 m, .int .i64 0, .int .i64 0]
def pats (m : Int) (n : Nat) : List Value := (List.replicate n (pat m)).flatten
theorem pats_len (m : Int) (n : Nat) : (pats m n).length = n * 3 := by
  unfold pats
  rw [List.length_flatten, List.map_replicate]
  simp [pat]
theorem pats_at (m : Int) (n i j : Nat) (hi : i < n) (hj : j < 3) : (pats m n)[i * 3 + j]? = (pat m)[j]? := by
  unfold pats
  refine flatten_at 3 _ (fun e he => ?_) i j hj _ (by rw [List.getElem?_replicate, if_pos hi])
  rw [List.eq_of_mem_replicate he]
  rfl
theorem pats_snoc (m : Int) (n : Nat) : pats m (n + 1) = pats m n ++ pat m := by
  unfold pats
  rw [List.replicate_succ', List.flatten_append]
  simp
theorem pats_add (m : Int) (a b : Nat) : pats m (a + b) = pats m a ++ pats m b := by
  unfold pats
  rw [← List.replicate_append_replicate, List.flatten_append]

set_option maxRecDepth 20000 in
set_option maxHeartbeats 2000000 in
theorem fullAsks_any (w : World) (C : Nat → Prop) (fr : Bool) (v : Value) (m : Int) (n : Nat) (h : RowAt C fr w 3 v n (pats m n)) (hn : n ≤ 1000000000000000) :
    Calls Tryz.prog 45 #[v, .int .i64 m] w fun e w' => e = .returned (.bool true) ∧ w' = w := by
  obtain ⟨_, ao, cap, rfl, h1, h3⟩ := h
  go_enter Tryz.func45, Tryz.ntmps45
  go_wp2_with fail
  go_loop [5] (fun i => ∃ k : Nat, k ≤ n ∧ i = .int .i64 k) (fun i => n - (intOf i).toNat)
  case atStart => exact ⟨0, Nat.zero_le _, rfl⟩
  case round =>
    obtain ⟨k, hk, rfl⟩ := hrel
    by_cases hkl : k < n
    · obtain ⟨g, off, rfl, _, _, hc, _⟩ := h3 (by omega)
      have d0 := hc (k * 3 + 0) (by omega)
      have d1 := hc (k * 3 + 1) (by omega)
      have d2 := hc (k * 3 + 2) (by omega)
      rw [pats_at m n k _ hkl (by omega)] at d0 d1 d2
      simp only [pat, List.getElem?_cons_zero, List.getElem?_cons_succ, Nat.add_zero, ← Nat.add_assoc] at d0 d1 d2
      clear hc h3
      go_wp2_with fail
      exact ⟨⟨k + 1, by omega, by go_num⟩, by simp [intOf]; omega⟩
    · go_wp2_with fail
      go_ret
      exact ⟨rfl, rfl⟩
/-- a kept list, and those that are one, two and three longer: all full of the mark -/
structure KA where
  l : Value
  a : Value
  b : Value
  c : Value
  n : Nat
  m : Int
def kaCells (x : KA) : List Value := [x.l, x.a, x.b, x.c, .int .i64 x.m]
structure KAAt (C : Nat → Prop) (w : World) (x : KA) : Prop where
  nl : x.n ≤ 1000000000
  hl : RowAt C false w 3 x.l x.n (pats x.m x.n)
  ha : RowAt C false w 3 x.a (x.n + 1) (pats x.m (x.n + 1))
  hb : RowAt C false w 3 x.b (x.n + 2) (pats x.m (x.n + 2))
  hc : RowAt C false w 3 x.c (x.n + 3) (pats x.m (x.n + 3))
theorem KAAt.go {C C' : Nat → Prop} {S : Nat → Prop} {w w' : World} {x : KA} (h : KAAt C w x) (k : Kp S w w') (hS : ∀ i, C i → ¬ S i) (hC : ∀ i, i < w.heap.size → C i → C' i) : KAAt C' w' x :=
  ⟨h.nl, h.hl.go k hS hC, h.ha.go k hS hC, h.hb.go k hS hC, h.hc.go k hS hC⟩
theorem RowAt.prefix {C : Nat → Prop} {w : World} {v v' : Value} {m : Int} {n n' : Nat} (h : RowAt C false w 3 v' n' (pats m n')) (hl : n ≤ n') (hb : ∃ g cap cap', v = .slice (some ⟨g, 0, none⟩) n cap ∧ n ≤ cap ∧ v' = .slice (some ⟨g, 0, none⟩) n' cap') : RowAt C false w 3 v n (pats m n) := by
  obtain ⟨g, cap, cap', rfl, hn, rfl⟩ := hb
  obtain ⟨_, ao, c2, e, h1, h3⟩ := h
  cases e
  refine ⟨pats_len _ _, _, cap, rfl, hn, fun hp => ?_⟩
  obtain ⟨b, off, e, hC, hlt, hc, _⟩ := h3 (by omega)
  cases e
  refine ⟨g, 0, rfl, hC, hlt, fun j hj => ?_, fun h => by cases h⟩
  rw [hc j (by omega), show n' = n + (n' - n) by omega, pats_add, List.getElem?_append_left (by rw [pats_len]; exact hj)]

def zKA : Value := .agg #[.slice none 0 0, .slice none 0 0, .slice none 0 0, .slice none 0 0, .int .i64 0]
theorem infoKA : (Tryz.prog.info? 97).map (fun i => (i.zero, i.size, i.bytes)) = some (some zKA, 5, 104) := by kernel_rfl

/-- the first k of a list's requests are marked -/
theorem Own.mark {w : World} {n g cap : Nat} {cs : List Value} {m : Int} (k : Nat) (h : Own w 3 (.slice (some ⟨g, 0, none⟩) n cap) n (pats m k ++ cs.drop (k * 3))) (hk : k < n) (hcs : cs.length = n * 3) :
    Own (((w.setCell ⟨g, k * 3, none⟩ (.int .i64 m)).setCell ⟨g, k * 3 + 1, none⟩ (.int .i64 0)).setCell ⟨g, k * 3 + 2, none⟩ (.int .i64 0)) 3 (.slice (some ⟨g, 0, none⟩) n cap) n (pats m (k + 1) ++ cs.drop ((k + 1) * 3)) := by
  have h1 := ((h.setCell (k * 3) (by omega) (.int .i64 m)).setCell (k * 3 + 1) (by omega) (.int .i64 0)).setCell (k * 3 + 2) (by omega) (.int .i64 0)
  have e : (((pats m k ++ cs.drop (k * 3)).set (k * 3) (.int .i64 m)).set (k * 3 + 1) (.int .i64 0)).set (k * 3 + 2) (.int .i64 0) = pats m (k + 1) ++ cs.drop ((k + 1) * 3) := by
    obtain ⟨x, y, z, r, hd⟩ : ∃ x y z r, cs.drop (k * 3) = x :: y :: z :: r := by
      match hq : cs.drop (k * 3) with
      | x :: y :: z :: r => exact ⟨x, y, z, r, rfl⟩
      | [] => have := congrArg List.length hq; simp at this; omega
      | [x] => have := congrArg List.length hq; simp at this; omega
      | [x, y] => have := congrArg List.length hq; simp at this; omega
    have hd2 : cs.drop ((k + 1) * 3) = r := by
      rw [show (k + 1) * 3 = k * 3 + 3 by omega, ← List.drop_drop, hd]
      rfl
    rw [hd, hd2, pats_snoc]
    have hl := pats_len m k
    rw [List.set_append_right _ _ (by omega), List.set_append_right _ _ (by omega), List.set_append_right _ _ (by omega), hl]
    simp [pat]
  rw [e] at h1
  exact h1
end Go.Proofs.YthicgffppmbamaaGreat
