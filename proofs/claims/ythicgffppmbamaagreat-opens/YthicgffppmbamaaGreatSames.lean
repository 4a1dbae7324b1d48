/- sames: a lent list is as it was; then it is written over. -/
import Derived.Test.YthicgffppmbamaaGreatLent1
namespace Go.Proofs.YthicgffppmbamaaGreat
open Go.RowKit

theorem set_over (L : List Value) (z : Value) (k : Nat) (h : k < L.length) : (List.replicate k z ++ L.drop k).set k z = List.replicate (k + 1) z ++ L.drop (k + 1) := by
  have hl : (List.replicate k z).length = k := List.length_replicate
  rw [List.set_append_right _ _ (by omega), hl, Nat.sub_self, List.drop_eq_getElem_cons h, List.set_cons_zero, List.replicate_succ']
  simp
theorem get_over (L : List Value) (z : Value) (k : Nat) : (List.replicate k z ++ L.drop k)[k]? = L[k]? := by
  rw [List.getElem?_append_right (by simp)]
  simp

set_option maxRecDepth 20000 in
set_option maxHeartbeats 1000000 in
theorem sames_any (B0 : Nat) (w : World) (b : Nat) (ov : Value) (xs : List Int) (hl : LI w b xs) (hr : RdI B0 w ov xs) (hb : B0 ≤ b) (hn : xs.length ≤ 17592186043904) :
    Calls Tryz.prog 91 #[sl b xs.length, ov] w fun e w' => e = .returned (.bool true) ∧ Kp (fun k => k = b) w w' := by
  have hr0 := hr
  obtain ⟨ao, cap, rfl, h1, h2, -⟩ := RdI.open hr
  clear hr
  have hL : ∀ k, k < xs.length + 2 → (xs.map I ++ [I 0, I 0])[k]? = some (I (if k < xs.length then xs.getD k 0 else 0)) := fun k hk => by
    by_cases h : k < xs.length
    · rw [if_pos h, List.getElem?_append_left (by simpa using h)]
      simp [h]
    · rw [if_neg h, List.getElem?_append_right (by simp; omega)]
      have : k - xs.length = 0 ∨ k - xs.length = 1 := by omega
      rcases this with e | e <;> simp [e]
  have HL := hide hL
  clear hL
  generalize hN : xs.length = n at *
  have HN := hide hN
  clear hN
  have e1 : ((n : Int) != (n : Int)) = false := by simp
  have e2 : ((n : Int) + 2 != (n : Int) + 2) = false := by simp
  go_enter Tryz.func91, Tryz.ntmps91
  go_wp2_with fail
  go_loopw [6] (fun i wr => ∃ k : Nat, k ≤ n + 2 ∧ i = .int .i64 k ∧ Blk wr b (List.replicate k (I (-9)) ++ (xs.map I ++ [I 0, I 0]).drop k) 3 ∧ Kp (fun k => k = b) w wr) (fun i _ => n + 2 - (intOf i).toNat)
  case atStart => exact ⟨0, Nat.zero_le _, rfl, by simp only [List.replicate_zero, List.nil_append, List.drop_zero]; exact hl, Kp.refl _ _⟩
  case round =>
    obtain ⟨k, hk, rfl, hblk, hkp⟩ := hrel
    by_cases hkl : k < n + 2
    · have hck := hblk.cell k
      rw [get_over, HL.out k hkl] at hck
      have hfk : wr.frozen? ⟨b, k, none⟩ = false := hblk.free k
      have hset := hblk.set k (I (-9))
      rw [set_over _ _ _ (by simp [HN.out]; omega)] at hset
      by_cases hkn : k < n
      · rw [if_pos hkn] at hck
        obtain ⟨_, _, he, _, _, h3⟩ := RdI.open (hr0.kept hkp (fun i e => by have e' : i = b := e; omega))
        rw [HN.out] at he h3
        cases he
        obtain ⟨b', off, rfl, hb', hc⟩ := h3 (by omega)
        have hcx := hc k hkn
        clear hc h3
        generalize xs.getD k 0 = x at *
        have hck' : wr.cell? ⟨b, k, none⟩ = some (.int .i64 x) := hck
        have ex : (x != x) = false := by simp
        clear hck
        go_wp2_with fail
        refine ⟨⟨k + 1, by omega, by go_num, hset, hkp.setCell (.inl rfl) _⟩, by simp [intOf]; omega⟩
      · rw [if_neg hkn] at hck
        have hck' : wr.cell? ⟨b, k, none⟩ = some (.int .i64 0) := hck
        clear hck
        go_wp2_with fail
        refine ⟨⟨k + 1, by omega, by go_num, hset, hkp.setCell (.inl rfl) _⟩, by simp [intOf]; omega⟩
    · go_wp2_with fail
      go_ret
      exact ⟨rfl, hkp⟩
end Go.Proofs.YthicgffppmbamaaGreat
