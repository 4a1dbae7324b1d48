/- The settings; the scan's end; Open. -/
import Derived.Test.YthicgffppmbamaaGreatKeep
import Derived.Deep.MidRow
namespace Go.Proofs.YthicgffppmbamaaGreat
open Go.RowKit

abbrev setV (W T R G : Int) : Value := .agg #[.int .i64 W, .int .i64 T, .int .i64 R, .int .i64 G]

set_option maxRecDepth 20000 in
set_option maxHeartbeats 4000000 in
theorem rightSettings_any (w : World) (W T R G : Int) :
    Calls Tryz.prog 78 #[setV W T R G] w fun e w' => e = .returned (.bool (Pl.okS W T R G)) ∧ Ext w w' := by
  by_cases h1 : ¬ (1 ≤ W)
  · have e : Pl.okS W T R G = false := by rw [← Bool.not_eq_true, Pl.okS_iff]; omega
    rw [e]
    clear e
    go_enter Tryz.func78, Tryz.ntmps78
    go_wp2
    go_ret
    exact ⟨rfl, (Kp.refl _ _).alloc _⟩
  by_cases h2 : ¬ (W ≤ 4)
  · have e : Pl.okS W T R G = false := by rw [← Bool.not_eq_true, Pl.okS_iff]; omega
    rw [e]
    clear e
    go_enter Tryz.func78, Tryz.ntmps78
    go_wp2
    go_ret
    exact ⟨rfl, (Kp.refl _ _).alloc _⟩
  by_cases h3 : ¬ (1 ≤ T)
  · have e : Pl.okS W T R G = false := by rw [← Bool.not_eq_true, Pl.okS_iff]; omega
    rw [e]
    clear e
    go_enter Tryz.func78, Tryz.ntmps78
    go_wp2
    go_ret
    exact ⟨rfl, (Kp.refl _ _).alloc _⟩
  by_cases h4 : ¬ (T ≤ 4)
  · have e : Pl.okS W T R G = false := by rw [← Bool.not_eq_true, Pl.okS_iff]; omega
    rw [e]
    clear e
    go_enter Tryz.func78, Tryz.ntmps78
    go_wp2
    go_ret
    exact ⟨rfl, (Kp.refl _ _).alloc _⟩
  by_cases h5 : ¬ (1 ≤ R)
  · have e : Pl.okS W T R G = false := by rw [← Bool.not_eq_true, Pl.okS_iff]; omega
    rw [e]
    clear e
    go_enter Tryz.func78, Tryz.ntmps78
    go_wp2
    go_ret
    exact ⟨rfl, (Kp.refl _ _).alloc _⟩
  by_cases h6 : ¬ (R ≤ 20)
  · have e : Pl.okS W T R G = false := by rw [← Bool.not_eq_true, Pl.okS_iff]; omega
    rw [e]
    clear e
    go_enter Tryz.func78, Tryz.ntmps78
    go_wp2
    go_ret
    exact ⟨rfl, (Kp.refl _ _).alloc _⟩
  by_cases h7 : ¬ (0 ≤ G)
  · have e : Pl.okS W T R G = false := by rw [← Bool.not_eq_true, Pl.okS_iff]; omega
    rw [e]
    clear e
    go_enter Tryz.func78, Tryz.ntmps78
    go_wp2
    go_ret
    exact ⟨rfl, (Kp.refl _ _).alloc _⟩
  by_cases h8 : ¬ (G ≤ 32)
  · have e : Pl.okS W T R G = false := by rw [← Bool.not_eq_true, Pl.okS_iff]; omega
    rw [e]
    clear e
    go_enter Tryz.func78, Tryz.ntmps78
    go_wp2
    go_ret
    exact ⟨rfl, (Kp.refl _ _).alloc _⟩
  have e : Pl.okS W T R G = true := by rw [Pl.okS_iff]; omega
  rw [e]
  clear e
  go_enter Tryz.func78, Tryz.ntmps78
  go_wp2
  go_ret
  exact ⟨rfl, (Kp.refl _ _).alloc _⟩

theorem Blk.setCells {b : Nat} {e : TypeId} : ∀ (vs : List Value) (o : Nat) (w : World) (cs : List Value), Blk w b cs e → o + vs.length ≤ cs.length → Blk (w.setCells b o vs) b (cs.take o ++ vs ++ cs.drop (o + vs.length)) e
  | [], o, w, cs, h, _ => by simpa [World.setCells] using h
  | v :: r, o, w, cs, h, hl => by
    simp only [List.length_cons] at hl
    have h1 := h.set o v
    have := Blk.setCells r (o + 1) _ _ h1 (by rw [List.length_set]; omega)
    have e1 : (cs.set o v).take (o + 1) = cs.take o ++ [v] := by
      rw [List.take_succ_eq_append_getElem (by rw [List.length_set]; omega), List.getElem_set_self, List.take_set_of_le (Nat.le_refl _)]
    have e2 : (cs.set o v).drop (o + 1 + r.length) = cs.drop (o + (r.length + 1)) := by
      rw [List.drop_set_of_lt (by omega)]
      congr 1
      omega
    rw [e1, e2] at this
    simpa [World.setCells, List.append_assoc] using this
theorem kp_setCells (b : Nat) : ∀ (vs : List Value) (o : Nat) (w : World), Kp (fun k => k = b) w (w.setCells b o vs)
  | [], _, w => Kp.refl _ w
  | v :: r, o, w => by
    have h1 : Kp (fun k => k = b) w (w.setCell ⟨b, o, none⟩ v) := kp_set' w b o v
    exact h1.trans (kp_setCells b r (o + 1) _)
theorem Blk.there {w : World} {b : Nat} {cs : List Value} {e : TypeId} (h : Blk w b cs e) (n : Nat) (hn : n ≤ cs.length) : w.there b 0 n := fun j hj =>
  ⟨by rw [Nat.zero_add, h.cell j, List.getElem?_eq_getElem (by omega)]; rfl, by rw [Nat.zero_add]; exact h.free j⟩
theorem infoScan : (Tryz.prog.info? 142).map (·.size) = some 19 := by kernel_rfl

set_option maxRecDepth 20000 in
set_option maxHeartbeats 1000000 in
/-- the scan is ended, whatever it was -/
theorem end_any (col : Colr) (w : World) (P : Nat) (cs : List Value) (hl : cs.length = 19) (why : Nat) (hwhy : why ≠ 0) (hb : Blk w P cs 142) (hc : col P = .scan) (ht : ∀ k, w.heap.size ≤ k → col k = .out) :
    Calls Tryz.prog 82 #[PtrTo P 0, .int .i64 why] w fun e w' => e = .returned (.tuple #[]) ∧ Rep col w' P (Pl.ended why) [] [] (.slice none 0 0) (.slice none 0 0) (.slice none 0 0) (.slice none 0 0) (.slice none 0 0) ∧ Kp (fun k => k = P) w w' := by
  have hth := hb.there 19 (by omega)
  have hone : #[Value.int .i64 why, .int .i64 0, .slice none 0 0, .int .i64 0, .int .i64 0, .int .i64 0, .int .i64 0, .int .i64 0, .nilFunc, .int .i64 0, .slice none 0 0, .slice none 0 0, .slice none 0 0, .int .i64 0, .int .i64 0, .slice none 0 0, .int .i64 0, .int .i64 0, .int .i64 0].all (·.oneCell') = true := by simp [Value.oneCell']
  have HO := hide hone
  have HT := hide hth
  clear hone hth
  have hB := Blk.setCells [.int .i64 why, .int .i64 0, .slice none 0 0, .int .i64 0, .int .i64 0, .int .i64 0, .int .i64 0, .int .i64 0, .nilFunc, .int .i64 0, .slice none 0 0, .slice none 0 0, .slice none 0 0, .int .i64 0, .int .i64 0, .slice none 0 0, .int .i64 0, .int .i64 0, .int .i64 0] 0 w cs hb (by simp [hl])
  have hK := kp_setCells P [.int .i64 why, .int .i64 0, .slice none 0 0, .int .i64 0, .int .i64 0, .int .i64 0, .int .i64 0, .int .i64 0, .nilFunc, .int .i64 0, .slice none 0 0, .slice none 0 0, .slice none 0 0, .int .i64 0, .int .i64 0, .slice none 0 0, .int .i64 0, .int .i64 0, .int .i64 0] 0 w
  have hd : cs.drop 19 = [] := List.drop_eq_nil_of_le (by omega)
  simp only [List.take_zero, List.nil_append, List.length_cons, List.length_nil, Nat.zero_add, Nat.reduceAdd, hd, List.append_nil] at hB
  clear hd
  have HB := hide hB
  have HK := hide hK
  clear hB hK
  go_enter Tryz.func82, Tryz.ntmps82
  go_wp2_with (refine wpList_store_mid rfl 142 _ _ rfl P 0 _ rfl rfl (unhide HT) infoScan (unhide HO) ?_)
  go_end0
  have hB := unhide HB
  have hK := unhide HK
  clear HB HK
  generalize w.setCells P 0 _ = W1 at *
  have hg : Rep col W1 P (Pl.ended why) [] [] (.slice none 0 0) (.slice none 0 0) (.slice none 0 0) (.slice none 0 0) (.slice none 0 0) := by
    refine ⟨?_, hc, fun k hk => ht k (Nat.le_trans hK.size hk), RowAt.nil _ _ _ _, Own.nil _ _, fun g hg => by simp [Value.ownBlock] at hg, ⟨rfl, fun i p q a => by simp at a⟩, Own.nil _ _, fun g hg => by simp [Value.ownBlock] at hg, ⟨rfl, fun i p q a => by simp at a⟩, by simp, AheadAt.nil _ _, GroupsAt.nil _ _ _⟩
    have : scCells P (Pl.ended why) (.slice none 0 0) (.slice none 0 0) (.slice none 0 0) (.slice none 0 0) (.slice none 0 0) = [.int .i64 why, .int .i64 0, .slice none 0 0, .int .i64 0, .int .i64 0, .int .i64 0, .int .i64 0, .int .i64 0, .nilFunc, .int .i64 0, .slice none 0 0, .slice none 0 0, .slice none 0 0, .int .i64 0, .int .i64 0, .slice none 0 0, .int .i64 0, .int .i64 0, .int .i64 0] := by
      simp [scCells, Pl.ended, giveV, I, hwhy]
    rw [this]
    exact hB
  exact ⟨rfl, hg, hK⟩
end Go.Proofs.YthicgffppmbamaaGreat
