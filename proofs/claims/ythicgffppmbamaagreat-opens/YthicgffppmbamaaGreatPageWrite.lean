/- page.Write: the shortest of the three. -/
import Derived.Test.YthicgffppmbamaaGreatPage
import Derived.Laws.EntriesVeiled
namespace Go.Proofs.YthicgffppmbamaaGreat
open Go.RowKit

abbrev F (n : Nat) : Value := .func (.func n) #[] #[]
abbrev waysV : Value := .agg #[F 154, F 155, F 156, F 157, F 158, F 159]
set_option maxRecDepth 20000 in
set_option maxHeartbeats 400000 in
theorem ways_any (w : World) : Calls Tryz.prog 139 #[] w fun e w' => e = .returned waysV ∧ Ext w w' := by
  go_enter Tryz.func139, Tryz.ntmps139
  go_wp2
  refine bodyPost_ret (v := waysV) (by simp [results, Tryz.results139, go_sem]) rfl ⟨rfl, ?_⟩
  exact Kp.alloc (Kp.refl _ _) _

/-- bytes laid in a new block are a row of one's own -/
theorem own_built (w : World) (arr : Array Value) (n : Nat) (cur : List UInt8) (hn : n = cur.length) (h : arr = (cur.map B).toArray) (hm : n ≤ 1000000) : OwnB (w.alloc (.cells arr 5)) (.slice (some ⟨w.heap.size, 0, none⟩) n n) cur := by
  subst hn
  subst h
  refine .inr ⟨w.heap.size, cur.length, rfl, Nat.le_refl _, by unfold maxLen; omega, by simp, fun j hj => ?_, fun j hj => ⟨?_, ?_⟩⟩
  · rw [World.cell?_alloc_new, List.getElem?_toArray]
  · rw [World.cell?_alloc_new, List.getElem?_toArray, List.getElem?_eq_getElem (by simpa using hj)]; rfl
  · exact World.frozen?_alloc_new w _ _ j

/-- the best of the first k kinds -/
def bestOf (xs : List Int) : Nat → List UInt8
  | 0 => []
  | 1 => (0 : UInt8) :: Pl.plain xs
  | 2 => if ((1 : UInt8) :: Pl.runs xs).length < ((0 : UInt8) :: Pl.plain xs).length then (1 : UInt8) :: Pl.runs xs else (0 : UInt8) :: Pl.plain xs
  | _ => Pl.page xs

theorem runs_len (f : Nat) : ∀ (l : List Int), l.length ≤ f → l.length ≤ 20 → (∀ x ∈ l, 0 ≤ x ∧ x ≤ 1099511627775) → (Pl.runs l).length ≤ 7 * l.length := by
  induction f with
  | zero => intro l h _ _; rw [List.eq_nil_of_length_eq_zero (by omega : l.length = 0), Pl.runs_nil]; simp
  | succ f ih =>
    intro l h h20 hx
    cases l with
    | nil => rw [Pl.runs_nil]; simp
    | cons x r =>
      rw [Pl.runs_cons]
      have h1 := Pl.runLen_le x r
      have h2 := Pl.vint_len 0 (Pl.runLen x r + 1) (by simp at h20 ⊢; omega)
      have h3 := Pl.vint_len 5 x.toNat (by have := hx x (by simp); simp; omega)
      have h4 := ih (r.drop (Pl.runLen x r)) (by simp at *; omega) (by simp at *; omega) (fun y hy => hx y (by simp [List.mem_of_mem_drop hy]))
      simp only [List.length_append, List.length_drop, List.length_cons] at *
      omega
theorem rising_len (l : List Int) : ∀ a, 0 ≤ a → (∀ x ∈ l, 0 ≤ x ∧ x ≤ 1099511627775) → (Pl.rising a l).length ≤ 6 * l.length := by
  induction l with
  | nil => intro a _ _; simp [Pl.rising]
  | cons x r ih =>
    intro a ha hx
    have hx0 := hx x (by simp)
    have h1 := Pl.vint_len 5 (x - a).toNat (by simp; omega)
    have h2 := ih x hx0.1 (fun y hy => hx y (by simp [hy]))
    simp only [Pl.rising, List.length_append, List.length_cons]
    omega
theorem page_len (xs : List Int) (hl : xs.length ≤ 20) (hx : ∀ x ∈ xs, 0 ≤ x ∧ x ≤ 1099511627775) : (Pl.page xs).length ≤ 141 ∧ 1 ≤ (Pl.page xs).length := by
  have h0 := plain_len xs hx
  have h1 := runs_len _ xs (Nat.le_refl _) hl hx
  have h2 := rising_len xs 0 (by omega) hx
  unfold Pl.page
  simp only
  repeat' split
  all_goals simp only [List.length_cons]
  all_goals omega
theorem bestOf_len (xs : List Int) (k : Nat) (hk : 1 ≤ k) (hl : xs.length ≤ 20) (hx : ∀ x ∈ xs, 0 ≤ x ∧ x ≤ 1099511627775) : (bestOf xs k).length ≤ 141 ∧ 1 ≤ (bestOf xs k).length := by
  have h0 := plain_len xs hx
  have h1 := runs_len _ xs (Nat.le_refl _) hl hx
  match k, hk with
  | 1, _ => simp only [bestOf, List.length_cons]; omega
  | 2, _ => simp only [bestOf]; split <;> simp only [List.length_cons] <;> omega
  | k + 3, _ => exact page_len xs hl hx

theorem OwnB.block {w : World} {v : Value} {b : UInt8} {bs : List UInt8} (h : OwnB w v ([b] ++ bs)) : ∃ g, v.ownBlock = some g := by
  obtain ⟨g, cap, rfl, -⟩ := h.atBlock (by simp)
  exact ⟨g, rfl⟩
theorem after_kind {w wr w1 : World} {v1 : Value} {o : Obj} (hext : Ext w wr) (k1 : Kp (Of (.slice (some ⟨wr.heap.size, 0, none⟩) 1 1)) (wr.alloc o) w1) (s1 : Sep (wr.alloc o) (.slice (some ⟨wr.heap.size, 0, none⟩) 1 1) v1) (_hg : ∃ g, v1.ownBlock = some g) :
    Ext w w1 ∧ ∃ g, v1.ownBlock = some g ∧ w.heap.size ≤ g := by
  have hz := hext.size
  refine ⟨(hext.alloc o).then k1 (fun i hi e => ?_), ?_⟩
  · have e' : some wr.heap.size = some i := e
    simp at e'
    omega
  · rcases s1 with s | ⟨g, h1, h2⟩
    · exact ⟨wr.heap.size, s, hz⟩
    · exact ⟨g, h1, by simp at h2; omega⟩

theorem eql_nil (t e : TypeId) (h : Tryz.prog.underlying t = some (.slice e)) (u : World) : (binOp .eql t (.slice none 0 0) (.slice none 0 0)).run Tryz.prog u = .ok (.bool true) u := by
  have h1 : ∀ d, (Op.equalIn (d + 1) t (.slice none 0 0) (.slice none 0 0)).run Tryz.prog u = .ok true u := fun d => by simp [Op.equalIn, run_underlying h]
  simp only [binOp]
  simp [Op.equal, Op.maxDepth, h1 9999]
theorem eql_some (t e : TypeId) (h : Tryz.prog.underlying t = some (.slice e)) (u : World) (a : Addr) (l c : Nat) : (binOp .eql t (.slice (some a) l c) (.slice none 0 0)).run Tryz.prog u = .ok (.bool false) u := by
  have h1 : ∀ d, (Op.equalIn (d + 1) t (.slice (some a) l c) (.slice none 0 0)).run Tryz.prog u = .ok false u := fun d => by simp [Op.equalIn, run_underlying h]
  simp only [binOp]
  simp [Op.equal, Op.maxDepth, h1 9999]

theorem index_kind (u : World) (k : Nat) (f g : Value) (hk : k < 3) (hf : #[F 154, F 156, F 158][k]? = some f) (hg : #[F 155, F 157, F 159][k]? = some g) :
    (Instr.index 220 waysV (.int .i64 k)).run Tryz.prog u = .ok (.agg #[f, g]) u := by
  have h3 : k = 0 ∨ k = 1 ∨ k = 2 := by omega
  rcases h3 with rfl | rfl | rfl
  all_goals
    simp at hf hg
    subst hf
    subst hg
    simp [Instr.index, run_underlying Tryz.underlying220, go_sem]

set_option maxRecDepth 20000 in
set_option maxHeartbeats 1000000 in
theorem pageWrite_any (B0 : Nat) (w : World) (v : Value) (xs : List Int) (hr : RdI B0 w v xs) (hB : B0 ≤ w.heap.size) (hx : ∀ x ∈ xs, 0 ≤ x ∧ x ≤ 1099511627775) (hl : xs.length ≤ 20) :
    Calls Tryz.prog 114 #[v] w fun e w' => ∃ v', e = .returned v' ∧ OwnB w' v' (Pl.page xs) ∧ (∃ g, v'.ownBlock = some g ∧ w.heap.size ≤ g) ∧ Ext w w' := by
  go_enter Tryz.func114, Tryz.ntmps114
  go_wp2_with (go_at_call 139; refine (ways_any _).mono ?_; rintro e w0 ⟨rfl, x0⟩)
  go_loopw [3, 9] (fun t i wr => ∃ k : Nat, k ≤ 3 ∧ i = .int .i64 k ∧ Ext w wr ∧ ((k = 0 ∧ t = .slice none 0 0) ∨ (1 ≤ k ∧ OwnB wr t (bestOf xs k) ∧ ∃ g, t.ownBlock = some g ∧ w.heap.size ≤ g))) (fun _ i _ => 3 - (intOf i).toNat)
  case atStart => exact ⟨0, by omega, rfl, x0, .inl ⟨rfl, rfl⟩⟩
  case round =>
    obtain ⟨k, hk, rfl, hext, hb⟩ := hrel
    have hk4 : k = 0 ∨ k = 1 ∨ k = 2 ∨ k = 3 := by omega
    rcases hk4 with rfl | rfl | rfl | rfl
    · obtain ⟨_, rfl⟩ : (0 : Nat) = 0 ∧ _ := hb.resolve_right (by omega)
      have hi := fun u => index_kind u 0 _ _ (by omega) rfl rfl
      simp only [Int.natCast_zero] at hi
      go_wp2_with fail
      have hxw : Ext wr (wr.alloc (.cells #[F 154, F 155] 219)) := (Kp.refl _ _).alloc _
      have hz0 : (wr.alloc (.cells #[F 154, F 155] 219)).heap.size = wr.heap.size + 1 := by simp
      generalize wr.alloc (.cells #[F 154, F 155] 219) = W0 at *
      rw [← hz0]
      have hzw := hz0
      clear hz0
      replace hext := hext.trans hxw
      refine (writePlain_any B0 _ _ _ xs [0] (hr.kept (hext.alloc _) (fun _ f => f.elim)) (own_built W0 _ 1 [0] rfl rfl (by omega)) (fun g hg => by have := hext.size; simp [Value.ownBlock] at hg; omega) hx hl (by simp)).mono ?_
      rintro e w1 ⟨v1, rfl, o1, k1, s1⟩
      obtain ⟨x1, g1, e1, f1⟩ := after_kind hext k1 s1 o1.block
      obtain ⟨g, cap, rfl, -⟩ := o1.atBlock (by simp)
      have hnn := eql_nil 76 _ Tryz.underlying76
      have hl0 : 0 < ([(0 : UInt8)] ++ Pl.plain xs).length := by simp
      generalize hL : ([(0 : UInt8)] ++ Pl.plain xs).length = L at *
      have HL := hide hL
      clear hL
      go_wp2_with fail
      go_roundw
      case rel => exact ⟨1, by omega, by go_num, x1, .inr ⟨by omega, o1, g1, e1, f1⟩⟩
      case measure => simp [intOf]
    · obtain ⟨_, hob, gb, eb, fb⟩ := hb.resolve_left (by omega)
      have hblen := bestOf_len xs 1 (by omega) hl hx
      obtain ⟨gb', cb, rfl, -⟩ := hob.atBlock (by omega)
      generalize hLb : (bestOf xs 1).length = Lb at *
      have HLb := hide hLb
      clear hLb
      have hi := fun u => index_kind u 1 _ _ (by omega) rfl rfl
      simp only [Int.natCast_one] at hi
      go_wp2_with fail
      have hxw : Ext wr (wr.alloc (.cells #[F 156, F 157] 219)) := (Kp.refl _ _).alloc _
      have hz0 : (wr.alloc (.cells #[F 156, F 157] 219)).heap.size = wr.heap.size + 1 := by simp
      generalize wr.alloc (.cells #[F 156, F 157] 219) = W0 at *
      rw [← hz0]
      have hzw := hz0
      clear hz0
      replace hext := hext.trans hxw
      replace hob := hob.ext hxw
      refine (writeRuns_any B0 _ _ _ xs [1] (hr.kept (hext.alloc _) (fun _ f => f.elim)) (own_built W0 _ 1 [1] rfl rfl (by omega)) (fun g hg => by have := hext.size; simp [Value.ownBlock] at hg; omega) hx hl (by simp)).mono ?_
      rintro e w1 ⟨v1, rfl, o1, k1, s1⟩
      obtain ⟨x1, g1, e1, f1⟩ := after_kind hext k1 s1 o1.block
      obtain ⟨g, cap, rfl, -⟩ := o1.atBlock (by simp)
      have hnn := eql_some 76 _ Tryz.underlying76
      have hob1 := hob.kept (S := fun k => k = W0.heap.size) (w' := w1) ((Kp.alloc (Kp.refl _ _) _).then k1 (fun i hi e => by have e' : some W0.heap.size = some i := e; simp at e'; omega)) (fun g hg e => by have := hob.lt hg; omega)
      have hl0 : 0 < ([(1 : UInt8)] ++ Pl.runs xs).length := by simp
      generalize hL : ([(1 : UInt8)] ++ Pl.runs xs).length = L at *
      have HL := hide hL
      clear hL
      by_cases hlt : L < Lb
      · go_wp2_with fail
        go_roundw
        case rel => exact ⟨2, by omega, by go_num, x1, .inr ⟨by omega, by
          have : bestOf xs 2 = [1] ++ Pl.runs xs := by simp only [bestOf]; rw [if_pos (by have h1 := HL.out; have h2 := HLb.out; simp only [bestOf] at h2; simp at h1 h2 ⊢; omega)]; rfl
          rw [this]; exact o1, g1, e1, f1⟩⟩
        case measure => simp [intOf]
      · go_wp2_with fail
        go_roundw
        case rel => exact ⟨2, by omega, by go_num, x1, .inr ⟨by omega, by
          have : bestOf xs 2 = bestOf xs 1 := by simp only [bestOf]; rw [if_neg (by have h1 := HL.out; have h2 := HLb.out; simp only [bestOf] at h2; simp at h1 h2 ⊢; omega)]
          rw [this]; exact hob1, gb, eb, fb⟩⟩
        case measure => simp [intOf]
    · obtain ⟨_, hob, gb, eb, fb⟩ := hb.resolve_left (by omega)
      have hblen := bestOf_len xs 2 (by omega) hl hx
      obtain ⟨gb', cb, rfl, -⟩ := hob.atBlock (by omega)
      generalize hLb : (bestOf xs 2).length = Lb at *
      have HLb := hide hLb
      clear hLb
      have hi : ∀ u, (Instr.index 220 waysV (.int .i64 2)).run Tryz.prog u = .ok (.agg #[F 158, F 159]) u := fun u => index_kind u 2 _ _ (by omega) rfl rfl
      skip
      go_wp2_with fail
      have hxw : Ext wr (wr.alloc (.cells #[F 158, F 159] 219)) := (Kp.refl _ _).alloc _
      have hz0 : (wr.alloc (.cells #[F 158, F 159] 219)).heap.size = wr.heap.size + 1 := by simp
      generalize wr.alloc (.cells #[F 158, F 159] 219) = W0 at *
      rw [← hz0]
      have hzw := hz0
      clear hz0
      replace hext := hext.trans hxw
      replace hob := hob.ext hxw
      refine (writeRising_any B0 _ _ _ xs [2] (hr.kept (hext.alloc _) (fun _ f => f.elim)) (own_built W0 _ 1 [2] rfl rfl (by omega)) (fun g hg => by have := hext.size; simp [Value.ownBlock] at hg; omega) hx hl (by simp)).mono ?_
      have hpg : Pl.page xs = if Pl.rises 0 xs = true ∧ ([(2 : UInt8)] ++ Pl.rising 0 xs).length < (bestOf xs 2).length then [2] ++ Pl.rising 0 xs else bestOf xs 2 := rfl
      rintro e w1 ⟨v1, rfl, o1, n1, k1⟩
      have hob1 := hob.kept (S := fun k => k = W0.heap.size) (w' := w1) ((Kp.alloc (Kp.refl _ _) _).then k1 (fun i hi e => by have e' : some W0.heap.size = some i := e; simp at e'; omega)) (fun g hg e => by have := hob.lt hg; omega)
      have x1 : Ext w w1 := (hext.alloc _).then k1 (fun i hi e => by have := hext.size; have e' : some W0.heap.size = some i := e; simp at e'; omega)
      have hnn := eql_some 76 _ Tryz.underlying76
      cases hri : Pl.rises 0 xs with
      | false =>
        obtain rfl := n1 hri
        have HP : Hid (Pl.page xs = bestOf xs 2) := by show _ = _; rw [hpg, hri, if_neg (by simp)]
        clear hpg hri n1 o1
        go_wp2_with fail
        go_roundw
        case rel => exact ⟨3, by omega, by go_num, x1, .inr ⟨by omega, by
          show OwnB _ _ (Pl.page xs)
          rw [HP.out]; exact hob1, gb, eb, fb⟩⟩
        case measure => simp [intOf]
      | true =>
        obtain ⟨o1, s1⟩ := o1 hri
        obtain ⟨_, g1, e1, f1⟩ := after_kind hext k1 s1 o1.block
        obtain ⟨g, cap, rfl, -⟩ := o1.atBlock (by simp)
        have hl0 : 0 < ([(2 : UInt8)] ++ Pl.rising 0 xs).length := by simp
        rw [hri] at hpg
        generalize hL : ([(2 : UInt8)] ++ Pl.rising 0 xs).length = L at *
        rw [HLb.out] at hpg
        have HP := hide hpg
        clear hL hpg hri n1
        by_cases hlt : L < Lb
        · go_wp2_with fail
          go_roundw
          case rel => exact ⟨3, by omega, by go_num, x1, .inr ⟨by omega, by
            show OwnB _ _ (Pl.page xs)
            rw [HP.out, if_pos ⟨trivial, hlt⟩]; exact o1, g1, e1, f1⟩⟩
          case measure => simp [intOf]
        · go_wp2_with fail
          go_roundw
          case rel => exact ⟨3, by omega, by go_num, x1, .inr ⟨by omega, by
            show OwnB _ _ (Pl.page xs)
            rw [HP.out, if_neg (fun h => hlt h.2)]; exact hob1, gb, eb, fb⟩⟩
          case measure => simp [intOf]
    · obtain ⟨_, hob, gb, eb, fb⟩ := hb.resolve_left (by omega)
      go_wp2_with fail
      go_ret
      exact ⟨_, rfl, hob, ⟨gb, eb, fb⟩, hext⟩
end Go.Proofs.YthicgffppmbamaaGreat
