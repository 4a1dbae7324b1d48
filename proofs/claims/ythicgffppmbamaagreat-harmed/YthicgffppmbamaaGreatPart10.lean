/- PlLen, PlKp2, KsY, FileWrite, KsOpened, KsTot, KsFine, KsTakes. -/
import Derived.Lib.SlBytesConst
import Derived.Test.YthicgffppmbamaaGreatPart1
import Derived.Test.YthicgffppmbamaaGreatPart2
import Derived.Test.YthicgffppmbamaaGreatPart3
import Derived.Test.YthicgffppmbamaaGreatPart9
namespace Go.Proofs.YthicgffppmbamaaGreat
open Pl
theorem fl_plain (l : List Int) (h : ∀ x ∈ l, x ≤ 1099511627775) : (plain l).length ≤ 6 * l.length := by
  induction l with
  | nil => simp [plain]
  | cons a r ih =>
    have h1 := ih (fun x hx => h x (by simp [hx]))
    have h2 := vint_len 5 a.toNat (by have := h a (by simp); omega)
    have e : plain (a :: r) = vint a.toNat ++ plain r := rfl
    rw [e, List.length_append, List.length_cons]
    omega
theorem fl_page (l : List Int) (h : ∀ x ∈ l, x ≤ 1099511627775) : (page l).length ≤ 1 + 6 * l.length := by
  have h1 := fl_plain l h
  have h0 : ((0 : UInt8) :: plain l).length = (plain l).length + 1 := by simp
  unfold page
  simp only
  generalize (0 : UInt8) :: plain l = p0 at *
  generalize (1 : UInt8) :: runs l = p1 at *
  generalize (2 : UInt8) :: rising 0 l = p2 at *
  by_cases c1 : p1.length < p0.length
  · rw [if_pos c1]
    split
    · rename_i c2; have := c2.2; omega
    · omega
  · rw [if_neg c1]
    split
    · rename_i c2; have := c2.2; omega
    · omega
theorem fl_ps (rows : Nat) (hr : rows ≤ 20) : ∀ (g : List (List Int)) (st : List UInt8 × List UInt8), (∀ l ∈ g, okList rows l = true) → st.1.length + 121 * g.length ≤ 16000 → (addPs st g).1.length ≤ st.1.length + 121 * g.length ∧ (addPs st g).2.length ≤ st.2.length + 8 * g.length
  | [], st, _, _ => ⟨by simp [addPs], by simp [addPs]⟩
  | x :: r, st, h, hb => by
    have hx := h x (by simp)
    unfold okList at hx
    simp only [Bool.and_eq_true, decide_eq_true_eq, List.all_eq_true] at hx
    have hp := fl_page x (fun y hy => ((okVal_iff y).1 (hx.2 y hy)).2)
    rw [List.length_cons] at hb
    have h1 : (addP st x).1.length = st.1.length + (page x).length := by show (st.1 ++ page x).length = _; rw [List.length_append]
    have v1 := vint_len 1 st.1.length (by omega)
    have v2 := vint_len 1 (page x).length (by omega)
    have h2 : (addP st x).2.length ≤ st.2.length + 8 := by
      show (st.2 ++ vint st.1.length ++ vint (page x).length ++ sum4 (page x)).length ≤ _
      rw [List.length_append, List.length_append, List.length_append, sum4_len]
      omega
    obtain ⟨a, b⟩ := fl_ps rows hr r (addP st x) (fun l hl => h l (by simp [hl])) (by omega)
    rw [List.length_cons]
    exact ⟨by unfold addPs; omega, by unfold addPs; omega⟩
theorem fl_gs (nn : Nat) (hn : nn ≤ 4) : ∀ (gs : List (List (List Int))) (st : List UInt8 × List UInt8), (∀ g ∈ gs, okGroup nn g = true) → st.1.length + 484 * gs.length ≤ 16000 → (addGs st gs).1.length ≤ st.1.length + 484 * gs.length ∧ (addGs st gs).2.length ≤ st.2.length + 33 * gs.length
  | [], st, _, _ => ⟨by simp [addGs], by simp [addGs]⟩
  | g :: r, st, h, hb => by
    obtain ⟨g1, g2, g3, g4⟩ := (okGroup_iff nn g).1 (h g (by simp))
    rw [List.length_cons] at hb
    obtain ⟨a, b⟩ := fl_ps _ g3 g (st.1, st.2 ++ vint (g.getD 0 []).length) g4 (by simp only; omega)
    have v := vint_len 0 (g.getD 0 []).length (by omega)
    simp only [List.length_append] at a b
    have e : addG st g = addPs (st.1, st.2 ++ vint (g.getD 0 []).length) g := rfl
    obtain ⟨c, d⟩ := fl_gs nn hn r (addG st g) (fun l hl => h l (by simp [hl])) (by rw [e]; omega)
    rw [e] at c d
    rw [List.length_cons]
    exact ⟨by unfold addGs; rw [e]; omega, by unfold addGs; rw [e]; omega⟩
theorem fl_names : ∀ (ss : List (List UInt8)), (∀ s ∈ ss, s.length ≤ 8) → (Pl.nameBytes ss).length ≤ 9 * ss.length
  | [], _ => by simp [Pl.nameBytes]
  | s :: r, h => by
    have h1 := fl_names r (fun x hx => h x (by simp [hx]))
    have h2 := vint_len 0 s.length (by have := h s (by simp); omega)
    have h3 := h s (by simp)
    have e : Pl.nameBytes (s :: r) = vint s.length ++ s ++ Pl.nameBytes r := rfl
    rw [e, List.length_append, List.length_append, List.length_cons]
    omega
theorem ft_len {names : List (List UInt8)} {gs : List (List (List Int))} (h : okTable names gs = true) : (Ft names gs).length ≤ 4000 := by
  obtain ⟨h1, h2, h3⟩ := (okTable_iff names gs).1 h
  obtain ⟨n1, n2, n3⟩ := (okNames_iff names).1 h1
  have hs : ∀ s ∈ names, s.length ≤ 8 := fun s hs => by
    have := n3.1
    rw [List.take_length, List.all_eq_true] at this
    exact ((okName_iff s).1 (this s hs)).2
  have h4 : Pl.mark.length = 4 := rfl
  obtain ⟨a, b⟩ := fl_gs names.length n2 gs (Pl.mark, vint names.length ++ Pl.nameBytes names ++ vint gs.length) h3 (by simp only; omega)
  have v1 := vint_len 0 names.length (by omega)
  have v2 := vint_len 0 gs.length (by omega)
  have v3 := fl_names names hs
  simp only [List.length_append] at a b
  have := whole_len (parts names gs)
  show (whole (parts names gs)).length ≤ 4000
  have e : parts names gs = addGs (Pl.mark, vint names.length ++ Pl.nameBytes names ++ vint gs.length) gs := rfl
  rw [e] at this ⊢
  omega
theorem totalOf_le {names : List (List UInt8)} {gs : List (List (List Int))} (h : okTable names gs = true) : totalOf gs ≤ 120 := by
  obtain ⟨-, h2, h3⟩ := (okTable_iff names gs).1 h
  have : ∀ l : List (List (List Int)), (∀ g ∈ l, okGroup names.length g = true) → (l.map fun G => (G.getD 0 []).length).sum ≤ 20 * l.length := by
    intro l
    induction l with
    | nil => intro _; simp
    | cons a r ih =>
      intro hl
      have := ih (fun g hg => hl g (by simp [hg]))
      have := ((okGroup_iff _ a).1 (hl a (by simp))).2.2.1
      simp only [List.map_cons, List.sum_cons, List.length_cons]
      omega
  have := this gs h3
  unfold totalOf ahead'
  rw [List.take_length]
  omega
theorem even_of {names : List (List UInt8)} {gs : List (List (List Int))} {cols : List Nat} (h : okTable names gs = true) (hc : ∀ c ∈ cols, c < names.length) : Even gs cols := fun c hcl G hG => by
  obtain ⟨-, -, h3⟩ := (okTable_iff names gs).1 h
  obtain ⟨g1, g2, g3, g4⟩ := (okGroup_iff _ G).1 (h3 G hG)
  have hlt : cols.getD c 0 < G.length := by
    rw [List.getD_eq_getElem?_getD, List.getElem?_eq_getElem hcl, g1]
    exact hc _ (List.getElem_mem hcl)
  have := g4 _ (List.getElem_mem hlt)
  unfold okList at this
  simp only [Bool.and_eq_true, decide_eq_true_eq] at this
  rw [List.getD_eq_getElem?_getD, List.getElem?_eq_getElem hlt]
  exact this.1
end Go.Proofs.YthicgffppmbamaaGreat

namespace Go.Proofs.YthicgffppmbamaaGreat
open Pl
/-- the file may be read: names, groups, wanted columns -/
structure Fl (names : List (List UInt8)) (gs : List (List (List Int))) (cols : List Nat) : Prop where
  ok : okTable names gs = true
  cols : ∀ c ∈ cols, c < names.length
structure Kx (names : List (List UInt8)) (gs : List (List (List Int))) (cols : List Nat) (w t r : Nat) (m : Sc) (N k F : Nat) : Prop where
  sound : Sound names gs cols m N k
  ids : Ids m
  within : Within m
  mo : Mo m w t r F
def Phi (gs : List (List (List Int))) (m : Sc) (k : Nat) : Nat := Pw m (partsOf m) + Ww m + (totalOf gs - k)
section
variable {names : List (List UInt8)} {gs : List (List (List Int))} {cols : List Nat} {w t r : Nat} {m : Sc} {N k F : Nat}
theorem Kx.going (h : Kx names gs cols w t r m N k F) (hs : m.state = 0) : Going m N ∧ Rt names gs cols m (partsOf m) ∧ k = posOf gs m.rows := by
  rcases h.sound with ⟨why, hw, rfl⟩ | hg
  · have : why = 0 := hs
    omega
  · exact hg
theorem Kx.ended_of (h : Kx names gs cols w t r m N k F) (hs : m.state ≠ 0) : (m = ended 1 ∧ k = totalOf gs) ∨ (m = ended 4 ∧ t ≤ F) := by
  rcases h.sound with ⟨why, hw, rfl⟩ | hg
  · rcases hw with ⟨rfl, h1⟩ | rfl | rfl
    · exact .inl ⟨rfl, h1⟩
    · exact .inr ⟨rfl, h.mo.1.st4 rfl⟩
    · exact absurd rfl h.mo.1.no5
  · exact absurd hg.1.core.state hs
theorem Kx.going_of_asked (h : Kx names gs cols w t r m N k F) {i : Nat} (hi : i < m.asked.length) : m.state = 0 := by
  rcases h.sound with ⟨why, hw, rfl⟩ | hg
  · exact absurd hi (by show ¬ i < 0; omega)
  · exact hg.1.core.state
theorem Kx.mono (h : Kx names gs cols w t r m N k F) {N' : Nat} (hn : N ≤ N') : Kx names gs cols w t r m N' k F :=
  ⟨h.sound.imp id (fun ⟨g, b, c⟩ => ⟨⟨{ g.core with lastId := Nat.le_trans g.core.lastId hn }, g.ticks⟩, b, c⟩), h.ids, h.within, h.mo⟩
theorem Kx.size (h : Kx names gs cols w t r m N k F) (hs : m.state = 0) : m.size = (Ft names gs).length := (h.going hs).2.1.size
/-- an answer out of the file -/
theorem Kx.answer (hf : Fl names gs cols) (h : Kx names gs cols w t r m N k F) (id : Int) (i n : Nat) (hi : findId m.asked id = some i) (hn : 1 ≤ n) (hle : n ≤ (Pl.partAt m i).length - (Pl.partAt m i).data.length) :
    (Pl.answer m id (bytesAt (Ft names gs) ((Pl.partAt m i).place + (Pl.partAt m i).data.length) n)).2 = 0 ∧ Kx names gs cols w t r (Pl.answer m id (bytesAt (Ft names gs) ((Pl.partAt m i).place + (Pl.partAt m i).data.length) n)).1 (N + 24) k F ∧
      (n = (Pl.partAt m i).length - (Pl.partAt m i).data.length → (Pl.answer m id (bytesAt (Ft names gs) ((Pl.partAt m i).place + (Pl.partAt m i).data.length) n)).1.state = 0 → Phi gs (Pl.answer m id (bytesAt (Ft names gs) ((Pl.partAt m i).place + (Pl.partAt m i).data.length) n)).1 k + 1 ≤ Phi gs m k) := by
  have hlt := findId_lt hi
  have hs := h.going_of_asked hlt
  obtain ⟨hg, hr, hk⟩ := h.going hs
  have hin := h.within.part i hlt
  rw [h.size hs] at hin
  obtain ⟨a1, a2⟩ := h.sound.answer hf.ok (ft_len hf.ok) id i n hi hn hle (by omega)
  have hbl := bytesAt_len (Ft names gs) ((Pl.partAt m i).place + (Pl.partAt m i).data.length) n (by omega)
  have hids := h.ids.answer id (bytesAt (Ft names gs) ((Pl.partAt m i).place + (Pl.partAt m i).data.length) n)
  have hwit := h.within.answer h.sound.good id (bytesAt (Ft names gs) ((Pl.partAt m i).place + (Pl.partAt m i).data.length) n)
  have ht : Pl.answer m id (bytesAt (Ft names gs) ((Pl.partAt m i).place + (Pl.partAt m i).data.length) n) = (Pl.partCame (takeAt m i) (Pl.partAt m i) (bytesAt (Ft names gs) ((Pl.partAt m i).place + (Pl.partAt m i).data.length) n), 0) := by
    unfold Pl.answer
    rw [hi]
    simp only
    rw [if_neg (by rw [hbl]; omega), if_neg (by rw [hbl]; omega)]
  obtain ⟨h1, h2⟩ := hg.taken i hlt
  have hm0 : Mo0 (takeAt m i) (Pl.partAt m i :: partsOf (takeAt m i)) w t r F := h.mo.1.perm (take_perm m i hlt) |> fun q => ⟨q.set, q.st4, q.no5, q.fails, q.live⟩
  have hpw : Pw m (partsOf m) = Pw (takeAt m i) (Pl.partAt m i :: partsOf (takeAt m i)) := Pw_perm (take_perm m i hlt)
  refine ⟨a1, ⟨a2, hids, hwit, ?_⟩, ?_⟩
  · rw [ht]
    simp only
    unfold Pl.partCame
    rw [hbl]
    by_cases hl : (Pl.partAt m i).data.length + n < (Pl.partAt m i).length
    · rw [if_pos hl]
      have h3 := hm0.swap (x' := { Pl.partAt m i with data := (Pl.partAt m i).data ++ bytesAt (Ft names gs) ((Pl.partAt m i).place + (Pl.partAt m i).data.length) n }) rfl (hm0.fails (Pl.partAt m i) (by simp)) (Nat.le_refl F)
      have h4 := h3.perm ((List.perm_append_comm (l₁ := [_])).trans (partsOf_ask (takeAt m i) _))
      exact ⟨⟨h4.set, h4.st4, h4.no5, h4.fails, h4.live⟩, h.mo.2⟩
    · rw [if_neg hl]
      exact (hm0.whole h1 _ (by rw [List.length_append, hbl]; omega)).1
  · rintro e
    rw [ht]
    simp only
    unfold Pl.partCame
    have hdat := h2.data
    rw [hbl, if_neg (by omega)]
    intro hs'
    obtain ⟨p1, p2⟩ := (hm0.whole h1 ((Pl.partAt m i).data ++ bytesAt (Ft names gs) ((Pl.partAt m i).place + (Pl.partAt m i).data.length) n) (by rw [List.length_append, hbl]; omega)).2 hs'
    unfold Phi Ww
    rw [hpw, p2]
    show _ + _ + _ + 1 ≤ _ + (m.waiting.map (·.1)).sum + _
    have : (takeAt m i).waiting = m.waiting := rfl
    rw [this]
    omega
theorem Kx.fail (h : Kx names gs cols w t r m N k F) (id : Int) (i : Nat) (hi : findId m.asked id = some i) : (Pl.fail m id).2 = 0 ∧ Kx names gs cols w t r (Pl.fail m id).1 N k (F + 1) := by
  have hlt := findId_lt hi
  have hs := h.going_of_asked hlt
  obtain ⟨a1, a2⟩ := h.sound.fail id i hi
  refine ⟨a1, a2, h.ids.fail id, h.within.fail id, ?_⟩
  have hm0 : Mo0 (takeAt m i) (Pl.partAt m i :: partsOf (takeAt m i)) w t r F := h.mo.1.perm (take_perm m i hlt) |> fun q => ⟨q.set, q.st4, q.no5, q.fails, q.live⟩
  have hfl := hm0.fails (Pl.partAt m i) (by simp)
  unfold Pl.fail
  rw [hi]
  simp only
  unfold partFailed
  by_cases he : (Pl.partAt m i).failures + 1 = (takeAt m i).tries
  · rw [if_pos he]
    have := (hm0.set hs).2.1
    exact Mo.ended (by decide) (fun _ => by omega) (by decide)
  · rw [if_neg he]
    have h4 := hm0.swap (x' := { Pl.partAt m i with failures := (Pl.partAt m i).failures + 1 }) (F' := F + 1) rfl (by simp only; omega) (by omega)
    have hp : ({ Pl.partAt m i with failures := (Pl.partAt m i).failures + 1 } :: partsOf (takeAt m i)).Perm (partsOf { takeAt m i with waiting := (takeAt m i).waiting ++ [(2 ^ (Pl.partAt m i).failures, { Pl.partAt m i with failures := (Pl.partAt m i).failures + 1 })] }) := by
      unfold partsOf
      simp only [List.map_append, List.map_cons, List.map_nil]
      rw [← List.append_assoc]
      exact (List.perm_append_comm (l₁ := [_]))
    have h5 := h4.perm hp
    exact ⟨⟨h5.set, h5.st4, h5.no5, h5.fails, h5.live⟩, h.mo.2⟩
theorem tick_sum : ∀ (l : List (Nat × Part)) (m : Sc) (s : List (Nat × Part)), (∀ q ∈ l, 1 ≤ q.1) → ((l.foldl tickS (m, s)).2.map (·.1)).sum + l.length = (s.map (·.1)).sum + (l.map (·.1)).sum
  | [], _, _, _ => by simp
  | q :: l, m, s, h => by
    rw [List.foldl_cons]
    have hq := h q (by simp)
    by_cases h1 : 1 < q.1
    · have e : tickS (m, s) q = (m, s ++ [(q.1 - 1, q.2)]) := by unfold tickS; rw [if_pos h1]
      rw [e]
      have := tick_sum l m (s ++ [(q.1 - 1, q.2)]) (fun y hy => h y (by simp [hy]))
      simp only [List.map_append, List.map_cons, List.map_nil, List.sum_append, List.sum_cons, List.sum_nil, List.length_cons] at this ⊢
      omega
    · have e : tickS (m, s) q = (Pl.ask m q.2, s) := by unfold tickS; rw [if_neg h1]
      rw [e]
      have := tick_sum l (Pl.ask m q.2) s (fun y hy => h y (by simp [hy]))
      simp only [List.map_cons, List.sum_cons, List.length_cons] at this ⊢
      omega
theorem Kx.tick (h : Kx names gs cols w t r m N k F) (hN : N ≤ 100000000000) : Kx names gs cols w t r (Pl.tick m) (N + 4) k F ∧ (Pl.tick m).state = m.state ∧ (m.state = 0 → Phi gs (Pl.tick m) k + m.waiting.length = Phi gs m k) := by
  obtain ⟨al, id, e1, e2, e3, e4⟩ := tick_fold m.waiting m []
  have ht : Pl.tick m = { m with asked := al, lastId := id, waiting := (m.waiting.foldl tickS (m, [])).2 } := by unfold Pl.tick; simp only; rw [e1]
  have hp : (partsOf m).Perm (partsOf { m with asked := al, lastId := id, waiting := (m.waiting.foldl tickS (m, [])).2 }) := by
    unfold partsOf
    refine List.Perm.trans (.of_eq ?_) e3
    simp
  have h5 := h.mo.1.perm hp
  refine ⟨⟨h.sound.tick hN, h.ids.tick, h.within.tick, ?_⟩, ?_, fun hs => ?_⟩
  · rw [ht]
    exact ⟨⟨h5.set, h5.st4, h5.no5, h5.fails, h5.live⟩, h.mo.2⟩
  · rw [ht]
  · obtain ⟨hg, -, -⟩ := h.going hs
    have := tick_sum m.waiting m [] (fun q hq => (hg.ticks q hq).1)
    rw [ht]
    unfold Phi Ww
    have hq : Pw { m with asked := al, lastId := id, waiting := (m.waiting.foldl tickS (m, [])).2 } (partsOf { m with asked := al, lastId := id, waiting := (m.waiting.foldl tickS (m, [])).2 }) = Pw m (partsOf m) := (Pw_perm (m := m) hp).symm
    rw [hq]
    simp only [List.map_nil, List.sum_nil] at this ⊢
    omega
/-- where nothing is to come any more all is ready -/
theorem ready_all {rw : Rw} (h : RwG rw []) : rwReady rw = rw.left := by
  have : ∀ l : List RGroup, (∀ G ∈ l, G.missing = 0) → readyF l = (l.map (·.rows)).sum := by
    intro l
    induction l with
    | nil => intro _; rfl
    | cons a r ih =>
      intro hl
      have := ih (fun G hG => hl G (by simp [hG]))
      simp only [readyF, List.map_cons, List.sum_cons]
      rw [if_neg (by have := hl a (by simp); omega), this]
  have h1 := this rw.groups (fun G hG => by
    obtain ⟨i, hi, rfl⟩ := List.mem_iff_getElem.1 hG
    obtain ⟨-, -, -, h4, -⟩ := h.grp i _ (List.getElem?_eq_getElem hi)
    rw [h4]; rfl)
  have := h.left
  unfold rwReady
  omega
/-- Next: nothing, or the next rows of the table -/
theorem Kx.next (hf : Fl names gs cols) (h : Kx names gs cols w t r m N k F) (hr1 : 1 ≤ r) (hw1 : 1 ≤ w) :
    (((Pl.next m).2 = none ∧ (Pl.next m).1 = m ∧ (m.state = 0 → partsOf m ≠ [])) ∨ ∃ n, m.state = 0 ∧ (Pl.next m).2 = some ((List.range cols.length).map fun c => ((colOf gs cols c).drop k).take n) ∧ 1 ≤ n ∧ k + n ≤ totalOf gs ∧ (n = r ∨ k + n = totalOf gs) ∧ Kx names gs cols w t r (Pl.next m).1 N (k + n) F ∧ ((Pl.next m).1.state = 0 → Phi gs (Pl.next m).1 (k + n) + 1 ≤ Phi gs m k ∧ (Pl.next m).1.waiting = m.waiting)) := by
  have hid := h.ids.next
  have hwi := h.within.next
  have hsn := h.sound.next (even_of hf.ok hf.cols)
  by_cases hs : m.state = 0
  · obtain ⟨hg, hr, hk⟩ := h.going hs
    obtain ⟨-, -, hnr⟩ := h.mo.1.set hs
    cases hn : (rwNext m.rows m.nrows).1 with
    | none =>
      left
      have e : Pl.next m = (m, none) := by unfold Pl.next; simp only; rw [hn]
      rw [e]
      refine ⟨rfl, rfl, fun _ hp => ?_⟩
      have hop := hg.core.opened
      rw [hp] at hop
      have hop : m.opened = 0 := hop
      have hah : m.ahead = [] := by
        rcases h.mo.2 with e | e
        · exact e
        · rw [(h.mo.1.set hs).1] at e; omega
      have hrw := hg.core.rows
      rw [hp, hah] at hrw
      have hrd := ready_all hrw
      have hl : 1 ≤ m.rows.left := by
        rcases h.mo.1.live hs with ⟨x, hx, -⟩ | hl
        · rw [hp] at hx; cases hx
        · exact hl
      have hc : rwCount m.rows m.nrows ≤ m.rows.left ∧ 1 ≤ rwCount m.rows m.nrows := by unfold rwCount; omega
      unfold rwNext at hn
      rw [if_neg (by omega)] at hn
      cases hn
    | some l =>
      right
      have e2 : (Pl.next m).2 = some l := by unfold Pl.next; simp only; rw [hn]; simp only; split <;> rfl
      rcases hsn with ⟨b, -⟩ | ⟨n, b1, b2, b3, b4, b5⟩
      · rw [e2] at b; cases b
      · refine ⟨n, hs, b1, b2, b3, by rw [← hnr]; exact b4, ⟨b5, hid, hwi, ?_⟩, ?_⟩
        · unfold Pl.next
          simp only
          rw [hn]
          simp only
          split
          · exact Mo.ended (by decide) (fun e => by cases e) (by decide)
          · rename_i h0
            refine ⟨⟨h.mo.1.set, h.mo.1.st4, h.mo.1.no5, h.mo.1.fails, fun _ => .inr (by show 1 ≤ (rwNext m.rows m.nrows).2.left; omega)⟩, h.mo.2⟩
        · unfold Pl.next
          simp only
          rw [hn]
          simp only
          split
          · intro hq; cases hq
          · intro _
            refine ⟨?_, rfl⟩
            show Pw m (partsOf m) + Ww m + (totalOf gs - (k + n)) + 1 ≤ Pw m (partsOf m) + Ww m + (totalOf gs - k)
            omega
  · left
    rcases hsn with ⟨b, -⟩ | ⟨n, b1, b2, b3, b4, b5⟩
    · rcases h.sound with ⟨why, -, rfl⟩ | hg
      · have : rwNext (ended why).rows (ended why).nrows = (none, (ended why).rows) := by unfold rwNext; rw [if_pos (.inl rfl)]
        have e : Pl.next (ended why) = (ended why, none) := by unfold Pl.next; rw [this]
        rw [e]
        exact ⟨rfl, rfl, fun q => absurd q hs⟩
      · exact absurd hg.1.core.state hs
    · rcases h.sound with ⟨why, -, rfl⟩ | hg
      · have : rwNext (ended why).rows (ended why).nrows = (none, (ended why).rows) := by unfold rwNext; rw [if_pos (.inl rfl)]
        have e : Pl.next (ended why) = (ended why, none) := by unfold Pl.next; rw [this]
        rw [e]
        exact ⟨rfl, rfl, fun q => absurd q hs⟩
      · exact absurd hg.1.core.state hs
theorem Kx.phi_le (hf : Fl names gs cols) (h : Kx names gs cols w t r m N k F) (hs : m.state = 0) : Phi gs m k ≤ 300 := by
  obtain ⟨hg, -, -⟩ := h.going hs
  have h1 := totalOf_le hf.ok
  have h2 : Ww m ≤ 64 := by
    have hl := hg.waits.1
    have : ∀ l : List (Nat × Part), (∀ q ∈ l, 1 ≤ q.1 ∧ q.1 ≤ 16) → (l.map (·.1)).sum ≤ 16 * l.length := by
      intro l
      induction l with
      | nil => intro _; simp
      | cons a r ih =>
        intro hl
        have := ih (fun q hq => hl q (by simp [hq]))
        have := (hl a (by simp)).2
        simp only [List.map_cons, List.sum_cons, List.length_cons]
        omega
    have := this m.waiting hg.ticks
    unfold Ww
    omega
  have h3 : Pw m (partsOf m) ≤ 28 := by
    have hfew := hg.core.few
    have hah := hg.core.aheads
    by_cases hx : ∃ x ∈ partsOf m, isPiece x.aim = false
    · obtain ⟨f1, f2⟩ := hg.core.first hx
      obtain ⟨x, e⟩ := List.length_eq_one_iff.1 f1
      unfold Pw
      rw [e, f2]
      have : wt x.aim ≤ 26 := by unfold wt; split <;> omega
      simp only [List.map_cons, List.map_nil, List.sum_cons, List.sum_nil, List.length_nil]
      omega
    · have : ∀ l : List Part, (∀ x ∈ l, ¬ isPiece x.aim = false) → (l.map fun x => wt x.aim).sum = l.length := by
        intro l
        induction l with
        | nil => intro _; rfl
        | cons a r ih =>
          intro hl
          have h1 := ih (fun q hq => hl q (by simp [hq]))
          have h2 := hl a (by simp)
          have h3 : wt a.aim = 1 := by
            revert h2
            cases a.aim <;> simp [isPiece, wt]
          simp only [List.map_cons, List.sum_cons, List.length_cons]
          omega
      have := this (partsOf m) (fun x hxm e => hx ⟨x, hxm, e⟩)
      unfold Pw
      omega
  unfold Phi
  omega
theorem Kx.open (want : List (List UInt8)) (w t r g : Nat) (hf : Fl names gs cols) (hc : columns names (keepNames want) = some cols) (hw : w ≤ 4) (ht1 : 1 ≤ t) (ht : t ≤ 4) (hr : r ≤ 20) (hg : g ≤ 32) : Kx names gs cols w t r (openSc (Ft names gs).length want w t r g) 1 0 0 := by
  refine ⟨Sound.open want w t r g hc (ft_len hf.ok) hw ht1 ht hr hg, Ids.open _ _ _ _ _ _, Within.open _ _ _ _ _ _, ?_⟩
  unfold openSc
  split
  · exact Mo.ended (by decide) (fun e => by cases e) (by decide)
  · refine ⟨⟨fun _ => ⟨rfl, rfl, rfl⟩, (fun e => by cases e), (fun e => by cases e), fun x hx => ?_, fun _ => .inl ⟨_, List.mem_singleton.2 rfl, rfl⟩⟩, .inl rfl⟩
    have hx : x ∈ [(⟨(Ft names gs).length - 6, 6, [], 0, .tail⟩ : Part)] := hx
    simp at hx
    subst hx
    exact Nat.le_refl _
end
end Go.Proofs.YthicgffppmbamaaGreat

namespace Go.Proofs.YthicgffppmbamaaGreat
open Go.RowKit

/-- what the keep package's scan is of, plainly -/
structure Yp where
  ss : List ByteArray
  gs : List (List (List Int))
  cols : List Nat
  W : Nat
  T : Nat
  R : Nat
  G : Nat
/-- where its things lie: table, columns from A on, below B; its lists of rows at Lb -/
structure Ym where
  A : Nat
  nv : Value
  gv : Value
  cv : Value
  B : Nat
  Lb : Nat
def Yp.names (d : Yp) : List (List UInt8) := d.ss.map bytesOf
def Yp.file (d : Yp) : List UInt8 := Ft d.names d.gs
def yCells (d : Yp) (e : Ym) (X : Nat) : List Value := [e.nv, e.gv, tx d.file, e.cv, I d.W, I d.T, I d.R, I d.G, PtrTo X 0, .slice (some ⟨e.Lb, 0, none⟩) d.cols.length d.cols.length]
def gotOf (d : Yp) (k : Nat) : List (List Int) := (List.range d.cols.length).map fun c => (colOf d.gs d.cols c).take k
abbrev Low (e : Ym) (Y : Nat) : Nat → Prop := fun b => e.A ≤ b ∧ b < e.B ∧ b ≠ Y
/-- O: the blocks that belong to it -/
structure YAt (O : Nat → Prop) (d : Yp) (e : Ym) (col : Colr) (w : World) (Y X P : Nat) (m : Pl.Sc) (vs : List Value) (k : Nat) : Prop where
  blk : Blk w Y (yCells d e X) 53
  yB : Y < e.B
  low : ∀ b, b < e.B → col b = .out
  nam : RdP (Low e Y) w e.nv (d.ss.map Value.string)
  tab : TIII (Low e Y) w e.gv d.gs
  cls : RdP (Low e Y) w e.cv (d.cols.map fun (c : Nat) => I c)
  isX : IsX col w X m P
  got : NxAt (fun g => e.B ≤ g ∧ col g = .out) w e.Lb vs (gotOf d k)
  own : ∀ b, b = Y ∨ col b ≠ .out ∨ b = e.Lb ∨ (∃ v ∈ vs, v.ownBlock = some b) → O b
def grow (O : Nat → Prop) (w w' : World) : Nat → Prop := fun b => O b ∨ (w.heap.size ≤ b ∧ b < w'.heap.size)
theorem Kp.grow {O : Nat → Prop} {w w1 w2 : World} (h : Kp O w w1) (k : Kp (grow O w w1) w1 w2) : Kp O w w2 :=
  h.then k (fun i hi e => by
    rcases e with e | e
    · exact e
    · omega)
theorem grow_grow {O : Nat → Prop} {w w1 w2 : World} (h : w.heap.size ≤ w1.heap.size) (k : w1.heap.size ≤ w2.heap.size) : ∀ b, grow (grow O w w1) w1 w2 b → grow O w w2 b := fun b e => by
  rcases e with (e | e) | e
  · exact .inl e
  · exact .inr (by omega)
  · exact .inr (by omega)
theorem IsX.top {col : Colr} {w : World} {X P : Nat} {m : Pl.Sc} (h : IsX col w X m P) : ∀ b, w.heap.size ≤ b → col b = .out := by
  obtain ⟨ps, qs, nv, av, wv, hv, gv, r⟩ := h.sc
  exact r.inn.top
section
variable {O O' : Nat → Prop} {d : Yp} {e : Ym} {col : Colr} {w w' : World} {Y X P : Nat} {m : Pl.Sc} {vs : List Value} {k : Nat}
theorem YAt.mono (h : YAt O d e col w Y X P m vs k) (hO : ∀ b, O b → O' b) : YAt O' d e col w Y X P m vs k :=
  ⟨h.blk, h.yB, h.low, h.nam, h.tab, h.cls, h.isX, h.got, fun b hb => hO b (h.own b hb)⟩
/-- nothing of it is touched -/
theorem YAt.ext (h : YAt O d e col w Y X P m vs k) (x : Ext w w') : YAt O d e col w' Y X P m vs k :=
  ⟨h.blk.kept x id, h.yB, h.low, h.nam.kept x (fun _ _ f => f), h.tab.kept x (fun _ _ f => f), h.cls.kept x (fun _ _ f => f), h.isX.kept x (fun _ f => f.elim), h.got.ext x, h.own⟩
theorem YAt.kept {S : Nat → Prop} (h : YAt O d e col w Y X P m vs k) (x : Kp S w w') (hS : ∀ b, S b → ¬ O b ∧ (b < e.A ∨ e.B ≤ b)) : YAt O d e col w' Y X P m vs k := by
  have hY : ¬ S Y := fun s => (hS Y s).1 (h.own Y (.inl rfl))
  have hl : ∀ b, Low e Y b → ¬ S b := fun b hb s => by have := (hS b s).2; have h1 := hb.1; have h2 := hb.2.1; omega
  refine ⟨h.blk.kept x hY, h.yB, h.low, h.nam.kept x hl, h.tab.kept x hl, h.cls.kept x hl, h.isX.kept x (fun i s => ?_), ?_, h.own⟩
  · cases hc : col i with
    | out => rfl
    | _ => exact absurd (h.own i (.inr (.inl (by rw [hc]; simp)))) (hS i s).1
  · have g1 : NxAt (fun g => (e.B ≤ g ∧ col g = .out) ∧ O g) w e.Lb vs (gotOf d k) := by
      refine ⟨h.got.blk, ⟨h.got.new, h.own _ (.inr (.inr (.inl rfl)))⟩, h.got.len, h.got.own, fun i v g hv hg => ⟨⟨(h.got.blks i v g hv hg).1, h.own g (.inr (.inr (.inr ⟨v, List.mem_of_getElem? hv, hg⟩)))⟩, (h.got.blks i v g hv hg).2⟩, h.got.apart⟩
    exact (g1.kept x (fun g hg _ s => (hS g s).1 hg.2)).recol (fun g hg _ => hg.1)
/-- a call on the scan -/
theorem YAt.scan {col' : Colr} {m' : Pl.Sc} (h : YAt O d e col w Y X P m vs k) (hx : IsX col' w' X m' P) (g : Went col w w' col') : YAt (grow O w w') d e col' w' Y X P m' vs k ∧ Kp O w w' := by
  have hY : ¬ Mine col Y := fun s => s (h.low Y h.yB)
  have hl : ∀ b, Low e Y b → ¬ Mine col b := fun b hb s => s (h.low b hb.2.1)
  have hb := h.blk.lt
  have hz := g.kept.size
  refine ⟨⟨h.blk.kept g.kept hY, h.yB, fun b hbb => ?_, h.nam.kept g.kept hl, h.tab.kept g.kept hl, h.cls.kept g.kept hl, hx, ?_, fun b hb => ?_⟩, g.kept.mono (fun i _ s => h.own i (.inr (.inl s)))⟩
  · by_cases hlt : b < w.heap.size
    · rw [g.same b hlt]; exact h.low b hbb
    · have := h.got.blk.lt
      have := h.got.new.1
      omega
  · have g1 : NxAt (fun g => (e.B ≤ g ∧ col g = .out) ∧ g < w.heap.size) w e.Lb vs (gotOf d k) := h.got.recol (fun g hg hlt => ⟨hg, hlt⟩)
    exact (g1.kept g.kept (fun b hb _ s => s hb.1.2)).recol (fun b hb _ => ⟨hb.1.1, by rw [g.same b hb.2]; exact hb.1.2⟩)
  · by_cases hlt : b < w.heap.size
    · refine .inl (h.own b ?_)
      rw [g.same b hlt] at hb
      exact hb
    · refine .inr ⟨by omega, ?_⟩
      rcases hb with rfl | hb | rfl | ⟨v, hv, hg⟩
      · omega
      · exact Nat.lt_of_not_le (fun hle => hb (hx.top b hle))
      · have := h.got.blk.lt; omega
      · obtain ⟨i, hi⟩ := List.getElem?_of_mem hv
        have := h.got.lt i v b hi hg
        omega
end
end Go.Proofs.YthicgffppmbamaaGreat

namespace Go.Proofs.YthicgffppmbamaaGreat
open Go.RowKit

/-- what of a table that may be written bounds its file -/
def Fits (gs : List (List (List Int))) : Prop := ∀ g ∈ gs, 1 ≤ g.length ∧ g.length ≤ 4 ∧ ∀ x ∈ g, x.length ≤ 20 ∧ ∀ y ∈ x, 0 ≤ y ∧ y ≤ 1099511627775

theorem addG_len (g : List (List Int)) (st : List UInt8 × List UInt8) (h : st.1.length + 141 * g.length ≤ 5000) (hx : ∀ x ∈ g, x.length ≤ 20 ∧ ∀ y ∈ x, 0 ≤ y ∧ y ≤ 1099511627775) (hg : 0 < g.length) :
    (Pl.addG st g).1.length ≤ st.1.length + 141 * g.length ∧ (Pl.addG st g).2.length ≤ st.2.length + 1 + 10 * g.length := by
  have h0 := (hx (g.getD 0 []) (by rw [getD_at g 0 [] hg]; exact List.getElem_mem hg)).1
  have h1 := Pl.vint_len 0 (g.getD 0 []).length (by show _ < 128; omega)
  have := addPs_len g (st.1, st.2 ++ Pl.vint (g.getD 0 []).length) h hx
  unfold Pl.addG
  simp only [List.length_append] at this ⊢
  omega
theorem addGs_len (gs : List (List (List Int))) : ∀ st : List UInt8 × List UInt8, st.1.length + 564 * gs.length ≤ 5000 → Fits gs → (Pl.addGs st gs).1.length ≤ st.1.length + 564 * gs.length ∧ (Pl.addGs st gs).2.length ≤ st.2.length + 41 * gs.length := by
  induction gs with
  | nil => intro st _ _; exact ⟨Nat.le_refl _, Nat.le_refl _⟩
  | cons g r ih =>
    intro st h hx
    obtain ⟨a1, a2, a3⟩ := hx g (by simp)
    have h1 := addG_len g st (by simp only [List.length_cons] at h; omega) a3 (by omega)
    have h2 := ih (Pl.addG st g) (by simp only [List.length_cons] at h; omega) (fun y hy => hx y (by simp [hy]))
    show (Pl.addGs (Pl.addG st g) r).1.length ≤ _ ∧ (Pl.addGs (Pl.addG st g) r).2.length ≤ _
    simp only [List.length_cons] at *
    omega
theorem mark_len : Pl.mark.length = 4 := rfl
theorem fits_ok {cols : Nat} {gs : List (List (List Int))} (hc : 1 ≤ cols) (hc4 : cols ≤ 4) (h : ∀ g ∈ gs, Pl.okGroup cols g = true) : Fits gs := by
  intro g hg
  obtain ⟨a, b, c, d⟩ := (Pl.okGroup_iff cols g).1 (h g hg)
  refine ⟨by omega, by omega, fun x hx => ?_⟩
  have := d x hx
  unfold Pl.okList at this
  rw [Bool.and_eq_true, decide_eq_true_eq, List.all_eq_true] at this
  exact ⟨by omega, fun y hy => (Pl.okVal_iff y).1 (this.2 y hy)⟩

theorem write_no {names : List (List UInt8)} {gs : List (List (List Int))} (h : Pl.okTable names gs = false) : Pl.write names gs = ([], 1) := by unfold Pl.write; rw [h]; rfl
theorem write_yes {names : List (List UInt8)} {gs : List (List (List Int))} (h : Pl.okTable names gs = true) : Pl.write names gs = Pl.sealed (Pl.parts names gs) := by unfold Pl.write; rw [h]; rfl

/-- bytes of a constant text, laid in a new block -/
theorem own_const (w : World) (arr : Array Value) (n : Nat) (cur : List UInt8) (hn : n = cur.length) (h : arr = (cur.map B).toArray) (hm : n ≤ 1000000) : OwnB (w.alloc (.cells arr 5 (n, n + 1))) (.slice (some ⟨w.heap.size, 0, none⟩) n n) cur := by
  subst hn
  subst h
  have hb := heap_alloc_new w (.cells (cur.map B).toArray 5 (cur.length, cur.length + 1))
  refine .inr ⟨w.heap.size, cur.length, rfl, Nat.le_refl _, by unfold maxLen; omega, by simp, fun j hj => ?_, fun j hj => ⟨?_, ?_⟩⟩
  · simp only [World.cell?, hb]; simp
  · simp only [World.cell?, hb]; simp [hj]
  · simp only [World.frozen?, hb]; simp; omega
/-- a new writer, behind a row of bytes -/
theorem wr_new (w : World) (ps : List UInt8) (arr : Array Value) (n : Nat) (hn : n = ps.length) (ha : arr = (ps.map B).toArray) (hm : n ≤ 1000000) :
    Wr w.heap.size (w.heap.size + 1) ((w.alloc (.cells arr 5 (n, n + 1))).alloc (.cells #[.slice (some ⟨w.heap.size, 0, none⟩) n n, .slice none 0 0] 156)) (.slice (some ⟨w.heap.size, 0, none⟩) n n) (.slice none 0 0) ps [] := by
  have ho := own_const w arr n ps hn ha hm
  refine ⟨by omega, ?_, ho.ext ((Kp.refl _ _).alloc _), OwnB.nil _, fun g hg => ?_, fun g hg => ?_, fun g hg => ?_⟩
  · have := heap_alloc_new (w.alloc (.cells arr 5 (n, n + 1))) (.cells #[.slice (some ⟨w.heap.size, 0, none⟩) n n, .slice none 0 0] 156)
    rw [show (w.alloc (.cells arr 5 (n, n + 1))).heap.size = w.heap.size + 1 by simp] at this
    exact this
  · simp [Value.ownBlock] at hg; omega
  · simp [Value.ownBlock] at hg
  · simp [Value.ownBlock]

set_option maxRecDepth 20000 in
set_option maxHeartbeats 2000000 in
theorem fileWrite_any (B0 : Nat) (w : World) (nv gv : Value) (ss : List ByteArray) (gs : List (List (List Int))) (hn : RdS B0 w nv ss) (hg : RdIII B0 w gv gs) (hB : B0 ≤ w.heap.size) :
    Calls Tryz.prog 77 #[.agg #[nv, gv]] w fun e w' => e = .returned (.tuple #[.string ⟨(Pl.write (ss.map bytesOf) gs).1.toArray⟩, .int .i64 (Pl.write (ss.map bytesOf) gs).2]) ∧ Ext w w' := by
  have hwr : ∀ u, Ext w u → Calls Tryz.prog 95 #[.agg #[nv, gv]] u fun e w' => e = .returned (.bool (Pl.okTable (ss.map bytesOf) gs)) ∧ Ext u w' := fun u hu => writable_any B0 u nv gv ss gs (hn.kept hu (fun _ f => f.elim)) (hg.kept hu (fun _ f => f.elim))
  have hn0 := hn
  have hg0 := hg
  obtain ⟨an, cn, rfl, n1, n2, -⟩ := RdS.open hn
  obtain ⟨ag, cg, rfl, g1, g2, -⟩ := hg.open
  have hext : ∀ o, Ext w (w.alloc o) := fun o => (Kp.refl _ _).alloc o
  have HR := hide hwr
  clear hwr
  cases hok : Pl.okTable (ss.map bytesOf) gs with
  | false =>
    rw [hok] at HR
    rw [write_no hok]
    clear hok
    go_enter Tryz.func77, Tryz.ntmps77
    go_wp2_with fail
    refine ((unhide HR) _ (hext _)).mono ?_
    rintro e w1 ⟨rfl, x1⟩
    go_wp2_with fail
    go_ret2
    exact ⟨rfl, (hext _).trans x1⟩
  | true =>
    rw [hok] at HR
    rw [write_yes hok]
    obtain ⟨t1, t2, t3⟩ := (Pl.okTable_iff _ _).1 hok
    obtain ⟨l1, l2, l3⟩ := (Pl.okNames_iff _).1 t1
    rw [List.length_map] at t3 l1 l2
    have hfits := fits_ok l1 l2 t3
    have hss : ∀ s ∈ ss, s.size ≤ 8 := fun s hs => by
      have := l3.1
      rw [List.take_length, List.all_eq_true] at this
      have := (Pl.okName_iff _).1 (this (bytesOf s) (List.mem_map.2 ⟨s, hs, rfl⟩))
      rw [bytesOf_len] at this
      exact this.2
    clear hok t1 t3 l3
    go_enter Tryz.func77, Tryz.ntmps77
    go_wp2_with fail
    refine ((unhide HR) _ (hext _)).mono ?_
    rintro e w1 ⟨rfl, x1⟩
    have hcv := fun (w : World) (C : Array Value) (n c : Nat) => Lib.run_convert_bytes_const (P := Tryz.prog) w 76 5 C n c Tryz.underlying76 Tryz.underlying5
    have hc0 : w1.cell? ⟨w.heap.size, 0, none⟩ = some (.slice an ss.length cn) := x1.cell (World.cell?_alloc_new w _ _ 0) id
    have hc1 : w1.cell? ⟨w.heap.size, 1, none⟩ = some (.slice ag gs.length cg) := x1.cell (World.cell?_alloc_new w _ _ 1) id
    have hsz : w.heap.size < w1.heap.size := by have := x1.size; simp at this; omega
    go_wp2_with fail
    have hW := wr_new w1 Pl.mark #[.int .u8 67, .int .u8 79, .int .u8 76, .int .u8 49] 4 rfl rfl (by omega)
    have x2 : Ext w1 ((w1.alloc (.cells #[.int .u8 67, .int .u8 79, .int .u8 76, .int .u8 49] 5 (4, 4 + 1))).alloc (.cells #[.slice (some ⟨w1.heap.size, 0, none⟩) 4 4, .slice none 0 0] 156)) := ((Kp.refl _ _).alloc _).alloc _
    simp only [Nat.reduceAdd] at hW x2
    clear hcv
    generalize (w1.alloc _).alloc _ = W2 at *
    have xw : Ext w W2 := ((hext _).trans x1).trans x2
    have hn2 : RdS w1.heap.size W2 (.slice an ss.length cn) ss := (hn0.kept xw (fun _ f => f.elim)).mono (by omega)
    have hg2 : RdIII w1.heap.size W2 (.slice ag gs.length cg) gs := (hg0.kept xw (fun _ f => f.elim)).mono (by omega)
    have hc0' := x2.cell hc0 id
    have hc1' := x2.cell hc1 id
    clear hc0 hc1
    refine (addNames_any _ _ _ _ _ _ _ _ ss hW hn2 (by simp) l2 hss).mono ?_
    rintro e w3 ⟨rfl, pv3, fv3, h3, k3⟩
    have hc03 := k3.cell hc0' (fun e => by have e' : w1.heap.size ≤ w.heap.size := e; omega)
    have hc13 := k3.cell hc1' (fun e => by have e' : w1.heap.size ≤ w.heap.size := e; omega)
    clear hc0' hc1'
    have f0 := h3.cell0
    have f1 := h3.cell1
    have f2 := h3.free 1
    simp only [List.nil_append] at h3
    have ln := nameBytes_len (ss.map bytesOf) (fun s hs => by
      obtain ⟨y, hy, rfl⟩ := List.mem_map.1 hs
      rw [bytesOf_len]; exact hss y hy)
    rw [List.length_map] at ln
    have lv := Pl.vint_len 0 ss.length (by show _ < 128; omega)
    have lg := Pl.vint_len 0 gs.length (by show _ < 128; omega)
    have HP : Hid (Pl.parts (ss.map bytesOf) gs = Pl.addGs (Pl.mark, Pl.vint ss.length ++ Pl.nameBytes (ss.map bytesOf) ++ Pl.vint gs.length) gs) := by
      show _ = _
      unfold Pl.parts
      rw [List.length_map]
    have lst : (Pl.vint ss.length ++ Pl.nameBytes (ss.map bytesOf)).length ≤ 37 := by simp only [List.length_append]; omega
    generalize Pl.vint ss.length ++ Pl.nameBytes (ss.map bytesOf) = nb at *
    obtain ⟨pa, np, pc, rfl, hnp⟩ := h3.op.shape'
    obtain ⟨fa, nf, fc, rfl, hnf⟩ := h3.of.shape'
    go_wp2_with fail
    refine (appendVarint_any _ _ _ _ h3.of (by omega) (by omega) (by omega)).mono ?_
    rintro e w4 ⟨v4, rfl, o4, k4, s4⟩
    simp only [Int.toNat_natCast] at o4
    obtain ⟨m0, m1, m2, m3⟩ := h3.midF k4
    obtain ⟨a4, n4, cc4, rfl, hn4⟩ := o4.shape'
    obtain ⟨h4, kk4⟩ := h3.growF k4 s4 o4
    have hc04 := kk4.cell hc03 (fun e => by have e' : w1.heap.size ≤ w.heap.size := e; omega)
    have hc14 := kk4.cell hc13 (fun e => by have e' : w1.heap.size ≤ w.heap.size := e; omega)
    clear f0 f1 f2 hc03 hc13
    go_wp2_with fail
    clear m0 m1 m2 m3
    generalize w4.setCell _ _ = W4 at *
    have kw : Kp (From w1.heap.size) W2 W4 := k3.trans kk4
    have lst2 : (nb ++ Pl.vint gs.length).length ≤ 38 := by simp only [List.length_append]; omega
    generalize nb ++ Pl.vint gs.length = nb2 at *
    go_loopw [26] (fun i wr => ∃ (k : Nat) (pv fv : Value), k ≤ gs.length ∧ i = .int .i64 k ∧ Wr w1.heap.size (w1.heap.size + 1) wr pv fv (Pl.addGs (Pl.mark, nb2) (gs.take k)).1 (Pl.addGs (Pl.mark, nb2) (gs.take k)).2 ∧ Kp (From w1.heap.size) W2 wr) (fun i _ => gs.length - (intOf i).toNat)
    case atStart => exact ⟨0, _, _, Nat.zero_le _, rfl, h4, kw⟩
    case round =>
      obtain ⟨k, pv, fv, hk, rfl, hWk, hkw⟩ := hrel
      have hlen := addGs_len (gs.take k) (Pl.mark, nb2) (by simp only [List.length_take, mark_len]; omega) (fun g hg => hfits g (List.mem_of_mem_take hg))
      simp only [List.length_take, mark_len] at hlen
      have hmin : min k gs.length = k := Nat.min_eq_left hk
      rw [hmin] at hlen
      clear hmin
      by_cases hkl : k < gs.length
      · have hgw := hg2.kept hkw (fun _ e => e)
        obtain ⟨_, _, he, _, _, g4⟩ := hgw.open
        cases he
        obtain ⟨b, off, rfl, hb0, hc⟩ := g4 (by omega)
        obtain ⟨ak, ck, hck, hrk⟩ := hc k hkl
        clear hc hgw g4
        have HT : Hid (Pl.addGs (Pl.mark, nb2) (gs.take (k + 1)) = Pl.addG (Pl.addGs (Pl.mark, nb2) (gs.take k)) gs[k]) := by
          show _ = _
          rw [List.take_succ_eq_append_getElem hkl, Pl.addGs_snoc]
        have hfk := hfits gs[k] (List.getElem_mem hkl)
        rw [getD_at gs k [] hkl] at hck hrk
        generalize gs[k] = g at *
        generalize Pl.addGs (Pl.mark, nb2) (gs.take k) = sk at *
        go_wp2_with fail
        refine (addGroup_any _ _ _ _ _ _ sk.1 sk.2 g hWk hrk (by omega) (by omega) (by omega) (by omega) hfk.2.2).mono ?_
        rintro e w5 ⟨rfl, pv5, fv5, h5, k5⟩
        go_wp2_with fail
        go_roundw
        case rel => exact ⟨k + 1, pv5, fv5, by omega, by go_num, by rw [HT.out]; exact h5, hkw.trans k5⟩
        case measure => simp [intOf]; omega
      · obtain rfl : k = gs.length := by omega
        rw [List.take_length] at hWk hlen
        go_wp2_with fail
        refine (finish_any _ _ _ _ _ _ _ hWk (by omega) (by omega)).mono ?_
        rintro e w5 ⟨rfl, k5⟩
        go_wp2_with fail
        go_ret2
        rw [HP.out]
        refine ⟨rfl, xw.then (hkw.trans k5) (fun i hi e => ?_)⟩
        have e' : w1.heap.size ≤ i := e
        omega

set_option maxRecDepth 20000 in
set_option maxHeartbeats 400000 in
theorem write_any (B0 : Nat) (w : World) (nv gv : Value) (ss : List ByteArray) (gs : List (List (List Int))) (hn : RdS B0 w nv ss) (hg : RdIII B0 w gv gs) (hB : B0 ≤ w.heap.size) :
    Calls Tryz.prog 50 #[.agg #[nv, gv]] w fun e w' => e = .returned (.tuple #[.string ⟨(Pl.write (ss.map bytesOf) gs).1.toArray⟩, .int .i64 (Pl.write (ss.map bytesOf) gs).2]) ∧ Ext w w' := by
  have hext : ∀ o, Ext w (w.alloc o) := fun o => (Kp.refl _ _).alloc o
  go_enter Tryz.func50, Tryz.ntmps50
  go_wp2_with fail
  refine (fileWrite_any B0 _ nv gv ss gs (hn.kept (hext _) (fun _ f => f.elim)) (hg.kept (hext _) (fun _ f => f.elim)) (by simp; omega)).mono ?_
  rintro e w1 ⟨rfl, x1⟩
  go_wp2_with fail
  go_ret2
  exact ⟨rfl, (hext _).trans x1⟩
end Go.Proofs.YthicgffppmbamaaGreat

namespace Go.Proofs.YthicgffppmbamaaGreat
open Go.RowKit

/-- what is made out of the numbers -/
def ypOf (l : List Int) : Yp := ⟨names4B.take (sN l), (sGs l).1, sCl l, 1 + (sS1 l).1, 1 + (sS2 l).1, 1 + (sS3 l).1, (sS4 l).1⟩
theorem ypOf_names (l : List Int) : (ypOf l).names = sNames l := by
  unfold Yp.names ypOf sNames
  rw [← names4_eq, List.map_take]
theorem ypOf_fl (l : List Int) : Fl (ypOf l).names (ypOf l).gs (ypOf l).cols := by
  rw [ypOf_names]
  exact ⟨sTable_ok l, fun c hc => by rw [sNames_len]; exact (sCl_ok l).2.2.1 c hc⟩
theorem wNames_map (l : List Int) : ((sCl l).map fun c => (names4B.take (sN l)).getD c ByteArray.empty).map bytesOf = sWn l := by
  unfold sWn wNames
  rw [List.map_map]
  apply List.map_congr_left
  intro c hc
  have hlt := (sCl_ok l).2.2.1 c hc
  have hn := sN_in l
  have h4 : names4B.length = 4 := rfl
  have h4' : names4.length = 4 := rfl
  show bytesOf ((names4B.take (sN l)).getD c ByteArray.empty) = (names4.take (sN l)).getD c []
  rw [List.getD_eq_getElem?_getD, List.getD_eq_getElem?_getD, List.getElem?_take_of_lt hlt, List.getElem?_take_of_lt hlt, ← names4_eq, List.getElem?_map, List.getElem?_eq_getElem (by omega)]
  rfl
/-- the scan that is opened goes on right -/
theorem ypOf_open (l : List Int) (w g : Nat) (hw : w ≤ 4) (hg : g ≤ 32) : Kx (ypOf l).names (ypOf l).gs (ypOf l).cols w (ypOf l).T (ypOf l).R (Pl.openSc (ypOf l).file.length (sWn l) w (ypOf l).T (ypOf l).R g) 1 0 0 := by
  have h := sSet_in l
  have hc := sCl_ok l
  refine Kx.open (sWn l) w (ypOf l).T (ypOf l).R g (ypOf_fl l) ?_ hw (by show 1 ≤ 1 + _; omega) (by show 1 + _ ≤ 4; omega) (by show 1 + _ ≤ 20; omega) hg
  have : Pl.keepNames (sWn l) = sWn l := by unfold Pl.keepNames; rw [if_pos hc.1]
  rw [this, ypOf_names]
  exact hc.2.1
theorem file_ge (d : Yp) : 10 ≤ d.file.length := by
  have := whole_len (Pl.parts d.names d.gs)
  obtain ⟨R, -, hp1⟩ := whole_eq d.names d.gs
  have h4 : 4 ≤ (Pl.parts d.names d.gs).1.length := by rw [hp1, List.length_append]; have : Pl.mark.length = 4 := rfl; omega
  show 10 ≤ (Pl.whole (Pl.parts d.names d.gs)).length
  omega
theorem write_ok {d : Yp} (h : Pl.okTable d.names d.gs = true) : Pl.write d.names d.gs = (d.file, 0) := by
  rw [write_yes h, Pl.sealed_le _ (ft_len h)]
  rfl
def zScan : List Value := [.slice none 0 0, .slice none 0 0, .string ByteArray.empty, .slice none 0 0, .int .i64 0, .int .i64 0, .int .i64 0, .int .i64 0, .pointer none, .slice none 0 0]

set_option maxRecDepth 20000 in
set_option maxHeartbeats 8000000 in
theorem opened_any (w : World) (lv : Value) (l : List Int) (hr : RdI w.heap.size w lv l) (hlen : l.length ≤ 17592186043904) (hrng : ∀ x ∈ l, -9223372036854775808 ≤ x ∧ x ≤ 9223372036854775807) :
    Calls Tryz.prog 16 #[lv] w fun e w' => ∃ Y X P col em vs, e = .returned (PtrTo Y 0) ∧ YAt (grow (fun _ => False) w w') (ypOf l) em col w' Y X P (Pl.openSc (ypOf l).file.length (sWn l) (ypOf l).W (ypOf l).T (ypOf l).R (ypOf l).G) vs 0 ∧ Ext w w' ∧ em.A = w.heap.size ∧ em.B ≤ w'.heap.size := by
  obtain ⟨la, lc, rfl, -, -, -⟩ := RdI.open hr
  have x0 : Ext w (w.alloc (.cells #[.slice la l.length lc, .int .i64 0] 103)) := (Kp.refl _ _).alloc _
  have hS0 : SrcAt (w.alloc (.cells #[.slice la l.length lc, .int .i64 0] 103)) w.heap.size w.heap.size (.slice la l.length lc) l 0 :=
    ⟨Blk.of_alloc w [.slice la l.length lc, I (0 : Nat)] _, hr.kept x0 (fun _ f => f.elim), Nat.le_refl _, hlen, hrng, Nat.zero_le _⟩
  have z0 : Hid ((w.alloc (.cells #[.slice la l.length lc, .int .i64 0] 103)).heap.size = w.heap.size + 1) := by show _ = _; simp
  have HT := hide (ktable_any _ w.heap.size w.heap.size (.slice la l.length lc) l hS0)
  go_enter Tryz.func16, Tryz.ntmps16
  go_wp2_with fail
  refine (unhide HT).mono ?_
  rintro e w1 ⟨nv, gv, rfl, hn1, hg1, h1, k1⟩
  clear HT
  have zz := z0.out
  rw [zz] at hn1 hg1
  have kw1 : Ext w w1 := x0.then k1 (fun i hi e => by have : i = w.heap.size := e; omega)
  have z1 : w.heap.size + 1 ≤ w1.heap.size := by have := k1.size; omega
  clear x0 hS0 z0 zz k1
  have hss : (names4B.take (sN l)).length = sN l := by
    have := sN_in l
    have h4 : names4B.length = 4 := rfl
    rw [List.length_take]; omega
  obtain ⟨na, nc, rfl, hnc, -⟩ := hn1.get
  rw [List.length_map, hss] at hnc
  obtain ⟨gvs, hgr, hgvl, -⟩ := id hg1
  obtain ⟨ga, gc, rfl, hgc, -⟩ := hgr.get
  have HNE := hide (show (List.map Value.string (List.take (sN l) names4B)).length = sN l by rw [List.length_map, hss])
  rw [HNE.out] at hn1 ⊢
  rw [hgvl] at hg1 hgc ⊢
  clear hgr hgvl hss
  have x1 : Ext w1 (w1.alloc (.cells #[.slice na (sN l) nc, .slice ga (sGs l).1.length gc, .string ⟨#[]⟩, .slice none 0 0, .int .i64 0, .int .i64 0, .int .i64 0, .int .i64 0, .pointer none, .slice none 0 0] 53)) := (Kp.refl _ _).alloc _
  have bY := Blk.of_alloc w1 [.slice na (sN l) nc, .slice ga (sGs l).1.length gc, .string ⟨#[]⟩, .slice none 0 0, .int .i64 0, .int .i64 0, .int .i64 0, .int .i64 0, .pointer none, .slice none 0 0] 53
  have hn2 := hn1.kept x1 (fun _ _ f => f)
  have hg2 := hg1.kept x1 (fun _ _ f => f)
  have h2 := h1.ext x1
  have kw2 : Ext w _ := kw1.trans x1
  have z2 : Hid ((w1.alloc (.cells #[.slice na (sN l) nc, .slice ga (sGs l).1.length gc, .string ⟨#[]⟩, .slice none 0 0, .int .i64 0, .int .i64 0, .int .i64 0, .int .i64 0, .pointer none, .slice none 0 0] 53)).heap.size = w1.heap.size + 1) := by show _ = _; simp
  go_wp2_with fail
  generalize w1.alloc (.cells #[.slice na (sN l) nc, .slice ga (sGs l).1.length gc, .string ⟨#[]⟩, .slice none 0 0, .int .i64 0, .int .i64 0, .int .i64 0, .int .i64 0, .pointer none, .slice none 0 0] 53) = W2 at *
  have hn2' : RdP (fun b => w.heap.size + 1 ≤ b ∧ b ≠ w1.heap.size) W2 (.slice na (sN l) nc) ((names4B.take (sN l)).map Value.string) := (hn1.mono (C' := fun b => w.heap.size + 1 ≤ b ∧ b ≠ w1.heap.size) (fun b hb hc => ⟨hc, by omega⟩)).kept x1 (fun _ _ f => f)
  have hg2' : TIII (fun b => w.heap.size + 1 ≤ b ∧ b ≠ w1.heap.size) W2 (.slice ga (sGs l).1.length gc) (sGs l).1 := (hg1.mono (C' := fun b => w.heap.size + 1 ≤ b ∧ b ≠ w1.heap.size) (fun b hb hc => ⟨hc, by omega⟩)).kept x1 (fun _ _ f => f)
  have hsin := sN_in l
  have hss : (names4B.take (sN l)).length = sN l := by
    have h4 : names4B.length = 4 := rfl
    rw [List.length_take]; omega
  have HW := kwanted_any W2 w.heap.size w.heap.size (.slice la l.length lc) (.slice na (sN l) nc) (.slice ga (sGs l).1.length gc) l (sGs l).2 (sN l) (sW1 l).1 (sW2 l).1 (sW3 l).1 (sW3 l).2 (names4B.take (sN l)) (fun b => w.heap.size + 1 ≤ b) h2 ⟨_, _, _, rfl⟩ hn2 (fun b hb => by omega) hss hsin.1 hsin.2 (sW1 l).2 (sW2 l).2 rfl rfl rfl
  refine HW.mono ?_
  clear HW h1 hn1 hg1 hn2 hg2 x1
  rintro e w3 ⟨cv, mv, rfl, oc, om, hcg, hmg, h3, k3⟩
  have hcl : (1 + (sW2 l).1) = (sCl l).length := by show _ = (wCols _ _ _ _).length; unfold wCols; simp
  have hcl4 := sCl_ok l
  change Own w3 1 cv _ ((sCl l).map _) at oc
  change Own w3 1 mv _ ((sCl l).map _) at om
  rw [hcl] at oc om
  have HCL := hide hcl
  clear hcl
  obtain ⟨ca, cc, rfl, hcc⟩ := oc.shape
  obtain ⟨ma, mc, rfl, hmc⟩ := om.shape
  have zz2 := z2.out
  have z3 := k3.size
  have bY3 := bY.kept k3 (by show ¬ w1.heap.size = w.heap.size; omega)
  have hn3 := hn2'.kept k3 (fun b hb e => by have := hb.1; have : b = w.heap.size := e; omega)
  have hg3 := hg2'.kept k3 (fun b hb e => by have := hb.1; have : b = w.heap.size := e; omega)
  have hc3 := oc.rdP (by omega) (fun b => w1.heap.size < b) (fun g e => by have := hcg g e; omega)
  have hm3 := om.rdP (by omega) (fun b => w1.heap.size < b) (fun g e => by have := hmg g e; omega)
  have kw3 : Ext w w3 := kw2.then k3 (fun i hi e => by have : i = w.heap.size := e; omega)
  clear bY hn2' hg2' h2 oc om hcg hmg k3 kw2 z2 kw1
  have c3 := bY3.cell 3
  have f3 := bY3.free 3
  simp only [List.getElem?_cons_zero, List.getElem?_cons_succ] at c3
  have HSS := hide hss
  clear hss
  go_wp2_with fail
  have kset := kp_set' w3 w1.heap.size 3 (.slice ca (sCl l).length cc)
  have bY4 := bY3.set 3 (.slice ca (sCl l).length cc)
  simp only [List.set_cons_zero, List.set_cons_succ] at bY4
  have hD : ∀ b, (w.heap.size + 1 ≤ b ∧ b ≠ w1.heap.size) → ¬ (fun k => k = w1.heap.size) b := fun b hb e => hb.2 e
  have hn4 := hn3.kept kset hD
  have hg4 := hg3.kept kset hD
  have hc4 := (hc3.mono (C' := fun b => w.heap.size + 1 ≤ b ∧ b ≠ w1.heap.size) (fun b _ hb => ⟨by omega, by omega⟩)).kept kset hD
  have hm4 := (hm3.mono (C' := fun b => w.heap.size + 1 ≤ b ∧ b ≠ w1.heap.size) (fun b _ hb => ⟨by omega, by omega⟩)).kept kset hD
  have h4 := h3.kept kset (fun i e => by have : i = w1.heap.size := e; omega)
  have kw4 : Ext w (w3.setCell ⟨w1.heap.size, 3, none⟩ (.slice ca (sCl l).length cc)) := kw3.then kset (fun i hi e => by have : i = w1.heap.size := e; omega)
  have z4 : w1.heap.size + 1 ≤ (w3.setCell ⟨w1.heap.size, 3, none⟩ (.slice ca (sCl l).length cc)).heap.size := by rw [size_set]; omega
  clear bY3 hn3 hg3 hc3 hm3 h3 kw3 kset c3 f3 z3 zz2
  generalize w3.setCell ⟨w1.heap.size, 3, none⟩ (.slice ca (sCl l).length cc) = W4 at *
  refine (ksettings_any W4 w.heap.size w.heap.size (.slice la l.length lc) l h4).mono ?_
  rintro e w5 ⟨rfl, k5⟩
  have hset := sSet_in l
  have bY5 := bY4.kept k5 (by show ¬ w1.heap.size = w.heap.size; omega)
  have hD2 : ∀ b, (w.heap.size + 1 ≤ b ∧ b ≠ w1.heap.size) → ¬ (fun k => k = w.heap.size) b := fun b hb e => by have := hb.1; have : b = w.heap.size := e; omega
  have hn5 := hn4.kept k5 hD2
  have hg5 := hg4.kept k5 hD2
  have hc5 := hc4.kept k5 hD2
  have hm5 := hm4.kept k5 hD2
  have kw5 : Ext w w5 := kw4.then k5 (fun i hi e => by have : i = w.heap.size := e; omega)
  have z5 := k5.size
  clear bY4 hn4 hg4 hc4 hm4 h4 kw4 k5
  have a1 : Hid (1 + (sS1 l).1 = (ypOf l).W ∧ 1 + (sS2 l).1 = (ypOf l).T ∧ 1 + (sS3 l).1 = (ypOf l).R ∧ (sS4 l).1 = (ypOf l).G) := ⟨rfl, rfl, rfl, rfl⟩
  rw [a1.out.1, a1.out.2.1, a1.out.2.2.1, a1.out.2.2.2]
  obtain ⟨i1, i2, i3, i4⟩ : (1 ≤ (ypOf l).W ∧ (ypOf l).W ≤ 4) ∧ (1 ≤ (ypOf l).T ∧ (ypOf l).T ≤ 4) ∧ (1 ≤ (ypOf l).R ∧ (ypOf l).R ≤ 20) ∧ (ypOf l).G ≤ 32 := by
    rw [← a1.out.1, ← a1.out.2.1, ← a1.out.2.2.1, ← a1.out.2.2.2]
    omega
  have hfl := ypOf_fl l
  have hwr := write_ok hfl.ok
  have hf10 := file_ge (ypOf l)
  have hf4 : (ypOf l).file.length ≤ 4000 := ft_len hfl.ok
  have hdE : Hid ((ypOf l).ss = names4B.take (sN l) ∧ (ypOf l).gs = (sGs l).1 ∧ (ypOf l).cols = sCl l) := ⟨rfl, rfl, rfl⟩
  have HWN := hide (wNames_map l)
  have hgi : (sGs l).1.length ≤ 6 ∧ ∀ G ∈ (sGs l).1, G.length ≤ 4 ∧ ∀ x ∈ G, x.length ≤ 20 := by
    obtain ⟨t1, t2, t3⟩ := (Pl.okTable_iff _ _).1 (sTable_ok l)
    refine ⟨t2, fun G hG => ?_⟩
    obtain ⟨g1, g2, g3, g4⟩ := (Pl.okGroup_iff _ G).1 (t3 G hG)
    rw [sNames_len] at g1
    refine ⟨by omega, fun x hx => ?_⟩
    have := g4 x hx
    unfold Pl.okList at this
    simp only [Bool.and_eq_true, decide_eq_true_eq] at this
    omega
  generalize hd : ypOf l = d at *
  have HD := hide hd
  clear hd a1 hset
  have c4 := bY5.cell 4
  have c5 := bY5.cell 5
  have c6 := bY5.cell 6
  have c7 := bY5.cell 7
  have f4 := bY5.free 4
  have f5 := bY5.free 5
  have f6 := bY5.free 6
  have f7 := bY5.free 7
  simp only [List.getElem?_cons_zero, List.getElem?_cons_succ] at c4 c5 c6 c7
  have bY6 := (((bY5.set 4 (.int .i64 (d.W : Int))).set 5 (.int .i64 (d.T : Int))).set 6 (.int .i64 (d.R : Int))).set 7 (.int .i64 (d.G : Int))
  simp only [List.set_cons_zero, List.set_cons_succ] at bY6
  have kset := (((kp_set' w5 w1.heap.size 4 (.int .i64 (d.W : Int))).trans (kp_set' _ w1.heap.size 5 (.int .i64 (d.T : Int)))).trans (kp_set' _ w1.heap.size 6 (.int .i64 (d.R : Int)))).trans (kp_set' _ w1.heap.size 7 (.int .i64 (d.G : Int)))
  have x0 := bY6.cell 0
  have x1 := bY6.cell 1
  simp only [List.getElem?_cons_zero, List.getElem?_cons_succ] at x0 x1
  go_wp2_with fail
  have hn6 := hn5.kept kset hD
  have hg6 := hg5.kept kset hD
  have hc6 := hc5.kept kset hD
  have hm6 := hm5.kept kset hD
  have kw6 := kw5.then kset (fun i hi e => by have : i = w1.heap.size := e; omega)
  have z6 := kset.size
  clear bY5 hn5 hg5 hc5 hm5 kw5 c4 c5 c6 c7 f4 f5 f6 f7 kset
  generalize (((w5.setCell ⟨w1.heap.size, 4, none⟩ (.int .i64 (d.W : Int))).setCell ⟨w1.heap.size, 5, none⟩ (.int .i64 (d.T : Int))).setCell ⟨w1.heap.size, 6, none⟩ (.int .i64 (d.R : Int))).setCell ⟨w1.heap.size, 7, none⟩ (.int .i64 (d.G : Int)) = W6 at *
  refine (kown_any W6 (.slice na (sN l) nc) (.slice ga (sGs l).1.length gc) (names4B.take (sN l)) (sGs l).1 (fun b => w.heap.size + 1 ≤ b ∧ b ≠ w1.heap.size) hn6 hg6 (by rw [HSS.out]; omega) hgi.1 hgi.2).mono ?_
  rintro e w7 ⟨nv', gv', rfl, rn7, rg7, x7⟩
  have HX7 := hide x7
  have rn7' := rn7.rd
  have rg7' := rg7.rd
  rw [← hdE.out.1] at rn7'
  rw [← hdE.out.2.1] at rg7'
  have hWr := write_any w7.heap.size w7 nv' gv' d.ss d.gs rn7' rg7' (Nat.le_refl _)
  change Calls _ _ _ _ fun e w' => e = .returned (.tuple #[.string ⟨(Pl.write d.names d.gs).1.toArray⟩, .int .i64 (Pl.write d.names d.gs).2]) ∧ _ at hWr
  rw [hwr] at hWr
  have HWR := hide hWr
  clear hWr rn7 rg7 rn7' rg7'
  go_wp2_with fail
  refine (unhide HWR).mono ?_
  rintro e w8 ⟨rfl, x8⟩
  have x68 : Ext W6 w8 := HX7.out.trans x8
  clear HWR x8 x7 HX7
  have bY8 := bY6.kept x68 id
  have hn8 := hn6.kept x68 (fun _ _ f => f)
  have hg8 := hg6.kept x68 (fun _ _ f => f)
  have hc8 := hc6.kept x68 (fun _ _ f => f)
  have hm8 := hm6.kept x68 (fun _ _ f => f)
  have kw8 := kw6.trans x68
  have z8 := x68.size
  clear bY6 hn6 hg6 hc6 hm6 kw6 x0 x1 x68
  have c2 := bY8.cell 2
  have f2 := bY8.free 2
  have c4 := bY8.cell 4
  have c5 := bY8.cell 5
  have c6 := bY8.cell 6
  have c7 := bY8.cell 7
  simp only [List.getElem?_cons_zero, List.getElem?_cons_succ] at c2 c4 c5 c6 c7
  have kset := kp_set' w8 w1.heap.size 2 (tx d.file)
  have bY9 := bY8.set 2 (tx d.file)
  simp only [List.set_cons_zero, List.set_cons_succ] at bY9
  have hl10 : ¬ ((d.file.length : Nat) : Int) < 10 := by omega
  have hl4 : ¬ 4000 < ((d.file.length : Nat) : Int) := by omega
  go_wp2_with fail
  have hn9 := hn8.kept kset hD
  have hg9 := hg8.kept kset hD
  have hc9 := hc8.kept kset hD
  have hm9 := hm8.kept kset hD
  have kw9 : Ext w (w8.setCell ⟨w1.heap.size, 2, none⟩ (tx d.file)) := kw8.then kset (fun i hi e => by have : i = w1.heap.size := e; omega)
  have z9 := kset.size
  clear bY8 hn8 hg8 hc8 hm8 kw8 c2 f2 c4 c5 c6 c7 kset
  change Calls _ _ _ (w8.setCell ⟨w1.heap.size, 2, none⟩ (tx d.file)) _
  generalize w8.setCell ⟨w1.heap.size, 2, none⟩ (tx d.file) = W9 at *
  have hwn : (sCl l).map (nmOf (names4B.take (sN l))) = ((sCl l).map fun c => (names4B.take (sN l)).getD c ByteArray.empty).map Value.string := by rw [List.map_map]; rfl
  rw [hwn] at hm9
  have hok : Pl.okSet (d.file.length : Nat) (d.W : Nat) (d.T : Nat) (d.R : Nat) (d.G : Nat) = true := by
    unfold Pl.okSet
    rw [Bool.and_eq_true, Bool.and_eq_true, decide_eq_true_eq, decide_eq_true_eq]
    refine ⟨⟨by omega, by omega⟩, (Pl.okS_iff _ _ _ _).2 ?_⟩
    omega
  refine (xOpen_any W9.heap.size W9 (.slice ma (sCl l).length mc) _ (d.file.length : Nat) (d.W : Nat) (d.T : Nat) (d.R : Nat) (d.G : Nat) hm9.rd).mono ?_
  rintro e w10 ⟨x10, ⟨hb, -⟩ | ⟨-, X, P, col, rfl, hX, hlow⟩⟩
  · rw [hok] at hb; cases hb
  rw [HWN.out] at hX
  simp only [Int.toNat_natCast] at hX
  have bY10 := bY9.kept x10 id
  have hn10 := (hn9.mono (C' := fun b => w.heap.size ≤ b ∧ b < W9.heap.size ∧ b ≠ w1.heap.size) (fun b hb hc => ⟨by have := hc.1; omega, hb, hc.2⟩)).kept x10 (fun _ _ f => f)
  have hg10 := (hg9.mono (C' := fun b => w.heap.size ≤ b ∧ b < W9.heap.size ∧ b ≠ w1.heap.size) (fun b hb hc => ⟨by have := hc.1; omega, hb, hc.2⟩)).kept x10 (fun _ _ f => f)
  have hc10 := (hc9.mono (C' := fun b => w.heap.size ≤ b ∧ b < W9.heap.size ∧ b ≠ w1.heap.size) (fun b hb hc => ⟨by have := hc.1; omega, hb, hc.2⟩)).kept x10 (fun _ _ f => f)
  have kw10 := kw9.trans x10
  have z10 := x10.size
  have hY9 := bY9.lt
  clear bY9 hn9 hg9 hc9 hm9 kw9 hwn
  have c8 := bY10.cell 8
  have f8 := bY10.free 8
  simp only [List.getElem?_cons_zero, List.getElem?_cons_succ] at c8
  have bY11 := bY10.set 8 (PtrTo X 0)
  simp only [List.set_cons_zero, List.set_cons_succ] at bY11
  have kset := kp_set' w10 w1.heap.size 8 (PtrTo X 0)
  have c9 := bY11.cell 9
  have f9 := bY11.free 9
  simp only [List.getElem?_cons_zero, List.getElem?_cons_succ] at c9
  have hcln : (sCl l).length ≤ 4 := hcl4.2.2.2.2
  go_wp2_with (at_make; go_must (refine wpList_make_blk _ rfl _ _ 51 rfl 46 _ 24 Tryz.underlying51 kiL rfl (sCl l).length _ _ rfl rfl (by omega) (by omega) (by omega) (by omega) ?_); intro w12 hb12 x12 z12; have bY12 := bY11.kept x12 id; have e9 := bY12.cell 9; have g9 := bY12.free 9; simp only [List.getElem?_cons_zero, List.getElem?_cons_succ] at e9)
  rw [size_set] at hb12
  have zS := size_set w10 ⟨w1.heap.size, 8, none⟩ (PtrTo X 0)
  have kset2 := kp_set' w12 w1.heap.size 9 (.slice (some ⟨w10.heap.size, 0, none⟩) (sCl l).length (sCl l).length)
  have bF := bY12.set 9 (.slice (some ⟨w10.heap.size, 0, none⟩) (sCl l).length (sCl l).length)
  simp only [List.set_cons_zero, List.set_cons_succ] at bF
  have kAll : Kp (fun k => k = w1.heap.size) w10 (w12.setCell ⟨w1.heap.size, 9, none⟩ (.slice (some ⟨w10.heap.size, 0, none⟩) (sCl l).length (sCl l).length)) := (kset.trans (Kp.of_ext x12)).trans kset2
  have hcY : col w1.heap.size = .out := hlow _ hY9
  have zA := kAll.size
  have zB : w10.heap.size < w12.heap.size := hb12.lt
  have zC := size_set w12 ⟨w1.heap.size, 9, none⟩ (.slice (some ⟨w10.heap.size, 0, none⟩) (sCl l).length (sCl l).length)
  have htop := hX.top
  have hXlt := hX.blk.lt
  go_ret
  obtain rfl := HD.out
  refine ⟨w1.heap.size, X, P, col, ⟨w.heap.size, .slice na (sN l) nc, .slice ga (sGs l).1.length gc, .slice ca (sCl l).length cc, W9.heap.size, w10.heap.size⟩, List.replicate (sCl l).length (.slice none 0 0), rfl, ?_, ?_, rfl, ?_⟩
  · have hD4 : ∀ b, (w.heap.size ≤ b ∧ b < W9.heap.size ∧ b ≠ w1.heap.size) → ¬ (fun k => k = w1.heap.size) b := fun b hb e => hb.2.2 e
    refine ⟨bF, hY9, hlow, ?_, ?_, ?_, ?_, ?_, ?_⟩
    · exact hn10.kept kAll hD4
    · exact hg10.kept kAll hD4
    · exact hc10.kept kAll hD4
    · exact hX.kept kAll (fun i e => by have : i = w1.heap.size := e; rw [this]; exact hcY)
    · have g0 : NxAt (fun g => W9.heap.size ≤ g ∧ col g = .out) w12 w10.heap.size (List.replicate (sCl l).length (.slice none 0 0)) (List.replicate (sCl l).length []) := NxAt.nil hb12 ⟨z10, htop _ (Nat.le_refl _)⟩
      have e0 : gotOf (ypOf l) 0 = List.replicate (sCl l).length [] := by
        unfold gotOf
        simp only [List.take_zero]
        rw [List.map_const', List.length_range]
        rfl
      rw [e0]
      exact g0.kept kset2 (fun g hg _ e => by have : g = w1.heap.size := e; omega)
    · intro b hb
      refine .inr ?_
      rw [zC]
      rcases hb with rfl | hb | rfl | ⟨v, hv, hg⟩
      · omega
      · have h1 : W9.heap.size ≤ b := Nat.le_of_not_lt (fun h => hb (hlow b h))
        have h2 : b < w10.heap.size := Nat.lt_of_not_le (fun h => hb (htop b h))
        omega
      · show w.heap.size ≤ w10.heap.size ∧ w10.heap.size < w12.heap.size; omega
      · cases List.eq_of_mem_replicate hv
        cases hg
  · exact (kw10.then kAll (fun i hi e => by have : i = w1.heap.size := e; omega))
  · show W9.heap.size ≤ _; rw [zC]; omega
end Go.Proofs.YthicgffppmbamaaGreat

namespace Go.Proofs.YthicgffppmbamaaGreat
open Go.RowKit

set_option maxRecDepth 20000 in
set_option maxHeartbeats 1000000 in
theorem total_any (C : Nat → Prop) (w : World) (nv gv : Value) (gs : List (List (List Int))) (hnv : ∃ a n c, nv = .slice a n c) (hg : TIII C w gv gs) (hgl : gs.length ≤ 6) (hgi : ∀ G ∈ gs, 1 ≤ G.length ∧ ∀ x ∈ G, x.length ≤ 20) :
    Calls Tryz.prog 19 #[.agg #[nv, gv]] w fun e w' => e = .returned (.int .i64 (totalOf gs : Nat)) ∧ Ext w w' := by
  obtain ⟨na, nn, nc, rfl⟩ := hnv
  obtain ⟨gvs, hgr, hgvl, hge⟩ := hg
  obtain ⟨ga, gc, rfl, hgc, hg3⟩ := hgr.get
  rw [hgvl] at hgc hg3 ⊢
  have HGV := hide hgvl
  have x0 : Ext w (w.alloc (.cells #[.slice na nn nc, .slice ga gs.length gc] 42)) := (Kp.refl _ _).alloc _
  have b0 := Blk.of_alloc w [.slice na nn nc, .slice ga gs.length gc] 42
  have hle : ∀ k, k ≤ gs.length → ahead' gs k ≤ 20 * k := fun k hk => by
    induction k with
    | zero => rw [ahead'_zero]; omega
    | succ k ih =>
      rw [ahead'_succ gs k (by omega)]
      have h1 := ih (by omega)
      have h2 := hgi gs[k] (List.getElem_mem (by omega))
      have e1 : gs.getD k [] = gs[k] := by rw [List.getD_eq_getElem?_getD, List.getElem?_eq_getElem (by omega)]; rfl
      rw [e1]
      have h3 := h2.2 (gs[k].getD 0 []) (by rw [List.getD_eq_getElem?_getD, List.getElem?_eq_getElem (by omega)]; exact List.getElem_mem _)
      omega
  clear hgvl
  go_enter Tryz.func19, Tryz.ntmps19
  go_wp2_with fail
  generalize w.alloc (.cells #[.slice na nn nc, .slice ga gs.length gc] 42) = W0 at *
  have c1 := b0.cell 1
  simp only [List.getElem?_cons_zero, List.getElem?_cons_succ] at c1
  go_loopw [3, 4] (fun n i wr => ∃ (k : Nat), i = .int .i64 k ∧ k ≤ gs.length ∧ n = .int .i64 (ahead' gs k : Nat) ∧ wr = W0) (fun _ i _ => 10 - (intOf i).toNat)
  case atStart => exact ⟨0, rfl, by omega, by rw [ahead'_zero]; rfl, rfl⟩
  case round =>
    obtain ⟨k, rfl, hk, rfl, rfl⟩ := hrel
    have hb := hle k hk
    by_cases hkl : k < gs.length
    · have hkl2 : (k : Int) < (gs.length : Int) := by omega
      have kk0 : (0 : Int) ≤ (k : Int) := by omega
      obtain ⟨gb, goff, rfl, -, -, hgcell⟩ := hg3 (by omega)
      have hkv : k < gvs.length := by rw [HGV.out]; exact hkl
      have hgk := hgcell k hkl
      rw [List.getElem?_eq_getElem hkv] at hgk
      have hT := hge k gvs[k] gs[k] (List.getElem?_eq_getElem hkv) (List.getElem?_eq_getElem hkl)
      have hG := hgi gs[k] (List.getElem_mem hkl)
      have hsu := ahead'_succ gs k hkl
      have e1 : gs.getD k [] = gs[k] := by rw [List.getD_eq_getElem?_getD, List.getElem?_eq_getElem hkl]; rfl
      rw [e1] at hsu
      generalize gvs[k] = gk at *
      generalize gs[k] = Gk at *
      obtain ⟨ia, ic, us, rfl, hic, hul, hel, hcell⟩ := hT.get
      obtain ⟨ib, ioff, rfl, -, -, hcl⟩ := hcell (by omega)
      have h0 := hcl 0 (by omega)
      have hu0 : 0 < us.length := by omega
      rw [List.getElem?_eq_getElem hu0] at h0
      have hl0 := hel 0 us[0] Gk[0] (List.getElem?_eq_getElem hu0) (List.getElem?_eq_getElem (by omega))
      have e2 : Gk.getD 0 [] = Gk[0]'(by omega) := by rw [List.getD_eq_getElem?_getD, List.getElem?_eq_getElem (by omega)]; rfl
      have h20 := hG.2 (Gk[0]'(by omega)) (List.getElem_mem _)
      rw [e2] at hsu
      generalize us[0] = u0 at *
      generalize Gk[0]'(by omega) = L0 at *
      obtain ⟨la, lc, rfl, hlc, -⟩ := hl0.get
      rw [List.length_map] at h0 hlc
      have d1 := x0.cell hgk id
      have d2 := x0.cell h0 id
      have HSU := hide hsu
      clear hgk h0 hl0 hcl hcell hgcell hg3 hge hsu e1 e2
      have hGp : (0 : Int) < (Gk.length : Int) := by omega
      rw [Nat.add_zero] at d2
      generalize ahead' gs k = ak at *
      go_wp2_with fail
      refine ⟨⟨k + 1, by go_num, by omega, by rw [HSU.out]; go_num, trivial⟩, by simp [intOf]; omega⟩
    · obtain rfl : k = gs.length := by omega
      go_wp2_with fail
      go_ret
      exact ⟨rfl, x0⟩

set_option maxRecDepth 20000 in
set_option maxHeartbeats 1000000 in
theorem column_any (C : Nat → Prop) (w : World) (nv gv : Value) (gs : List (List (List Int))) (c : Nat) (hnv : ∃ a n c, nv = .slice a n c) (hg : TIII C w gv gs) (hgl : gs.length ≤ 6) (hgi : ∀ G ∈ gs, c < G.length ∧ ∀ x ∈ G, x.length ≤ 20) :
    Calls Tryz.prog 60 #[.agg #[nv, gv], .int .i64 (c : Int)] w fun e w' => ∃ v, e = .returned v ∧ Own w' 1 v (gs.flatMap fun G => G.getD c []).length ((gs.flatMap fun G => G.getD c []).map I) ∧ (∀ g, v.ownBlock = some g → w.heap.size ≤ g) ∧ Ext w w' := by
  obtain ⟨na, nn, nc, rfl⟩ := hnv
  replace hg : TIII (fun b => b < w.heap.size) w gv gs := hg.mono (fun b hb _ => hb)
  obtain ⟨gvs, hgr, hgvl, hge⟩ := hg
  obtain ⟨ga, gc, rfl, hgc, hg3⟩ := hgr.get
  rw [hgvl] at hgc hg3 ⊢
  have HGV := hide hgvl
  have x0 : Ext w (w.alloc (.cells #[.slice na nn nc, .slice ga gs.length gc] 42)) := (Kp.refl _ _).alloc _
  have b0 := Blk.of_alloc w [.slice na nn nc, .slice ga gs.length gc] 42
  have hle : ∀ k, k ≤ gs.length → ((gs.take k).flatMap fun G => G.getD c []).length ≤ 20 * k := fun k hk => by
    induction k with
    | zero => simp
    | succ k ih =>
      have h1 := ih (by omega)
      have h2 := hgi gs[k] (List.getElem_mem (by omega))
      have h3 := h2.2 (gs[k].getD c []) (by rw [List.getD_eq_getElem?_getD, List.getElem?_eq_getElem h2.1]; exact List.getElem_mem _)
      rw [List.take_succ_eq_append_getElem (by omega), List.flatMap_append, List.length_append]
      simp only [List.flatMap_cons, List.flatMap_nil, List.append_nil]
      omega
  clear hgvl
  go_enter Tryz.func60, Tryz.ntmps60
  go_wp2_with fail
  generalize w.alloc (.cells #[.slice na nn nc, .slice ga gs.length gc] 42) = W0 at *
  go_loopw [5, 6] (fun t i wr => ∃ (k : Nat), i = .int .i64 k ∧ k ≤ gs.length ∧ Own wr 1 t ((gs.take k).flatMap fun G => G.getD c []).length (((gs.take k).flatMap fun G => G.getD c []).map I) ∧ (∀ g, t.ownBlock = some g → W0.heap.size ≤ g) ∧ Ext W0 wr) (fun _ i _ => 10 - (intOf i).toNat)
  case atStart => exact ⟨0, rfl, by omega, Own.nil _ _, fun g e => by simp [Value.ownBlock] at e, Kp.refl _ _⟩
  case round =>
    obtain ⟨k, rfl, hk, ho, hog, hx⟩ := hrel
    have hb := hle k hk
    have b1 := b0.kept hx id
    have c1 := b1.cell 1
    simp only [List.getElem?_cons_zero, List.getElem?_cons_succ] at c1
    by_cases hkl : k < gs.length
    · have hkl2 : (k : Int) < (gs.length : Int) := by omega
      have kk0 : (0 : Int) ≤ (k : Int) := by omega
      have cc0 : (0 : Int) ≤ (c : Int) := by omega
      obtain ⟨gb, goff, rfl, -, -, hgcell⟩ := hg3 (by omega)
      have hkv : k < gvs.length := by rw [HGV.out]; exact hkl
      have hgk := hgcell k hkl
      rw [List.getElem?_eq_getElem hkv] at hgk
      have hT := hge k gvs[k] gs[k] (List.getElem?_eq_getElem hkv) (List.getElem?_eq_getElem hkl)
      have hG := hgi gs[k] (List.getElem_mem hkl)
      have HSU : Hid (((gs.take (k + 1)).flatMap fun G => G.getD c []) = ((gs.take k).flatMap fun G => G.getD c []) ++ gs[k].getD c []) := by
        show _ = _
        rw [List.take_succ_eq_append_getElem hkl, List.flatMap_append]
        simp only [List.flatMap_cons, List.flatMap_nil, List.append_nil]
      generalize gvs[k] = gk at *
      generalize gs[k] = Gk at *
      obtain ⟨ia, ic, us, rfl, hic, hul, hel, hcell⟩ := hT.get
      have hGl := hG.1
      have hGp : (c : Int) < (Gk.length : Int) := by omega
      obtain ⟨ib, ioff, rfl, -, -, hcl⟩ := hcell (by omega)
      have h0 := hcl c hGl
      have hu0 : c < us.length := by omega
      rw [List.getElem?_eq_getElem hu0] at h0
      have hl0 := hel c us[c] Gk[c] (List.getElem?_eq_getElem hu0) (List.getElem?_eq_getElem hGl)
      have e2 : Gk.getD c [] = Gk[c] := by rw [List.getD_eq_getElem?_getD, List.getElem?_eq_getElem hGl]; rfl
      have h20 := hG.2 Gk[c] (List.getElem_mem _)
      rw [e2] at HSU
      generalize us[c] = u0 at *
      generalize Gk[c] = L0 at *
      have hlr := (hl0.kept x0 (fun _ _ f => f)).kept hx (fun _ _ f => f)
      obtain ⟨la, lc, rfl, hlc, -⟩ := hlr.get
      have hsrc := RdP.src (P := Tryz.prog) Tryz.underlying46 hlr (one_ints L0)
      rw [List.length_map] at h0 hlc hsrc
      have d1 := hx.cell (x0.cell hgk id) id
      have d2 := hx.cell (x0.cell h0 id) id
      have HS := hide hsrc
      have HUL := hide hul
      clear hgk h0 hl0 hcl hcell hgcell hg3 hge e2 hsrc hul hel hlr
      generalize (gs.take k).flatMap (fun G => G.getD c []) = F at *
      obtain ⟨fa, fc, rfl, hfc⟩ := ho.shape
      go_wp2_with (at_builtin; go_must (refine wpList_append_g _ rfl _ _ 46 46 rfl 3 (.int .i64 0) 1 8 Tryz.underlying46 kiI rfl _ _ _ rfl ho _ rfl L0.length _ (unhide HS) (by omega) (by omega) ?_); intro v5 w5 o5 k5 s5)
      refine ⟨⟨k + 1, by go_num, by omega, by rw [HSU.out, List.length_append, List.map_append]; exact o5, fun g e => ?_, hx.then k5 (fun i hi e => by have := hog i e; omega)⟩, by simp [intOf]; omega⟩
      rcases sep_new s5 e with e' | e'
      · exact hog g e'
      · have := hx.size; omega
    · obtain rfl : k = gs.length := by omega
      rw [List.take_length] at ho
      obtain ⟨fa, fc, rfl, hfc⟩ := ho.shape
      go_wp2_with fail
      go_ret
      exact ⟨_, rfl, ho, fun g e => by have := hog g e; have := x0.size; omega, x0.trans hx⟩
end Go.Proofs.YthicgffppmbamaaGreat

namespace Go.Proofs.YthicgffppmbamaaGreat
open Go.RowKit

theorem fm_at {α : Type} (f : α → List Value) (s : Nat) (hf : ∀ x, (f x).length = s) (l : List α) (i j : Nat) (hi : i < l.length) (hj : j < s) : (l.flatMap f)[i * s + j]? = (f l[i])[j]? := by
  have e : l.flatMap f = (l.map f).flatten := by rw [List.flatMap]
  rw [e]
  refine flatten_at s _ (fun x hx => ?_) i j hj _ ?_
  · obtain ⟨y, -, rfl⟩ := List.mem_map.1 hx
    exact hf y
  · rw [List.getElem?_map, List.getElem?_eq_getElem hi]
    rfl
/-- what is asked for: no more than the window, within the file, rising ids -/
structure FineOk (m : Pl.Sc) (W F : Nat) : Prop where
  win : m.asked.length ≤ W
  len : ∀ q ∈ m.asked, 1 ≤ q.2.length - q.2.data.length
  ends : ∀ q ∈ m.asked, q.2.place + q.2.data.length + (q.2.length - q.2.data.length) ≤ F
  ids : ∀ i (h : i + 1 < m.asked.length), m.asked[i].1 < (m.asked[i + 1]).1
  small : ∀ q ∈ m.asked, q.1 ≤ 10000000000000

set_option maxRecDepth 20000 in
set_option maxHeartbeats 2000000 in
theorem fine_any (w : World) (Y : Nat) (W F : Nat) (fl : ByteArray) (m : Pl.Sc) (v : Value) (hf : FineOk m W F) (hW : W ≤ 4) (hF : F ≤ 4000) (hfl : fl.size = F) (c4 : w.cell? ⟨Y, 4, none⟩ = some (.int .i64 (W : Int))) (c2 : w.cell? ⟨Y, 2, none⟩ = some (.string fl)) (ho : Own w 3 v m.asked.length (m.asked.flatMap askCells)) :
    Calls Tryz.prog 24 #[PtrTo Y 0, v] w fun e w' => e = .returned (.bool true) ∧ Ext w w' := by
  subst hfl
  obtain ⟨va, vc, rfl, hvc⟩ := ho.shape
  have hwin := hf.win
  have hw2 : ¬ (W : Int) < (m.asked.length : Int) := by omega
  go_enter Tryz.func24, Tryz.ntmps24
  go_wp2_with fail
  go_loopw [5] (fun i wr => ∃ (k : Nat), i = .int .i64 k ∧ k ≤ m.asked.length ∧ Ext w wr) (fun i _ => 10 - (intOf i).toNat)
  case atStart => exact ⟨0, rfl, by omega, Kp.refl _ _⟩
  case round =>
    obtain ⟨k, rfl, hk, hx⟩ := hrel
    by_cases hkl : k < m.asked.length
    · have hkl2 : (k : Int) < (m.asked.length : Int) := by omega
      have kk0 : (0 : Int) ≤ (k : Int) := by omega
      obtain ⟨ga, ca, he, _, hga, hc⟩ := ho.at (by omega)
      cases he
      have hck : ∀ i (hi : i < m.asked.length), ∀ j, j < 3 → w.cell? ⟨ga, i * 3 + j, none⟩ = (askCells m.asked[i])[j]? := fun i hi j hj => by
        rw [hc (i * 3 + j) (by omega), fm_at askCells 3 (fun _ => rfl) m.asked i j hi hj]
      have hq := List.getElem_mem hkl
      have e1 := hf.len _ hq
      have e2 := hf.ends _ hq
      have e3 := hf.small _ hq
      have d0 := hck k hkl 0 (by omega)
      have d1 := hck k hkl 1 (by omega)
      have d2 := hck k hkl 2 (by omega)
      have hprev : 0 < k → ∃ p : Nat, p < m.asked[k].1 ∧ w.cell? ⟨ga, (k - 1) * 3, none⟩ = some (.int .i64 (p : Int)) := fun hp => by
        refine ⟨(m.asked[k - 1]'(by omega)).1, ?_, ?_⟩
        · have := hf.ids (k - 1) (by omega)
          have e : k - 1 + 1 = k := by omega
          simp only [e] at this
          exact this
        · have := hck (k - 1) (by omega) 0 (by omega)
          simp only [askCells, I, List.getElem?_cons_zero, Nat.add_zero] at this
          exact this
      simp only [askCells, I, List.getElem?_cons_zero, List.getElem?_cons_succ, Nat.add_zero] at d0 d1 d2
      generalize m.asked[k] = q at *
      generalize q.2.place + q.2.data.length = pl at *
      generalize q.2.length - q.2.data.length = ll at *
      generalize q.1 = qi at *
      clear hck hc hq
      have g0 := hx.cell d0 id
      have g1 := hx.cell d1 id
      have g2 := hx.cell d2 id
      have g4 := hx.cell c2 id
      have xa : Ext wr (wr.alloc (.cells #[.int .i64 (qi : Int), .int .i64 (pl : Int), .int .i64 (ll : Int)] 72)) := (Kp.refl _ _).alloc _
      have t1 : ¬ (pl : Int) < 0 := by omega
      have t2 : ¬ (ll : Int) < 1 := by omega
      have t3 : ¬ (fl.size : Int) < (pl : Int) + (ll : Int) := by omega
      have g5 := xa.cell g4 id
      have rb := Blk.of_alloc wr [.int .i64 (qi : Int), .int .i64 (pl : Int), .int .i64 (ll : Int)] 72
      have r0 := rb.cell 0
      have r1 := rb.cell 1
      have r2 := rb.cell 2
      simp only [List.getElem?_cons_zero, List.getElem?_cons_succ] at r0 r1 r2
      by_cases hk0 : k = 0
      · subst hk0
        go_wp2_with fail
        generalize wr.alloc (.cells #[.int .i64 (qi : Int), .int .i64 (pl : Int), .int .i64 (ll : Int)] 72) = W5 at *
        have wr1 : IntKind.i64.wrap ((pl : Int) + (ll : Int)) = (pl : Int) + (ll : Int) := by simp [IntKind.wrap, IntKind.bits, IntKind.signed]; omega
        have td1 : decide ((pl : Int) < 0) = false := decide_eq_false (by omega)
        have td2 : decide ((ll : Int) < 1) = false := decide_eq_false (by omega)
        have td3 : decide ((fl.size : Int) < (pl : Int) + (ll : Int)) = false := decide_eq_false (by omega)
        have td4 : ∀ p : Nat, p < qi → decide ((qi : Int) ≤ (p : Int)) = false := fun p hp => decide_eq_false (by omega)
        go_quiet (fail)
        go_wp2_with fail
        exact ⟨⟨0 + 1, by go_num, by omega, (hx.trans xa).drewN _⟩, by simp [intOf]⟩
      · obtain ⟨p, hp, dp⟩ := hprev (by omega)
        have gp := xa.cell (hx.cell dp id) id
        have t4 : ¬ (qi : Int) ≤ (p : Int) := by omega
        have t5 : (0 : Int) < (k : Int) := by omega
        have t6 : (0 : Int) ≤ (k : Int) - 1 := by omega
        have t7 : (k : Int) - 1 < (m.asked.length : Int) := by omega
        have t8 : ((k : Int) - 1).toNat = k - 1 := by omega
        go_wp2_with fail
        generalize wr.alloc (.cells #[.int .i64 (qi : Int), .int .i64 (pl : Int), .int .i64 (ll : Int)] 72) = W5 at *
        have wr1 : IntKind.i64.wrap ((pl : Int) + (ll : Int)) = (pl : Int) + (ll : Int) := by simp [IntKind.wrap, IntKind.bits, IntKind.signed]; omega
        have td1 : decide ((pl : Int) < 0) = false := decide_eq_false (by omega)
        have td2 : decide ((ll : Int) < 1) = false := decide_eq_false (by omega)
        have td3 : decide ((fl.size : Int) < (pl : Int) + (ll : Int)) = false := decide_eq_false (by omega)
        have td4 : ∀ p : Nat, p < qi → decide ((qi : Int) ≤ (p : Int)) = false := fun p hp => decide_eq_false (by omega)
        have td5 := td4 p hp
        have wr2 : IntKind.i64.wrap ((k : Int) - 1) = (k : Int) - 1 := by simp [IntKind.wrap, IntKind.bits, IntKind.signed]; omega
        have td6 : decide ((0 : Int) < (k : Int)) = true := decide_eq_true (by omega)
        have td7 : decide (0 < k) = true := decide_eq_true (by omega)
        clear td4
        go_quiet (fail)
        go_wp2_with fail
        exact ⟨⟨k + 1, by go_num, by omega, (hx.trans xa).drewN _⟩, by simp [intOf]; omega⟩
    · obtain rfl : k = m.asked.length := by omega
      go_wp2_with fail
      go_ret
      exact ⟨rfl, hx⟩
end Go.Proofs.YthicgffppmbamaaGreat

namespace Go.Proofs.YthicgffppmbamaaGreat
open Go.RowKit

theorem lA {α : Type} (l : List α) (i : Nat) (a : α) : l.toArray.setIfInBounds i a = (l.set i a).toArray := List.setIfInBounds_toArray ..
theorem lZ {α : Type} (x : α) (xs : List α) (a : α) : (x :: xs).set 0 a = a :: xs := rfl
theorem lS {α : Type} (x : α) (xs : List α) (n : Nat) (a : α) : (x :: xs).set (n + 1) a = x :: xs.set n a := rfl
section
variable {P : Program} {ops : Array Oper} {Q : Exit → Act → World → Prop} {md : Region.Mode} {S : World → Prop}
theorem Late.tk {n i : Nat} {oi : Oper} {v : Value} {f : Nat} {listed : Array Bool} {a : Act} {w : World} (r : List Nat) (hi : ops[i]? = some oi) (hS : S w) (hy : ∀ u, S u → (execOp a.eval oi).run P u = .ok (.value v) u) (h : Late P md ops Q S n f (listed.setIfInBounds i true) (a.put oi.dst v) w)
    (hs : Region.noSelect ops = true := by kernel_rfl) (hw : chained md ops i r = true := by kernel_rfl) (hn : n ∈ r := by decide) (hni : i ≠ n := by decide) (hl : r.all (fun x => listed.getD x true == false) = true := by kernel_rfl) (hf : Region.free md ops listed i = true := by kernel_rfl) (hr : (Region.ready md ops listed).contains i = true := by kernel_rfl)
    (hQ : ∀ c a w, Q (.panic c) (a.put oi.dst v) w → Q (.panic c) a w := by exact fun _ _ _ h => h) (hg : oi.guard = none := by rfl) : Late P md ops Q S n (f + 1) listed a w := Late.take r hi hs hw hn hni hl hf hr hQ hg hy hS h
theorem Late.tkW {n i : Nat} {oi : Oper} {v : Value} {f : Nat} {listed : Array Bool} {a : Act} {w : World} (r : List Nat) (hi : ops[i]? = some oi) (hS : S w) (hy : ∀ u, S u → (execOp a.eval oi).run P u = .ok (.value v) u) (h : Late P md ops Q S n f (listed.setIfInBounds i true) (a.put oi.dst v) w)
    (hs : Region.noSelect ops = true := by kernel_rfl) (hw : chained md ops i r = true := by kernel_rfl) (hn : n ∈ r := by decide) (hni : i ≠ n := by decide) (hl : r.all (fun x => listed.getD x true == false) = true := by kernel_rfl) (hf : Region.free md ops listed i = true := by kernel_rfl) (hr : (Region.ready md ops listed).contains i = true := by kernel_rfl)
    (hQ : ∀ c a w, Q (.panic c) (a.put oi.dst v) w → Q (.panic c) a w := by exact fun _ _ _ h => h) (hg : Region.wanted oi (yielded ops a.tmps) = true := by rfl) : Late P md ops Q S n (f + 1) listed a w := Late.takeW r hi hs hw hn hni hl hf hr hQ hg hy hS h
end

/-- settings and columns that may be -/
structure DOk (d : Yp) : Prop where
  fl : Fl d.names d.gs d.cols
  W1 : 1 ≤ d.W
  W4 : d.W ≤ 4
  T1 : 1 ≤ d.T
  T4 : d.T ≤ 4
  R1 : 1 ≤ d.R
  R20 : d.R ≤ 20
  c1 : 1 ≤ d.cols.length
  c4 : d.cols.length ≤ 4
abbrev KxD (d : Yp) (m : Pl.Sc) (N k F : Nat) : Prop := Kx d.names d.gs d.cols d.W d.T d.R m N k F
theorem DOk.grp {d : Yp} (h : DOk d) : d.gs.length ≤ 6 ∧ ∀ G ∈ d.gs, G.length = d.names.length ∧ 1 ≤ G.length ∧ ∀ x ∈ G, x.length ≤ 20 := by
  obtain ⟨t1, t2, t3⟩ := (Pl.okTable_iff _ _).1 h.fl.ok
  refine ⟨t2, fun G hG => ?_⟩
  obtain ⟨g1, g2, g3, g4⟩ := (Pl.okGroup_iff _ G).1 (t3 G hG)
  have n1 := ((Pl.okNames_iff _).1 t1).1
  refine ⟨g1, by omega, fun x hx => ?_⟩
  have := g4 x hx
  unfold Pl.okList at this
  simp only [Bool.and_eq_true, decide_eq_true_eq] at this
  omega
theorem colOf_len {d : Yp} (h : DOk d) (c : Nat) (hc : c < d.cols.length) : (colOf d.gs d.cols c).length = totalOf d.gs := by
  have he := even_of h.fl.ok h.fl.cols c hc
  unfold colOf totalOf ahead'
  rw [List.take_length, List.length_flatMap]
  congr 1
  apply List.map_congr_left
  intro G hG
  exact he G hG
/-- what a call of Next does to the scan, plainly -/
def Took (gs : List (List (List Int))) (m m' : Pl.Sc) (k k' : Nat) : Prop := (m' = m ∧ k' = k ∧ (m.state = 0 → partsOf m ≠ [])) ∨ (m.state = 0 ∧ k < k' ∧ (m'.state = 0 → Phi gs m' k' + 1 ≤ Phi gs m k ∧ m'.waiting = m.waiting))
/-- the lists of rows, when i columns of them have got their next n rows -/
def gotMid (d : Yp) (k n i : Nat) : List (List Int) := (List.range d.cols.length).map fun c => (colOf d.gs d.cols c).take (if c < i then k + n else k)
theorem gotMid_zero (d : Yp) (k n : Nat) : gotMid d k n 0 = gotOf d k := by
  unfold gotMid gotOf
  apply List.map_congr_left
  intro c _
  rw [if_neg (by omega)]
theorem gotMid_all (d : Yp) (k n : Nat) : gotMid d k n d.cols.length = gotOf d (k + n) := by
  unfold gotMid gotOf
  apply List.map_congr_left
  intro c hc
  rw [if_pos (List.mem_range.1 hc)]
theorem gotMid_at (d : Yp) (k n i c : Nat) (hc : c < d.cols.length) : (gotMid d k n i)[c]? = some ((colOf d.gs d.cols c).take (if c < i then k + n else k)) := by
  unfold gotMid
  rw [List.getElem?_map, List.getElem?_range hc]
  rfl
theorem gotMid_len (d : Yp) (k n i : Nat) : (gotMid d k n i).length = d.cols.length := by unfold gotMid; simp
theorem gotMid_succ (d : Yp) (k n i : Nat) (hi : i < d.cols.length) : gotMid d k n (i + 1) = (gotMid d k n i).set i ((colOf d.gs d.cols i).take (k + n)) := by
  apply List.ext_getElem?
  intro c
  by_cases hc : c < d.cols.length
  · by_cases hci : c = i
    · subst hci
      rw [List.getElem?_set_self (by rw [gotMid_len]; exact hc), gotMid_at d k n (c + 1) c hc, if_pos (by omega)]
    · rw [List.getElem?_set_ne (Ne.symm hci), gotMid_at d k n (i + 1) c hc, gotMid_at d k n i c hc]
      by_cases hlt : c < i
      · rw [if_pos (by omega), if_pos hlt]
      · rw [if_neg (by omega), if_neg hlt]
  · rw [List.getElem?_eq_none (by rw [gotMid_len]; omega), List.getElem?_eq_none (by rw [List.length_set, gotMid_len]; omega)]
theorem take_more {α : Type} (l : List α) (k n : Nat) : l.take (k + n) = l.take k ++ (l.drop k).take n := by
  rw [List.take_add]
theorem slice_of {C : Nat → Prop} {w : World} {v : Value} {cs : List Value} (h : RdP C w v cs) : ∃ a n c, v = .slice a n c := by
  obtain ⟨a, c, e, -⟩ := h
  exact ⟨_, _, _, e⟩

/-- what must hold of a scan, and is kept by all that is done to it -/
structure InvOk (d : Yp) (Jv : Pl.Sc → Nat → Nat → Nat → Prop) : Prop where
  good : ∀ {m : Pl.Sc} {N k F : Nat}, Jv m N k F → Good m N
  ids : ∀ {m : Pl.Sc} {N k F : Nat}, Jv m N k F → Ids m
  fine : ∀ {m : Pl.Sc} {N k F : Nat}, Jv m N k F → N ≤ 1000000000 → FineOk m d.W d.file.length
  mono : ∀ {m : Pl.Sc} {N N' k F : Nat}, Jv m N k F → N ≤ N' → Jv m N' k F
  monoF : ∀ {m : Pl.Sc} {N k F F' : Nat}, Jv m N k F → F ≤ F' → Jv m N k F'
  next : ∀ {m : Pl.Sc} {N k F : Nat}, Jv m N k F → (((Pl.next m).2 = none ∧ (Pl.next m).1 = m ∧ (m.state = 0 → partsOf m ≠ [])) ∨ ∃ n, m.state = 0 ∧ (Pl.next m).2 = some ((List.range d.cols.length).map fun c => ((colOf d.gs d.cols c).drop k).take n) ∧ 1 ≤ n ∧ k + n ≤ totalOf d.gs ∧ (n = d.R ∨ k + n = totalOf d.gs) ∧ Jv (Pl.next m).1 N (k + n) F ∧ ((Pl.next m).1.state = 0 → Phi d.gs (Pl.next m).1 (k + n) + 1 ≤ Phi d.gs m k ∧ (Pl.next m).1.waiting = m.waiting))
  tick : ∀ {m : Pl.Sc} {N k F : Nat}, Jv m N k F → N ≤ 100000000000 → Jv (Pl.tick m) (N + 4) k F ∧ (Pl.tick m).state = m.state ∧ (m.state = 0 → Phi d.gs (Pl.tick m) k + m.waiting.length = Phi d.gs m k)
  answer : ∀ {m : Pl.Sc} {N k F : Nat}, Jv m N k F → ∀ (id : Int) (i n : Nat), Pl.findId m.asked id = some i → 1 ≤ n → n ≤ (Pl.partAt m i).length - (Pl.partAt m i).data.length →
    (Pl.answer m id (bytesAt (Ft d.names d.gs) ((Pl.partAt m i).place + (Pl.partAt m i).data.length) n)).2 = 0 ∧ Jv (Pl.answer m id (bytesAt (Ft d.names d.gs) ((Pl.partAt m i).place + (Pl.partAt m i).data.length) n)).1 (N + 24) k F ∧
      (n = (Pl.partAt m i).length - (Pl.partAt m i).data.length → (Pl.answer m id (bytesAt (Ft d.names d.gs) ((Pl.partAt m i).place + (Pl.partAt m i).data.length) n)).1.state = 0 → Phi d.gs (Pl.answer m id (bytesAt (Ft d.names d.gs) ((Pl.partAt m i).place + (Pl.partAt m i).data.length) n)).1 k + 1 ≤ Phi d.gs m k)
  phi : ∀ {m : Pl.Sc} {N k F : Nat}, Jv m N k F → m.state = 0 → Phi d.gs m k ≤ 300
def GotB (Lb : Nat) (vs : List Value) : Nat → Prop := fun g => g = Lb ∨ ∃ v ∈ vs, v.ownBlock = some g
theorem colOf_eq (gs : List (List (List Int))) (cols : List Nat) (j : Nat) (hj : j < cols.length) : (gs.flatMap fun G => G.getD cols[j] []) = colOf gs cols j := by
  unfold colOf
  rw [List.getD_eq_getElem?_getD (l := cols), List.getElem?_eq_getElem hj]
  rfl

set_option maxRecDepth 20000 in
set_option maxHeartbeats 8000000 in
theorem takesI_any (O : Nat → Prop) (d : Yp) (e : Ym) (col : Colr) (w : World) (Y X P : Nat) (m : Pl.Sc) (vs : List Value) (k N F : Nat) (Jv : Pl.Sc → Nat → Nat → Nat → Prop) (hI : InvOk d Jv) (hd : DOk d) (hk : Jv m N k F) (hy : YAt O d e col w Y X P m vs k) :
    Calls Tryz.prog 30 #[PtrTo Y 0] w fun r w' => r = .returned (.bool true) ∧ ∃ col' vs' k', YAt (grow O w w') d e col' w' Y X P (Pl.next m).1 vs' k' ∧ Kp O w w' ∧ Jv (Pl.next m).1 N k' F ∧ Took d.gs m (Pl.next m).1 k k' := by
  have hnx := hI.next hk
  have c8 := hy.blk.cell 8
  simp only [yCells, List.getElem?_cons_zero, List.getElem?_cons_succ] at c8
  have HNX := hide (gNext_any col w X P m N ⟨hy.isX, hI.good hk⟩)
  go_enter Tryz.func30, Tryz.ntmps30
  go_wp2_with fail
  refine (unhide HNX).mono ?_
  rintro r w1 ⟨hor, col1, hX1, hW1⟩
  obtain ⟨hy1, kO1⟩ := hy.scan hX1.1 hW1
  rcases hnx with ⟨n1, n2, n3⟩ | ⟨n, n0, n1, n2, n3, n4, n5, n6⟩
  · rcases hor with ⟨-, rfl⟩ | ⟨ls, Lb, vs2, h2, -⟩
    · have HY := hide hy1
      have HO := hide kO1
      have HN2 := hide n2
      clear hy1 kO1 n2 hX1 hW1 n1 HNX
      go_wp2_with fail
      go_ret
      have h1 := HY.out
      rw [HN2.out] at h1 ⊢
      exact ⟨rfl, col1, vs, k, h1, HO.out, hk, .inl ⟨rfl, rfl, n3⟩⟩
    · rw [n1] at h2; cases h2
  · rcases hor with ⟨h2, -⟩ | ⟨ls, Lb, vs2, h2, rfl, hls⟩
    · rw [n1] at h2; cases h2
    · rw [n1] at h2
      cases h2
      have HTK : Hid (Took d.gs m (Pl.next m).1 k (k + n)) := hide (.inr ⟨n0, by omega, n6⟩)
      have HK5 := hide n5
      generalize hm1 : (Pl.next m).1 = m1 at *
      have HM1 := hide hm1
      clear hm1
      have hcl1 := hd.c1
      have hcl4 := hd.c4
      have ht120 := totalOf_le hd.fl.ok
      have hR1 := hd.R1
      have hR20 := hd.R20
      obtain ⟨hg6, hgi⟩ := hd.grp
      obtain ⟨na, nn, nc, hnvE⟩ := slice_of hy1.nam
      obtain ⟨gvs, hgr, -, -⟩ := id hy1.tab
      obtain ⟨ga, gn, gc, hgvE⟩ := slice_of hgr
      obtain ⟨ca, cc, hcvE, hcc, hc3⟩ := hy1.cls.get
      rw [List.length_map] at hcvE hcc hc3
      obtain ⟨cb, coff, rfl, hcC, hcb, hccell⟩ := hc3 (by omega)
      have hcc2 : Hid (∀ j (hj : j < d.cols.length), w1.cell? ⟨cb, coff + j, none⟩ = some (.int .i64 (d.cols[j] : Int))) := fun j hj => by
        rw [hccell j hj, List.getElem?_map, List.getElem?_eq_getElem hj]
        rfl
      have HTot := hide (total_any (Low e Y) w1 e.nv e.gv d.gs ⟨na, nn, nc, hnvE⟩ hy1.tab hg6 (fun G hG => ⟨(hgi G hG).2.1, (hgi G hG).2.2⟩))
      rw [hnvE, hgvE] at HTot
      have hvl : vs.length = d.cols.length := by rw [hy1.got.len]; unfold gotOf; simp
      have hlen1 : ∀ c, c < d.cols.length → ((colOf d.gs d.cols c).take k).length = k := fun c hc => by rw [List.length_take, colOf_len hd c hc]; omega
      have hlen2 : ∀ c, c < d.cols.length → (((colOf d.gs d.cols c).drop k).take n).length = n := fun c hc => by rw [List.length_take, List.length_drop, colOf_len hd c hc]; omega
      have hls2l : vs2.length = d.cols.length := by rw [hls.len]; simp
      have hlsat : ∀ c, c < d.cols.length → ((List.range d.cols.length).map fun c => ((colOf d.gs d.cols c).drop k).take n)[c]? = some (((colOf d.gs d.cols c).drop k).take n) := fun c hc => by rw [List.getElem?_map, List.getElem?_range hc]; rfl
      have hlsl : ((List.range d.cols.length).map fun c => ((colOf d.gs d.cols c).drop k).take n).length = d.cols.length := by simp
      rw [hlsl]
      -- the cells of the scan's own block
      have y3 := hy1.blk.cell 3
      have y6 := hy1.blk.cell 6
      have y9 := hy1.blk.cell 9
      have y0 := hy1.blk.cell 0
      have y1 := hy1.blk.cell 1
      simp only [yCells, List.getElem?_cons_zero, List.getElem?_cons_succ, I, hcvE, hnvE, hgvE] at y0 y1 y3 y6 y9
      have hgb0 := hy1.got.blk.cell 0
      rw [List.getElem?_eq_getElem (by omega)] at hgb0
      have hgo0 := hy1.got.own 0 vs[0] ((colOf d.gs d.cols 0).take k) (List.getElem?_eq_getElem (by omega)) (by rw [← gotMid_zero d k n, gotMid_at d k n 0 0 (by omega)]; rfl)
      obtain ⟨v0a, v0c, hv0, -⟩ := hgo0.shape
      rw [hlen1 0 (by omega)] at hv0
      have hl0 := hls.blk.cell 0
      rw [List.getElem?_eq_getElem (by omega)] at hl0
      have hlo0 := hls.own 0 vs2[0] _ (List.getElem?_eq_getElem (by omega)) (hlsat 0 (by omega))
      obtain ⟨u0a, u0c, hu0, -⟩ := hlo0.shape
      rw [hlen2 0 (by omega)] at hu0
      rw [hv0] at hgb0
      rw [hu0] at hl0
      have hcp : (0 : Int) < (d.cols.length : Int) := by omega
      have hcp2 : ¬ (d.cols.length : Int) = 0 := by omega
      have HLS := hide hls
      have HY1 := hide hy1
      have HE := hide (And.intro hnvE (And.intro hgvE hcvE))
      have HLV := hide (And.intro hvl hls2l)
      have HL1 := hide hlen1
      have HL2 := hide hlen2
      have HLA := hide hlsat
      clear hls hy1 hccell hc3 hgo0 hlo0 hv0 hu0 hX1 hW1 hgr HNX n1 n6 n5 hnvE hgvE hcvE hvl hls2l hlen1 hlen2 hlsat hlsl
      have hn1 : ¬ (n : Int) < 1 := by omega
      have hb0 : (((d.cols.length : Nat) : Int) == 0) = false := by simpa using hcp2
      have hcase : n = d.R ∨ (¬ n = d.R ∧ k + n = totalOf d.gs) := by omega
      rcases hcase with hA | ⟨hA, hB⟩
      · rw [← hA] at y6
        clear hA
        go_wp2_with fail
        obtain ⟨wS, hwS⟩ : ∃ u, u = w1 := ⟨_, rfl⟩
        have xS : Ext w1 wS := by rw [hwS]; exact Kp.refl _ _
        rw [← hwS]
        clear hwS
        try rw [hb0]
        have hGB : Hid (∀ g, GotB e.Lb vs g → g < w.heap.size ∧ e.B ≤ g ∧ col1 g = .out) := fun g hg => by
          rcases hg with rfl | ⟨v, hv, hg⟩
          · exact ⟨hy.got.blk.lt, HY1.out.got.new⟩
          · obtain ⟨q, hq⟩ := List.getElem?_of_mem hv
            exact ⟨hy.got.lt q v g hq hg, (HY1.out.got.blks q v g hq hg).1⟩
        have hz1 := kO1.size
        have HYB := hide hy.yB
        have hYn : ¬ GotB e.Lb vs Y := fun g => by have := (hGB.out Y g).2.1; have := HYB.out; omega
        have hLn : ∀ b, Low e Y b → ¬ GotB e.Lb vs b := fun b hb g => by have := (hGB.out b g).2.1; have h2 := hb.2.1; omega
        go_loopw [6] (fun i wr => ∃ (j : Nat) (us : List Value), i = .int .i64 j ∧ j ≤ d.cols.length ∧ NxAt (fun g => e.B ≤ g ∧ col1 g = .out) wr e.Lb us (gotMid d k n j) ∧ (∀ u ∈ us, ∀ g, u.ownBlock = some g → GotB e.Lb vs g ∨ w1.heap.size ≤ g) ∧ Kp (GotB e.Lb vs) w1 wr) (fun i _ => 10 - (intOf i).toNat)
        case atStart => exact ⟨0, vs, rfl, by omega, by rw [gotMid_zero]; exact HY1.out.got.ext xS, fun u hu g hg => .inl (.inr ⟨u, hu, hg⟩), Kp.of_ext xS⟩
        case round =>
          obtain ⟨j, us, rfl, hj, hgot, hown, hKr⟩ := hrel
          by_cases hjl : j < d.cols.length
          · have hjl2 : (j : Int) < (d.cols.length : Int) := by omega
            have jj0 : (0 : Int) ≤ (j : Int) := by omega
            have r0 := hKr.cell y0 hYn
            have r1 := hKr.cell y1 hYn
            have r3 := hKr.cell y3 hYn
            have r9 := hKr.cell y9 hYn
            have rc := hKr.cell (hcc2.out j hjl) (hLn cb hcC)
            have hTr := HY1.out.tab.kept hKr hLn
            have hlr := HLS.out.kept hKr (fun g hg _ s => by have := (hGB.out g s).1; have hg : w.heap.size ≤ g := hg; omega)
            have hcj : d.cols[j] < d.names.length := hd.fl.cols _ (List.getElem_mem hjl)
            have HCol : Hid (∀ u, Ext wr u → Calls Tryz.prog 60 #[.agg #[.slice na nn nc, .slice ga gn gc], .int .i64 (d.cols[j] : Int)] u fun r w' => ∃ v, r = .returned v ∧ Own w' 1 v (totalOf d.gs) ((colOf d.gs d.cols j).map I) ∧ (∀ g, v.ownBlock = some g → u.heap.size ≤ g) ∧ Ext u w') := fun u hu => by
              have hc := column_any (Low e Y) u e.nv e.gv d.gs d.cols[j] ⟨na, nn, nc, HE.out.1⟩ (hTr.kept hu (fun _ _ f => f)) hg6 (fun G hG => ⟨by rw [(hgi G hG).1]; exact hcj, (hgi G hG).2.2⟩)
              rw [HE.out.1, HE.out.2.1, colOf_eq _ _ _ hjl, colOf_len hd j hjl] at hc
              exact hc
            have hlj := hlr.blk.cell j
            rw [List.getElem?_eq_getElem (by rw [HLV.out.2]; exact hjl)] at hlj
            have hlo := hlr.own j _ _ (List.getElem?_eq_getElem (by rw [HLV.out.2]; exact hjl)) (HLA.out j hjl)
            rw [HL2.out j hjl] at hlo
            have hul : us.length = d.cols.length := by rw [hgot.len, gotMid_len]
            have hgj := hgot.blk.cell j
            rw [List.getElem?_eq_getElem (by rw [hul]; exact hjl)] at hgj
            have hgo := hgot.own j _ _ (List.getElem?_eq_getElem (by rw [hul]; exact hjl)) (by rw [gotMid_at d k n j j hjl, if_neg (by omega)])
            rw [HL1.out j hjl] at hgo
            have hujE : us[j]? = some (us[j]'(by rw [hul]; exact hjl)) := List.getElem?_eq_getElem _
            have hlown := fun g => hlr.blks j _ g (List.getElem?_eq_getElem (by rw [HLV.out.2]; exact hjl))
            generalize hlvE : (vs2[j]'(by rw [HLV.out.2]; exact hjl)) = lv at *
            generalize hguE : (us[j]'(by rw [hul]; exact hjl)) = gu at *
            obtain ⟨lb, lc, rfl, -, hlb, hlcell⟩ := hlo.at (by omega)
            obtain ⟨gua, guc, rfl, -⟩ := hgo.shape
            generalize d.cols[j] = cj at *
            have hS0 : wr.drew.cell? ⟨Y, 0, none⟩ = some (.slice na nn nc) ∧ wr.drew.cell? ⟨Y, 1, none⟩ = some (.slice ga gn gc) ∧ wr.drew.cell? ⟨Y, 3, none⟩ = some (.slice (some ⟨cb, coff, none⟩) d.cols.length cc) ∧ wr.drew.cell? ⟨cb, coff + j, none⟩ = some (.int .i64 (cj : Int)) := ⟨r0, r1, r3, rc⟩
            go_wp2_with fail
            refine wp_region_late (n := 11) (fun u => u.cell? ⟨Y, 0, none⟩ = some (.slice na nn nc) ∧ u.cell? ⟨Y, 1, none⟩ = some (.slice ga gn gc) ∧ u.cell? ⟨Y, 3, none⟩ = some (.slice (some ⟨cb, coff, none⟩) d.cols.length cc) ∧ u.cell? ⟨cb, coff + j, none⟩ = some (.int .i64 (cj : Int))) (by kernel_rfl) ?_
            refine Late.tk (i := 0) (oi := ⟨some 60, .move (.tmp 0), 48, "keep.go:186", #[], none⟩) (v := ?_) [1, 2, 3, 11] rfl hS0 ?_ ?_
            rotate_left
            · (intro u hu; obtain ⟨u0, u1, u2, u3⟩ := hu; go_simp; first | done | with_reducible rfl)
            try simp only [Act.put, lA, lZ, lS]
            refine Late.tk (i := 1) (oi := ⟨some 61, .nilCheck (.tmp 60), 0, "keep.go:186", #[⟨0, .data⟩], none⟩) (v := ?_) [2, 3, 11] rfl hS0 ?_ ?_
            rotate_left
            · (intro u hu; obtain ⟨u0, u1, u2, u3⟩ := hu; go_simp; first | done | with_reducible rfl)
            try simp only [Act.put, lA, lZ, lS]
            refine Late.tk (i := 2) (oi := ⟨some 62, .fieldAddr 53 (.tmp 61) 0, 0, "keep.go:186", #[⟨1, .data⟩], none⟩) (v := ?_) [3, 11] rfl hS0 ?_ ?_
            rotate_left
            · (intro u hu; obtain ⟨u0, u1, u2, u3⟩ := hu; go_simp; first | done | with_reducible rfl)
            try simp only [Act.put, lA, lZ, lS]
            refine Late.tk (i := 3) (oi := ⟨some 63, .load 42 (.tmp 62), 42, "keep.go:186", #[⟨2, .data⟩], none⟩) (v := ?_) [11] rfl hS0 ?_ ?_
            rotate_left
            · (intro u hu; obtain ⟨u0, u1, u2, u3⟩ := hu; go_simp; first | done | with_reducible rfl)
            try simp only [Act.put, lA, lZ, lS]
            refine Late.tk (i := 4) (oi := ⟨some 64, .move (.tmp 0), 48, "keep.go:186", #[], none⟩) (v := ?_) [5, 6, 7, 9, 10, 11] rfl hS0 ?_ ?_
            rotate_left
            · (intro u hu; obtain ⟨u0, u1, u2, u3⟩ := hu; go_simp; first | done | with_reducible rfl)
            try simp only [Act.put, lA, lZ, lS]
            refine Late.tk (i := 5) (oi := ⟨some 65, .nilCheck (.tmp 64), 0, "keep.go:186", #[⟨4, .data⟩], none⟩) (v := ?_) [6, 7, 9, 10, 11] rfl hS0 ?_ ?_
            rotate_left
            · (intro u hu; obtain ⟨u0, u1, u2, u3⟩ := hu; go_simp; first | done | with_reducible rfl)
            try simp only [Act.put, lA, lZ, lS]
            refine Late.tk (i := 6) (oi := ⟨some 66, .fieldAddr 53 (.tmp 65) 2, 0, "keep.go:186", #[⟨5, .data⟩], none⟩) (v := ?_) [7, 9, 10, 11] rfl hS0 ?_ ?_
            rotate_left
            · (intro u hu; obtain ⟨u0, u1, u2, u3⟩ := hu; go_simp; first | done | with_reducible rfl)
            try simp only [Act.put, lA, lZ, lS]
            refine Late.tk (i := 7) (oi := ⟨some 67, .load 46 (.tmp 66), 46, "keep.go:186", #[⟨6, .data⟩], none⟩) (v := ?_) [9, 10, 11] rfl hS0 ?_ ?_
            rotate_left
            · (intro u hu; obtain ⟨u0, u1, u2, u3⟩ := hu; go_simp; first | done | with_reducible rfl)
            try simp only [Act.put, lA, lZ, lS]
            refine Late.tk (i := 8) (oi := ⟨some 68, .move (.tmp 6), 3, "keep.go:186", #[], none⟩) (v := ?_) [9, 10, 11] rfl hS0 ?_ ?_
            rotate_left
            · (intro u hu; obtain ⟨u0, u1, u2, u3⟩ := hu; go_simp; first | done | with_reducible rfl)
            try simp only [Act.put, lA, lZ, lS]
            refine Late.tk (i := 9) (oi := ⟨some 69, .indexAddr 46 (.tmp 67) (.tmp 68), 0, "keep.go:186", #[⟨7, .data⟩, ⟨8, .data⟩], none⟩) (v := ?_) [10, 11] rfl hS0 ?_ ?_
            rotate_left
            · (intro u hu; obtain ⟨u0, u1, u2, u3⟩ := hu; go_simp; first | done | with_reducible rfl)
            try simp only [Act.put, lA, lZ, lS]
            refine Late.tk (i := 10) (oi := ⟨some 70, .load 3 (.tmp 69), 3, "keep.go:186", #[⟨9, .data⟩], none⟩) (v := ?_) [11] rfl hS0 ?_ ?_
            rotate_left
            · (intro u hu; obtain ⟨u0, u1, u2, u3⟩ := hu; go_simp; first | done | with_reducible rfl)
            try simp only [Act.put, lA, lZ, lS]
            refine Late.one (i := 11) (o := ⟨some 71, .call { callee := .value (.func 60), args := #[.tmp 63, .tmp 70], argTypes := #[42, 3] }, 46, "keep.go:186", #[⟨3, .data⟩, ⟨10, .data⟩], none⟩) (by kernel_rfl) rfl (fun K hK => ?_)
            refine step_call_g rfl 60 #[.agg #[.slice na nn nc, .slice ga gn gc], .int .i64 (cj : Int)] (by go_simp) ?_
            refine ((unhide HCol) wr.drew ((Kp.refl _ _).drew)).mono ?_
            rintro r3' w5 ⟨av, rfl, oa, hag, xa⟩
            have x5 : Ext wr w5 := ((Kp.refl (fun _ => False) wr).drew).trans xa
            obtain ⟨aa, ac, rfl, -⟩ := oa.shape
            refine ⟨_, rfl, hK _ _ (fun _ => ⟨x5.cell r0 id, x5.cell r1 id, x5.cell r3 id, x5.cell rc id⟩) ?_⟩
            clear hK K
            try simp only [Act.put, lA, lZ, lS]
            refine Late.one (i := 12) (o := ⟨some 7, .assign (.tmp 71), 46, "keep.go:186", #[⟨11, .data⟩, ⟨11, .chain⟩, ⟨0, .phase⟩, ⟨1, .phase⟩, ⟨2, .phase⟩, ⟨3, .phase⟩, ⟨4, .phase⟩, ⟨5, .phase⟩, ⟨6, .phase⟩, ⟨7, .phase⟩, ⟨8, .phase⟩, ⟨9, .phase⟩, ⟨10, .phase⟩, ⟨11, .phase⟩], none⟩) (by kernel_rfl) rfl (fun K hK => ?_)
            go_simp
            refine hK _ _ (fun _ => ⟨x5.cell r0 id, x5.cell r1 id, x5.cell r3 id, x5.cell rc id⟩) ?_
            clear hK K
            try simp only [Act.put, lA, lZ, lS]
            refine Late.done (by kernel_rfl) ?_ _
            have q9 := x5.cell r9 id
            have ql := x5.cell hlj id
            have hkn : ¬ ((totalOf d.gs : Nat) : Int) < (k : Int) + (n : Int) := by omega
            have HCJ : Hid (∀ t, t < n → ((colOf d.gs d.cols j).map I)[k + t]? = ((((colOf d.gs d.cols j).drop k).take n).map I)[t]?) := fun t ht => by
              rw [List.getElem?_map, List.getElem?_map, List.getElem?_take_of_lt ht, List.getElem?_drop]
            have HLN := hide (show (((colOf d.gs d.cols j).drop k).take n).length = n from HL2.out j hjl)
            have hlc5 : Hid (∀ t, t < n → w5.cell? ⟨lb, t, none⟩ = ((((colOf d.gs d.cols j).drop k).take n).map I)[t]?) := fun t ht => by
              have := hlcell t (by omega)
              have hl : t < ((((colOf d.gs d.cols j).drop k).take n).map I).length := by rw [List.length_map, HLN.out]; exact ht
              rw [List.getElem?_eq_getElem hl] at this ⊢
              exact x5.cell this id
            obtain ⟨ab, ac2, hae, -, hab, hacell⟩ := oa.at (by omega)
            cases hae
            generalize wr = wB at *
            go_wp2_with fail
            go_loopw [8] (fun i wq => ∃ (t : Nat), i = .int .i64 t ∧ t ≤ n ∧ Ext w5 wq) (fun i _ => 130 - (intOf i).toNat)
            case atStart => exact ⟨0, rfl, by omega, Kp.refl _ _⟩
            case round =>
              obtain ⟨t, rfl, ht, hxt⟩ := hrel
              by_cases htl : t < n
              · have htl2 : (t : Int) < (n : Int) := by omega
                have tt0 : (0 : Int) ≤ (t : Int) := by omega
                have hlen : t < ((((colOf d.gs d.cols j).drop k).take n).map I).length := by rw [List.length_map, HLN.out]; exact htl
                have e1 := hlc5.out t htl
                have e2 := hacell (k + t) (by omega)
                rw [HCJ.out t htl] at e2
                rw [List.getElem?_eq_getElem hlen] at e1 e2
                obtain ⟨z, hz⟩ : ∃ z : Int, ((((colOf d.gs d.cols j).drop k).take n).map I)[t]'hlen = .int .i64 z := by
                  rw [List.getElem_map]
                  exact ⟨_, rfl⟩
                rw [hz] at e1 e2
                have p1 := hxt.cell e1 id
                have p2 := hxt.cell e2 id
                have p3 := hxt.cell ql id
                have kt0 : (0 : Int) ≤ (k : Int) + (t : Int) := by omega
                have kt1 : (k : Int) + (t : Int) < ((totalOf d.gs : Nat) : Int) := by omega
                have kt2 : ((k : Int) + (t : Int)).toNat = k + t := by omega
                have ktw : IntKind.i64.wrap ((k : Int) + (t : Int)) = (k : Int) + (t : Int) := by simp [IntKind.wrap, IntKind.bits, IntKind.signed]; omega
                clear e1 e2 hz hlen
                go_wp2_with fail
                go_quiet (fail)
                go_wp2_with fail
                exact ⟨⟨t + 1, by go_num, by omega, hxt.drewN _⟩, by simp [intOf]; omega⟩
              · obtain rfl : t = n := by omega
                have xB : Ext wB wr := x5.trans hxt
                have s9 := xB.cell r9 id
                have sg := xB.cell hgj id
                have sl := xB.cell hlj id
                have hgotB := hgot.ext xB
                have fg := hgotB.blk.free j
                have hgoB := hgo.ext xB
                have hsrc0 := RdP.src (P := Tryz.prog) Tryz.underlying46 (((hlo.ext xB).rdP (by omega) (fun _ => True) (fun _ _ => trivial)).kept (S := fun _ => False) ((Kp.refl _ _).drew) (fun _ _ f => f)) (one_ints _)
                rw [List.length_map, HLN.out] at hsrc0
                have HSR := hide hsrc0
                have hub := fun g => hgotB.blks j _ g hujE
                have hnewL := HLS.out.new
                have hLlt := HLS.out.blk.lt
                have hown1 := hown _ (List.mem_of_getElem? hujE)
                clear hsrc0
                have hS1 : wr.drew.cell? ⟨Y, 9, none⟩ = some (.slice (some ⟨e.Lb, 0, none⟩) d.cols.length d.cols.length) ∧ wr.drew.cell? ⟨e.Lb, j, none⟩ = some (.slice gua k guc) ∧ wr.drew.cell? ⟨Lb, j, none⟩ = some (.slice (some ⟨lb, 0, none⟩) t lc) := ⟨s9, sg, sl⟩
                go_wp2_with fail
                refine wp_region_late (n := 18) (fun u => u.cell? ⟨Y, 9, none⟩ = some (.slice (some ⟨e.Lb, 0, none⟩) d.cols.length d.cols.length) ∧ u.cell? ⟨e.Lb, j, none⟩ = some (.slice gua k guc) ∧ u.cell? ⟨Lb, j, none⟩ = some (.slice (some ⟨lb, 0, none⟩) t lc)) (by kernel_rfl) ?_
                refine Late.tk (i := 0) (oi := ⟨some 110, .move (.tmp 0), 48, "keep.go:195", #[], none⟩) (v := ?_) [18] rfl hS1 ?_ ?_
                rotate_left
                · (intro u hu; obtain ⟨u0, u1, u2⟩ := hu; go_simp; first | done | with_reducible rfl)
                try simp only [Act.put, lA, lZ, lS]
                refine Late.tk (i := 1) (oi := ⟨some 111, .nilCheck (.tmp 110), 0, "keep.go:195", #[⟨0, .data⟩], none⟩) (v := ?_) [18] rfl hS1 ?_ ?_
                rotate_left
                · (intro u hu; obtain ⟨u0, u1, u2⟩ := hu; go_simp; first | done | with_reducible rfl)
                try simp only [Act.put, lA, lZ, lS]
                refine Late.tk (i := 2) (oi := ⟨some 112, .fieldAddr 53 (.tmp 111) 5, 0, "keep.go:195", #[⟨1, .data⟩], none⟩) (v := ?_) [18] rfl hS1 ?_ ?_
                rotate_left
                · (intro u hu; obtain ⟨u0, u1, u2⟩ := hu; go_simp; first | done | with_reducible rfl)
                try simp only [Act.put, lA, lZ, lS]
                refine Late.tk (i := 3) (oi := ⟨some 113, .load 51 (.tmp 112), 51, "keep.go:195", #[⟨2, .data⟩], none⟩) (v := ?_) [18] rfl hS1 ?_ ?_
                rotate_left
                · (intro u hu; obtain ⟨u0, u1, u2⟩ := hu; go_simp; first | done | with_reducible rfl)
                try simp only [Act.put, lA, lZ, lS]
                refine Late.tk (i := 4) (oi := ⟨some 114, .move (.tmp 6), 3, "keep.go:195", #[], none⟩) (v := ?_) [18] rfl hS1 ?_ ?_
                rotate_left
                · (intro u hu; obtain ⟨u0, u1, u2⟩ := hu; go_simp; first | done | with_reducible rfl)
                try simp only [Act.put, lA, lZ, lS]
                refine Late.tk (i := 5) (oi := ⟨some 115, .move (.tmp 0), 48, "keep.go:195", #[], none⟩) (v := ?_) [18] rfl hS1 ?_ ?_
                rotate_left
                · (intro u hu; obtain ⟨u0, u1, u2⟩ := hu; go_simp; first | done | with_reducible rfl)
                try simp only [Act.put, lA, lZ, lS]
                refine Late.tk (i := 6) (oi := ⟨some 116, .nilCheck (.tmp 115), 0, "keep.go:195", #[⟨5, .data⟩], none⟩) (v := ?_) [18] rfl hS1 ?_ ?_
                rotate_left
                · (intro u hu; obtain ⟨u0, u1, u2⟩ := hu; go_simp; first | done | with_reducible rfl)
                try simp only [Act.put, lA, lZ, lS]
                refine Late.tk (i := 7) (oi := ⟨some 117, .fieldAddr 53 (.tmp 116) 5, 0, "keep.go:195", #[⟨6, .data⟩], none⟩) (v := ?_) [18] rfl hS1 ?_ ?_
                rotate_left
                · (intro u hu; obtain ⟨u0, u1, u2⟩ := hu; go_simp; first | done | with_reducible rfl)
                try simp only [Act.put, lA, lZ, lS]
                refine Late.tk (i := 8) (oi := ⟨some 118, .load 51 (.tmp 117), 51, "keep.go:195", #[⟨7, .data⟩], none⟩) (v := ?_) [18] rfl hS1 ?_ ?_
                rotate_left
                · (intro u hu; obtain ⟨u0, u1, u2⟩ := hu; go_simp; first | done | with_reducible rfl)
                try simp only [Act.put, lA, lZ, lS]
                refine Late.tk (i := 9) (oi := ⟨some 119, .move (.tmp 6), 3, "keep.go:195", #[], none⟩) (v := ?_) [18] rfl hS1 ?_ ?_
                rotate_left
                · (intro u hu; obtain ⟨u0, u1, u2⟩ := hu; go_simp; first | done | with_reducible rfl)
                try simp only [Act.put, lA, lZ, lS]
                refine Late.tk (i := 10) (oi := ⟨some 120, .indexAddr 51 (.tmp 118) (.tmp 119), 0, "keep.go:195", #[⟨8, .data⟩, ⟨9, .data⟩], none⟩) (v := ?_) [18] rfl hS1 ?_ ?_
                rotate_left
                · (intro u hu; obtain ⟨u0, u1, u2⟩ := hu; go_simp; first | done | with_reducible rfl)
                try simp only [Act.put, lA, lZ, lS]
                refine Late.tk (i := 11) (oi := ⟨some 121, .load 46 (.tmp 120), 46, "keep.go:195", #[⟨10, .data⟩], none⟩) (v := ?_) [18] rfl hS1 ?_ ?_
                rotate_left
                · (intro u hu; obtain ⟨u0, u1, u2⟩ := hu; go_simp; first | done | with_reducible rfl)
                try simp only [Act.put, lA, lZ, lS]
                refine Late.tk (i := 12) (oi := ⟨some 122, .move (.tmp 3), 51, "keep.go:195", #[], none⟩) (v := ?_) [18] rfl hS1 ?_ ?_
                rotate_left
                · (intro u hu; obtain ⟨u0, u1, u2⟩ := hu; go_simp; first | done | with_reducible rfl)
                try simp only [Act.put, lA, lZ, lS]
                refine Late.tk (i := 13) (oi := ⟨some 123, .move (.tmp 6), 3, "keep.go:195", #[], none⟩) (v := ?_) [18] rfl hS1 ?_ ?_
                rotate_left
                · (intro u hu; obtain ⟨u0, u1, u2⟩ := hu; go_simp; first | done | with_reducible rfl)
                try simp only [Act.put, lA, lZ, lS]
                refine Late.tk (i := 14) (oi := ⟨some 124, .indexAddr 51 (.tmp 122) (.tmp 123), 0, "keep.go:195", #[⟨12, .data⟩, ⟨13, .data⟩], none⟩) (v := ?_) [18] rfl hS1 ?_ ?_
                rotate_left
                · (intro u hu; obtain ⟨u0, u1, u2⟩ := hu; go_simp; first | done | with_reducible rfl)
                try simp only [Act.put, lA, lZ, lS]
                refine Late.tk (i := 15) (oi := ⟨some 125, .load 46 (.tmp 124), 46, "keep.go:195", #[⟨14, .data⟩], none⟩) (v := ?_) [18] rfl hS1 ?_ ?_
                rotate_left
                · (intro u hu; obtain ⟨u0, u1, u2⟩ := hu; go_simp; first | done | with_reducible rfl)
                try simp only [Act.put, lA, lZ, lS]
                refine Late.one (i := 16) (o := ⟨some 126, .call { callee := .builtin .append, args := #[.tmp 121, .tmp 125], argTypes := #[46, 46] }, 46, "keep.go:195", #[⟨11, .data⟩, ⟨15, .data⟩], none⟩) (by kernel_rfl) rfl (fun K hK => ?_)
                refine step_append_g rfl _ _ 46 46 rfl 3 (.int .i64 0) 1 8 Tryz.underlying46 kiI rfl (.slice gua k guc) _ _ (by rfl) (hgoB.ext ((Kp.refl _ _).drew)) (.slice (some ⟨lb, 0, none⟩) t lc) (by rfl) t _ (unhide HSR) (by omega) (by omega) ?_
                intro v7 w7 o7 k7 s7
                have hYof : ¬ Of (.slice gua k guc) Y := fun e' => by have := (hub Y e').1.1; have := HYB.out; omega
                have hLof : ¬ Of (.slice gua k guc) e.Lb := fun e' => (hub _ e').2 rfl
                have hL2of : ¬ Of (.slice gua k guc) Lb := fun e' => by
                  rcases hown1 Lb e' with g | g
                  · have := (hGB.out Lb g).1; have hg : w.heap.size ≤ Lb := hnewL; omega
                  · omega
                have xd : Ext wr wr.drew := (Kp.refl _ _).drew
                have p9 := k7.cell (xd.cell s9 id) hYof
                have pg := k7.cell (xd.cell sg id) hLof
                have pl := k7.cell (xd.cell sl id) hL2of
                have fg7 : w7.frozen? ⟨e.Lb, j, none⟩ = false := by
                  have h1 : Blk w7 e.Lb _ _ := (hgotB.blk.kept xd id).kept k7 hLof
                  exact h1.free j
                obtain ⟨v7a, v7c, rfl, -⟩ := o7.shape
                refine hK _ _ (fun _ => ⟨p9, pg, pl⟩) ?_
                clear hK K hS1 s9 sg sl
                try simp only [Act.put, lA, lZ, lS]
                refine Late.one (i := 17) (o := ⟨some 127, .indexAddr 51 (.tmp 113) (.tmp 114), 0, "keep.go:195", #[⟨3, .data⟩, ⟨4, .data⟩, ⟨0, .phase⟩, ⟨1, .phase⟩, ⟨2, .phase⟩, ⟨3, .phase⟩, ⟨4, .phase⟩, ⟨5, .phase⟩, ⟨6, .phase⟩, ⟨7, .phase⟩, ⟨8, .phase⟩, ⟨9, .phase⟩, ⟨10, .phase⟩, ⟨11, .phase⟩, ⟨12, .phase⟩, ⟨13, .phase⟩, ⟨14, .phase⟩, ⟨15, .phase⟩, ⟨16, .phase⟩], none⟩) (by kernel_rfl) rfl (fun K hK => ?_)
                go_simp
                refine hK _ _ (fun _ => ⟨p9, pg, pl⟩) ?_
                clear hK K
                try simp only [Act.put, lA, lZ, lS]
                refine Late.one (i := 18) (o := ⟨none, .store 46 (.tmp 127) (.tmp 126), 0, "keep.go:195", #[⟨17, .data⟩, ⟨16, .data⟩, ⟨16, .chain⟩, ⟨0, .phase⟩, ⟨1, .phase⟩, ⟨2, .phase⟩, ⟨3, .phase⟩, ⟨4, .phase⟩, ⟨5, .phase⟩, ⟨6, .phase⟩, ⟨7, .phase⟩, ⟨8, .phase⟩, ⟨9, .phase⟩, ⟨10, .phase⟩, ⟨11, .phase⟩, ⟨12, .phase⟩, ⟨13, .phase⟩, ⟨14, .phase⟩, ⟨15, .phase⟩, ⟨16, .phase⟩], none⟩) (by kernel_rfl) rfl (fun K hK => ?_)
                go_simp
                refine hK _ _ (fun h => absurd rfl h) ?_
                clear hK K
                try simp only [Act.put, lA, lZ, lS]
                refine Late.done (by kernel_rfl) ?_ _
                have HTM : Hid ((colOf d.gs d.cols j).take (k + t) = (colOf d.gs d.cols j).take k ++ ((colOf d.gs d.cols j).drop k).take t) := hide (take_more _ _ _)
                have HLM : Hid (((colOf d.gs d.cols j).take (k + t)).length = k + t) := by
                  show _ = _
                  rw [List.length_take, colOf_len hd j hjl]; omega
                have htop1 := HY1.out.isX.top
                have hBle : e.B ≤ w.heap.size := by have := hy.got.new.1; have := hy.got.blk.lt; omega
                have hzB := hKr.size
                have hzr := xB.size
                have hput := (hgotB.ext xd).put j (.slice gua k guc) (.slice v7a (k + t) v7c) ((colOf d.gs d.cols j).take (k + t)) hujE k7 (by rw [HLM.out, HTM.out, List.map_append]; exact o7) s7 (fun g hg => ⟨by have hg : wr.heap.size ≤ g := hg; omega, htop1 g (by have hg : wr.heap.size ≤ g := hg; omega)⟩)
                go_wp2_with fail
                refine ⟨⟨j + 1, us.set j (.slice v7a (k + t) v7c), by go_num, by omega, by rw [gotMid_succ d k t j hjl]; exact hput, fun u hu g hg => ?_, ?_⟩, by simp [intOf]; omega⟩
                · rcases List.mem_or_eq_of_mem_set hu with hu | rfl
                  · exact hown u hu g hg
                  · rcases sep_new s7 hg with e' | e'
                    · exact hown1 g e'
                    · have e' : wr.heap.size ≤ g := e'
                      exact .inr (by omega)
                · exact ((hKr.trans (Kp.of_ext (xB.trans xd))).then k7 (fun i hi e' => (hown1 i e').elim id (fun g => by omega))).setCell (p := ⟨e.Lb, j, none⟩) (.inl (.inl rfl)) _
          · obtain rfl : j = d.cols.length := by omega
            rw [gotMid_all] at hgot
            have hzB := hKr.size
            go_wp2_with fail
            go_ret
            rw [HM1.out]
            refine ⟨rfl, col1, us, k + n, ⟨HY1.out.blk.kept hKr hYn, HY1.out.yB, HY1.out.low, HY1.out.nam.kept hKr hLn, HY1.out.tab.kept hKr hLn, HY1.out.cls.kept hKr hLn, HY1.out.isX.kept hKr (fun i g => (hGB.out i g).2.2), hgot, fun b hb => ?_⟩, kO1.then hKr (fun i hi g => ?_), HK5.out, HTK.out⟩
            · have hgr : ∀ b, grow O w w1 b → grow O w wr b := fun b g => g.imp id (fun h => ⟨h.1, by omega⟩)
              rcases hb with hb | hb | hb | ⟨v, hv, hg⟩
              · exact hgr b (HY1.out.own b (.inl hb))
              · exact hgr b (HY1.out.own b (.inr (.inl hb)))
              · exact hgr b (HY1.out.own b (.inr (.inr (.inl hb))))
              · rcases hown v hv b hg with g | g
                · exact hgr b (HY1.out.own b (.inr (.inr g)))
                · obtain ⟨q, hq⟩ := List.getElem?_of_mem hv
                  have := hgot.lt q v b hq hg
                  exact .inr ⟨by omega, this⟩
            · exact hy.own i (.inr (.inr g))
      · have hA2 : ¬ (n : Int) = (d.R : Int) := by omega
        have hB2 : (k : Int) + (n : Int) = (totalOf d.gs : Nat) := by omega
        have hne : ((n : Int) != (d.R : Int)) = true := by simpa using hA2
        go_wp2_with (go_at_call 19; refine (unhide HTot).mono ?_; rintro r2 wS ⟨rfl, xS⟩)
        try rw [hne]
        clear hA hA2 hB hB2 hne
        have hGB : Hid (∀ g, GotB e.Lb vs g → g < w.heap.size ∧ e.B ≤ g ∧ col1 g = .out) := fun g hg => by
          rcases hg with rfl | ⟨v, hv, hg⟩
          · exact ⟨hy.got.blk.lt, HY1.out.got.new⟩
          · obtain ⟨q, hq⟩ := List.getElem?_of_mem hv
            exact ⟨hy.got.lt q v g hq hg, (HY1.out.got.blks q v g hq hg).1⟩
        have hz1 := kO1.size
        have HYB := hide hy.yB
        have hYn : ¬ GotB e.Lb vs Y := fun g => by have := (hGB.out Y g).2.1; have := HYB.out; omega
        have hLn : ∀ b, Low e Y b → ¬ GotB e.Lb vs b := fun b hb g => by have := (hGB.out b g).2.1; have h2 := hb.2.1; omega
        go_loopw [6] (fun i wr => ∃ (j : Nat) (us : List Value), i = .int .i64 j ∧ j ≤ d.cols.length ∧ NxAt (fun g => e.B ≤ g ∧ col1 g = .out) wr e.Lb us (gotMid d k n j) ∧ (∀ u ∈ us, ∀ g, u.ownBlock = some g → GotB e.Lb vs g ∨ w1.heap.size ≤ g) ∧ Kp (GotB e.Lb vs) w1 wr) (fun i _ => 10 - (intOf i).toNat)
        case atStart => exact ⟨0, vs, rfl, by omega, by rw [gotMid_zero]; exact HY1.out.got.ext xS, fun u hu g hg => .inl (.inr ⟨u, hu, hg⟩), Kp.of_ext xS⟩
        case round =>
          obtain ⟨j, us, rfl, hj, hgot, hown, hKr⟩ := hrel
          by_cases hjl : j < d.cols.length
          · have hjl2 : (j : Int) < (d.cols.length : Int) := by omega
            have jj0 : (0 : Int) ≤ (j : Int) := by omega
            have r0 := hKr.cell y0 hYn
            have r1 := hKr.cell y1 hYn
            have r3 := hKr.cell y3 hYn
            have r9 := hKr.cell y9 hYn
            have rc := hKr.cell (hcc2.out j hjl) (hLn cb hcC)
            have hTr := HY1.out.tab.kept hKr hLn
            have hlr := HLS.out.kept hKr (fun g hg _ s => by have := (hGB.out g s).1; have hg : w.heap.size ≤ g := hg; omega)
            have hcj : d.cols[j] < d.names.length := hd.fl.cols _ (List.getElem_mem hjl)
            have HCol : Hid (∀ u, Ext wr u → Calls Tryz.prog 60 #[.agg #[.slice na nn nc, .slice ga gn gc], .int .i64 (d.cols[j] : Int)] u fun r w' => ∃ v, r = .returned v ∧ Own w' 1 v (totalOf d.gs) ((colOf d.gs d.cols j).map I) ∧ (∀ g, v.ownBlock = some g → u.heap.size ≤ g) ∧ Ext u w') := fun u hu => by
              have hc := column_any (Low e Y) u e.nv e.gv d.gs d.cols[j] ⟨na, nn, nc, HE.out.1⟩ (hTr.kept hu (fun _ _ f => f)) hg6 (fun G hG => ⟨by rw [(hgi G hG).1]; exact hcj, (hgi G hG).2.2⟩)
              rw [HE.out.1, HE.out.2.1, colOf_eq _ _ _ hjl, colOf_len hd j hjl] at hc
              exact hc
            have hlj := hlr.blk.cell j
            rw [List.getElem?_eq_getElem (by rw [HLV.out.2]; exact hjl)] at hlj
            have hlo := hlr.own j _ _ (List.getElem?_eq_getElem (by rw [HLV.out.2]; exact hjl)) (HLA.out j hjl)
            rw [HL2.out j hjl] at hlo
            have hul : us.length = d.cols.length := by rw [hgot.len, gotMid_len]
            have hgj := hgot.blk.cell j
            rw [List.getElem?_eq_getElem (by rw [hul]; exact hjl)] at hgj
            have hgo := hgot.own j _ _ (List.getElem?_eq_getElem (by rw [hul]; exact hjl)) (by rw [gotMid_at d k n j j hjl, if_neg (by omega)])
            rw [HL1.out j hjl] at hgo
            have hujE : us[j]? = some (us[j]'(by rw [hul]; exact hjl)) := List.getElem?_eq_getElem _
            have hlown := fun g => hlr.blks j _ g (List.getElem?_eq_getElem (by rw [HLV.out.2]; exact hjl))
            generalize hlvE : (vs2[j]'(by rw [HLV.out.2]; exact hjl)) = lv at *
            generalize hguE : (us[j]'(by rw [hul]; exact hjl)) = gu at *
            obtain ⟨lb, lc, rfl, -, hlb, hlcell⟩ := hlo.at (by omega)
            obtain ⟨gua, guc, rfl, -⟩ := hgo.shape
            generalize d.cols[j] = cj at *
            have hS0 : wr.drew.cell? ⟨Y, 0, none⟩ = some (.slice na nn nc) ∧ wr.drew.cell? ⟨Y, 1, none⟩ = some (.slice ga gn gc) ∧ wr.drew.cell? ⟨Y, 3, none⟩ = some (.slice (some ⟨cb, coff, none⟩) d.cols.length cc) ∧ wr.drew.cell? ⟨cb, coff + j, none⟩ = some (.int .i64 (cj : Int)) := ⟨r0, r1, r3, rc⟩
            go_wp2_with fail
            refine wp_region_late (n := 11) (fun u => u.cell? ⟨Y, 0, none⟩ = some (.slice na nn nc) ∧ u.cell? ⟨Y, 1, none⟩ = some (.slice ga gn gc) ∧ u.cell? ⟨Y, 3, none⟩ = some (.slice (some ⟨cb, coff, none⟩) d.cols.length cc) ∧ u.cell? ⟨cb, coff + j, none⟩ = some (.int .i64 (cj : Int))) (by kernel_rfl) ?_
            refine Late.tk (i := 0) (oi := ⟨some 60, .move (.tmp 0), 48, "keep.go:186", #[], none⟩) (v := ?_) [1, 2, 3, 11] rfl hS0 ?_ ?_
            rotate_left
            · (intro u hu; obtain ⟨u0, u1, u2, u3⟩ := hu; go_simp; first | done | with_reducible rfl)
            try simp only [Act.put, lA, lZ, lS]
            refine Late.tk (i := 1) (oi := ⟨some 61, .nilCheck (.tmp 60), 0, "keep.go:186", #[⟨0, .data⟩], none⟩) (v := ?_) [2, 3, 11] rfl hS0 ?_ ?_
            rotate_left
            · (intro u hu; obtain ⟨u0, u1, u2, u3⟩ := hu; go_simp; first | done | with_reducible rfl)
            try simp only [Act.put, lA, lZ, lS]
            refine Late.tk (i := 2) (oi := ⟨some 62, .fieldAddr 53 (.tmp 61) 0, 0, "keep.go:186", #[⟨1, .data⟩], none⟩) (v := ?_) [3, 11] rfl hS0 ?_ ?_
            rotate_left
            · (intro u hu; obtain ⟨u0, u1, u2, u3⟩ := hu; go_simp; first | done | with_reducible rfl)
            try simp only [Act.put, lA, lZ, lS]
            refine Late.tk (i := 3) (oi := ⟨some 63, .load 42 (.tmp 62), 42, "keep.go:186", #[⟨2, .data⟩], none⟩) (v := ?_) [11] rfl hS0 ?_ ?_
            rotate_left
            · (intro u hu; obtain ⟨u0, u1, u2, u3⟩ := hu; go_simp; first | done | with_reducible rfl)
            try simp only [Act.put, lA, lZ, lS]
            refine Late.tk (i := 4) (oi := ⟨some 64, .move (.tmp 0), 48, "keep.go:186", #[], none⟩) (v := ?_) [5, 6, 7, 9, 10, 11] rfl hS0 ?_ ?_
            rotate_left
            · (intro u hu; obtain ⟨u0, u1, u2, u3⟩ := hu; go_simp; first | done | with_reducible rfl)
            try simp only [Act.put, lA, lZ, lS]
            refine Late.tk (i := 5) (oi := ⟨some 65, .nilCheck (.tmp 64), 0, "keep.go:186", #[⟨4, .data⟩], none⟩) (v := ?_) [6, 7, 9, 10, 11] rfl hS0 ?_ ?_
            rotate_left
            · (intro u hu; obtain ⟨u0, u1, u2, u3⟩ := hu; go_simp; first | done | with_reducible rfl)
            try simp only [Act.put, lA, lZ, lS]
            refine Late.tk (i := 6) (oi := ⟨some 66, .fieldAddr 53 (.tmp 65) 2, 0, "keep.go:186", #[⟨5, .data⟩], none⟩) (v := ?_) [7, 9, 10, 11] rfl hS0 ?_ ?_
            rotate_left
            · (intro u hu; obtain ⟨u0, u1, u2, u3⟩ := hu; go_simp; first | done | with_reducible rfl)
            try simp only [Act.put, lA, lZ, lS]
            refine Late.tk (i := 7) (oi := ⟨some 67, .load 46 (.tmp 66), 46, "keep.go:186", #[⟨6, .data⟩], none⟩) (v := ?_) [9, 10, 11] rfl hS0 ?_ ?_
            rotate_left
            · (intro u hu; obtain ⟨u0, u1, u2, u3⟩ := hu; go_simp; first | done | with_reducible rfl)
            try simp only [Act.put, lA, lZ, lS]
            refine Late.tk (i := 8) (oi := ⟨some 68, .move (.tmp 6), 3, "keep.go:186", #[], none⟩) (v := ?_) [9, 10, 11] rfl hS0 ?_ ?_
            rotate_left
            · (intro u hu; obtain ⟨u0, u1, u2, u3⟩ := hu; go_simp; first | done | with_reducible rfl)
            try simp only [Act.put, lA, lZ, lS]
            refine Late.tk (i := 9) (oi := ⟨some 69, .indexAddr 46 (.tmp 67) (.tmp 68), 0, "keep.go:186", #[⟨7, .data⟩, ⟨8, .data⟩], none⟩) (v := ?_) [10, 11] rfl hS0 ?_ ?_
            rotate_left
            · (intro u hu; obtain ⟨u0, u1, u2, u3⟩ := hu; go_simp; first | done | with_reducible rfl)
            try simp only [Act.put, lA, lZ, lS]
            refine Late.tk (i := 10) (oi := ⟨some 70, .load 3 (.tmp 69), 3, "keep.go:186", #[⟨9, .data⟩], none⟩) (v := ?_) [11] rfl hS0 ?_ ?_
            rotate_left
            · (intro u hu; obtain ⟨u0, u1, u2, u3⟩ := hu; go_simp; first | done | with_reducible rfl)
            try simp only [Act.put, lA, lZ, lS]
            refine Late.one (i := 11) (o := ⟨some 71, .call { callee := .value (.func 60), args := #[.tmp 63, .tmp 70], argTypes := #[42, 3] }, 46, "keep.go:186", #[⟨3, .data⟩, ⟨10, .data⟩], none⟩) (by kernel_rfl) rfl (fun K hK => ?_)
            refine step_call_g rfl 60 #[.agg #[.slice na nn nc, .slice ga gn gc], .int .i64 (cj : Int)] (by go_simp) ?_
            refine ((unhide HCol) wr.drew ((Kp.refl _ _).drew)).mono ?_
            rintro r3' w5 ⟨av, rfl, oa, hag, xa⟩
            have x5 : Ext wr w5 := ((Kp.refl (fun _ => False) wr).drew).trans xa
            obtain ⟨aa, ac, rfl, -⟩ := oa.shape
            refine ⟨_, rfl, hK _ _ (fun _ => ⟨x5.cell r0 id, x5.cell r1 id, x5.cell r3 id, x5.cell rc id⟩) ?_⟩
            clear hK K
            try simp only [Act.put, lA, lZ, lS]
            refine Late.one (i := 12) (o := ⟨some 7, .assign (.tmp 71), 46, "keep.go:186", #[⟨11, .data⟩, ⟨11, .chain⟩, ⟨0, .phase⟩, ⟨1, .phase⟩, ⟨2, .phase⟩, ⟨3, .phase⟩, ⟨4, .phase⟩, ⟨5, .phase⟩, ⟨6, .phase⟩, ⟨7, .phase⟩, ⟨8, .phase⟩, ⟨9, .phase⟩, ⟨10, .phase⟩, ⟨11, .phase⟩], none⟩) (by kernel_rfl) rfl (fun K hK => ?_)
            go_simp
            refine hK _ _ (fun _ => ⟨x5.cell r0 id, x5.cell r1 id, x5.cell r3 id, x5.cell rc id⟩) ?_
            clear hK K
            try simp only [Act.put, lA, lZ, lS]
            refine Late.done (by kernel_rfl) ?_ _
            have q9 := x5.cell r9 id
            have ql := x5.cell hlj id
            have hkn : ¬ ((totalOf d.gs : Nat) : Int) < (k : Int) + (n : Int) := by omega
            have HCJ : Hid (∀ t, t < n → ((colOf d.gs d.cols j).map I)[k + t]? = ((((colOf d.gs d.cols j).drop k).take n).map I)[t]?) := fun t ht => by
              rw [List.getElem?_map, List.getElem?_map, List.getElem?_take_of_lt ht, List.getElem?_drop]
            have HLN := hide (show (((colOf d.gs d.cols j).drop k).take n).length = n from HL2.out j hjl)
            have hlc5 : Hid (∀ t, t < n → w5.cell? ⟨lb, t, none⟩ = ((((colOf d.gs d.cols j).drop k).take n).map I)[t]?) := fun t ht => by
              have := hlcell t (by omega)
              have hl : t < ((((colOf d.gs d.cols j).drop k).take n).map I).length := by rw [List.length_map, HLN.out]; exact ht
              rw [List.getElem?_eq_getElem hl] at this ⊢
              exact x5.cell this id
            obtain ⟨ab, ac2, hae, -, hab, hacell⟩ := oa.at (by omega)
            cases hae
            generalize wr = wB at *
            go_wp2_with fail
            go_loopw [8] (fun i wq => ∃ (t : Nat), i = .int .i64 t ∧ t ≤ n ∧ Ext w5 wq) (fun i _ => 130 - (intOf i).toNat)
            case atStart => exact ⟨0, rfl, by omega, Kp.refl _ _⟩
            case round =>
              obtain ⟨t, rfl, ht, hxt⟩ := hrel
              by_cases htl : t < n
              · have htl2 : (t : Int) < (n : Int) := by omega
                have tt0 : (0 : Int) ≤ (t : Int) := by omega
                have hlen : t < ((((colOf d.gs d.cols j).drop k).take n).map I).length := by rw [List.length_map, HLN.out]; exact htl
                have e1 := hlc5.out t htl
                have e2 := hacell (k + t) (by omega)
                rw [HCJ.out t htl] at e2
                rw [List.getElem?_eq_getElem hlen] at e1 e2
                obtain ⟨z, hz⟩ : ∃ z : Int, ((((colOf d.gs d.cols j).drop k).take n).map I)[t]'hlen = .int .i64 z := by
                  rw [List.getElem_map]
                  exact ⟨_, rfl⟩
                rw [hz] at e1 e2
                have p1 := hxt.cell e1 id
                have p2 := hxt.cell e2 id
                have p3 := hxt.cell ql id
                have kt0 : (0 : Int) ≤ (k : Int) + (t : Int) := by omega
                have kt1 : (k : Int) + (t : Int) < ((totalOf d.gs : Nat) : Int) := by omega
                have kt2 : ((k : Int) + (t : Int)).toNat = k + t := by omega
                have ktw : IntKind.i64.wrap ((k : Int) + (t : Int)) = (k : Int) + (t : Int) := by simp [IntKind.wrap, IntKind.bits, IntKind.signed]; omega
                clear e1 e2 hz hlen
                go_wp2_with fail
                go_quiet (fail)
                go_wp2_with fail
                exact ⟨⟨t + 1, by go_num, by omega, hxt.drewN _⟩, by simp [intOf]; omega⟩
              · obtain rfl : t = n := by omega
                have xB : Ext wB wr := x5.trans hxt
                have s9 := xB.cell r9 id
                have sg := xB.cell hgj id
                have sl := xB.cell hlj id
                have hgotB := hgot.ext xB
                have fg := hgotB.blk.free j
                have hgoB := hgo.ext xB
                have hsrc0 := RdP.src (P := Tryz.prog) Tryz.underlying46 (((hlo.ext xB).rdP (by omega) (fun _ => True) (fun _ _ => trivial)).kept (S := fun _ => False) ((Kp.refl _ _).drew) (fun _ _ f => f)) (one_ints _)
                rw [List.length_map, HLN.out] at hsrc0
                have HSR := hide hsrc0
                have hub := fun g => hgotB.blks j _ g hujE
                have hnewL := HLS.out.new
                have hLlt := HLS.out.blk.lt
                have hown1 := hown _ (List.mem_of_getElem? hujE)
                clear hsrc0
                have hS1 : wr.drew.cell? ⟨Y, 9, none⟩ = some (.slice (some ⟨e.Lb, 0, none⟩) d.cols.length d.cols.length) ∧ wr.drew.cell? ⟨e.Lb, j, none⟩ = some (.slice gua k guc) ∧ wr.drew.cell? ⟨Lb, j, none⟩ = some (.slice (some ⟨lb, 0, none⟩) t lc) := ⟨s9, sg, sl⟩
                go_wp2_with fail
                refine wp_region_late (n := 18) (fun u => u.cell? ⟨Y, 9, none⟩ = some (.slice (some ⟨e.Lb, 0, none⟩) d.cols.length d.cols.length) ∧ u.cell? ⟨e.Lb, j, none⟩ = some (.slice gua k guc) ∧ u.cell? ⟨Lb, j, none⟩ = some (.slice (some ⟨lb, 0, none⟩) t lc)) (by kernel_rfl) ?_
                refine Late.tk (i := 0) (oi := ⟨some 110, .move (.tmp 0), 48, "keep.go:195", #[], none⟩) (v := ?_) [18] rfl hS1 ?_ ?_
                rotate_left
                · (intro u hu; obtain ⟨u0, u1, u2⟩ := hu; go_simp; first | done | with_reducible rfl)
                try simp only [Act.put, lA, lZ, lS]
                refine Late.tk (i := 1) (oi := ⟨some 111, .nilCheck (.tmp 110), 0, "keep.go:195", #[⟨0, .data⟩], none⟩) (v := ?_) [18] rfl hS1 ?_ ?_
                rotate_left
                · (intro u hu; obtain ⟨u0, u1, u2⟩ := hu; go_simp; first | done | with_reducible rfl)
                try simp only [Act.put, lA, lZ, lS]
                refine Late.tk (i := 2) (oi := ⟨some 112, .fieldAddr 53 (.tmp 111) 5, 0, "keep.go:195", #[⟨1, .data⟩], none⟩) (v := ?_) [18] rfl hS1 ?_ ?_
                rotate_left
                · (intro u hu; obtain ⟨u0, u1, u2⟩ := hu; go_simp; first | done | with_reducible rfl)
                try simp only [Act.put, lA, lZ, lS]
                refine Late.tk (i := 3) (oi := ⟨some 113, .load 51 (.tmp 112), 51, "keep.go:195", #[⟨2, .data⟩], none⟩) (v := ?_) [18] rfl hS1 ?_ ?_
                rotate_left
                · (intro u hu; obtain ⟨u0, u1, u2⟩ := hu; go_simp; first | done | with_reducible rfl)
                try simp only [Act.put, lA, lZ, lS]
                refine Late.tk (i := 4) (oi := ⟨some 114, .move (.tmp 6), 3, "keep.go:195", #[], none⟩) (v := ?_) [18] rfl hS1 ?_ ?_
                rotate_left
                · (intro u hu; obtain ⟨u0, u1, u2⟩ := hu; go_simp; first | done | with_reducible rfl)
                try simp only [Act.put, lA, lZ, lS]
                refine Late.tk (i := 5) (oi := ⟨some 115, .move (.tmp 0), 48, "keep.go:195", #[], none⟩) (v := ?_) [18] rfl hS1 ?_ ?_
                rotate_left
                · (intro u hu; obtain ⟨u0, u1, u2⟩ := hu; go_simp; first | done | with_reducible rfl)
                try simp only [Act.put, lA, lZ, lS]
                refine Late.tk (i := 6) (oi := ⟨some 116, .nilCheck (.tmp 115), 0, "keep.go:195", #[⟨5, .data⟩], none⟩) (v := ?_) [18] rfl hS1 ?_ ?_
                rotate_left
                · (intro u hu; obtain ⟨u0, u1, u2⟩ := hu; go_simp; first | done | with_reducible rfl)
                try simp only [Act.put, lA, lZ, lS]
                refine Late.tk (i := 7) (oi := ⟨some 117, .fieldAddr 53 (.tmp 116) 5, 0, "keep.go:195", #[⟨6, .data⟩], none⟩) (v := ?_) [18] rfl hS1 ?_ ?_
                rotate_left
                · (intro u hu; obtain ⟨u0, u1, u2⟩ := hu; go_simp; first | done | with_reducible rfl)
                try simp only [Act.put, lA, lZ, lS]
                refine Late.tk (i := 8) (oi := ⟨some 118, .load 51 (.tmp 117), 51, "keep.go:195", #[⟨7, .data⟩], none⟩) (v := ?_) [18] rfl hS1 ?_ ?_
                rotate_left
                · (intro u hu; obtain ⟨u0, u1, u2⟩ := hu; go_simp; first | done | with_reducible rfl)
                try simp only [Act.put, lA, lZ, lS]
                refine Late.tk (i := 9) (oi := ⟨some 119, .move (.tmp 6), 3, "keep.go:195", #[], none⟩) (v := ?_) [18] rfl hS1 ?_ ?_
                rotate_left
                · (intro u hu; obtain ⟨u0, u1, u2⟩ := hu; go_simp; first | done | with_reducible rfl)
                try simp only [Act.put, lA, lZ, lS]
                refine Late.tk (i := 10) (oi := ⟨some 120, .indexAddr 51 (.tmp 118) (.tmp 119), 0, "keep.go:195", #[⟨8, .data⟩, ⟨9, .data⟩], none⟩) (v := ?_) [18] rfl hS1 ?_ ?_
                rotate_left
                · (intro u hu; obtain ⟨u0, u1, u2⟩ := hu; go_simp; first | done | with_reducible rfl)
                try simp only [Act.put, lA, lZ, lS]
                refine Late.tk (i := 11) (oi := ⟨some 121, .load 46 (.tmp 120), 46, "keep.go:195", #[⟨10, .data⟩], none⟩) (v := ?_) [18] rfl hS1 ?_ ?_
                rotate_left
                · (intro u hu; obtain ⟨u0, u1, u2⟩ := hu; go_simp; first | done | with_reducible rfl)
                try simp only [Act.put, lA, lZ, lS]
                refine Late.tk (i := 12) (oi := ⟨some 122, .move (.tmp 3), 51, "keep.go:195", #[], none⟩) (v := ?_) [18] rfl hS1 ?_ ?_
                rotate_left
                · (intro u hu; obtain ⟨u0, u1, u2⟩ := hu; go_simp; first | done | with_reducible rfl)
                try simp only [Act.put, lA, lZ, lS]
                refine Late.tk (i := 13) (oi := ⟨some 123, .move (.tmp 6), 3, "keep.go:195", #[], none⟩) (v := ?_) [18] rfl hS1 ?_ ?_
                rotate_left
                · (intro u hu; obtain ⟨u0, u1, u2⟩ := hu; go_simp; first | done | with_reducible rfl)
                try simp only [Act.put, lA, lZ, lS]
                refine Late.tk (i := 14) (oi := ⟨some 124, .indexAddr 51 (.tmp 122) (.tmp 123), 0, "keep.go:195", #[⟨12, .data⟩, ⟨13, .data⟩], none⟩) (v := ?_) [18] rfl hS1 ?_ ?_
                rotate_left
                · (intro u hu; obtain ⟨u0, u1, u2⟩ := hu; go_simp; first | done | with_reducible rfl)
                try simp only [Act.put, lA, lZ, lS]
                refine Late.tk (i := 15) (oi := ⟨some 125, .load 46 (.tmp 124), 46, "keep.go:195", #[⟨14, .data⟩], none⟩) (v := ?_) [18] rfl hS1 ?_ ?_
                rotate_left
                · (intro u hu; obtain ⟨u0, u1, u2⟩ := hu; go_simp; first | done | with_reducible rfl)
                try simp only [Act.put, lA, lZ, lS]
                refine Late.one (i := 16) (o := ⟨some 126, .call { callee := .builtin .append, args := #[.tmp 121, .tmp 125], argTypes := #[46, 46] }, 46, "keep.go:195", #[⟨11, .data⟩, ⟨15, .data⟩], none⟩) (by kernel_rfl) rfl (fun K hK => ?_)
                refine step_append_g rfl _ _ 46 46 rfl 3 (.int .i64 0) 1 8 Tryz.underlying46 kiI rfl (.slice gua k guc) _ _ (by rfl) (hgoB.ext ((Kp.refl _ _).drew)) (.slice (some ⟨lb, 0, none⟩) t lc) (by rfl) t _ (unhide HSR) (by omega) (by omega) ?_
                intro v7 w7 o7 k7 s7
                have hYof : ¬ Of (.slice gua k guc) Y := fun e' => by have := (hub Y e').1.1; have := HYB.out; omega
                have hLof : ¬ Of (.slice gua k guc) e.Lb := fun e' => (hub _ e').2 rfl
                have hL2of : ¬ Of (.slice gua k guc) Lb := fun e' => by
                  rcases hown1 Lb e' with g | g
                  · have := (hGB.out Lb g).1; have hg : w.heap.size ≤ Lb := hnewL; omega
                  · omega
                have xd : Ext wr wr.drew := (Kp.refl _ _).drew
                have p9 := k7.cell (xd.cell s9 id) hYof
                have pg := k7.cell (xd.cell sg id) hLof
                have pl := k7.cell (xd.cell sl id) hL2of
                have fg7 : w7.frozen? ⟨e.Lb, j, none⟩ = false := by
                  have h1 : Blk w7 e.Lb _ _ := (hgotB.blk.kept xd id).kept k7 hLof
                  exact h1.free j
                obtain ⟨v7a, v7c, rfl, -⟩ := o7.shape
                refine hK _ _ (fun _ => ⟨p9, pg, pl⟩) ?_
                clear hK K hS1 s9 sg sl
                try simp only [Act.put, lA, lZ, lS]
                refine Late.one (i := 17) (o := ⟨some 127, .indexAddr 51 (.tmp 113) (.tmp 114), 0, "keep.go:195", #[⟨3, .data⟩, ⟨4, .data⟩, ⟨0, .phase⟩, ⟨1, .phase⟩, ⟨2, .phase⟩, ⟨3, .phase⟩, ⟨4, .phase⟩, ⟨5, .phase⟩, ⟨6, .phase⟩, ⟨7, .phase⟩, ⟨8, .phase⟩, ⟨9, .phase⟩, ⟨10, .phase⟩, ⟨11, .phase⟩, ⟨12, .phase⟩, ⟨13, .phase⟩, ⟨14, .phase⟩, ⟨15, .phase⟩, ⟨16, .phase⟩], none⟩) (by kernel_rfl) rfl (fun K hK => ?_)
                go_simp
                refine hK _ _ (fun _ => ⟨p9, pg, pl⟩) ?_
                clear hK K
                try simp only [Act.put, lA, lZ, lS]
                refine Late.one (i := 18) (o := ⟨none, .store 46 (.tmp 127) (.tmp 126), 0, "keep.go:195", #[⟨17, .data⟩, ⟨16, .data⟩, ⟨16, .chain⟩, ⟨0, .phase⟩, ⟨1, .phase⟩, ⟨2, .phase⟩, ⟨3, .phase⟩, ⟨4, .phase⟩, ⟨5, .phase⟩, ⟨6, .phase⟩, ⟨7, .phase⟩, ⟨8, .phase⟩, ⟨9, .phase⟩, ⟨10, .phase⟩, ⟨11, .phase⟩, ⟨12, .phase⟩, ⟨13, .phase⟩, ⟨14, .phase⟩, ⟨15, .phase⟩, ⟨16, .phase⟩], none⟩) (by kernel_rfl) rfl (fun K hK => ?_)
                go_simp
                refine hK _ _ (fun h => absurd rfl h) ?_
                clear hK K
                try simp only [Act.put, lA, lZ, lS]
                refine Late.done (by kernel_rfl) ?_ _
                have HTM : Hid ((colOf d.gs d.cols j).take (k + t) = (colOf d.gs d.cols j).take k ++ ((colOf d.gs d.cols j).drop k).take t) := hide (take_more _ _ _)
                have HLM : Hid (((colOf d.gs d.cols j).take (k + t)).length = k + t) := by
                  show _ = _
                  rw [List.length_take, colOf_len hd j hjl]; omega
                have htop1 := HY1.out.isX.top
                have hBle : e.B ≤ w.heap.size := by have := hy.got.new.1; have := hy.got.blk.lt; omega
                have hzB := hKr.size
                have hzr := xB.size
                have hput := (hgotB.ext xd).put j (.slice gua k guc) (.slice v7a (k + t) v7c) ((colOf d.gs d.cols j).take (k + t)) hujE k7 (by rw [HLM.out, HTM.out, List.map_append]; exact o7) s7 (fun g hg => ⟨by have hg : wr.heap.size ≤ g := hg; omega, htop1 g (by have hg : wr.heap.size ≤ g := hg; omega)⟩)
                go_wp2_with fail
                refine ⟨⟨j + 1, us.set j (.slice v7a (k + t) v7c), by go_num, by omega, by rw [gotMid_succ d k t j hjl]; exact hput, fun u hu g hg => ?_, ?_⟩, by simp [intOf]; omega⟩
                · rcases List.mem_or_eq_of_mem_set hu with hu | rfl
                  · exact hown u hu g hg
                  · rcases sep_new s7 hg with e' | e'
                    · exact hown1 g e'
                    · have e' : wr.heap.size ≤ g := e'
                      exact .inr (by omega)
                · exact ((hKr.trans (Kp.of_ext (xB.trans xd))).then k7 (fun i hi e' => (hown1 i e').elim id (fun g => by omega))).setCell (p := ⟨e.Lb, j, none⟩) (.inl (.inl rfl)) _
          · obtain rfl : j = d.cols.length := by omega
            rw [gotMid_all] at hgot
            have hzB := hKr.size
            go_wp2_with fail
            go_ret
            rw [HM1.out]
            refine ⟨rfl, col1, us, k + n, ⟨HY1.out.blk.kept hKr hYn, HY1.out.yB, HY1.out.low, HY1.out.nam.kept hKr hLn, HY1.out.tab.kept hKr hLn, HY1.out.cls.kept hKr hLn, HY1.out.isX.kept hKr (fun i g => (hGB.out i g).2.2), hgot, fun b hb => ?_⟩, kO1.then hKr (fun i hi g => ?_), HK5.out, HTK.out⟩
            · have hgr : ∀ b, grow O w w1 b → grow O w wr b := fun b g => g.imp id (fun h => ⟨h.1, by omega⟩)
              rcases hb with hb | hb | hb | ⟨v, hv, hg⟩
              · exact hgr b (HY1.out.own b (.inl hb))
              · exact hgr b (HY1.out.own b (.inr (.inl hb)))
              · exact hgr b (HY1.out.own b (.inr (.inr (.inl hb))))
              · rcases hown v hv b hg with g | g
                · exact hgr b (HY1.out.own b (.inr (.inr g)))
                · obtain ⟨q, hq⟩ := List.getElem?_of_mem hv
                  have := hgot.lt q v b hq hg
                  exact .inr ⟨by omega, this⟩
            · exact hy.own i (.inr (.inr g))
end Go.Proofs.YthicgffppmbamaaGreat
