/- PlRows, PlGood, PlPieces, PlAnswer, PlX, PlainT, PlainF, PlFile, PlRight, PlRight2, PlTake, PlSound, PlSound2, PlIds, PlIn, PlKp. -/
import Derived.Test.YthicgffppmbamaaGreatPart1
import Derived.Test.YthicgffppmbamaaGreatPart7
import Derived.Test.YthicgffppmbamaaGreatPart8
namespace Go.Proofs.YthicgffppmbamaaGreat
open Pl

/-- the pages of a group that are still to come -/
def pendOf (pend : List WPage) (g : Nat) : List WPage := pend.filter fun x => decide (x.group = g)
theorem pendOf_nil {pend : List WPage} {g : Nat} (h : (pendOf pend g).length = 0) : ∀ x ∈ pend, x.group ≠ g := fun x hx e => by
  have : x ∈ pendOf pend g := List.mem_filter.2 ⟨hx, by simp [e]⟩
  rw [List.eq_nil_of_length_eq_zero h] at this
  cases this
structure RwG (r : Rw) (pend : List WPage) : Prop where
  few : r.gone + r.groups.length ≤ 6
  cols : r.columns ≤ 4
  grp : ∀ i G, r.groups[i]? = some G → 1 ≤ G.rows ∧ G.rows ≤ 20 ∧ G.lists.length = r.columns ∧ G.missing = (pendOf pend (r.gone + i)).length ∧ ∀ (c : Nat) l, G.lists[c]? = some l → l.length = G.rows ∨ ∃ x ∈ pend, x.group = r.gone + i ∧ x.column = c
  pnd : ∀ x ∈ pend, r.gone ≤ x.group ∧ x.group < r.gone + r.groups.length ∧ x.column < r.columns
  prow : ∀ x ∈ pend, (r.groups[x.group - r.gone]?).map (·.rows) = some x.rows
  pl : pend.length ≤ 1000
  row : r.row = 0 ∨ ∃ G rest, r.groups = G :: rest ∧ G.missing = 0 ∧ r.row < G.rows
  left : r.left + r.row = (r.groups.map (·.rows)).sum

theorem sum_rows {l : List RGroup} (h : ∀ G ∈ l, G.rows ≤ 20) : (l.map (·.rows)).sum ≤ 20 * l.length := by
  induction l with
  | nil => simp
  | cons a r ih => have := ih (fun G hG => h G (by simp [hG])); have := h a (by simp); simp only [List.map_cons, List.sum_cons, List.length_cons]; omega
theorem readyF_le (l : List RGroup) : readyF l ≤ (l.map (·.rows)).sum := by
  induction l with
  | nil => simp [readyF]
  | cons a r ih => simp only [readyF, List.map_cons, List.sum_cons]; split <;> omega

theorem RwG.mem {r : Rw} {pend : List WPage} (h : RwG r pend) {G : RGroup} (hG : G ∈ r.groups) : 1 ≤ G.rows ∧ G.rows ≤ 20 ∧ G.missing ≤ 1000 := by
  obtain ⟨i, hi, rfl⟩ := List.mem_iff_getElem.1 hG
  obtain ⟨h1, h2, -, h4, -⟩ := h.grp i _ (List.getElem?_eq_getElem hi)
  refine ⟨h1, h2, ?_⟩
  rw [h4]
  exact Nat.le_trans (List.length_filter_le _ _) h.pl
theorem RwG.total {r : Rw} {pend : List WPage} (h : RwG r pend) : (r.groups.map (·.rows)).sum ≤ 120 := by
  have h1 := sum_rows (l := r.groups) (fun G hG => (h.mem hG).2.1)
  have := h.few
  omega
theorem RwG.ok {r : Rw} {pend : List WPage} (h : RwG r pend) : RwOk r := by
  have hf := h.few
  have ht := h.total
  have hl := h.left
  refine ⟨by omega, fun g hg => by have := (h.mem hg).2.1; omega, fun g hg => by have := (h.mem hg).2.2; omega, ?_, by omega, by omega⟩
  rcases h.row with e | ⟨G, rest, e, hm, hr⟩
  · omega
  · rw [e]
    simp only [readyF]
    rw [if_neg (by omega)]
    omega
theorem RwG.ready_le {r : Rw} {pend : List WPage} (h : RwG r pend) : rwReady r ≤ 120 := by
  have := readyF_le r.groups
  have := h.total
  unfold rwReady
  omega
/-- where a row is ready, the first group is whole -/
theorem RwG.first {r : Rw} {pend : List WPage} (h : RwG r pend) (hr : 0 < rwReady r) : ∃ G rest, TakeOk r G rest ∧ G.missing = 0 := by
  unfold rwReady at hr
  cases hg : r.groups with
  | nil => rw [hg] at hr; simp [readyF] at hr
  | cons G rest =>
    have hm : G.missing = 0 := by
      rw [hg] at hr
      simp only [readyF] at hr
      by_cases e : 0 < G.missing
      · rw [if_pos e] at hr; omega
      · omega
    have hG : G ∈ r.groups := by rw [hg]; simp
    obtain ⟨g1, g2, g3, g4, g5⟩ := h.grp 0 G (by rw [hg]; rfl)
    have hf := h.few
    rw [hg, List.length_cons] at hf
    have hrow : r.row < G.rows := by
      rcases h.row with e | ⟨G', rest', e, -, hr'⟩
      · omega
      · rw [hg] at e
        cases e
        exact hr'
    have hl := h.left
    have ht := h.total
    have hcc := h.cols
    rw [hg, List.map_cons, List.sum_cons] at hl ht
    refine ⟨G, rest, ⟨hg, by omega, g3, fun l hl => ?_, hrow, by omega, by omega, by omega, by omega, by omega⟩, hm⟩
    · obtain ⟨c, hc, rfl⟩ := List.mem_iff_getElem.1 hl
      rcases g5 c _ (List.getElem?_eq_getElem hc) with e | ⟨x, hx, hxg, -⟩
      · exact e
      · exact absurd hxg (pendOf_nil (by rw [← g4]; exact hm) x hx)
/-- a row is taken -/
theorem RwG.take {r : Rw} {pend : List WPage} (h : RwG r pend) (hr : 0 < rwReady r) : RwG (rwTake r).2 pend ∧ rwReady (rwTake r).2 = rwReady r - 1 ∧ (rwTake r).2.columns = r.columns ∧ (rwTake r).2.left = r.left - 1 ∧ 1 ≤ r.left := by
  obtain ⟨G, rest, ht, hm⟩ := h.first hr
  have hg := ht.groups
  have hrow := ht.row
  have hl := h.left
  have hfew := h.few
  rw [hg, List.map_cons, List.sum_cons] at hl
  rw [hg, List.length_cons] at hfew
  have hd : r.groups.getD 0 default = G := by rw [hg]; rfl
  obtain ⟨g1, g2, g3, g4, g5⟩ := h.grp 0 G (by rw [hg]; rfl)
  have hpn := pendOf_nil (show (pendOf pend (r.gone + 0)).length = 0 by rw [← g4]; exact hm)
  have hF : readyF r.groups = G.rows + readyF rest := by rw [hg]; simp only [readyF]; rw [if_neg (by omega)]
  unfold rwTake
  simp only [hd]
  by_cases he : r.row + 1 = G.rows
  · rw [if_pos he]
    have hd1 : r.groups.drop 1 = rest := by rw [hg]; rfl
    refine ⟨⟨?_, h.cols, fun i G' hG' => ?_, fun x hx => ?_, fun x hx => ?_, h.pl, .inl rfl, ?_⟩, ?_, rfl, rfl, by omega⟩
    · show r.gone + 1 + (r.groups.drop 1).length ≤ 6
      rw [hd1]; omega
    · have hG'' : r.groups[i + 1]? = some G' := by rw [hg]; have : (r.groups.drop 1)[i]? = some G' := hG'; rw [hd1] at this; exact this
      have := h.grp (i + 1) G' hG''
      rw [show r.gone + (i + 1) = r.gone + 1 + i by omega] at this
      exact this
    · obtain ⟨p1, p2, p3⟩ := h.pnd x hx
      have p4 := hpn x hx
      refine ⟨?_, ?_, p3⟩
      · show r.gone + 1 ≤ x.group
        omega
      · show x.group < r.gone + 1 + (r.groups.drop 1).length
        rw [hd1]
        rw [hg, List.length_cons] at p2
        omega
    · obtain ⟨p1, -, -⟩ := h.pnd x hx
      have p4 := hpn x hx
      have := h.prow x hx
      show ((r.groups.drop 1)[x.group - (r.gone + 1)]?).map (·.rows) = some x.rows
      rw [List.getElem?_drop, show 1 + (x.group - (r.gone + 1)) = x.group - r.gone by omega]
      exact this
    · show r.left - 1 + 0 = ((r.groups.drop 1).map (·.rows)).sum
      rw [hd1]; omega
    · show readyF (r.groups.drop 1) - 0 = readyF r.groups - r.row - 1
      rw [hd1, hF]; omega
  · rw [if_neg he]
    refine ⟨⟨h.few, h.cols, h.grp, h.pnd, h.prow, h.pl, .inr ⟨G, rest, hg, hm, ?_⟩, ?_⟩, ?_, rfl, rfl, by omega⟩
    · show r.row + 1 < G.rows
      omega
    · show r.left - 1 + (r.row + 1) = (r.groups.map (·.rows)).sum
      rw [hg, List.map_cons, List.sum_cons]; omega
    · show readyF r.groups - (r.row + 1) = readyF r.groups - r.row - 1
      omega
theorem RwG.takeN {r : Rw} {pend : List WPage} (h : RwG r pend) : ∀ j, j ≤ rwReady r → RwG (rwAt r j) pend ∧ rwReady (rwAt r j) = rwReady r - j ∧ (rwAt r j).columns = r.columns ∧ (rwAt r j).left = r.left - j
  | 0, _ => ⟨h, by simp [rwAt, iter], rfl, by simp [rwAt, iter]⟩
  | j + 1, hj => by
    obtain ⟨h1, h2, h3, h4⟩ := h.takeN j (by omega)
    obtain ⟨t1, t2, t3, t4, -⟩ := h1.take (by omega)
    exact ⟨t1, t2.trans (by rw [h2]; omega), t3.trans h3, t4.trans (by rw [h4]; omega)⟩
theorem RwG.takes {r : Rw} {pend : List WPage} (h : RwG r pend) (cnt : Nat) (hc : cnt ≤ rwReady r) : TakesOk r cnt := fun j hj => by
  obtain ⟨h1, h2, h3, -⟩ := h.takeN j (by omega)
  have hp : 0 < rwReady (rwAt r j) := by omega
  obtain ⟨G, rest, ht, -⟩ := h1.first hp
  exact ⟨h1.ok, hp, by have := h1.ready_le; omega, h3, G, rest, ht⟩
/-- the next rows: rows as before -/
theorem RwG.next {r : Rw} {pend : List WPage} (h : RwG r pend) (most : Nat) : RwG (rwNext r most).2 pend ∧ (rwNext r most).2.columns = r.columns := by
  unfold rwNext
  split
  · exact ⟨h, rfl⟩
  · obtain ⟨h1, -, h3, -⟩ := h.takeN (rwCount r most) (by omega)
    exact ⟨h1, h3⟩
theorem RwG.nextOk {m : Sc} {pend : List WPage} (h : RwG m.rows pend) (hn : m.nrows ≤ 20) : NextOk m ∧ (rwNext m.rows m.nrows).2.left ≤ 1000000000 :=
  ⟨⟨by omega, h.ok, by have := h.cols; omega, by have := h.ready_le; omega, fun hc => h.takes _ hc⟩, by
    have h1 := (h.next m.nrows).1
    have := h1.total
    have := h1.left
    omega⟩

/-! A page that is read has as many values as it should -/
theorem rNum_in (least most : Nat) (r : Rdr) (h : least ≤ most) : least ≤ (rNum least most r).1 ∧ (rNum least most r).1 ≤ most := by
  unfold rNum
  split
  · exact ⟨Nat.le_refl _, h⟩
  · simp only; omega
theorem runsR_len : ∀ (f left : Nat) (s : List Int × Rdr), left ≤ f → (runsR f left s).1.length = s.1.length + left
  | 0, left, s, h => by simp [runsR]; omega
  | f + 1, left, s, h => by
    unfold runsR
    split
    · omega
    · have h1 := rNum_in 1 left s.2 (by omega)
      rw [runsR_len f _ _ (by omega)]
      simp only [List.length_append, List.length_replicate]
      omega
theorem plainS_len (r : Rdr) : ∀ k, (iter plainS k ([], r)).1.length = k
  | 0 => rfl
  | k + 1 => by rw [show iter plainS (k + 1) ([], r) = plainS (iter plainS k ([], r)) from rfl]; simp [plainS, plainS_len r k]
theorem risingS_len (r : Rdr) : ∀ k, (iter risingS k ([], 0, r)).1.length = k
  | 0 => rfl
  | k + 1 => by rw [show iter risingS (k + 1) ([], 0, r) = risingS (iter risingS k ([], 0, r)) from rfl]; simp [risingS, risingS_len r k]
theorem readPage_len {data : List UInt8} {rows : Nat} {l : List Int} (h : readPage data rows = some l) : l.length = rows := by
  unfold readPage at h
  simp only at h
  generalize rByte (data, false) = k at h
  by_cases h3 : 3 ≤ k.1
  · rw [if_pos h3] at h
    cases h
  · rw [if_neg h3] at h
    obtain ⟨s, hs⟩ : ∃ s : List Int × Rdr, s = if k.1 = 0 then iter plainS rows ([], k.2) else if k.1 = 1 then runsR rows rows ([], k.2) else ((iter risingS rows ([], 0, k.2)).1, (iter risingS rows ([], 0, k.2)).2.2) := ⟨_, rfl⟩
    rw [← hs] at h
    have hl : s.1.length = rows := by
      rw [hs]
      by_cases h0 : k.1 = 0
      · rw [if_pos h0]; exact plainS_len _ _
      · rw [if_neg h0]
        by_cases h1 : k.1 = 1
        · rw [if_pos h1, runsR_len _ _ _ (Nat.le_refl _)]; simp
        · rw [if_neg h1]; exact risingS_len _ _
    by_cases hr : rRight s.2 = true
    · rw [if_pos hr] at h
      cases h
      exact hl
    · rw [if_neg hr] at h
      cases h
theorem readW_len {p : Piece} {x : WPage} {data : List UInt8} {l : List Int} (h : readW p x data = some l) : l.length = x.rows := by
  unfold readW at h
  split at h
  · exact readPage_len h
  · cases h

/-- a page comes -/
theorem RwG.put {r : Rw} {x : WPage} {pend : List WPage} (h : RwG r (x :: pend)) (l : List Int) (hl : l.length = x.rows) : RwG (rwPut r x.group x.column l) pend ∧ ∃ G, r.groups[x.group - r.gone]? = some G ∧ x.column < G.lists.length ∧ 1 ≤ G.missing ∧ G.missing ≤ 1000000 := by
  obtain ⟨p1, p2, p3⟩ := h.pnd x (by simp)
  have hi : x.group - r.gone < r.groups.length := by omega
  obtain ⟨G, hG⟩ : ∃ G, r.groups[x.group - r.gone]? = some G := ⟨_, List.getElem?_eq_getElem hi⟩
  have hpr := h.prow x (by simp)
  rw [hG] at hpr
  have hGr : G.rows = x.rows := by simpa using hpr
  obtain ⟨g1, g2, g3, g4, g5⟩ := h.grp _ G hG
  rw [show r.gone + (x.group - r.gone) = x.group by omega] at g4 g5
  have hc : ∀ g, (pendOf (x :: pend) g).length = (pendOf pend g).length + if x.group = g then 1 else 0 := fun g => by
    unfold pendOf
    by_cases e : x.group = g
    · rw [List.filter_cons_of_pos (by simp [e]), if_pos e]; simp
    · rw [List.filter_cons_of_neg (by simp [e]), if_neg e]; simp
  have hm1 : G.missing = (pendOf pend x.group).length + 1 := by rw [g4, hc, if_pos rfl]
  have hpl := h.pl
  simp only [List.length_cons] at hpl
  have hfl : (pendOf pend x.group).length ≤ pend.length := List.length_filter_le _ _
  refine ⟨?_, G, hG, by omega, by omega, by omega⟩
  have hlen : (rwPut r x.group x.column l).groups.length = r.groups.length := rwPut_len _ _ _ _
  have hget : ∀ (i : Nat) G', (rwPut r x.group x.column l).groups[i]? = some G' → (i = x.group - r.gone ∧ G' = { G with lists := G.lists.set x.column l, missing := G.missing - 1 }) ∨ (i ≠ x.group - r.gone ∧ r.groups[i]? = some G') := fun i G' hG' => by
    unfold rwPut at hG'
    simp only [List.getElem?_modify] at hG'
    by_cases e : x.group - r.gone = i
    · left
      subst e
      rw [hG] at hG'
      simp at hG'
      exact ⟨rfl, hG'.symm⟩
    · right
      refine ⟨fun e' => e e'.symm, ?_⟩
      cases hh : r.groups[i]? with
      | none => rw [hh] at hG'; simp at hG'
      | some G2 => rw [hh] at hG'; simp [e] at hG'; rw [hG']
  have hrows : ((rwPut r x.group x.column l).groups.map (·.rows)) = r.groups.map (·.rows) := by
    apply List.ext_getElem?
    intro i
    unfold rwPut
    simp only [List.getElem?_map, List.getElem?_modify]
    cases hh : r.groups[i]? with
    | none => simp
    | some G2 => by_cases e : x.group - r.gone = i <;> simp [e]
  refine ⟨by rw [hlen]; exact h.few, h.cols, fun i G' hG' => ?_, fun y hy => ?_, fun y hy => ?_, by omega, ?_, ?_⟩
  · rcases hget i G' hG' with ⟨rfl, rfl⟩ | ⟨hne, hG2⟩
    · refine ⟨g1, g2, (List.length_set).trans g3, ?_, fun c q hq => ?_⟩
      · show G.missing - 1 = (pendOf pend (r.gone + (x.group - r.gone))).length
        rw [show r.gone + (x.group - r.gone) = x.group by omega]; omega
      · have hq : (G.lists.set x.column l)[c]? = some q := hq
        show q.length = G.rows ∨ ∃ y ∈ pend, y.group = r.gone + (x.group - r.gone) ∧ y.column = c
        rw [show r.gone + (x.group - r.gone) = x.group by omega]
        by_cases e : c = x.column
        · subst e
          rw [List.getElem?_set_self (by omega)] at hq
          cases hq
          exact .inl (hl.trans hGr.symm)
        · rw [List.getElem?_set_ne (Ne.symm e)] at hq
          rcases g5 c q hq with e' | ⟨y, hy, hyg, hyc⟩
          · exact .inl e'
          · rcases List.mem_cons.1 hy with rfl | hy
            · exact absurd hyc.symm e
            · exact .inr ⟨y, hy, hyg, hyc⟩
    · obtain ⟨k1, k2, k3, k4, k5⟩ := h.grp i G' hG2
      have hxg : x.group ≠ r.gone + i := by omega
      refine ⟨k1, k2, k3, ?_, fun c q hq => ?_⟩
      · show G'.missing = (pendOf pend (r.gone + i)).length
        rw [k4, hc, if_neg hxg]; rfl
      · rcases k5 c q hq with e' | ⟨y, hy, hyg, hyc⟩
        · exact .inl e'
        · rcases List.mem_cons.1 hy with rfl | hy
          · exact absurd hyg hxg
          · exact .inr ⟨y, hy, hyg, hyc⟩
  · rw [hlen]
    exact h.pnd y (by simp [hy])
  · have := h.prow y (by simp [hy])
    have e1 : ((rwPut r x.group x.column l).groups[y.group - r.gone]?).map (·.rows) = (r.groups[y.group - r.gone]?).map (·.rows) := by
      rw [← List.getElem?_map, ← List.getElem?_map, hrows]
    exact e1.trans this
  · rcases h.row with e | ⟨G0, rest, e, hm, hr⟩
    · exact .inl e
    · have h0 : x.group - r.gone ≠ 0 := fun e0 => by
        rw [e0, e] at hG
        simp at hG
        subst hG
        omega
      obtain ⟨q, hq⟩ : ∃ q, x.group - r.gone = q + 1 := ⟨x.group - r.gone - 1, by omega⟩
      have : (rwPut r x.group x.column l).groups = G0 :: rest.modify q (fun y => { y with lists := y.lists.set x.column l, missing := y.missing - 1 }) := by unfold rwPut; simp only; rw [e, hq]; rfl
      exact .inr ⟨G0, _, this, hm, hr⟩
  · rw [hrows]
    exact h.left
end Go.Proofs.YthicgffppmbamaaGreat

namespace Go.Proofs.YthicgffppmbamaaGreat
open Pl

theorem RwG.puts {p : Piece} {data : List UInt8} : ∀ (pages : List WPage) (r : Rw) (pend : List WPage), RwG r (pages ++ pend) → PutsOk p data pages r ∧ ∀ r', putsF p data pages r = some r' → RwG r' pend ∧ r'.columns = r.columns
  | [], r, pend, h => ⟨trivial, fun r' e => by unfold putsF at e; cases e; exact ⟨h, rfl⟩⟩
  | x :: t, r, pend, h => by
    refine ⟨fun l hl => ?_, fun r' e => ?_⟩
    · obtain ⟨h1, h2⟩ := RwG.put (pend := t ++ pend) h l (readW_len hl)
      exact ⟨⟨(h.pnd x (by simp)).1, h2⟩, (RwG.puts t _ pend h1).1⟩
    · unfold putsF at e
      cases hl : readW p x data with
      | none => rw [hl] at e; cases e
      | some l =>
        rw [hl] at e
        obtain ⟨h1, -⟩ := RwG.put (pend := t ++ pend) h l (readW_len hl)
        obtain ⟨a, b⟩ := (RwG.puts t _ pend h1).2 r' e
        exact ⟨a, b⟩
theorem RwG.perm {r : Rw} {pend pend' : List WPage} (h : RwG r pend) (hp : pend.Perm pend') : RwG r pend' := by
  refine ⟨h.few, h.cols, fun i G hG => ?_, fun x hx => h.pnd x (hp.mem_iff.2 hx), fun x hx => h.prow x (hp.mem_iff.2 hx), by rw [← hp.length_eq]; exact h.pl, h.row, h.left⟩
  obtain ⟨g1, g2, g3, g4, g5⟩ := h.grp i G hG
  refine ⟨g1, g2, g3, by rw [g4]; exact (hp.filter _).length_eq, fun c l hl => (g5 c l hl).imp id (fun ⟨x, hx, e⟩ => ⟨x, hp.mem_iff.1 hx, e⟩)⟩

/-- the pages that a part is for -/
def aimPages : Aim → List WPage
  | .piece p => p.pages
  | _ => []
def isPiece : Aim → Bool
  | .piece _ => true
  | _ => false
/-- a piece that may be asked for -/
structure PcOk (p : Piece) : Prop where
  len : 1 ≤ p.length
  ends : p.place + p.length ≤ 5000
  pages : ∀ y ∈ p.pages, PgOk p p.length y
  few : p.pages.length ≤ 4
structure PtOk (size tries : Nat) (x : Part) : Prop where
  ends : x.place + x.length ≤ 5000
  data : x.data.length < x.length
  fails : x.failures + 1 ≤ tries
  footer : x.aim = .footer → x.length + 10 ≤ size
  piece : ∀ p, x.aim = .piece p → x.length = p.length ∧ PcOk p
def pend (L : List Part) (ahead : List Piece) : List WPage := L.flatMap (fun x => aimPages x.aim) ++ ahead.flatMap (·.pages)
/-- what holds of a scan that goes, L being the parts that are asked for or wait -/
structure Core (m : Sc) (L : List Part) (N : Nat) : Prop where
  state : m.state = 0
  size : m.size ≤ 4000
  want : m.want.length ≤ 4
  gap : m.gap ≤ 32
  win : m.win ≤ 4
  tries1 : 1 ≤ m.tries
  tries : m.tries ≤ 4
  nrows : m.nrows ≤ 20
  parts : ∀ x ∈ L, PtOk m.size m.tries x
  ahead : ∀ p ∈ m.ahead, PcOk p
  aheads : m.ahead.length ≤ 24
  opened : m.opened = (L.filter fun x => isPiece x.aim).length
  openw : m.opened ≤ m.win
  first : (∃ x ∈ L, isPiece x.aim = false) → L.length = 1 ∧ m.ahead = []
  rows : RwG m.rows (pend L m.ahead)
  lastId : m.lastId ≤ N
theorem pend_perm {L L' : List Part} (h : L.Perm L') (a : List Piece) : (pend L a).Perm (pend L' a) := (h.flatMap_right _).append_right _
theorem Core.perm {m : Sc} {L L' : List Part} {N : Nat} (h : Core m L N) (hp : L.Perm L') : Core m L' N :=
  ⟨h.state, h.size, h.want, h.gap, h.win, h.tries1, h.tries, h.nrows, fun x hx => h.parts x (hp.mem_iff.2 hx), h.ahead, h.aheads, by rw [h.opened]; exact (hp.filter _).length_eq, h.openw, fun ⟨x, hx, e⟩ => by rw [← hp.length_eq]; exact h.first ⟨x, hp.mem_iff.2 hx, e⟩, h.rows.perm (pend_perm hp _), h.lastId⟩
/-- few parts are under way -/
theorem Core.few {m : Sc} {L : List Part} {N : Nat} (h : Core m L N) : L.length ≤ 4 := by
  by_cases hx : ∃ x ∈ L, isPiece x.aim = false
  · have := (h.first hx).1; omega
  · have : L.filter (fun x => isPiece x.aim) = L := List.filter_eq_self.2 (fun x hxL => by
      cases e : isPiece x.aim with
      | true => rfl
      | false => exact absurd ⟨x, hxL, e⟩ hx)
    have h1 := h.opened
    rw [this] at h1
    have := h.openw
    have := h.win
    omega
/-- the next piece is asked for -/
theorem Core.more {m : Sc} {L : List Part} {N : Nat} {p : Piece} {r : List Piece} (h : Core m L N) (ha : m.ahead = p :: r) (hw : m.opened < m.win) : Core (fetch { m with ahead := r, opened := m.opened + 1 } p.place p.length (.piece p)) (L ++ [⟨p.place, p.length, [], 0, .piece p⟩]) (N + 1) := by
  have hp := h.ahead p (by rw [ha]; simp)
  have hno : ¬ ∃ x ∈ L, isPiece x.aim = false := fun hx => by have := (h.first hx).2; rw [ha] at this; cases this
  have hal := h.aheads
  rw [ha, List.length_cons] at hal
  refine ⟨h.state, h.size, h.want, h.gap, h.win, h.tries1, h.tries, h.nrows, fun x hx => ?_, fun q hq => h.ahead q (by rw [ha]; exact List.mem_cons_of_mem _ hq), by show r.length ≤ 24; omega, ?_, by show m.opened + 1 ≤ m.win; omega, fun ⟨x, hx, e⟩ => ?_, ?_, Nat.succ_le_succ h.lastId⟩
  · rcases List.mem_append.1 hx with hx | hx
    · exact h.parts x hx
    · simp at hx
      subst hx
      exact ⟨hp.ends, hp.len, h.tries1, (fun e => by cases e), fun q e => by cases e; exact ⟨rfl, hp⟩⟩
  · show m.opened + 1 = _
    rw [List.filter_append, List.length_append, ← h.opened]
    rfl
  · rcases List.mem_append.1 hx with hx | hx
    · exact absurd ⟨x, hx, e⟩ hno
    · simp at hx; subst hx; cases e
  · refine h.rows.perm ?_
    rw [ha]
    unfold pend
    show (L.flatMap (fun x => aimPages x.aim) ++ (p :: r).flatMap (·.pages)).Perm ((L ++ [(⟨p.place, p.length, [], 0, .piece p⟩ : Part)]).flatMap (fun x : Part => aimPages x.aim) ++ r.flatMap (·.pages))
    rw [List.flatMap_append, List.flatMap_cons, List.append_assoc]
    simp [aimPages]

def partsOf (m : Sc) : List Part := m.asked.map (·.2) ++ m.waiting.map (·.2)
theorem partsOf_ask (m : Sc) (p : Part) : (partsOf m ++ [p]).Perm (partsOf (Pl.ask m p)) := by
  unfold partsOf Pl.ask
  simp only [List.map_append, List.map_cons, List.map_nil, List.append_assoc]
  exact List.perm_append_comm.append_left _
theorem Core.ahead_all : ∀ (f : Nat) (m : Sc) (N : Nat), Core m (partsOf m) N → Core (askAheadF f m) (partsOf (askAheadF f m)) (N + f) ∧ (askAheadF f m).waiting = m.waiting
  | 0, m, N, h => ⟨h, rfl⟩
  | f + 1, m, N, h => by
    unfold askAheadF
    cases ha : m.ahead with
    | nil => exact ⟨{ h with lastId := Nat.le_trans h.lastId (by omega) }, rfl⟩
    | cons p r =>
      simp only
      by_cases hw : m.opened < m.win
      · rw [if_pos hw]
        have h1 := (h.more ha hw).perm (partsOf_ask { m with ahead := r, opened := m.opened + 1 } ⟨p.place, p.length, [], 0, .piece p⟩)
        obtain ⟨h2, h3⟩ := Core.ahead_all f _ (N + 1) h1
        rw [show N + (f + 1) = N + 1 + f by omega]
        exact ⟨h2, h3⟩
      · rw [if_neg hw]
        exact ⟨{ h with lastId := Nat.le_trans h.lastId (by omega) }, rfl⟩

/-- what holds of a scan -/
structure Going (m : Sc) (N : Nat) : Prop where
  core : Core m (partsOf m) N
  ticks : ∀ q ∈ m.waiting, 1 ≤ q.1 ∧ q.1 ≤ 16
def Good (m : Sc) (N : Nat) : Prop := (∃ why, why ≠ 0 ∧ why ≤ 10 ∧ m = ended why) ∨ Going m N
theorem Good.mono {m : Sc} {N N' : Nat} (h : Good m N) (hn : N ≤ N') : Good m N' := h.imp id (fun g => ⟨{ g.core with lastId := Nat.le_trans g.core.lastId hn }, g.ticks⟩)
theorem Going.askAhead {m : Sc} {N : Nat} (h : Going m N) : Going (Pl.askAhead m) (N + 24) := by
  obtain ⟨h1, h2⟩ := Core.ahead_all m.ahead.length m N h.core
  have := h.core.aheads
  exact ⟨{ h1 with lastId := Nat.le_trans h1.lastId (by omega) }, by unfold Pl.askAhead; rw [h2]; exact h.ticks⟩
theorem rwG_none : RwG ({} : Rw) [] := ⟨by decide, by decide, (fun i G hG => by simp at hG), (fun x hx => by cases hx), (fun x hx => by cases hx), by decide, .inl rfl, rfl⟩

/-! The next rows -/
theorem Good.next {m : Sc} {N : Nat} (h : Good m N) : (NextOk m ∧ (rwNext m.rows m.nrows).2.left ≤ 1000000000) ∧ Good (Pl.next m).1 N := by
  rcases h with ⟨why, h1, h2, rfl⟩ | h
  · refine ⟨RwG.nextOk (pend := []) (m := ended why) rwG_none (by show 0 ≤ 20; omega), .inl ⟨why, h1, h2, ?_⟩⟩
    unfold Pl.next
    have : rwNext (ended why).rows (ended why).nrows = (none, (ended why).rows) := by unfold rwNext; rw [if_pos (.inl rfl)]
    rw [this]
  · refine ⟨h.core.rows.nextOk h.core.nrows, ?_⟩
    have hr := h.core.rows.next m.nrows
    unfold Pl.next
    obtain ⟨a, r', he⟩ : ∃ a r', rwNext m.rows m.nrows = (a, r') := ⟨_, _, rfl⟩
    rw [he] at hr ⊢
    cases a with
    | none => exact .inr h
    | some l =>
      simp only
      by_cases h0 : r'.left = 0
      · rw [if_pos h0]
        exact .inl ⟨1, by decide, by decide, rfl⟩
      · rw [if_neg h0]
        exact .inr ⟨{ h.core with rows := hr.1 }, h.ticks⟩

/-! Cancelling -/
theorem Good.cancel {m : Sc} {N : Nat} (h : Good m N) : Good (Pl.cancel m) N ∧ m.state ≤ 10 := by
  rcases h with ⟨why, h1, h2, rfl⟩ | h
  · refine ⟨.inl ⟨why, h1, h2, ?_⟩, h2⟩
    exact if_neg h1
  · refine ⟨.inl ⟨5, by decide, by decide, ?_⟩, by rw [h.core.state]; omega⟩
    unfold Pl.cancel
    rw [if_pos h.core.state]

/-! A part is taken -/
theorem Core.swap {m : Sc} {x x' : Part} {L : List Part} {N : Nat} (h : Core m (x :: L) N) (ha : x'.aim = x.aim) (hx : PtOk m.size m.tries x') : Core m (x' :: L) N := by
  refine { h with parts := fun y hy => ?_, opened := ?_, first := fun ⟨y, hy, e⟩ => ?_, rows := ?_ }
  · rcases List.mem_cons.1 hy with rfl | hy
    · exact hx
    · exact h.parts y (List.mem_cons_of_mem _ hy)
  · rw [h.opened, List.filter_cons, List.filter_cons, ha]
    split <;> rfl
  · have := h.first (by
      rcases List.mem_cons.1 hy with rfl | hy
      · exact ⟨x, by simp, by rw [← ha]; exact e⟩
      · exact ⟨y, List.mem_cons_of_mem _ hy, e⟩)
    exact this
  · have := h.rows
    unfold pend at this ⊢
    rw [List.flatMap_cons] at this ⊢
    rw [ha]
    exact this
theorem eraseIdx_perm {α : Type} : ∀ (l : List α) (i : Nat) (h : i < l.length), (l[i] :: l.eraseIdx i).Perm l
  | [], _, h => by simp at h
  | _ :: _, 0, _ => .refl _
  | a :: l, i + 1, h => (List.Perm.swap a _ _).trans ((eraseIdx_perm l i (by simpa using h)).cons a)
theorem take_perm (m : Sc) (i : Nat) (hi : i < m.asked.length) : (partsOf m).Perm (Pl.partAt m i :: partsOf (takeAt m i)) := by
  have h1 : Pl.partAt m i = (m.asked[i]).2 := by unfold Pl.partAt; rw [List.getD_eq_getElem?_getD, List.getElem?_eq_getElem hi]; rfl
  unfold partsOf
  rw [h1]
  show (m.asked.map (·.2) ++ m.waiting.map (·.2)).Perm ((m.asked[i]).2 :: ((m.asked.eraseIdx i).map (·.2) ++ m.waiting.map (·.2)))
  exact ((eraseIdx_perm m.asked i hi).map (fun q : Nat × Part => q.2)).symm.append_right (m.waiting.map (·.2))
theorem findId_lt {l : List (Nat × Part)} {id : Int} {i : Nat} (h : findId l id = some i) : i < l.length := by
  unfold findId at h
  rw [List.findIdx?_eq_some_iff_getElem] at h
  exact h.1
theorem Going.taken {m : Sc} {N : Nat} (h : Going m N) (i : Nat) (hi : i < m.asked.length) : Core (takeAt m i) (Pl.partAt m i :: partsOf (takeAt m i)) N ∧ PtOk m.size m.tries (Pl.partAt m i) := by
  have h1 := h.core.perm (take_perm m i hi)
  exact ⟨⟨h1.state, h1.size, h1.want, h1.gap, h1.win, h1.tries1, h1.tries, h1.nrows, h1.parts, h1.ahead, h1.aheads, h1.opened, h1.openw, h1.first, h1.rows, h1.lastId⟩, h1.parts _ (by simp)⟩
theorem Going.waits {m : Sc} {N : Nat} (h : Going m N) : m.waiting.length ≤ 4 ∧ m.asked.length ≤ 4 := by
  have := h.core.few
  unfold partsOf at this
  simp at this
  omega
/-- a part fails -/
theorem Going.failed {m : Sc} {N : Nat} (h : Going m N) (i : Nat) (hi : i < m.asked.length) : FailOk m (Pl.partAt m i) ∧ Good (partFailed (takeAt m i) (Pl.partAt m i)) N := by
  obtain ⟨h1, h2⟩ := h.taken i hi
  have ht := h.core.tries
  have hf := h2.fails
  have hw := h.waits
  refine ⟨⟨h.core.state, by omega, hf, by omega, by omega⟩, ?_⟩
  unfold partFailed
  by_cases he : (Pl.partAt m i).failures + 1 = (takeAt m i).tries
  · rw [if_pos he]
    exact .inl ⟨4, by decide, by decide, rfl⟩
  · rw [if_neg he]
    have he' : (Pl.partAt m i).failures + 1 ≠ m.tries := he
    have h3 := h1.swap (x' := { Pl.partAt m i with failures := (Pl.partAt m i).failures + 1 }) rfl ⟨h2.ends, h2.data, by show (Pl.partAt m i).failures + 1 + 1 ≤ m.tries; omega, h2.footer, h2.piece⟩
    have hp : ({ Pl.partAt m i with failures := (Pl.partAt m i).failures + 1 } :: partsOf (takeAt m i)).Perm (partsOf { takeAt m i with waiting := (takeAt m i).waiting ++ [(2 ^ (Pl.partAt m i).failures, { Pl.partAt m i with failures := (Pl.partAt m i).failures + 1 })] }) := by
      unfold partsOf
      simp only [List.map_append, List.map_cons, List.map_nil]
      rw [← List.append_assoc]
      exact (List.perm_append_comm (l₁ := [_]))
    have h4 := h3.perm hp
    refine .inr ⟨⟨h4.state, h4.size, h4.want, h4.gap, h4.win, h4.tries1, h4.tries, h4.nrows, h4.parts, h4.ahead, h4.aheads, h4.opened, h4.openw, h4.first, h4.rows, h4.lastId⟩, fun q hq => ?_⟩
    rcases List.mem_append.1 hq with hq | hq
    · exact h.ticks q hq
    · simp at hq
      subst hq
      have : (Pl.partAt m i).failures ≤ 3 := by omega
      generalize (Pl.partAt m i).failures = k at this
      have : k = 0 ∨ k = 1 ∨ k = 2 ∨ k = 3 := by omega
      rcases this with rfl | rfl | rfl | rfl <;> simp
theorem Good.fail {m : Sc} {N : Nat} (h : Good m N) (id : Int) : (∀ i, findId m.asked id = some i → FailOk m (Pl.partAt m i)) ∧ Good (Pl.fail m id).1 N ∧ m.asked.length ≤ 1000 := by
  rcases h with ⟨why, h1, h2, rfl⟩ | h
  · refine ⟨fun i hi => by have := findId_lt hi; exact absurd this (by show ¬ i < 0; omega), .inl ⟨why, h1, h2, ?_⟩, by show 0 ≤ 1000; omega⟩
    rfl
  · refine ⟨fun i hi => (h.failed i (findId_lt hi)).1, ?_, by have := h.waits; omega⟩
    unfold Pl.fail
    cases hf : findId m.asked id with
    | none => exact .inr h
    | some i => exact (h.failed i (findId_lt hf)).2

/-! Ticks -/
theorem tick_fold (l : List (Nat × Part)) : ∀ (m : Sc) (s : List (Nat × Part)), ∃ al id, (l.foldl tickS (m, s)).1 = { m with asked := al, lastId := id } ∧ id ≤ m.lastId + l.length ∧ (m.asked.map (·.2) ++ s.map (·.2) ++ l.map (·.2)).Perm (al.map (·.2) ++ (l.foldl tickS (m, s)).2.map (·.2)) ∧ ((∀ q ∈ s, 1 ≤ q.1 ∧ q.1 ≤ 16) → (∀ q ∈ l, 1 ≤ q.1 ∧ q.1 ≤ 16) → ∀ q ∈ (l.foldl tickS (m, s)).2, 1 ≤ q.1 ∧ q.1 ≤ 16) := by
  induction l with
  | nil => intro m s; exact ⟨m.asked, m.lastId, rfl, by simp, by simp, fun h _ => h⟩
  | cons q l ih =>
    intro m s
    rw [List.foldl_cons]
    by_cases h : 1 < q.1
    · have e : tickS (m, s) q = (m, s ++ [(q.1 - 1, q.2)]) := by unfold tickS; rw [if_pos h]
      rw [e]
      obtain ⟨al, id, h1, h2, h3, h4⟩ := ih m (s ++ [(q.1 - 1, q.2)])
      refine ⟨al, id, h1, by simp only [List.length_cons]; omega, ?_, fun hs hl => h4 (fun y hy => ?_) (fun y hy => hl y (by simp [hy]))⟩
      · refine List.Perm.trans (.of_eq ?_) h3
        simp
      · rcases List.mem_append.1 hy with hy | hy
        · exact hs y hy
        · simp at hy
          subst hy
          have := hl q (by simp)
          simp only
          omega
    · have e : tickS (m, s) q = (Pl.ask m q.2, s) := by unfold tickS; rw [if_neg h]
      rw [e]
      obtain ⟨al, id, h1, h2, h3, h4⟩ := ih (Pl.ask m q.2) s
      refine ⟨al, id, h1, ?_, ?_, fun hs hl => h4 hs (fun y hy => hl y (by simp [hy]))⟩
      · have : id ≤ m.lastId + 1 + l.length := h2
        simp only [List.length_cons]; omega
      · refine List.Perm.trans ?_ h3
        show (m.asked.map (·.2) ++ s.map (·.2) ++ (q :: l).map (·.2)).Perm ((m.asked ++ [(m.lastId + 1, q.2)]).map (·.2) ++ s.map (·.2) ++ l.map (·.2))
        simp only [List.map_cons, List.map_append, List.map_nil, List.append_assoc]
        refine List.Perm.append_left _ ?_
        rw [← List.singleton_append, ← List.append_assoc]
        exact (List.perm_append_comm.append_right _).trans (.of_eq (by simp))
theorem Good.tick {m : Sc} {N : Nat} (h : Good m N) (hN : N ≤ 100000000000) : TickOk m ∧ Good (Pl.tick m) (N + 4) := by
  rcases h with ⟨why, h1, h2, rfl⟩ | h
  · exact ⟨⟨by show 0 + 0 ≤ _; omega, by show 0 + 0 ≤ _; omega, (fun q hq => by cases hq), (fun q hq => by cases hq)⟩, .inl ⟨why, h1, h2, rfl⟩⟩
  · have hw := h.waits
    have hl := h.core.lastId
    refine ⟨⟨by omega, by omega, fun q hq => by have := h.ticks q hq; omega, fun q hq => ?_⟩, ?_⟩
    · have := h.core.parts q.2 (by unfold partsOf; exact List.mem_append.2 (.inr (List.mem_map.2 ⟨q, hq, rfl⟩)))
      have h1 := this.ends
      have h2 := this.data
      omega
    · obtain ⟨al, id, e1, e2, e3, e4⟩ := tick_fold m.waiting m []
      unfold Pl.tick
      simp only
      rw [e1]
      have hp : (partsOf m).Perm (partsOf { m with asked := al, lastId := id, waiting := (m.waiting.foldl tickS (m, [])).2 }) := by
        unfold partsOf
        refine List.Perm.trans (.of_eq ?_) e3
        simp
      have h4 := h.core.perm hp
      exact .inr ⟨⟨h4.state, h4.size, h4.want, h4.gap, h4.win, h4.tries1, h4.tries, h4.nrows, h4.parts, h4.ahead, h4.aheads, h4.opened, h4.openw, h4.first, h4.rows, by show id ≤ N + 4; omega⟩, e4 (fun q hq => by cases hq) h.ticks⟩
end Go.Proofs.YthicgffppmbamaaGreat

namespace Go.Proofs.YthicgffppmbamaaGreat
open Pl

theorem joinS_flat (gap : Nat) (L : List Piece) (x : WPage) : (joinS gap L x).flatMap (·.pages) = L.flatMap (·.pages) ++ [x] := by
  unfold joinS
  cases hl : L.getLast? with
  | none =>
    have : L = [] := List.getLast?_eq_none_iff.1 hl
    subst this
    simp
  | some p =>
    obtain ⟨L', rfl⟩ : ∃ L', L = L' ++ [p] := by
      obtain ⟨ys, e⟩ := List.getLast?_eq_some_iff.1 hl
      exact ⟨ys, e⟩
    simp only
    split
    · simp
    · simp
theorem joinW_flat (gap : Nat) (l : List WPage) : (joinW gap l).flatMap (·.pages) = l := by
  have : ∀ (l : List WPage) (L : List Piece), (l.foldl (joinS gap) L).flatMap (·.pages) = L.flatMap (·.pages) ++ l := by
    intro l
    induction l with
    | nil => intro L; simp
    | cons x l ih => intro L; rw [List.foldl_cons, ih, joinS_flat]; simp
  unfold joinW
  rw [this]
  simp
theorem insW_perm (l : List WPage) (x : WPage) : (insW l x).Perm (x :: l) := by
  unfold insW
  have h := List.takeWhile_append_dropWhile (p := fun y : WPage => decide (x.page.place < y.page.place)) (l := l.reverse)
  have h2 := congrArg List.reverse h
  rw [List.reverse_append, List.reverse_reverse] at h2
  rw [List.append_assoc, List.singleton_append]
  refine List.perm_middle.trans ?_
  rw [h2]
theorem sortW_perm (l : List WPage) : (sortW l).Perm l := by
  have : ∀ (l A : List WPage), (l.foldl insW A).Perm (A ++ l) := by
    intro l
    induction l with
    | nil => intro A; simp
    | cons x l ih =>
      intro A
      rw [List.foldl_cons]
      refine (ih _).trans ?_
      refine ((insW_perm A x).append_right l).trans ?_
      exact List.perm_middle.symm
  have := this l []
  simpa [sortW] using this
/-- all the wanted pages, group by group -/
def allRaw (cols : List Nat) (gs : List FGroup) : Nat → List WPage
  | 0 => []
  | k + 1 => allRaw cols gs k ++ wantedRaw k (gs.getD k default) cols
theorem piecesTo_perm (gap : Nat) (cols : List Nat) (gs : List FGroup) : ∀ k, ((piecesTo gap cols gs k).flatMap (·.pages)).Perm (allRaw cols gs k)
  | 0 => by simp [piecesTo, allRaw]
  | k + 1 => by
    unfold piecesTo allRaw
    rw [List.flatMap_append]
    refine (piecesTo_perm gap cols gs k).append ?_
    unfold piecesG
    rw [joinW_flat]
    exact sortW_perm _
theorem piecesTo_few (gap : Nat) (cols : List Nat) (gs : List FGroup) : ∀ k, (piecesTo gap cols gs k).length ≤ k * cols.length ∧ ∀ p ∈ piecesTo gap cols gs k, p.pages.length ≤ cols.length
  | 0 => by simp [piecesTo]
  | k + 1 => by
    obtain ⟨h1, h2⟩ := piecesTo_few gap cols gs k
    unfold piecesTo
    have h3 : (piecesG gap cols k (gs.getD k default)).length ≤ cols.length := by
      have := joinW_len gap (sortW (wantedRaw k (gs.getD k default) cols))
      rw [sortW_len, wantedRaw_len] at this
      exact this
    refine ⟨by rw [List.length_append, Nat.add_mul]; omega, fun p hp => ?_⟩
    rcases List.mem_append.1 hp with hp | hp
    · exact h2 p hp
    · have hf : (piecesG gap cols k (gs.getD k default)).flatMap (·.pages) = sortW (wantedRaw k (gs.getD k default) cols) := joinW_flat _ _
      have hs : (p.pages).length ≤ ((piecesG gap cols k (gs.getD k default)).flatMap (·.pages)).length := by
        obtain ⟨A, B, e⟩ := List.append_of_mem hp
        rw [e]
        simp
        omega
      rw [hf, sortW_len, wantedRaw_len] at hs
      exact hs
theorem allRaw_mem (cols : List Nat) (gs : List FGroup) : ∀ k x, x ∈ allRaw cols gs k → x.group < k ∧ x.column < cols.length ∧ x.rows = (gs.getD x.group default).rows
  | 0, x, h => by simp [allRaw] at h
  | k + 1, x, h => by
    unfold allRaw at h
    rcases List.mem_append.1 h with h | h
    · have := allRaw_mem cols gs k x h
      exact ⟨by omega, this.2⟩
    · unfold wantedRaw at h
      obtain ⟨i, hi, rfl⟩ := List.mem_map.1 h
      exact ⟨Nat.lt_succ_self k, List.mem_range.1 hi, rfl⟩
theorem pendOf_append (A B : List WPage) (g : Nat) : pendOf (A ++ B) g = pendOf A g ++ pendOf B g := List.filter_append ..
theorem pendOf_out {A : List WPage} {g : Nat} (h : ∀ x ∈ A, x.group ≠ g) : pendOf A g = [] := List.filter_eq_nil_iff.2 (fun x hx => by simpa using h x hx)
theorem pendOf_raw (k : Nat) (gr : FGroup) (cols : List Nat) : (pendOf (wantedRaw k gr cols) k).length = cols.length := by
  have : pendOf (wantedRaw k gr cols) k = wantedRaw k gr cols := List.filter_eq_self.2 (fun x hx => by
    unfold wantedRaw at hx
    obtain ⟨i, hi, rfl⟩ := List.mem_map.1 hx
    simp)
  rw [this, wantedRaw_len]
theorem allRaw_count (cols : List Nat) (gs : List FGroup) : ∀ k i, i < k → (pendOf (allRaw cols gs k) i).length = cols.length ∧ ∀ c, c < cols.length → ∃ x ∈ allRaw cols gs k, x.group = i ∧ x.column = c
  | 0, i, h => by omega
  | k + 1, i, h => by
    unfold allRaw
    rw [pendOf_append, List.length_append]
    by_cases e : i = k
    · subst e
      rw [pendOf_out (fun x hx => by have := (allRaw_mem cols gs i x hx).1; omega), pendOf_raw]
      refine ⟨by simp, fun c hc => ⟨_, List.mem_append.2 (.inr (List.mem_map.2 ⟨c, List.mem_range.2 hc, rfl⟩)), rfl, rfl⟩⟩
    · obtain ⟨h1, h2⟩ := allRaw_count cols gs k i (by omega)
      rw [h1, pendOf_out (A := wantedRaw k (gs.getD k default) cols) (fun x hx => by unfold wantedRaw at hx; obtain ⟨j, hj, rfl⟩ := List.mem_map.1 hx; exact fun e' => e e'.symm)]
      refine ⟨by simp, fun c hc => ?_⟩
      obtain ⟨x, hx, hxe⟩ := h2 c hc
      exact ⟨x, List.mem_append.2 (.inl hx), hxe⟩
theorem allRaw_len (cols : List Nat) (gs : List FGroup) : ∀ k, (allRaw cols gs k).length = k * cols.length
  | 0 => by simp [allRaw]
  | k + 1 => by unfold allRaw; rw [List.length_append, allRaw_len cols gs k, wantedRaw_len, Nat.add_mul]; simp
/-- the rows of a table of which nothing has come -/
theorem rwNew_ok (nn foot : Nat) (cols : List Nat) (gs : List FGroup) (hg : ∀ g ∈ gs, GroupOk nn foot g) (h6 : gs.length ≤ 6) (h4 : cols.length ≤ 4) : RwG (rwNew cols.length (gs.map (·.rows))) (allRaw cols gs gs.length) := by
  refine ⟨by show 0 + _ ≤ 6; simpa [rwNew] using h6, h4, fun i G hG => ?_, fun x hx => ?_, fun x hx => ?_, ?_, .inl rfl, ?_⟩
  · have hG : ((gs.map (·.rows)).map fun n => (⟨n, List.replicate cols.length [], cols.length⟩ : RGroup))[i]? = some G := hG
    rw [List.getElem?_map, List.getElem?_map] at hG
    cases hi : gs[i]? with
    | none => rw [hi] at hG; cases hG
    | some g =>
      rw [hi] at hG
      simp at hG
      subst hG
      have hgo := hg g (List.mem_of_getElem? hi)
      have hlt : i < gs.length := (List.getElem?_eq_some_iff.1 hi).1
      obtain ⟨h1, h2⟩ := allRaw_count cols gs gs.length i hlt
      refine ⟨hgo.rows1, hgo.rows20, by simp [rwNew], by rw [show (rwNew cols.length (gs.map (·.rows))).gone + i = i from Nat.zero_add i]; exact h1.symm, fun c l hl => .inr ?_⟩
      have hc : c < cols.length := by have := (List.getElem?_eq_some_iff.1 hl).1; simpa using this
      obtain ⟨x, hx, e1, e2⟩ := h2 c hc
      exact ⟨x, hx, by rw [show (rwNew cols.length (gs.map (·.rows))).gone + i = i from Nat.zero_add i]; exact e1, e2⟩
  · obtain ⟨h1, h2, h3⟩ := allRaw_mem cols gs _ x hx
    exact ⟨Nat.zero_le _, by show x.group < 0 + _; simpa [rwNew] using h1, h2⟩
  · obtain ⟨h1, h2, h3⟩ := allRaw_mem cols gs _ x hx
    show (((gs.map (·.rows)).map fun n => (⟨n, List.replicate cols.length [], cols.length⟩ : RGroup))[x.group - 0]?).map (·.rows) = some x.rows
    rw [Nat.sub_zero, List.getElem?_map, List.getElem?_map, List.getElem?_eq_getElem h1, h3]
    simp [List.getD, List.getElem?_eq_getElem h1]
  · rw [allRaw_len]
    have : gs.length * cols.length ≤ 6 * 4 := Nat.mul_le_mul h6 h4
    omega
  · show (gs.map (·.rows)).sum + 0 = _
    simp [rwNew, Function.comp_def]
end Go.Proofs.YthicgffppmbamaaGreat

namespace Go.Proofs.YthicgffppmbamaaGreat
open Pl

theorem Going.of_core {m : Sc} {N : Nat} (h : Core m (partsOf m) N) (ht : ∀ q ∈ m.waiting, 1 ≤ q.1 ∧ q.1 ≤ 16) : Going m N := ⟨h, ht⟩
/-- a part is asked for again -/
theorem Core.asked {m : Sc} {x : Part} {N : Nat} (h : Core m (x :: partsOf m) N) : Core (Pl.ask m x) (partsOf (Pl.ask m x)) (N + 1) := by
  have hp : (x :: partsOf m).Perm (partsOf (Pl.ask m x)) := (List.perm_append_comm (l₁ := [x])).trans (partsOf_ask m x)
  have h4 := h.perm hp
  exact ⟨h4.state, h4.size, h4.want, h4.gap, h4.win, h4.tries1, h4.tries, h4.nrows, h4.parts, h4.ahead, h4.aheads, h4.opened, h4.openw, h4.first, h4.rows, Nat.succ_le_succ h4.lastId⟩
/-- the first parts of a file come alone -/
theorem Core.alone {m : Sc} {x : Part} {L : List Part} {N : Nat} (h : Core m (x :: L) N) (hx : isPiece x.aim = false) : L = [] ∧ m.ahead = [] ∧ m.opened = 0 := by
  obtain ⟨h1, h2⟩ := h.first ⟨x, by simp, hx⟩
  have h3 : L = [] := List.eq_nil_of_length_eq_zero (by simpa using h1)
  refine ⟨h3, h2, ?_⟩
  rw [h.opened, h3, List.filter_cons, if_neg (by simp [hx])]
  rfl
theorem pcOk_of (gap foot nn : Nat) (cols : List Nat) (gs : List FGroup) (hg : ∀ g ∈ gs, GroupOk nn foot g) (hc : ∀ c ∈ cols, c < nn) (h6 : gs.length ≤ 6) (h4 : cols.length ≤ 4) (hf : foot ≤ 4000) : ∀ p ∈ piecesOf gap cols gs, PcOk p := fun p hp => by
  obtain ⟨h1, h2⟩ := piecesOf_ok gap foot cols nn gs hg hc gs.length (Nat.le_refl _) p hp
  have h3 := (piecesTo_few gap cols gs gs.length).2 p hp
  refine ⟨h1.len, by have := h1.ends; omega, fun y hy => ?_, by omega⟩
  have hw := h2 y hy
  have hin := h1.within y hy
  have hge := hw.group
  have hr := hw.rows
  rw [List.getElem?_eq_getElem hge] at hr
  have hr' : (gs[y.group]).rows = y.rows := by simpa using hr
  have hgo := hg _ (List.getElem_mem hge)
  have e1 := hw.ends
  have e2 := hw.column
  refine ⟨hin.1, hw.length, hin.2, by omega, by rw [← hr']; exact hgo.rows1, by rw [← hr']; exact hgo.rows20, hw.sum, by omega, by omega⟩

/-- a part has come whole -/
theorem Core.whole {m : Sc} {x : Part} {N : Nat} {data : List UInt8} (h : Core m (x :: partsOf m) N) (ht : ∀ q ∈ m.waiting, 1 ≤ q.1 ∧ q.1 ≤ 16) (hd : data.length = x.length) : WholeOk m x.aim data ∧ Good (wholeCame m x.aim data) (N + 24) := by
  have hx := h.parts x (by simp)
  have hsz := h.size
  cases ha : x.aim with
  | tail =>
    refine ⟨trivial, ?_⟩
    obtain ⟨hL, hah, hop⟩ := h.alone (by rw [ha]; rfl)
    show Good (tailCame m data) (N + 24)
    unfold tailCame
    cases hr : readTail data m.size with
    | none => exact .inl ⟨2, by decide, by decide, rfl⟩
    | some n =>
      simp only
      unfold readTail at hr
      split at hr
      · rename_i hc
        simp only [Option.some.injEq] at hr
        obtain ⟨-, -, c1, c2⟩ := hc
        rw [hr] at c1 c2
        have h1 : Core m (⟨m.size - 6 - n, n, [], 0, .footer⟩ :: partsOf m) N := by
          have h0 := h
          rw [hL] at h0 ⊢
          refine { h0 with parts := fun y hy => ?_, opened := ?_, first := fun _ => ⟨rfl, hah⟩, rows := ?_ }
          · simp at hy
            subst hy
            exact ⟨by simp only; omega, c1, h.tries1, fun _ => by simp only; omega, fun p e => by cases e⟩
          · rw [hop]; rfl
          · have := h0.rows
            unfold pend at this ⊢
            simp [aimPages, ha] at this ⊢
            exact this
        exact (Good.mono (.inr ⟨h1.asked, ht⟩) (by omega))
      · cases hr
  | footer =>
    have hfl := hx.footer ha
    refine ⟨by show data.length + 10 ≤ m.size; omega, ?_⟩
    obtain ⟨hL, hah, hop⟩ := h.alone (by rw [ha]; rfl)
    show Good (footerCame m data) (N + 24)
    unfold footerCame
    cases hr : readFooter data (m.size - 6 - data.length) with
    | none => exact .inl ⟨2, by decide, by decide, rfl⟩
    | some f =>
      simp only
      have hfo := readFooter_ok data _ (by omega) f hr
      cases hc : columns f.names m.want with
      | none => exact .inl ⟨3, by decide, by decide, rfl⟩
      | some cols =>
        simp only
        obtain ⟨c1, c2, c3, c4⟩ := columns_ok _ _ _ hc
        have hwant := h.want
        split
        · exact .inl ⟨1, by decide, by decide, rfl⟩
        · refine .inr (Going.askAhead ⟨?_, ht⟩)
          have hpc := pcOk_of m.gap (m.size - 6 - data.length) f.names.length cols f.groups hfo.groups c3 hfo.count (by omega) (by omega)
          have hpn : partsOf { m with rows := rwNew cols.length (f.groups.map (·.rows)), ahead := piecesOf m.gap cols f.groups } = [] := hL
          rw [hpn]
          have hlen := (piecesTo_few m.gap cols f.groups f.groups.length).1
          have h24 : f.groups.length * cols.length ≤ 6 * 4 := Nat.mul_le_mul hfo.count (by omega)
          refine ⟨h.state, h.size, h.want, h.gap, h.win, h.tries1, h.tries, h.nrows, (fun y hy => by cases hy), hpc, by show (piecesTo _ _ _ _).length ≤ 24; omega, hop, h.openw, (fun ⟨y, hy, _⟩ => by cases hy), ?_, h.lastId⟩
          refine (rwNew_ok f.names.length _ cols f.groups hfo.groups hfo.count (by omega)).perm ?_
          exact (piecesTo_perm m.gap cols f.groups f.groups.length).symm
  | piece p =>
    obtain ⟨hpl, hpc⟩ := hx.piece p ha
    have hrw := h.rows
    unfold pend at hrw
    rw [List.flatMap_cons, ha, List.append_assoc] at hrw
    obtain ⟨hp1, hp2⟩ := RwG.puts (p := p) (data := data) p.pages m.rows _ hrw
    have hop := h.opened
    rw [List.filter_cons, if_pos (by rw [ha]; rfl), List.length_cons] at hop
    have hfew := h.rows.few
    refine ⟨⟨fun y hy => by rw [hd, hpl]; exact hpc.pages y hy, by have := hpc.few; omega, hp1, by omega, by omega⟩, ?_⟩
    show Good (pieceCame m p data) (N + 24)
    unfold pieceCame
    cases hr : putsF p data p.pages m.rows with
    | none => exact .inl ⟨2, by decide, by decide, rfl⟩
    | some r' =>
      simp only
      refine .inr (Going.askAhead ⟨?_, ht⟩)
      have how := h.openw
      refine ⟨h.state, h.size, h.want, h.gap, h.win, h.tries1, h.tries, h.nrows, fun y hy => h.parts y (List.mem_cons_of_mem _ hy), h.ahead, h.aheads, by show m.opened - 1 = _; rw [hop]; rfl, by show m.opened - 1 ≤ m.win; omega, fun ⟨y, hy, e⟩ => ?_, (hp2 r' hr).1, h.lastId⟩
      have hy' : y ∈ partsOf m := hy
      have := (h.first ⟨y, List.mem_cons_of_mem _ hy', e⟩).1
      simp at this
      rw [this] at hy'
      cases hy'

theorem Going.bnd {m : Sc} {N : Nat} (h : Going m N) (hN : N ≤ 10000000000) : Bnd m := by
  have hw := h.waits
  have c := h.core
  have h1 := c.size
  have h2 := c.lastId
  have h3 := c.want
  have h4 := c.gap
  have h5 := c.win
  have h6 := c.openw
  have h7 := c.aheads
  exact ⟨h1, by omega, by omega, h3, by omega, by omega, by omega, by omega, fun p hp => by have := (c.ahead p hp).ends; omega⟩
theorem Good.answer {m : Sc} {N : Nat} (h : Good m N) (hN : N ≤ 10000000000) (id : Int) (l : List UInt8) :
    (∀ i, findId m.asked id = some i → FailOk m (Pl.partAt m i) ∧ (l.length ≤ (Pl.partAt m i).length - (Pl.partAt m i).data.length → l.length ≠ 0 → AnsOk m (Pl.partAt m i) l) ∧ (Pl.partAt m i).length ≤ 1000000) ∧ Good (Pl.answer m id l).1 (N + 24) ∧ m.asked.length ≤ 1000 := by
  have hf := h.fail id
  rcases h with ⟨why, h1, h2, rfl⟩ | h
  · refine ⟨fun i hi => by have := findId_lt hi; exact absurd this (by show ¬ i < 0; omega), .inl ⟨why, h1, h2, ?_⟩, by show 0 ≤ 1000; omega⟩
    rfl
  · have key : ∀ i, findId m.asked id = some i → l.length ≤ (Pl.partAt m i).length - (Pl.partAt m i).data.length → l.length ≠ 0 → AnsOk m (Pl.partAt m i) l ∧ Good (Pl.partCame (takeAt m i) (Pl.partAt m i) l) (N + 24) := fun i hi hle hne => by
      obtain ⟨h1, h2⟩ := h.taken i (findId_lt hi)
      have hends := h2.ends
      have hdat := h2.data
      have hwh : (Pl.partAt m i).data.length + l.length = (Pl.partAt m i).length → WholeOk (takeAt m i) (Pl.partAt m i).aim ((Pl.partAt m i).data ++ l) ∧ Good (wholeCame (takeAt m i) (Pl.partAt m i).aim ((Pl.partAt m i).data ++ l)) (N + 24) := fun e => h1.whole h.ticks (by rw [List.length_append]; exact e)
      refine ⟨⟨h.bnd hN, by omega, by omega, fun e => ?_⟩, ?_⟩
      · have := (hwh e).1
        generalize (Pl.partAt m i).aim = a at this ⊢
        cases a <;> exact this
      · unfold Pl.partCame
        by_cases hl : (Pl.partAt m i).data.length + l.length < (Pl.partAt m i).length
        · rw [if_pos hl]
          have h3 := h1.swap (x' := { Pl.partAt m i with data := (Pl.partAt m i).data ++ l }) rfl ⟨h2.ends, by show ((Pl.partAt m i).data ++ l).length < _; rw [List.length_append]; exact hl, h2.fails, h2.footer, h2.piece⟩
          exact Good.mono (.inr ⟨h3.asked, h.ticks⟩) (by omega)
        · rw [if_neg hl]
          exact (hwh (by omega)).2
    refine ⟨fun i hi => ⟨hf.1 i hi, fun a b => (key i hi a b).1, ?_⟩, ?_, hf.2.2⟩
    · have := (h.taken i (findId_lt hi)).2.ends
      omega
    · unfold Pl.answer
      cases hi : findId m.asked id with
      | none => exact Good.mono (.inr h) (by omega)
      | some i =>
        simp only
        by_cases h1 : (Pl.partAt m i).length - (Pl.partAt m i).data.length < l.length
        · rw [if_pos h1]
          exact Good.mono (.inr h) (by omega)
        · rw [if_neg h1]
          by_cases h2 : l.length = 0
          · rw [if_pos h2]
            exact hf.2.1.mono (by omega)
          · rw [if_neg h2]
            exact (key i hi (by omega) h2).2

/-! Opening -/
theorem keepNames_few (want : List (List UInt8)) : (keepNames want).length ≤ 4 := by
  unfold keepNames
  split
  · rename_i h
    exact ((okNames_iff want).1 h).2.1
  · simp
theorem Good.open (size : Nat) (want : List (List UInt8)) (w t r g : Nat) (hs : size ≤ 4000) (hw : w ≤ 4) (ht1 : 1 ≤ t) (ht : t ≤ 4) (hr : r ≤ 20) (hg : g ≤ 32) : Good (openSc size want w t r g) 1 := by
  unfold openSc
  by_cases h : size < 10
  · rw [if_pos h]
    exact .inl ⟨2, by decide, by decide, rfl⟩
  · rw [if_neg h]
    have h0 : Core { size := size, want := keepNames want, win := w, tries := t, nrows := r, gap := g } (⟨size - 6, 6, [], 0, .tail⟩ :: partsOf { size := size, want := keepNames want, win := w, tries := t, nrows := r, gap := g }) 0 := by
      refine ⟨rfl, hs, keepNames_few want, hg, hw, ht1, ht, hr, fun y hy => ?_, (fun p hp => by cases hp), Nat.zero_le 24, rfl, Nat.zero_le _, fun _ => ⟨rfl, rfl⟩, rwG_none, Nat.zero_le _⟩
      have hy : y ∈ [(⟨size - 6, 6, [], 0, .tail⟩ : Part)] := hy
      simp at hy
      subst hy
      exact ⟨by simp only; omega, (by show 0 < 6; omega), ht1, (fun e => by cases e), fun p e => by cases e⟩
    exact .inr ⟨h0.asked, fun q hq => by cases hq⟩
end Go.Proofs.YthicgffppmbamaaGreat

namespace Go.Proofs.YthicgffppmbamaaGreat
open Go.RowKit

/-- a scan in its box, and what holds of it -/
def XG (col : Colr) (w : World) (X P : Nat) (m : Pl.Sc) (N : Nat) : Prop := IsX col w X m P ∧ Good m N
theorem gAnswer_any (col : Colr) (w : World) (X P : Nat) (m : Pl.Sc) (N : Nat) (h : XG col w X P m N) (hN : N ≤ 10000000000) (id : Int) (l : List UInt8) (hl : l.length ≤ 1000000) :
    Calls Tryz.prog 26 #[PtrTo X 0, .int .i64 id, tx l] w fun e w' => e = .returned (.int .i64 (Pl.answer m id l).2) ∧ ∃ col', XG col' w' X P (Pl.answer m id l).1 (N + 24) ∧ Went col w w' col' := by
  obtain ⟨h1, h2, h3⟩ := h.2.answer hN id l
  refine (xAnswer_any col w X P m h.1 id l hl h3 h1).mono ?_
  rintro e w' ⟨he, col', hx, hw⟩
  exact ⟨he, col', ⟨hx, h2⟩, hw⟩
theorem gFail_any (col : Colr) (w : World) (X P : Nat) (m : Pl.Sc) (N : Nat) (h : XG col w X P m N) (id : Int) :
    Calls Tryz.prog 27 #[PtrTo X 0, .int .i64 id] w fun e w' => e = .returned (.int .i64 (Pl.fail m id).2) ∧ ∃ col', XG col' w' X P (Pl.fail m id).1 N ∧ Went col w w' col' := by
  obtain ⟨h1, h2, h3⟩ := h.2.fail id
  refine (xFail_any col w X P m h.1 id h3 h1).mono ?_
  rintro e w' ⟨he, col', hx, hw⟩
  exact ⟨he, col', ⟨hx, h2⟩, hw⟩
theorem gTick_any (col : Colr) (w : World) (X P : Nat) (m : Pl.Sc) (N : Nat) (h : XG col w X P m N) (hN : N ≤ 10000000000) :
    Calls Tryz.prog 28 #[PtrTo X 0] w fun e w' => e = .returned (.tuple #[]) ∧ ∃ col', XG col' w' X P (Pl.tick m) (N + 4) ∧ Went col w w' col' := by
  obtain ⟨h1, h2⟩ := h.2.tick (by omega)
  refine (xTick_any col w X P m h.1 h1).mono ?_
  rintro e w' ⟨he, col', hx, hw⟩
  exact ⟨he, col', ⟨hx, h2⟩, hw⟩
theorem gCancel_any (col : Colr) (w : World) (X P : Nat) (m : Pl.Sc) (N : Nat) (h : XG col w X P m N) :
    Calls Tryz.prog 25 #[PtrTo X 0] w fun e w' => e = .returned (.tuple #[]) ∧ ∃ col', XG col' w' X P (Pl.cancel m) N ∧ Went col w w' col' := by
  obtain ⟨h1, h2⟩ := h.2.cancel
  refine (xCancel_any col w X P m h.1 h2).mono ?_
  rintro e w' ⟨he, col', hx, hw⟩
  exact ⟨he, col', ⟨hx, h1⟩, hw⟩
theorem gNext_any (col : Colr) (w : World) (X P : Nat) (m : Pl.Sc) (N : Nat) (h : XG col w X P m N) :
    Calls Tryz.prog 29 #[PtrTo X 0] w fun e w' => ((Pl.next m).2 = none ∧ e = .returned (.slice none 0 0) ∨ ∃ ls Lb vs, (Pl.next m).2 = some ls ∧ e = .returned (.slice (some ⟨Lb, 0, none⟩) ls.length ls.length) ∧ NxAt (fun g => w.heap.size ≤ g) w' Lb vs ls) ∧ ∃ col', XG col' w' X P (Pl.next m).1 N ∧ Went col w w' col' := by
  obtain ⟨⟨h1, h2⟩, h3⟩ := h.2.next
  refine (xNext_any col w X P m h.1 h1 h2).mono ?_
  rintro e w' ⟨he, col', hx, hw⟩
  exact ⟨he, col', ⟨hx, h3⟩, hw⟩
end Go.Proofs.YthicgffppmbamaaGreat

namespace Go.Proofs.YthicgffppmbamaaGreat.Pl

theorem rByte_cons (b : UInt8) (t : List UInt8) (bad : Bool) : rByte (b :: t, bad) = (b.toNat, (t, bad)) := rfl
theorem rVarF_vint (f : Nat) : ∀ (i a n : Nat) (t : List UInt8) (bad : Bool), n < 128 ^ f → 0 < f → (0 < n ∨ i = 0) → rVarF f i a (vint n ++ t, bad) = (a + n * 128 ^ i, true, (t, bad)) := by
  induction f with
  | zero => intro i a n t bad _ h; omega
  | succ f ih =>
    intro i a n t bad hn _ h0
    by_cases h : n < 128
    · rw [vint_lt n h]
      have hb : (UInt8.ofNat n).toNat = n := by rw [UInt8.toNat_ofNat', Nat.mod_eq_of_lt (by omega)]
      simp only [rVarF, List.singleton_append, rByte_cons, hb]
      rw [if_pos h, Nat.mod_eq_of_lt h, decide_eq_true h0]
    · rw [vint_ge n (by omega)]
      have hb : (UInt8.ofNat (n % 128 + 128)).toNat = n % 128 + 128 := by rw [UInt8.toNat_ofNat', Nat.mod_eq_of_lt (by omega)]
      simp only [rVarF, List.cons_append, rByte_cons, hb]
      rw [if_neg (by omega), show (n % 128 + 128) % 128 = n % 128 by omega]
      have hf : 0 < f := by
        rcases Nat.eq_zero_or_pos f with e | e
        · subst e; simp at hn; omega
        · exact e
      rw [ih (i + 1) _ (n / 128) t bad (by rw [Nat.pow_succ] at hn; omega) hf (.inl (by omega))]
      have e : a + n % 128 * 128 ^ i + n / 128 * 128 ^ (i + 1) = a + n * 128 ^ i := by
        have h1 : n = n % 128 + n / 128 * 128 := by omega
        have h2 : n * 128 ^ i = (n % 128 + n / 128 * 128) * 128 ^ i := by rw [← h1]
        rw [h2, Nat.add_mul, Nat.pow_succ, Nat.mul_comm (128 ^ i) 128, ← Nat.mul_assoc]
        omega
      rw [e]
theorem rVar_vint (n : Nat) (t : List UInt8) (bad : Bool) (hn : n < 9223372036854775808) : rVar (vint n ++ t, bad) = (n, true, (t, bad)) := by
  have e : (128 : Nat) ^ 9 = 9223372036854775808 := by decide +kernel
  have := rVarF_vint 9 0 0 n t bad (by rw [e]; exact hn) (by omega) (.inr rfl)
  simpa [rVar] using this
theorem rNum_vint (least most n : Nat) (t : List UInt8) (bad : Bool) (h1 : least ≤ n) (h2 : n ≤ most) (hn : n < 9223372036854775808) : rNum least most (vint n ++ t, bad) = (n, (t, bad)) := by
  unfold rNum
  rw [rVar_vint n t bad hn]
  rw [if_neg (by simp; omega)]
theorem rText_app (s t : List UInt8) (bad : Bool) : rText s.length (s ++ t, bad) = (s, (t, bad)) := by
  unfold rText
  rw [if_neg (by simp)]
  simp
theorem rSum_bytes4 (h : Nat) (hh : h < 4294967296) (t : List UInt8) (bad : Bool) : rSum (bytes4 h ++ t, bad) = (h, (t, bad)) := by
  have b : ∀ n, n < 256 → (UInt8.ofNat n).toNat = n := fun n hn => by rw [UInt8.toNat_ofNat', Nat.mod_eq_of_lt (by omega)]
  simp only [rSum, iter, rSumS, bytes4, List.cons_append, List.nil_append, rByte_cons, b _ (show h / 16777216 < 256 by omega), b _ (show h / 65536 % 256 < 256 by omega), b _ (show h / 256 % 256 < 256 by omega), b _ (show h % 256 < 256 by omega)]
  refine Prod.ext ?_ rfl
  show ((((0 * 256 % 4294967296 + h / 16777216) * 256 % 4294967296 + h / 65536 % 256) * 256 % 4294967296 + h / 256 % 256) * 256 % 4294967296 + h % 256) = h
  omega

/-- a plain page -/
theorem plain_read (l : List Int) : ∀ (out : List Int) (t : List UInt8) (bad : Bool), (∀ x ∈ l, 0 ≤ x ∧ x ≤ 1099511627775) → iter plainS l.length (out, (plain l ++ t, bad)) = (out ++ l, (t, bad)) := by
  have key : ∀ (l : List Int), (∀ x ∈ l, 0 ≤ x ∧ x ≤ 1099511627775) → ∀ (k : Nat), k ≤ l.length → ∀ (out : List Int) (t : List UInt8) (bad : Bool), iter plainS k (out, (plain l ++ t, bad)) = (out ++ l.take k, (plain (l.drop k) ++ t, bad)) := by
    intro l hx k
    induction k with
    | zero => intro _ out t bad; simp [iter]
    | succ k ih =>
      intro hk out t bad
      simp only [iter]
      rw [ih (by omega) out t bad]
      have hkl : k < l.length := by omega
      have hd : l.drop k = l[k] :: l.drop (k + 1) := List.drop_eq_getElem_cons hkl
      have hv := hx l[k] (List.getElem_mem hkl)
      simp only [plainS]
      rw [hd]
      have e : plain (l[k] :: l.drop (k + 1)) ++ t = vint l[k].toNat ++ (plain (l.drop (k + 1)) ++ t) := by
        unfold plain
        rw [List.flatMap_cons, List.append_assoc]
      rw [e, rNum_vint 0 1099511627775 l[k].toNat _ bad (by omega) (by omega) (by omega)]
      have e2 : ((l[k].toNat : Nat) : Int) = l[k] := Int.toNat_of_nonneg hv.1
      rw [e2, List.take_succ_eq_append_getElem hkl, List.append_assoc]
  intro out t bad hx
  rw [key l hx l.length (Nat.le_refl _) out t bad]
  simp [plain]

/-- runs -/
theorem runLen_replicate (x : Int) (l : List Int) : l.take (runLen x l) = List.replicate (runLen x l) x := by
  induction l with
  | nil => simp [runLen]
  | cons y r ih =>
    simp only [runLen]
    by_cases h : y = x
    · rw [if_pos h, List.take_succ_cons, List.replicate_succ, ih, h]
    · rw [if_neg h]; simp
theorem runs_read (f : Nat) : ∀ (l : List Int) (left : Nat) (out : List Int) (t : List UInt8) (bad : Bool), l.length ≤ f → left = l.length → l.length ≤ 20 → (∀ x ∈ l, 0 ≤ x ∧ x ≤ 1099511627775) → runsR f left (out, (runs l ++ t, bad)) = (out ++ l, (t, bad)) := by
  induction f with
  | zero =>
    intro l left out t bad hl he _ _
    obtain rfl : l = [] := List.eq_nil_of_length_eq_zero (by omega)
    simp [runsR, runs_nil]
  | succ f ih =>
    intro l left out t bad hl he h20 hx
    cases l with
    | nil => subst he; simp [runsR, runs_nil]
    | cons x r =>
      have hrl := runLen_le x r
      have hv := hx x (by simp)
      simp only [runsR]
      rw [if_neg (by rw [he]; simp)]
      rw [runs_cons, List.append_assoc, List.append_assoc]
      have hlen : (x :: r).length = r.length + 1 := by simp
      rw [rNum_vint 1 left (runLen x r + 1) _ bad (by omega) (by omega) (by omega)]
      simp only
      rw [rNum_vint 0 1099511627775 x.toNat _ bad (by omega) (by omega) (by omega)]
      simp only
      rw [ih (r.drop (runLen x r)) _ _ t bad (by simp at hl ⊢; omega) (by simp; omega) (by simp at h20 ⊢; omega) (fun y hy => hx y (by simp [List.mem_of_mem_drop hy]))]
      have e2 : ((x.toNat : Nat) : Int) = x := Int.toNat_of_nonneg hv.1
      have e3 : List.replicate (runLen x r + 1) x ++ r.drop (runLen x r) = x :: r := by
        rw [List.replicate_succ, List.cons_append, ← runLen_replicate, List.take_append_drop]
      rw [e2, List.append_assoc, e3]

/-- rising -/
theorem rising_read (l : List Int) : ∀ (a : Nat) (out : List Int) (t : List UInt8) (bad : Bool), rises a l = true → a ≤ 1099511627775 → (∀ x ∈ l, 0 ≤ x ∧ x ≤ 1099511627775) →
    ∃ a' : Nat, a' ≤ 1099511627775 ∧ iter risingS l.length (out, a, (rising a l ++ t, bad)) = (out ++ l, a', (t, bad)) := by
  have key : ∀ (l : List Int) (k : Nat), k ≤ l.length → ∀ (a : Nat), rises a l = true → a ≤ 1099511627775 → (∀ x ∈ l, 0 ≤ x ∧ x ≤ 1099511627775) → ∀ (out : List Int) (t : List UInt8) (bad : Bool),
      ∃ a' : Nat, a' ≤ 1099511627775 ∧ rises a' (l.drop k) = true ∧ iter risingS k (out, a, (rising a l ++ t, bad)) = (out ++ l.take k, a', (rising a' (l.drop k) ++ t, bad)) := by
    intro l k
    induction k with
    | zero => intro _ a hr ha _ out t bad; exact ⟨a, ha, by simpa using hr, by simp [iter]⟩
    | succ k ih =>
      intro hk a hr ha hx out t bad
      obtain ⟨a', ha', hr', e⟩ := ih (by omega) a hr ha hx out t bad
      have hkl : k < l.length := by omega
      have hd : l.drop k = l[k] :: l.drop (k + 1) := List.drop_eq_getElem_cons hkl
      have hv := hx l[k] (List.getElem_mem hkl)
      rw [hd] at hr' e
      simp only [rises, Bool.and_eq_true, decide_eq_true_eq] at hr'
      have e2 : ((l[k].toNat : Nat) : Int) = l[k] := Int.toNat_of_nonneg hv.1
      refine ⟨l[k].toNat, by omega, by rw [e2]; exact hr'.2, ?_⟩
      simp only [iter]
      rw [e]
      have e3 : rising (a' : Int) (l[k] :: l.drop (k + 1)) ++ t = vint (l[k] - a').toNat ++ (rising l[k] (l.drop (k + 1)) ++ t) := by simp [rising]
      simp only [risingS]
      rw [e3, rNum_vint 0 _ _ _ bad (by omega) (by omega) (by omega)]
      simp only
      have e4 : a' + (l[k] - (a' : Int)).toNat = l[k].toNat := by omega
      rw [e4, e2, List.take_succ_eq_append_getElem hkl, List.append_assoc]
  intro a out t bad hr ha hx
  obtain ⟨a', h1, _, h3⟩ := key l l.length (Nat.le_refl _) a hr ha hx out t bad
  refine ⟨a', h1, ?_⟩
  rw [h3]
  simp [rising]

theorem readPage_page (l : List Int) (hl : l.length ≤ 20) (hx : ∀ x ∈ l, 0 ≤ x ∧ x ≤ 1099511627775) : readPage (page l) l.length = some l := by
  have hp := plain_read l [] [] false hx
  have hr := runs_read l.length l l.length [] [] false (Nat.le_refl _) rfl hl hx
  simp only [List.append_nil, List.nil_append] at hp hr
  have h0 : readPage ((0 : UInt8) :: plain l) l.length = some l := by
    simp [readPage, rByte, hp, rRight]
  have h1 : readPage ((1 : UInt8) :: runs l) l.length = some l := by
    simp [readPage, rByte, hr, rRight]
  have h2 : rises 0 l = true → readPage ((2 : UInt8) :: rising 0 l) l.length = some l := by
    intro hri
    obtain ⟨a', _, e⟩ := rising_read l 0 [] [] false hri (by omega) hx
    simp only [List.append_nil, List.nil_append] at e
    have e' : iter risingS l.length ([], 0, (rising 0 l, false)) = (l, a', ([], false)) := by simpa using e
    simp [readPage, rByte, e', rRight]
  unfold page
  simp only
  by_cases hc : rises 0 l = true ∧ ((2 : UInt8) :: rising 0 l).length < (if ((1 : UInt8) :: runs l).length < ((0 : UInt8) :: plain l).length then (1 : UInt8) :: runs l else (0 : UInt8) :: plain l).length
  · rw [if_pos hc]; exact h2 hc.1
  · rw [if_neg hc]
    by_cases h : ((1 : UInt8) :: runs l).length < ((0 : UInt8) :: plain l).length
    · rw [if_pos h]; exact h1
    · rw [if_neg h]; exact h0

end Go.Proofs.YthicgffppmbamaaGreat.Pl

namespace Go.Proofs.YthicgffppmbamaaGreat.Pl

/-- a group's pages, from a place on: their bytes, what the footer says of them, as bytes and as read -/
def pagesB : List (List Int) → List UInt8
  | [] => []
  | x :: r => page x ++ pagesB r
def entriesB (pos : Nat) : List (List Int) → List UInt8
  | [] => []
  | x :: r => vint pos ++ (vint (page x).length ++ (sum4 (page x) ++ entriesB (pos + (page x).length) r))
def fpagesOf (pos : Nat) : List (List Int) → List FPage
  | [] => []
  | x :: r => ⟨pos, (page x).length, sumOf (page x)⟩ :: fpagesOf (pos + (page x).length) r
theorem addPs_eq (l : List (List Int)) : ∀ st : List UInt8 × List UInt8, addPs st l = (st.1 ++ pagesB l, st.2 ++ entriesB st.1.length l) := by
  induction l with
  | nil => intro st; simp [addPs, pagesB, entriesB]
  | cons x r ih =>
    intro st
    show addPs (addP st x) r = _
    rw [ih]
    simp only [addP, pagesB, entriesB, List.length_append, List.append_assoc]
def groupsB : List (List (List Int)) → List UInt8
  | [] => []
  | g :: r => pagesB g ++ groupsB r
def gentriesB (pos : Nat) : List (List (List Int)) → List UInt8
  | [] => []
  | g :: r => vint (g.getD 0 []).length ++ (entriesB pos g ++ gentriesB (pos + (pagesB g).length) r)
def fgroupsOf (pos : Nat) : List (List (List Int)) → List FGroup
  | [] => []
  | g :: r => ⟨(g.getD 0 []).length, fpagesOf pos g⟩ :: fgroupsOf (pos + (pagesB g).length) r
theorem addGs_eq (gs : List (List (List Int))) : ∀ st : List UInt8 × List UInt8, addGs st gs = (st.1 ++ groupsB gs, st.2 ++ gentriesB st.1.length gs) := by
  induction gs with
  | nil => intro st; simp [addGs, groupsB, gentriesB]
  | cons g r ih =>
    intro st
    show addGs (addG st g) r = _
    rw [ih]
    simp only [addG, addPs_eq, groupsB, gentriesB, List.length_append, List.append_assoc]

theorem page_pos (x : List Int) : 1 ≤ (page x).length := by
  unfold page
  simp only
  repeat' split
  all_goals simp only [List.length_cons]
  all_goals omega

theorem entries_read (foot : Nat) (hf : foot < 9223372036854775808) : ∀ (l : List (List Int)) (k : Nat) (pos : Nat) (out : List FPage) (t : List UInt8), k = l.length → 4 ≤ pos → pos + (pagesB l).length ≤ foot →
    iter (fpageS foot) k (out, (entriesB pos l ++ t, false)) = (out ++ fpagesOf pos l, (t, false)) := by
  -- the first page is taken first: the other way round than 'iter' goes
  have shift : ∀ (k : Nat) (s : List FPage × Rdr), iter (fpageS foot) (k + 1) s = iter (fpageS foot) k (fpageS foot s) := by
    intro k
    induction k with
    | zero => intro s; rfl
    | succ k ih => intro s; show fpageS foot (iter (fpageS foot) (k + 1) s) = _; rw [ih]; rfl
  intro l
  induction l with
  | nil => intro k pos out t hk _ _; subst hk; simp [iter, entriesB, fpagesOf]
  | cons x r ih =>
    intro k pos out t hk h4 hle
    subst hk
    have hx := page_pos x
    simp only [pagesB, List.length_append] at hle
    rw [List.length_cons, shift]
    have e : fpageS foot (out, (entriesB pos (x :: r) ++ t, false)) = (out ++ [⟨pos, (page x).length, sumOf (page x)⟩], (entriesB (pos + (page x).length) r ++ t, false)) := by
      simp only [fpageS, entriesB, List.append_assoc]
      rw [rNum_vint 4 (foot - 1) pos _ false h4 (by omega) (by omega)]
      simp only
      rw [rNum_vint 1 (foot - pos) (page x).length _ false hx (by omega) (by omega)]
      simp only [sum4]
      rw [rSum_bytes4 _ (sumOf_lt _)]
    rw [e, ih r.length (pos + (page x).length) _ t rfl (by omega) (by omega)]
    simp [fpagesOf]

theorem groups_read (foot cols : Nat) (hf : foot < 9223372036854775808) : ∀ (gs : List (List (List Int))) (k pos : Nat) (out : List FGroup) (t : List UInt8), k = gs.length → (∀ g ∈ gs, g.length = cols ∧ 1 ≤ (g.getD 0 []).length ∧ (g.getD 0 []).length ≤ 20) → 4 ≤ pos → pos + (groupsB gs).length ≤ foot →
    iter (fgroupS cols foot) k (out, (gentriesB pos gs ++ t, false)) = (out ++ fgroupsOf pos gs, (t, false)) := by
  have shift : ∀ (k : Nat) (s : List FGroup × Rdr), iter (fgroupS cols foot) (k + 1) s = iter (fgroupS cols foot) k (fgroupS cols foot s) := by
    intro k
    induction k with
    | zero => intro s; rfl
    | succ k ih => intro s; show fgroupS cols foot (iter (fgroupS cols foot) (k + 1) s) = _; rw [ih]; rfl
  intro gs
  induction gs with
  | nil => intro k pos out t hk _ _ _; subst hk; simp [iter, gentriesB, fgroupsOf]
  | cons g r ih =>
    intro k pos out t hk hg h4 hle
    subst hk
    obtain ⟨g1, g2, g3⟩ := hg g (by simp)
    simp only [groupsB, List.length_append] at hle
    rw [List.length_cons, shift]
    have e : fgroupS cols foot (out, (gentriesB pos (g :: r) ++ t, false)) = (out ++ [⟨(g.getD 0 []).length, fpagesOf pos g⟩], (gentriesB (pos + (pagesB g).length) r ++ t, false)) := by
      simp only [fgroupS, fgroup, gentriesB, List.append_assoc]
      rw [rNum_vint 1 20 _ _ false g2 g3 (by omega)]
      simp only
      rw [entries_read foot hf g cols pos [] _ g1.symm h4 (by omega)]
      simp
    rw [e, ih r.length (pos + (pagesB g).length) _ t rfl (fun g' hg' => hg g' (by simp [hg'])) (by omega) (by omega)]
    simp [fgroupsOf]

theorem names_read : ∀ (ss : List (List UInt8)) (k : Nat) (out : List (List UInt8)) (t : List UInt8), k = ss.length → (∀ s ∈ ss, 1 ≤ s.length ∧ s.length ≤ 8) → iter nameS k (out, (nameBytes ss ++ t, false)) = (out ++ ss, (t, false)) := by
  have shift : ∀ (k : Nat) (s : List (List UInt8) × Rdr), iter nameS (k + 1) s = iter nameS k (nameS s) := by
    intro k
    induction k with
    | zero => intro s; rfl
    | succ k ih => intro s; show nameS (iter nameS (k + 1) s) = _; rw [ih]; rfl
  intro ss
  induction ss with
  | nil => intro k out t hk _; subst hk; simp [iter, nameBytes]
  | cons s r ih =>
    intro k out t hk hs
    subst hk
    obtain ⟨s1, s2⟩ := hs s (by simp)
    rw [List.length_cons, shift]
    have e : nameS (out, (nameBytes (s :: r) ++ t, false)) = (out ++ [s], (nameBytes r ++ t, false)) := by
      have e0 : nameBytes (s :: r) ++ t = vint s.length ++ (s ++ (nameBytes r ++ t)) := by
        unfold nameBytes
        rw [List.flatMap_cons]
        simp only [List.append_assoc]
      simp only [nameS]
      rw [e0, rNum_vint 1 8 _ _ false s1 s2 (by omega)]
      simp only
      rw [rText_app]
    rw [e, ih r.length _ t rfl (fun x hx => hs x (by simp [hx]))]
    simp

/-- the footer that was written is read -/
theorem footer_read (names : List (List UInt8)) (gs : List (List (List Int))) (hok : okTable names gs = true) (hlen : (parts names gs).1.length < 9223372036854775808) :
    readFooter (parts names gs).2 (parts names gs).1.length = some ⟨names, fgroupsOf 4 gs⟩ := by
  unfold okTable at hok
  simp only [Bool.and_eq_true, decide_eq_true_eq, List.all_eq_true] at hok
  obtain ⟨⟨hn, hg6⟩, hgs⟩ := hok
  have hn' := (okNames_iff names).1 hn
  have hmk : mark.length = 4 := rfl
  have e1 : (parts names gs).1 = mark ++ groupsB gs := by unfold parts; rw [addGs_eq]
  have e2 : (parts names gs).2 = vint names.length ++ (nameBytes names ++ (vint gs.length ++ (gentriesB 4 gs ++ []))) := by
    unfold parts
    rw [addGs_eq]
    simp only [hmk, List.append_assoc, List.append_nil]
  have hnames : ∀ s ∈ names, 1 ≤ s.length ∧ s.length ≤ 8 := fun s hs => by
    have := hn'.2.2.1
    rw [List.take_length, List.all_eq_true] at this
    exact (okName_iff s).1 (this s hs)
  have hgr : ∀ g ∈ gs, g.length = names.length ∧ 1 ≤ (g.getD 0 []).length ∧ (g.getD 0 []).length ≤ 20 := fun g hg => by
    have := (okGroup_iff _ _).1 (hgs g hg)
    exact ⟨this.1, this.2.1, this.2.2.1⟩
  have f1 : footNames (parts names gs).2 = (names, (vint gs.length ++ (gentriesB 4 gs ++ []), false)) := by
    unfold footNames
    simp only
    rw [e2, rNum_vint 1 4 names.length _ false hn'.1 hn'.2.1 (by omega)]
    simp only
    rw [names_read names names.length [] _ rfl hnames]
    simp
  have f2 : footGroups (parts names gs).2 (parts names gs).1.length = (fgroupsOf 4 gs, ([], false)) := by
    unfold footGroups
    simp only
    rw [f1]
    simp only
    rw [rNum_vint 0 6 gs.length _ false (by omega) hg6 (by omega)]
    simp only
    rw [groups_read (parts names gs).1.length names.length hlen gs gs.length 4 [] [] rfl hgr (by omega) (by rw [e1, List.length_append, hmk]; omega)]
    simp
  unfold readFooter
  rw [f2, f1, if_pos ⟨by simp [rRight], hn⟩]

/-- the tail that was written is read -/
theorem tail_read (n size : Nat) (h1 : 1 ≤ n) (h2 : n + 10 ≤ size) (h3 : size ≤ 4000) : readTail ([UInt8.ofNat (n / 256), UInt8.ofNat (n % 256)] ++ mark) size = some n := by
  have b0 : (UInt8.ofNat (n / 256)).toNat = n / 256 := by rw [UInt8.toNat_ofNat', Nat.mod_eq_of_lt (by omega)]
  have b1 : (UInt8.ofNat (n % 256)).toNat = n % 256 := by rw [UInt8.toNat_ofNat', Nat.mod_eq_of_lt (by omega)]
  have e : (UInt8.ofNat (n / 256)).toNat * 256 + (UInt8.ofNat (n % 256)).toNat = n := by rw [b0, b1]; omega
  unfold readTail
  have g0 : ([UInt8.ofNat (n / 256), UInt8.ofNat (n % 256)] ++ mark).getD 0 0 = UInt8.ofNat (n / 256) := rfl
  have g1 : ([UInt8.ofNat (n / 256), UInt8.ofNat (n % 256)] ++ mark).getD 1 0 = UInt8.ofNat (n % 256) := rfl
  rw [g0, g1, e, if_pos ⟨rfl, rfl, h1, h2⟩]

end Go.Proofs.YthicgffppmbamaaGreat.Pl

namespace Go.Proofs.YthicgffppmbamaaGreat
open Pl

theorem pages_at : ∀ (l : List (List Int)) (A B : List UInt8) (c : Nat) (x : List Int), l[c]? = some x → ∃ fp, (fpagesOf A.length l)[c]? = some fp ∧ fp.length = (page x).length ∧ fp.sum = sumOf (page x) ∧ ((A ++ (pagesB l ++ B)).drop fp.place).take fp.length = page x
  | [], _, _, _, _, h => by simp at h
  | y :: r, A, B, 0, x, h => by
    simp at h
    subst h
    refine ⟨⟨A.length, (page y).length, sumOf (page y)⟩, rfl, rfl, rfl, ?_⟩
    simp only [pagesB]
    rw [List.drop_left, List.append_assoc, List.take_left]
  | y :: r, A, B, c + 1, x, h => by
    have h' : r[c]? = some x := by simpa using h
    obtain ⟨fp, h1, h2, h3, h4⟩ := pages_at r (A ++ page y) B c x h'
    refine ⟨fp, ?_, h2, h3, ?_⟩
    · show (fpagesOf (A.length + (page y).length) r)[c]? = some fp
      rw [← List.length_append]
      exact h1
    · rw [← h4]
      simp only [pagesB, List.append_assoc]
theorem groups_at : ∀ (gs : List (List (List Int))) (A B : List UInt8) (g c : Nat) (G : List (List Int)) (x : List Int), gs[g]? = some G → G[c]? = some x → ∃ fg fp, (fgroupsOf A.length gs)[g]? = some fg ∧ fg.rows = (G.getD 0 []).length ∧ fg.pages[c]? = some fp ∧ fp.length = (page x).length ∧ fp.sum = sumOf (page x) ∧ ((A ++ (groupsB gs ++ B)).drop fp.place).take fp.length = page x
  | [], _, _, _, _, _, _, h, _ => by simp at h
  | G0 :: r, A, B, 0, c, G, x, h, hc => by
    simp at h
    subst h
    obtain ⟨fp, h1, h2, h3, h4⟩ := pages_at G0 A (groupsB r ++ B) c x hc
    refine ⟨⟨(G0.getD 0 []).length, fpagesOf A.length G0⟩, fp, rfl, rfl, h1, h2, h3, ?_⟩
    rw [← h4]
    simp only [groupsB, List.append_assoc]
  | G0 :: r, A, B, g + 1, c, G, x, h, hc => by
    have h' : r[g]? = some G := by simpa using h
    obtain ⟨fg, fp, h1, h2, h3, h4, h5, h6⟩ := groups_at r (A ++ pagesB G0) B g c G x h' hc
    refine ⟨fg, fp, ?_, h2, h3, h4, h5, ?_⟩
    · show (fgroupsOf (A.length + (pagesB G0).length) r)[g]? = some fg
      rw [← List.length_append]
      exact h1
    · rw [← h6]
      simp only [groupsB, List.append_assoc]
/-- a file's bytes from a place on -/
def bytesAt (F : List UInt8) (place n : Nat) : List UInt8 := (F.drop place).take n
theorem bytesAt_in (F : List UInt8) (a n b k : Nat) (h1 : a ≤ b) (h2 : b + k ≤ a + n) : ((bytesAt F a n).drop (b - a)).take k = bytesAt F b k := by
  unfold bytesAt
  rw [List.drop_take, List.drop_drop, List.take_take, show a + (b - a) = b by omega, Nat.min_eq_left (by omega)]
theorem bytesAt_more (F : List UInt8) (a n k : Nat) : bytesAt F a n ++ bytesAt F (a + n) k = bytesAt F a (n + k) := by
  unfold bytesAt
  rw [← List.drop_drop, List.take_add]
theorem bytesAt_len (F : List UInt8) (a n : Nat) (h : a + n ≤ F.length) : (bytesAt F a n).length = n := by
  unfold bytesAt
  simp
  omega
/-- the file of a table -/
theorem whole_eq (names : List (List UInt8)) (gs : List (List (List Int))) : ∃ R, whole (parts names gs) = Pl.mark ++ (groupsB gs ++ R) ∧ (parts names gs).1 = Pl.mark ++ groupsB gs := by
  have e1 : (parts names gs).1 = Pl.mark ++ groupsB gs := by unfold parts; rw [addGs_eq]
  exact ⟨(parts names gs).2 ++ ([UInt8.ofNat ((parts names gs).2.length / 256), UInt8.ofNat ((parts names gs).2.length % 256)] ++ Pl.mark), by unfold whole; rw [e1]; simp only [List.append_assoc], e1⟩
theorem whole_foot (p : List UInt8 × List UInt8) : bytesAt (whole p) p.1.length p.2.length = p.2 := by
  unfold bytesAt whole
  rw [List.append_assoc, List.append_assoc, List.drop_left, List.take_left]
theorem whole_tail (p : List UInt8 × List UInt8) : bytesAt (whole p) ((whole p).length - 6) 6 = [UInt8.ofNat (p.2.length / 256), UInt8.ofNat (p.2.length % 256)] ++ Pl.mark := by
  have hl : (whole p).length - 6 = (p.1 ++ p.2).length := by unfold whole; have : Pl.mark.length = 4 := rfl; simp [this]; omega
  rw [hl]
  unfold bytesAt whole
  rw [List.append_assoc (p.1 ++ p.2), List.drop_left]
  rfl
/-- a wanted page of a file that was written is read -/
theorem readW_file (names : List (List UInt8)) (gs : List (List (List Int))) (g c : Nat) (G : List (List Int)) (x : List Int) (hg : gs[g]? = some G) (hx : G[c]? = some x) (hr : x.length = (G.getD 0 []).length) (h20 : x.length ≤ 20) (hv : ∀ v ∈ x, 0 ≤ v ∧ v ≤ 1099511627775) (p : Piece) (y : WPage) (n : Nat) (hy : y.page = ((fgroupsOf 4 gs).getD g default).pages.getD c default) (hyr : y.rows = ((fgroupsOf 4 gs).getD g default).rows) (h1 : p.place ≤ y.page.place) (h2 : y.page.place + y.page.length ≤ p.place + n) : readW p y (bytesAt (whole (parts names gs)) p.place n) = some x := by
  obtain ⟨R, hw, -⟩ := whole_eq names gs
  obtain ⟨fg, fp, a1, a2, a3, a4, a5, a6⟩ := groups_at gs Pl.mark R g c G x hg hx
  have hm : Pl.mark.length = 4 := rfl
  rw [hm] at a1
  have e1 : (fgroupsOf 4 gs).getD g default = fg := by rw [List.getD_eq_getElem?_getD, a1]; rfl
  rw [e1] at hy hyr
  have e2 : fg.pages.getD c default = fp := by rw [List.getD_eq_getElem?_getD, a3]; rfl
  rw [e2] at hy
  have hpo : pageOf p y (bytesAt (whole (parts names gs)) p.place n) = page x := by
    unfold pageOf
    rw [bytesAt_in _ _ _ _ _ h1 h2, hy]
    unfold bytesAt
    rw [hw]
    exact a6
  unfold readW
  rw [hpo, hy, if_pos a5.symm, hyr, a2, ← hr]
  exact readPage_page x h20 hv
end Go.Proofs.YthicgffppmbamaaGreat

namespace Go.Proofs.YthicgffppmbamaaGreat
open Pl

/-- the file of a table -/
abbrev Ft (names : List (List UInt8)) (gs : List (List (List Int))) : List UInt8 := whole (parts names gs)
/-- what has come is what was written; L: the parts under way -/
structure Rt (names : List (List UInt8)) (gs : List (List (List Int))) (cols : List Nat) (m : Sc) (L : List Part) : Prop where
  size : m.size = (Ft names gs).length
  want : columns names m.want = some cols
  data : ∀ x ∈ L, x.data = bytesAt (Ft names gs) x.place x.data.length
  tail : ∀ x ∈ L, x.aim = .tail → x.place = (Ft names gs).length - 6 ∧ x.length = 6
  footer : ∀ x ∈ L, x.aim = .footer → x.place = (parts names gs).1.length ∧ x.length = (parts names gs).2.length
  piece : ∀ x ∈ L, ∀ p, x.aim = .piece p → x.place = p.place ∧ x.length = p.length
  pages : ∀ y ∈ pend L m.ahead, y ∈ allRaw cols (fgroupsOf 4 gs) gs.length
  lists : ∀ i G (c : Nat) l, m.rows.groups[i]? = some G → G.lists[c]? = some l → (gs.getD (m.rows.gone + i) []).getD (cols.getD c 0) [] = l ∨ ∃ y ∈ pend L m.ahead, y.group = m.rows.gone + i ∧ y.column = c
  tab : (∀ x ∈ L, isPiece x.aim = true) → m.rows.columns = cols.length ∧ m.rows.gone + m.rows.groups.length = gs.length ∧ ∀ i G, m.rows.groups[i]? = some G → G.rows = ((gs.getD (m.rows.gone + i) []).getD 0 []).length
  new : (∃ x ∈ L, isPiece x.aim = false) → m.rows.left = 0 ∧ m.rows.gone = 0 ∧ m.rows.row = 0
section
variable {names : List (List UInt8)} {gs : List (List (List Int))} {cols : List Nat} {m : Sc} {L L' : List Part}
theorem Rt.perm (h : Rt names gs cols m L) (hp : L.Perm L') : Rt names gs cols m L' := by
  have hm : ∀ x, x ∈ L' → x ∈ L := fun x hx => hp.mem_iff.2 hx
  have hq := pend_perm hp m.ahead
  exact ⟨h.size, h.want, fun x hx => h.data x (hm x hx), fun x hx => h.tail x (hm x hx), fun x hx => h.footer x (hm x hx), fun x hx => h.piece x (hm x hx), fun y hy => h.pages y (hq.mem_iff.2 hy), fun i G c l a b => (h.lists i G c l a b).imp id (fun ⟨y, hy, e⟩ => ⟨y, hq.mem_iff.1 hy, e⟩), fun ha => h.tab (fun x hx => ha x (hp.mem_iff.1 hx)), fun ⟨x, hx, e⟩ => h.new ⟨x, hm x hx, e⟩⟩
/-- a part goes on, with more of the file or none -/
theorem Rt.swap {x x' : Part} (h : Rt names gs cols m (x :: L)) (ha : x'.aim = x.aim) (hp : x'.place = x.place) (hl : x'.length = x.length) (hd : x'.data = bytesAt (Ft names gs) x'.place x'.data.length) : Rt names gs cols m (x' :: L) := by
  have hpe : pend (x' :: L) m.ahead = pend (x :: L) m.ahead := by unfold pend; rw [List.flatMap_cons, List.flatMap_cons, ha]
  have hx : x ∈ x :: L := by simp
  have hin : ∀ y ∈ x' :: L, y = x' ∨ y ∈ x :: L := fun y hy => by
    rcases List.mem_cons.1 hy with e | hy
    · exact .inl e
    · exact .inr (List.mem_cons_of_mem _ hy)
  refine ⟨h.size, h.want, fun y hy => ?_, fun y hy e => ?_, fun y hy e => ?_, fun y hy p e => ?_, fun y hy => h.pages y (by rw [← hpe]; exact hy), fun i G c l a b => by rw [hpe]; exact h.lists i G c l a b, fun hall => h.tab (fun y hy => ?_), fun ⟨y, hy, e⟩ => ?_⟩
  · rcases hin y hy with rfl | hy
    · exact hd
    · exact h.data y hy
  · rcases hin y hy with rfl | hy
    · rw [hp, hl]; exact h.tail x hx (ha ▸ e)
    · exact h.tail y hy e
  · rcases hin y hy with rfl | hy
    · rw [hp, hl]; exact h.footer x hx (ha ▸ e)
    · exact h.footer y hy e
  · rcases hin y hy with rfl | hy
    · rw [hp, hl]; exact h.piece x hx p (ha ▸ e)
    · exact h.piece y hy p e
  · rcases List.mem_cons.1 hy with rfl | hy
    · rw [← ha]; exact hall x' (by simp)
    · exact hall y (List.mem_cons_of_mem _ hy)
  · rcases List.mem_cons.1 hy with rfl | hy
    · exact h.new ⟨x, hx, by rw [← ha]; exact e⟩
    · exact h.new ⟨y, List.mem_cons_of_mem _ hy, e⟩
/-- the next piece is asked for -/
theorem Rt.more {p : Piece} {r : List Piece} (h : Rt names gs cols m L) (ha : m.ahead = p :: r) : Rt names gs cols (fetch { m with ahead := r, opened := m.opened + 1 } p.place p.length (.piece p)) (L ++ [⟨p.place, p.length, [], 0, .piece p⟩]) := by
  have hpe : pend (L ++ [⟨p.place, p.length, [], 0, .piece p⟩]) r = pend L m.ahead := by
    rw [ha]
    unfold pend
    rw [List.flatMap_append, List.flatMap_cons, List.append_assoc]
    simp [aimPages]
  have hin : ∀ y ∈ L ++ [(⟨p.place, p.length, [], 0, .piece p⟩ : Part)], y = ⟨p.place, p.length, [], 0, .piece p⟩ ∨ y ∈ L := fun y hy => by
    rcases List.mem_append.1 hy with hy | hy
    · exact .inr hy
    · simp at hy; exact .inl hy
  refine ⟨h.size, h.want, fun y hy => ?_, fun y hy e => ?_, fun y hy e => ?_, fun y hy q e => ?_, fun y hy => h.pages y (hpe ▸ hy), fun i G c l a b => ?_, fun hall => h.tab (fun y hy => hall y (List.mem_append.2 (.inl hy))), fun ⟨y, hy, e⟩ => ?_⟩
  · rcases hin y hy with rfl | hy
    · simp [bytesAt]
    · exact h.data y hy
  · rcases hin y hy with rfl | hy
    · cases e
    · exact h.tail y hy e
  · rcases hin y hy with rfl | hy
    · cases e
    · exact h.footer y hy e
  · rcases hin y hy with rfl | hy
    · cases e; exact ⟨rfl, rfl⟩
    · exact h.piece y hy q e
  · show _ ∨ ∃ y ∈ pend (L ++ [⟨p.place, p.length, [], 0, .piece p⟩]) r, _
    rw [hpe]
    exact h.lists i G c l a b
  · rcases hin y hy with rfl | hy
    · cases e
    · exact h.new ⟨y, hy, e⟩
end
theorem Rt.ahead_all {names : List (List UInt8)} {gs : List (List (List Int))} {cols : List Nat} : ∀ (f : Nat) (m : Sc), Rt names gs cols m (partsOf m) → Rt names gs cols (askAheadF f m) (partsOf (askAheadF f m))
  | 0, m, h => h
  | f + 1, m, h => by
    unfold askAheadF
    cases ha : m.ahead with
    | nil => exact h
    | cons p r =>
      simp only
      by_cases hw : m.opened < m.win
      · rw [if_pos hw]
        exact Rt.ahead_all f _ ((h.more ha).perm (partsOf_ask { m with ahead := r, opened := m.opened + 1 } ⟨p.place, p.length, [], 0, .piece p⟩))
      · rw [if_neg hw]
        exact h

/-! Pages come -/
/-- the wanted column of a group -/
def valOf (gs : List (List (List Int))) (cols : List Nat) (g c : Nat) : List Int := (gs.getD g []).getD (cols.getD c 0) []
/-- each list is there, or still to come -/
def LsOk (gs : List (List (List Int))) (cols : List Nat) (r : Rw) (pd : List WPage) : Prop := ∀ i G (c : Nat) l, r.groups[i]? = some G → G.lists[c]? = some l → valOf gs cols (r.gone + i) c = l ∨ ∃ y ∈ pd, y.group = r.gone + i ∧ y.column = c
theorem rwPut_get {r : Rw} {g c i : Nat} {l : List Int} {G' : RGroup} (h : (rwPut r g c l).groups[i]? = some G') : (i = g - r.gone ∧ ∃ G, r.groups[i]? = some G ∧ G' = { G with lists := G.lists.set c l, missing := G.missing - 1 }) ∨ (i ≠ g - r.gone ∧ r.groups[i]? = some G') := by
  unfold rwPut at h
  simp only [List.getElem?_modify] at h
  by_cases e : g - r.gone = i
  · left
    subst e
    cases hh : r.groups[g - r.gone]? with
    | none => rw [hh] at h; simp at h
    | some G => rw [hh] at h; simp at h; exact ⟨rfl, G, rfl, h.symm⟩
  · right
    refine ⟨fun e' => e e'.symm, ?_⟩
    cases hh : r.groups[i]? with
    | none => rw [hh] at h; simp at h
    | some G2 => rw [hh] at h; simp [e] at h; rw [h]
theorem rwPut_rows (r : Rw) (g c : Nat) (l : List Int) : (rwPut r g c l).groups.map (·.rows) = r.groups.map (·.rows) := by
  apply List.ext_getElem?
  intro i
  unfold rwPut
  simp only [List.getElem?_map, List.getElem?_modify]
  cases hh : r.groups[i]? with
  | none => simp
  | some G2 => by_cases e : g - r.gone = i <;> simp [e]
theorem LsOk.put {gs : List (List (List Int))} {cols : List Nat} {r : Rw} {x : WPage} {pd : List WPage} (h : LsOk gs cols r (x :: pd)) (hx : r.gone ≤ x.group) : LsOk gs cols (rwPut r x.group x.column (valOf gs cols x.group x.column)) pd := by
  intro i G' c q hG' hq
  show valOf gs cols (r.gone + i) c = q ∨ ∃ y ∈ pd, y.group = r.gone + i ∧ y.column = c
  rcases rwPut_get hG' with ⟨rfl, G, hG, rfl⟩ | ⟨hne, hG⟩
  · have hq : (G.lists.set x.column (valOf gs cols x.group x.column))[c]? = some q := hq
    by_cases e : c = x.column
    · subst e
      left
      have hlt : x.column < G.lists.length := by
        have := (List.getElem?_eq_some_iff.1 hq).1
        simpa using this
      rw [List.getElem?_set_self hlt] at hq
      cases hq
      rw [show r.gone + (x.group - r.gone) = x.group by omega]
    · rw [List.getElem?_set_ne (Ne.symm e)] at hq
      rcases h _ G c q hG hq with e' | ⟨y, hy, hyg, hyc⟩
      · exact .inl e'
      · rcases List.mem_cons.1 hy with rfl | hy
        · exact absurd hyc.symm e
        · exact .inr ⟨y, hy, hyg, hyc⟩
  · rcases h i G' c q hG hq with e' | ⟨y, hy, hyg, hyc⟩
    · exact .inl e'
    · rcases List.mem_cons.1 hy with rfl | hy
      · exact absurd (show i = y.group - r.gone by omega) hne
      · exact .inr ⟨y, hy, hyg, hyc⟩
theorem LsOk.puts {gs : List (List (List Int))} {cols : List Nat} {p : Piece} {data : List UInt8} : ∀ (pages : List WPage) (r : Rw) (pd : List WPage), LsOk gs cols r (pages ++ pd) → (∀ y ∈ pages, r.gone ≤ y.group ∧ readW p y data = some (valOf gs cols y.group y.column)) → ∃ r', putsF p data pages r = some r' ∧ LsOk gs cols r' pd ∧ r'.gone = r.gone ∧ r'.columns = r.columns ∧ r'.row = r.row ∧ r'.left = r.left ∧ r'.groups.map (·.rows) = r.groups.map (·.rows)
  | [], r, pd, h, _ => ⟨r, rfl, h, rfl, rfl, rfl, rfl, rfl⟩
  | x :: t, r, pd, h, hr => by
    obtain ⟨h1, h2⟩ := hr x (by simp)
    obtain ⟨r', a1, a2, a3, a4, a5, a6, a7⟩ := LsOk.puts t (rwPut r x.group x.column (valOf gs cols x.group x.column)) pd (LsOk.put (pd := t ++ pd) h h1) (fun y hy => hr y (by simp [hy]))
    refine ⟨r', ?_, a2, a3, a4, a5, a6, a7.trans (rwPut_rows _ _ _ _)⟩
    unfold putsF
    rw [h2]
    exact a1
/-- a page of a piece that is there whole -/
theorem read_right {names : List (List UInt8)} {gs : List (List (List Int))} {cols : List Nat} (hok : okTable names gs = true) (hc : ∀ c ∈ cols, c < names.length) {y : WPage} (hy : y ∈ allRaw cols (fgroupsOf 4 gs) gs.length) (p : Piece) (n : Nat) (h1 : p.place ≤ y.page.place) (h2 : y.page.place + y.page.length ≤ p.place + n) : readW p y (bytesAt (Ft names gs) p.place n) = some (valOf gs cols y.group y.column) := by
  have hm : ∀ k y, y ∈ allRaw cols (fgroupsOf 4 gs) k → y.group < k ∧ y.column < cols.length ∧ y.page = ((fgroupsOf 4 gs).getD y.group default).pages.getD (cols.getD y.column 0) default ∧ y.rows = ((fgroupsOf 4 gs).getD y.group default).rows := by
    intro k
    induction k with
    | zero => intro y h; simp [allRaw] at h
    | succ k ih =>
      intro y h
      unfold allRaw at h
      rcases List.mem_append.1 h with h | h
      · have := ih y h
        exact ⟨by omega, this.2⟩
      · unfold wantedRaw at h
        obtain ⟨i, hi, rfl⟩ := List.mem_map.1 h
        exact ⟨Nat.lt_succ_self k, List.mem_range.1 hi, rfl, rfl⟩
  obtain ⟨g1, g2, g3, g4⟩ := hm _ y hy
  have hG : gs[y.group]? = some gs[y.group] := List.getElem?_eq_getElem g1
  have hok' := ((okTable_iff names gs).1 hok).2.2 _ (List.getElem_mem g1)
  obtain ⟨k1, k2, k3, k4⟩ := (okGroup_iff _ _).1 hok'
  have hcl : cols.getD y.column 0 < names.length := by
    rw [List.getD_eq_getElem?_getD, List.getElem?_eq_getElem g2]
    exact hc _ (List.getElem_mem g2)
  have hX : gs[y.group][cols.getD y.column 0]? = some (gs[y.group][cols.getD y.column 0]'(by rw [k1]; exact hcl)) := List.getElem?_eq_getElem _
  have hv : valOf gs cols y.group y.column = gs[y.group][cols.getD y.column 0]'(by rw [k1]; exact hcl) := by
    unfold valOf
    rw [List.getD_eq_getElem?_getD (l := gs), hG]
    simp only [Option.getD_some]
    rw [List.getD_eq_getElem?_getD (i := cols.getD y.column 0), hX]
    rfl
  rw [hv]
  have hin := k4 _ (List.getElem_mem (by rw [k1]; exact hcl : cols.getD y.column 0 < gs[y.group].length))
  have hlen : (gs[y.group][cols.getD y.column 0]'(by rw [k1]; exact hcl)).length = (gs[y.group].getD 0 []).length := by
    unfold okList at hin
    simp only [Bool.and_eq_true, decide_eq_true_eq] at hin
    exact hin.1
  refine readW_file names gs y.group (cols.getD y.column 0) gs[y.group] _ hG hX hlen (by omega) (fun v hv => ?_) p y n g3 g4 h1 h2
  unfold okList at hin
  simp only [Bool.and_eq_true, decide_eq_true_eq, List.all_eq_true] at hin
  have := hin.2 v hv
  unfold okVal at this
  simp only [Bool.and_eq_true, decide_eq_true_eq] at this
  exact this
end Go.Proofs.YthicgffppmbamaaGreat

namespace Go.Proofs.YthicgffppmbamaaGreat
open Pl

theorem fgroupsOf_rows : ∀ (gs : List (List (List Int))) (pos : Nat), (fgroupsOf pos gs).map (·.rows) = gs.map fun g => (g.getD 0 []).length
  | [], _ => rfl
  | g :: r, pos => by simp only [fgroupsOf, List.map_cons]; rw [fgroupsOf_rows r]
theorem fgroupsOf_length (gs : List (List (List Int))) (pos : Nat) : (fgroupsOf pos gs).length = gs.length := by
  have := congrArg List.length (fgroupsOf_rows gs pos)
  simpa using this
theorem whole_len (p : List UInt8 × List UInt8) : (whole p).length = p.1.length + p.2.length + 6 := by
  have : Pl.mark.length = 4 := rfl
  unfold whole
  simp [this]
  omega
section
variable {names : List (List UInt8)} {gs : List (List (List Int))} {cols : List Nat} {m : Sc} {x : Part} {N : Nat}
theorem Rt.whole (hok : okTable names gs = true) (hsz : (Ft names gs).length ≤ 4000) (hc : Core m (x :: partsOf m) N) (h : Rt names gs cols m (x :: partsOf m)) :
    (gs = [] ∧ isPiece x.aim = false ∧ wholeCame m x.aim (bytesAt (Ft names gs) x.place x.length) = ended 1) ∨ Rt names gs cols (wholeCame m x.aim (bytesAt (Ft names gs) x.place x.length)) (partsOf (wholeCame m x.aim (bytesAt (Ft names gs) x.place x.length))) := by
  have hx : x ∈ x :: partsOf m := by simp
  have hwl : (Ft names gs).length = (parts names gs).1.length + (parts names gs).2.length + 6 := whole_len (parts names gs)
  obtain ⟨R, -, hp1⟩ := whole_eq names gs
  have hp1l : 4 ≤ (parts names gs).1.length := by rw [hp1, List.length_append]; have : Pl.mark.length = 4 := rfl; omega
  have hsize := h.size
  have hcols := columns_ok _ _ _ h.want
  cases ha : x.aim with
  | tail =>
    obtain ⟨hL, hah, hop⟩ := hc.alone (by rw [ha]; rfl)
    obtain ⟨t1, t2⟩ := h.tail x hx ha
    rw [t1, t2, whole_tail]
    have hn1 : 1 ≤ (parts names gs).2.length := by
      unfold parts
      rw [addGs_eq]
      simp only [List.length_append]
      have := vint_pos names.length
      omega
    show _ ∨ Rt names gs cols (tailCame m _) (partsOf (tailCame m _))
    unfold tailCame
    rw [tail_read _ _ hn1 (by rw [hsize]; omega) (by rw [hsize]; omega)]
    right
    simp only
    have hpl : m.size - 6 - (parts names gs).2.length = (parts names gs).1.length := by rw [hsize]; omega
    rw [hpl]
    refine Rt.perm (L := [⟨(parts names gs).1.length, (parts names gs).2.length, [], 0, .footer⟩]) ?_ ((List.Perm.of_eq (by rw [hL]; rfl)).trans (partsOf_ask m _))
    refine ⟨h.size, h.want, fun y hy => ?_, fun y hy e => ?_, fun y hy e => ?_, fun y hy p e => ?_, fun y hy => ?_, fun i G c l a b => ?_, fun hall => ?_, fun _ => h.new ⟨x, hx, by rw [ha]; rfl⟩⟩
    · simp at hy; subst hy; simp [bytesAt]
    · simp at hy; subst hy; cases e
    · simp at hy; subst hy; exact ⟨rfl, rfl⟩
    · simp at hy; subst hy; cases e
    · have hy : y ∈ pend [⟨(parts names gs).1.length, (parts names gs).2.length, [], 0, .footer⟩] m.ahead := hy
      rw [hah] at hy
      simp [pend, aimPages] at hy
    · rcases h.lists i G c l a b with e | ⟨y, hy, -⟩
      · exact .inl e
      · rw [hL, hah] at hy
        simp [pend, aimPages, ha] at hy
    · have := hall _ (List.mem_singleton.2 rfl)
      cases this
  | footer =>
    obtain ⟨hL, hah, hop⟩ := hc.alone (by rw [ha]; rfl)
    obtain ⟨t1, t2⟩ := h.footer x hx ha
    rw [t1, t2, whole_foot]
    show _ ∨ Rt names gs cols (footerCame m _) (partsOf (footerCame m _))
    have hfe : wholeCame m .footer (parts names gs).2 = if (fgroupsOf 4 gs).length = 0 then ended 1 else Pl.askAhead { m with rows := rwNew cols.length ((fgroupsOf 4 gs).map (·.rows)), ahead := piecesOf m.gap cols (fgroupsOf 4 gs) } := by
      show footerCame m _ = _
      unfold footerCame
      rw [show m.size - 6 - (parts names gs).2.length = (parts names gs).1.length by rw [hsize]; omega, footer_read names gs hok (by omega)]
      simp only
      rw [h.want]
    rw [show footerCame m (parts names gs).2 = wholeCame m .footer (parts names gs).2 from rfl, hfe]
    by_cases h0 : (fgroupsOf 4 gs).length = 0
    · left
      rw [if_pos h0]
      rw [fgroupsOf_length] at h0
      exact ⟨List.eq_nil_of_length_eq_zero h0, rfl, rfl⟩
    · right
      rw [if_neg h0]
      have hfl := fgroupsOf_length gs 4
      refine Rt.ahead_all _ _ ?_
      have hpn : partsOf { m with rows := rwNew cols.length ((fgroupsOf 4 gs).map (·.rows)), ahead := piecesOf m.gap cols (fgroupsOf 4 gs) } = [] := hL
      rw [hpn]
      have hpp := piecesTo_perm m.gap cols (fgroupsOf 4 gs) (fgroupsOf 4 gs).length
      refine ⟨h.size, h.want, (fun y hy => by cases hy), (fun y hy => by cases hy), (fun y hy => by cases hy), (fun y hy => by cases hy), fun y hy => ?_, fun i G c l a b => .inr ?_, fun _ => ⟨rfl, ?_, fun i G hG => ?_⟩, (fun ⟨y, hy, _⟩ => by cases hy)⟩
      · have hy : y ∈ (piecesTo m.gap cols (fgroupsOf 4 gs) (fgroupsOf 4 gs).length).flatMap (·.pages) := hy
        have := hpp.mem_iff.1 hy
        rw [hfl] at this
        exact this
      · have a' : (((fgroupsOf 4 gs).map (·.rows)).map fun n => (⟨n, List.replicate cols.length [], cols.length⟩ : RGroup))[i]? = some G := a
        rw [List.getElem?_map] at a'
        cases hi : ((fgroupsOf 4 gs).map (·.rows))[i]? with
        | none => rw [hi] at a'; cases a'
        | some g =>
          rw [hi] at a'
          simp at a'
          subst a'
          have hlt : i < (fgroupsOf 4 gs).length := by have := (List.getElem?_eq_some_iff.1 hi).1; simpa using this
          have hc' : c < cols.length := by have := (List.getElem?_eq_some_iff.1 b).1; simpa using this
          obtain ⟨y, hy, e1, e2⟩ := (allRaw_count cols (fgroupsOf 4 gs) _ i hlt).2 c hc'
          exact ⟨y, hpp.mem_iff.2 hy, by rw [e1]; exact (Nat.zero_add i).symm, e2⟩
      · show 0 + (((fgroupsOf 4 gs).map (·.rows)).map _).length = gs.length
        simp [hfl]
      · have a' : (((fgroupsOf 4 gs).map (·.rows)).map fun n => (⟨n, List.replicate cols.length [], cols.length⟩ : RGroup))[i]? = some G := hG
        rw [fgroupsOf_rows, List.getElem?_map, List.getElem?_map] at a'
        cases hi : gs[i]? with
        | none => rw [hi] at a'; cases a'
        | some g =>
          rw [hi] at a'
          simp at a'
          subst a'
          show _ = ((gs.getD (0 + i) []).getD 0 []).length
          rw [Nat.zero_add, List.getD_eq_getElem?_getD (l := gs), hi]
          simp
  | piece p =>
    right
    obtain ⟨t1, t2⟩ := h.piece x hx p ha
    obtain ⟨-, hpc⟩ := (hc.parts x hx).piece p ha
    rw [t1, t2]
    have hpd : pend (x :: partsOf m) m.ahead = p.pages ++ pend (partsOf m) m.ahead := by
      unfold pend
      rw [List.flatMap_cons, ha, List.append_assoc]
      rfl
    have hls : LsOk gs cols m.rows (p.pages ++ pend (partsOf m) m.ahead) := by rw [← hpd]; exact h.lists
    obtain ⟨r', q1, q2, q3, q4, q5, q6, q7⟩ := LsOk.puts (p := p) (data := bytesAt (Ft names gs) p.place p.length) p.pages m.rows _ hls (fun y hy => by
      have hyp : y ∈ pend (x :: partsOf m) m.ahead := by rw [hpd]; exact List.mem_append.2 (.inl hy)
      have hpg := hpc.pages y hy
      exact ⟨(hc.rows.pnd y hyp).1, read_right hok hcols.2.2.1 (h.pages y hyp) p p.length hpg.first hpg.ends⟩)
    show Rt names gs cols (pieceCame m p _) (partsOf (pieceCame m p _))
    unfold pieceCame
    rw [q1]
    simp only
    refine Rt.ahead_all _ _ ?_
    have hin : ∀ y, y ∈ partsOf m → y ∈ x :: partsOf m := fun y hy => List.mem_cons_of_mem _ hy
    refine ⟨h.size, h.want, fun y hy => h.data y (hin y hy), fun y hy => h.tail y (hin y hy), fun y hy => h.footer y (hin y hy), fun y hy => h.piece y (hin y hy), fun y hy => h.pages y (by rw [hpd]; exact List.mem_append.2 (.inr hy)), q2, fun hall => ?_, fun ⟨y, hy, e⟩ => ?_⟩
    rotate_left
    · have hy : y ∈ partsOf m := hy
      have := (hc.first ⟨y, hin y hy, e⟩).1
      simp at this
      rw [this] at hy
      cases hy
    obtain ⟨b1, b2, b3⟩ := h.tab (fun y hy => by
      rcases List.mem_cons.1 hy with rfl | hy
      · rw [ha]; rfl
      · exact hall y hy)
    refine ⟨q4.trans b1, ?_, fun i G hG => ?_⟩
    · show r'.gone + r'.groups.length = gs.length
      have := congrArg List.length q7
      simp only [List.length_map] at this
      rw [q3, this]
      exact b2
    · have e1 : (r'.groups.map (·.rows))[i]? = some G.rows := by rw [List.getElem?_map]; have hG : r'.groups[i]? = some G := hG; rw [hG]; rfl
      rw [q7, List.getElem?_map] at e1
      cases hi : m.rows.groups[i]? with
      | none => rw [hi] at e1; cases e1
      | some G2 =>
        rw [hi] at e1
        simp at e1
        rw [← e1]
        show G2.rows = ((gs.getD (r'.gone + i) []).getD 0 []).length
        rw [q3]
        exact b3 i G2 hi
end
end Go.Proofs.YthicgffppmbamaaGreat

namespace Go.Proofs.YthicgffppmbamaaGreat
open Pl

structure TabOk (gs : List (List (List Int))) (cols : List Nat) (r : Rw) : Prop where
  columns : r.columns = cols.length
  count : r.gone + r.groups.length = gs.length
  rows : ∀ i G, r.groups[i]? = some G → G.rows = ((gs.getD (r.gone + i) []).getD 0 []).length
/-- the row that is next -/
def rowOf (gs : List (List (List Int))) (cols : List Nat) (g i : Nat) : List Int := (List.range cols.length).map fun c => (valOf gs cols g c).getD i 0
section
variable {gs : List (List (List Int))} {cols : List Nat} {r : Rw} {pd : List WPage}
theorem take_row (h : RwG r pd) (hl : LsOk gs cols r pd) (ht : TabOk gs cols r) (hr : 0 < rwReady r) : (rwTake r).1 = rowOf gs cols r.gone r.row ∧ r.row < ((gs.getD r.gone []).getD 0 []).length ∧ r.gone < gs.length := by
  obtain ⟨G, rest, hk, hm⟩ := h.first hr
  have hd : r.groups.getD 0 default = G := by rw [hk.groups]; rfl
  have hG : r.groups[0]? = some G := by rw [hk.groups]; rfl
  obtain ⟨-, -, -, g4, -⟩ := h.grp 0 G hG
  have hpn := pendOf_nil (show (pendOf pd (r.gone + 0)).length = 0 by rw [← g4]; exact hm)
  have hrow := ht.rows 0 G hG
  rw [Nat.add_zero] at hrow
  refine ⟨?_, by rw [← hrow]; exact hk.row, by have := ht.count; rw [hk.groups] at this; simp at this; omega⟩
  unfold rwTake rowOf
  simp only [hd]
  apply List.ext_getElem?
  intro c
  rw [List.getElem?_map, List.getElem?_map]
  by_cases hc : c < cols.length
  · have hlt : c < G.lists.length := by rw [hk.cols, ht.columns]; exact hc
    rw [List.getElem?_range hc, List.getElem?_eq_getElem hlt]
    simp only [Option.map_some, Option.some.injEq]
    rcases hl 0 G c _ hG (List.getElem?_eq_getElem hlt) with e | ⟨y, hy, hyg, -⟩
    · rw [Nat.add_zero] at e
      rw [e]
    · exact absurd hyg (hpn y hy)
  · rw [List.getElem?_eq_none (by rw [hk.cols, ht.columns]; omega), List.getElem?_eq_none (by simp; omega)]
    rfl
theorem take_keeps (h : RwG r pd) (hl : LsOk gs cols r pd) (ht : TabOk gs cols r) (hr : 0 < rwReady r) : LsOk gs cols (rwTake r).2 pd ∧ TabOk gs cols (rwTake r).2 ∧ (((rwTake r).2.gone = r.gone ∧ (rwTake r).2.row = r.row + 1) ∨ ((rwTake r).2.gone = r.gone + 1 ∧ (rwTake r).2.row = 0 ∧ r.row + 1 = ((gs.getD r.gone []).getD 0 []).length)) := by
  obtain ⟨G, rest, hk, hm⟩ := h.first hr
  have hd : r.groups.getD 0 default = G := by rw [hk.groups]; rfl
  have hG : r.groups[0]? = some G := by rw [hk.groups]; rfl
  have hrow := ht.rows 0 G hG
  rw [Nat.add_zero] at hrow
  have hd1 : r.groups.drop 1 = rest := by rw [hk.groups]; rfl
  have hget : ∀ i, (r.groups.drop 1)[i]? = r.groups[i + 1]? := fun i => by rw [List.getElem?_drop, Nat.add_comm]
  unfold rwTake
  simp only [hd]
  by_cases he : r.row + 1 = G.rows
  · rw [if_pos he]
    refine ⟨fun i G' c l a b => ?_, ⟨ht.columns, ?_, fun i G' a => ?_⟩, .inr ⟨rfl, rfl, by rw [he]; exact hrow⟩⟩
    · have a : (r.groups.drop 1)[i]? = some G' := a
      rw [hget] at a
      have := hl (i + 1) G' c l a b
      rw [show r.gone + (i + 1) = r.gone + 1 + i by omega] at this
      exact this
    · show r.gone + 1 + (r.groups.drop 1).length = gs.length
      have := ht.count
      rw [hk.groups, List.length_cons] at this
      rw [hd1]
      omega
    · have a : (r.groups.drop 1)[i]? = some G' := a
      rw [hget] at a
      have := ht.rows (i + 1) G' a
      rw [show r.gone + (i + 1) = r.gone + 1 + i by omega] at this
      exact this
  · rw [if_neg he]
    exact ⟨hl, ⟨ht.columns, ht.count, ht.rows⟩, .inl ⟨rfl, rfl⟩⟩
end
/-- how many rows lie ahead of a group's row -/
def ahead' (gs : List (List (List Int))) (g : Nat) : Nat := ((gs.take g).map fun G => (G.getD 0 []).length).sum
/-- all the values of a wanted column -/
def colOf (gs : List (List (List Int))) (cols : List Nat) (c : Nat) : List Int := gs.flatMap fun G => G.getD (cols.getD c 0) []
theorem colOf_get (cols : List Nat) (c : Nat) : ∀ (gs : List (List (List Int))) (g i : Nat), (∀ G ∈ gs, (G.getD (cols.getD c 0) []).length = (G.getD 0 []).length) → g < gs.length → i < ((gs.getD g []).getD 0 []).length → (colOf gs cols c)[ahead' gs g + i]? = some ((valOf gs cols g c).getD i 0)
  | [], _, _, _, h, _ => by simp at h
  | G :: r, 0, i, hG, _, hi => by
    have h0 := hG G (by simp)
    have hi : i < (G.getD 0 []).length := hi
    show (G.getD (cols.getD c 0) [] ++ r.flatMap _)[0 + i]? = some ((G.getD (cols.getD c 0) []).getD i 0)
    rw [Nat.zero_add, List.getElem?_append_left (by omega), List.getD_eq_getElem?_getD (i := i), List.getElem?_eq_getElem (by omega)]
    rfl
  | G :: r, g + 1, i, hG, hg, hi => by
    have h0 := hG G (by simp)
    have ih := colOf_get cols c r g i (fun G' h' => hG G' (by simp [h'])) (by simpa using hg) hi
    show (G.getD (cols.getD c 0) [] ++ r.flatMap _)[(((G :: r).take (g + 1)).map fun G => (G.getD 0 []).length).sum + i]? = some ((valOf r cols g c).getD i 0)
    rw [List.take_succ_cons, List.map_cons, List.sum_cons, List.getElem?_append_right (by omega)]
    rw [show (G.getD 0 []).length + ((r.take g).map fun G => (G.getD 0 []).length).sum + i - (G.getD (cols.getD c 0) []).length = ahead' r g + i by unfold ahead'; omega]
    exact ih
theorem ahead'_succ (gs : List (List (List Int))) (g : Nat) (h : g < gs.length) : ahead' gs (g + 1) = ahead' gs g + ((gs.getD g []).getD 0 []).length := by
  unfold ahead'
  rw [List.take_succ_eq_append_getElem h, List.map_append, List.sum_append, List.getD_eq_getElem?_getD (l := gs), List.getElem?_eq_getElem h]
  simp
/-- how many rows have been handed on -/
def posOf (gs : List (List (List Int))) (r : Rw) : Nat := ahead' gs r.gone + r.row
/-- all columns of a group are as long -/
def Even (gs : List (List (List Int))) (cols : List Nat) : Prop := ∀ c, c < cols.length → ∀ G ∈ gs, (G.getD (cols.getD c 0) []).length = (G.getD 0 []).length
section
variable {gs : List (List (List Int))} {cols : List Nat} {r : Rw} {pd : List WPage}
theorem take_right (he : Even gs cols) (h : RwG r pd) (hl : LsOk gs cols r pd) (ht : TabOk gs cols r) (hr : 0 < rwReady r) : (∀ c, c < cols.length → (colOf gs cols c)[posOf gs r]? = some ((rwTake r).1.getD c 0)) ∧ posOf gs (rwTake r).2 = posOf gs r + 1 := by
  obtain ⟨h1, h2, h3⟩ := take_row h hl ht hr
  refine ⟨fun c hc => ?_, ?_⟩
  · rw [h1]
    unfold posOf
    rw [colOf_get cols c gs r.gone r.row (he c hc) h3 h2]
    unfold rowOf
    rw [List.getD_eq_getElem?_getD (i := c), List.getElem?_map, List.getElem?_range hc]
    rfl
  · obtain ⟨-, -, hk⟩ := take_keeps h hl ht hr
    unfold posOf
    rcases hk with ⟨e1, e2⟩ | ⟨e1, e2, e3⟩
    · rw [e1, e2]; omega
    · rw [e1, e2, ahead'_succ gs r.gone h3]; omega
theorem takeN_right (he : Even gs cols) (h : RwG r pd) (hl : LsOk gs cols r pd) (ht : TabOk gs cols r) : ∀ j, j ≤ rwReady r → (∀ c, c < cols.length → (iter rwTakeS j ([], r)).1.map (fun row => row.getD c 0) = ((colOf gs cols c).drop (posOf gs r)).take j) ∧ LsOk gs cols (rwAt r j) pd ∧ TabOk gs cols (rwAt r j) ∧ posOf gs (rwAt r j) = posOf gs r + j
  | 0, _ => ⟨fun c _ => by simp [iter], hl, ht, rfl⟩
  | j + 1, hj => by
    obtain ⟨a1, a2, a3, a4⟩ := takeN_right he h hl ht j (by omega)
    obtain ⟨b1, b2, -, -⟩ := h.takeN j (by omega)
    have hp : 0 < rwReady (rwAt r j) := by omega
    obtain ⟨c1, c2⟩ := take_right he b1 a2 a3 hp
    obtain ⟨d1, d2, -⟩ := take_keeps b1 a2 a3 hp
    refine ⟨fun c hc => ?_, d1, d2, by show posOf gs (rwTake (rwAt r j)).2 = _; rw [c2, a4]; omega⟩
    rw [show iter rwTakeS (j + 1) ([], r) = rwTakeS (iter rwTakeS j ([], r)) from rfl]
    have hs : ∀ s : List (List Int) × Rw, (rwTakeS s).1 = s.1 ++ [(rwTake s.2).1] := fun _ => rfl
    rw [hs]
    simp only [List.map_append, List.map_cons, List.map_nil]
    rw [a1 c hc]
    have := c1 c hc
    rw [a4] at this
    rw [← List.getElem?_drop] at this
    rw [List.take_add_one, this]
    rfl
/-- what Next hands on is the next of the table -/
theorem next_right (he : Even gs cols) (h : RwG r pd) (hl : LsOk gs cols r pd) (ht : TabOk gs cols r) (most : Nat) : LsOk gs cols (rwNext r most).2 pd ∧ TabOk gs cols (rwNext r most).2 ∧ ((rwNext r most).1 = none ∧ (rwNext r most).2 = r ∨ (rwNext r most).1 = some ((List.range cols.length).map fun c => ((colOf gs cols c).drop (posOf gs r)).take (rwCount r most)) ∧ posOf gs (rwNext r most).2 = posOf gs r + rwCount r most ∧ 1 ≤ rwCount r most ∧ (rwNext r most).2.left = r.left - rwCount r most) := by
  unfold rwNext
  split
  · exact ⟨hl, ht, .inl ⟨rfl, rfl⟩⟩
  · rename_i hc
    obtain ⟨a1, a2, a3, a4⟩ := takeN_right he h hl ht (rwCount r most) (by omega)
    obtain ⟨-, -, -, b4⟩ := h.takeN (rwCount r most) (by omega)
    refine ⟨a2, a3, .inr ⟨?_, a4, by omega, b4⟩⟩
    simp only
    rw [ht.columns]
    congr 1
    apply List.map_congr_left
    intro c hc'
    exact a1 c (List.mem_range.1 hc')
end
end Go.Proofs.YthicgffppmbamaaGreat

namespace Go.Proofs.YthicgffppmbamaaGreat
open Pl

def totalOf (gs : List (List (List Int))) : Nat := ahead' gs gs.length
/-- k rows have been handed on -/
def Sound (names : List (List UInt8)) (gs : List (List (List Int))) (cols : List Nat) (m : Sc) (N k : Nat) : Prop :=
  (∃ why, (why = 1 ∧ k = totalOf gs ∨ why = 4 ∨ why = 5) ∧ m = ended why) ∨ (Going m N ∧ Rt names gs cols m (partsOf m) ∧ k = posOf gs m.rows)
theorem Sound.good {names : List (List UInt8)} {gs : List (List (List Int))} {cols : List Nat} {m : Sc} {N k : Nat} (h : Sound names gs cols m N k) : Good m N := by
  rcases h with ⟨why, h1, rfl⟩ | ⟨h, -, -⟩
  · exact .inl ⟨why, by omega, by omega, rfl⟩
  · exact .inr h
theorem askAheadF_rows : ∀ (f : Nat) (m : Sc), (askAheadF f m).rows = m.rows
  | 0, _ => rfl
  | f + 1, m => by
    unfold askAheadF
    cases m.ahead with
    | nil => rfl
    | cons p r =>
      simp only
      split
      · rw [askAheadF_rows f]; rfl
      · rfl
theorem putsF_pos {p : Piece} {data : List UInt8} : ∀ (pages : List WPage) (r r' : Rw), putsF p data pages r = some r' → r'.gone = r.gone ∧ r'.row = r.row
  | [], r, r', h => by unfold putsF at h; cases h; exact ⟨rfl, rfl⟩
  | x :: t, r, r', h => by
    unfold putsF at h
    cases hl : readW p x data with
    | none => rw [hl] at h; cases h
    | some l =>
      rw [hl] at h
      have := putsF_pos t (rwPut r x.group x.column l) r' h
      exact this
theorem ahead'_zero (gs : List (List (List Int))) : ahead' gs 0 = 0 := by simp [ahead']
section
variable {names : List (List UInt8)} {gs : List (List (List Int))} {cols : List Nat} {m : Sc} {N k : Nat}
theorem whole_pos {x : Part} {data : List UInt8} (hn : isPiece x.aim = false → m.rows.gone = 0 ∧ m.rows.row = 0) (hs : (wholeCame m x.aim data).state = 0) : posOf gs (wholeCame m x.aim data).rows = posOf gs m.rows := by
  cases ha : x.aim with
  | tail =>
    rw [ha] at hs
    revert hs
    show (tailCame m data).state = 0 → posOf gs (tailCame m data).rows = _
    unfold tailCame
    cases readTail data m.size with
    | none => intro hs; cases hs
    | some n => intro _; rfl
  | footer =>
    obtain ⟨h1, h2⟩ := hn (by rw [ha]; rfl)
    rw [ha] at hs
    revert hs
    show (footerCame m data).state = 0 → posOf gs (footerCame m data).rows = _
    unfold footerCame
    cases readFooter data (m.size - 6 - data.length) with
    | none => intro hs; cases hs
    | some f =>
      simp only
      cases columns f.names m.want with
      | none => intro hs; cases hs
      | some cols =>
        simp only
        split
        · intro hs; cases hs
        · intro _
          unfold Pl.askAhead
          rw [askAheadF_rows]
          unfold posOf
          rw [h1, h2]
          rfl
  | piece p =>
    rw [ha] at hs
    revert hs
    show (pieceCame m p data).state = 0 → posOf gs (pieceCame m p data).rows = _
    unfold pieceCame
    cases hr : putsF p data p.pages m.rows with
    | none => intro hs; cases hs
    | some r' =>
      intro _
      simp only
      unfold Pl.askAhead
      rw [askAheadF_rows]
      obtain ⟨h1, h2⟩ := putsF_pos _ _ _ hr
      unfold posOf
      rw [h1, h2]
/-- an answer out of the file -/
theorem Sound.answer (hok : okTable names gs = true) (hsz : (Ft names gs).length ≤ 4000) (h : Sound names gs cols m N k) (id : Int) (i n : Nat) (hi : findId m.asked id = some i) (hn : 1 ≤ n) (hle : n ≤ (Pl.partAt m i).length - (Pl.partAt m i).data.length) (hin : (Pl.partAt m i).place + (Pl.partAt m i).data.length + n ≤ (Ft names gs).length) :
    (Pl.answer m id (bytesAt (Ft names gs) ((Pl.partAt m i).place + (Pl.partAt m i).data.length) n)).2 = 0 ∧ Sound names gs cols (Pl.answer m id (bytesAt (Ft names gs) ((Pl.partAt m i).place + (Pl.partAt m i).data.length) n)).1 (N + 24) k := by
  have hbl := bytesAt_len (Ft names gs) ((Pl.partAt m i).place + (Pl.partAt m i).data.length) n hin
  have ht : Pl.answer m id (bytesAt (Ft names gs) ((Pl.partAt m i).place + (Pl.partAt m i).data.length) n) = (Pl.partCame (takeAt m i) (Pl.partAt m i) (bytesAt (Ft names gs) ((Pl.partAt m i).place + (Pl.partAt m i).data.length) n), 0) := by
    unfold Pl.answer
    rw [hi]
    simp only
    rw [if_neg (by rw [hbl]; omega), if_neg (by rw [hbl]; omega)]
  rw [ht]
  refine ⟨rfl, ?_⟩
  rcases h with ⟨why, h1, rfl⟩ | ⟨h, hr, hk⟩
  · have := findId_lt hi
    exact absurd this (by show ¬ i < 0; omega)
  obtain ⟨h1, h2⟩ := h.taken i (findId_lt hi)
  have hr1 := hr.perm (take_perm m i (findId_lt hi))
  have hr2 : Rt names gs cols (takeAt m i) (Pl.partAt m i :: partsOf (takeAt m i)) := ⟨hr1.size, hr1.want, hr1.data, hr1.tail, hr1.footer, hr1.piece, hr1.pages, hr1.lists, hr1.tab, hr1.new⟩
  have hd := hr2.data (Pl.partAt m i) (by simp)
  have hda : (Pl.partAt m i).data ++ bytesAt (Ft names gs) ((Pl.partAt m i).place + (Pl.partAt m i).data.length) n = bytesAt (Ft names gs) (Pl.partAt m i).place ((Pl.partAt m i).data.length + n) := by
    rw [← bytesAt_more, ← hd]
  simp only
  unfold Pl.partCame
  rw [hbl]
  by_cases hl : (Pl.partAt m i).data.length + n < (Pl.partAt m i).length
  · rw [if_pos hl, hda]
    have hlen : (bytesAt (Ft names gs) (Pl.partAt m i).place ((Pl.partAt m i).data.length + n)).length = (Pl.partAt m i).data.length + n := bytesAt_len _ _ _ (by omega)
    have h3 := h1.swap (x' := { Pl.partAt m i with data := bytesAt (Ft names gs) (Pl.partAt m i).place ((Pl.partAt m i).data.length + n) }) rfl ⟨h2.ends, by rw [hlen]; exact hl, h2.fails, h2.footer, h2.piece⟩
    have h4 := hr2.swap (x' := { Pl.partAt m i with data := bytesAt (Ft names gs) (Pl.partAt m i).place ((Pl.partAt m i).data.length + n) }) rfl rfl rfl (by simp only; rw [hlen])
    have hg : Going (Pl.ask (takeAt m i) { Pl.partAt m i with data := bytesAt (Ft names gs) (Pl.partAt m i).place ((Pl.partAt m i).data.length + n) }) (N + 1) := ⟨h3.asked, h.ticks⟩
    refine .inr ⟨⟨{ hg.core with lastId := Nat.le_trans hg.core.lastId (by omega) }, hg.ticks⟩, ?_, hk⟩
    have h5 := h4.perm ((List.perm_append_comm (l₁ := [_])).trans (partsOf_ask (takeAt m i) _))
    exact ⟨h5.size, h5.want, h5.data, h5.tail, h5.footer, h5.piece, h5.pages, h5.lists, h5.tab, h5.new⟩
  · rw [if_neg hl, hda, show (Pl.partAt m i).data.length + n = (Pl.partAt m i).length by omega]
    have hg := (h1.whole h.ticks (bytesAt_len (Ft names gs) (Pl.partAt m i).place (Pl.partAt m i).length (by omega))).2
    have hnew := fun e => hr2.new ⟨Pl.partAt m i, by simp, e⟩
    rcases hr2.whole hok hsz h1 with ⟨e1, e0, e2⟩ | hR
    · rw [e2]
      refine .inl ⟨1, .inl ⟨rfl, ?_⟩, rfl⟩
      obtain ⟨-, n1, n2⟩ := hnew e0
      have n1 : m.rows.gone = 0 := n1
      have n2 : m.rows.row = 0 := n2
      rw [hk, e1]
      unfold posOf totalOf
      rw [n1, n2]
      rfl
    · rcases hg with ⟨why, hw, -, he⟩ | hg
      · have := hR.size
        rw [he] at this
        have h0 : (0 : Nat) = (Ft names gs).length := this
        omega
      · refine .inr ⟨hg, hR, ?_⟩
        rw [hk]
        exact (whole_pos (m := takeAt m i) (fun e => (hnew e).2) hg.core.state).symm
end
end Go.Proofs.YthicgffppmbamaaGreat

namespace Go.Proofs.YthicgffppmbamaaGreat
open Pl
section
variable {names : List (List UInt8)} {gs : List (List (List Int))} {cols : List Nat} {m : Sc} {N k : Nat}
theorem Sound.fail (h : Sound names gs cols m N k) (id : Int) (i : Nat) (hi : findId m.asked id = some i) : (Pl.fail m id).2 = 0 ∧ Sound names gs cols (Pl.fail m id).1 N k := by
  have ht : Pl.fail m id = (partFailed (takeAt m i) (Pl.partAt m i), 0) := by unfold Pl.fail; rw [hi]
  rw [ht]
  refine ⟨rfl, ?_⟩
  rcases h with ⟨why, h1, rfl⟩ | ⟨h, hr, hk⟩
  · have := findId_lt hi
    exact absurd this (by show ¬ i < 0; omega)
  have hg := (h.failed i (findId_lt hi)).2
  have hr1 := hr.perm (take_perm m i (findId_lt hi))
  revert hg
  simp only
  unfold partFailed
  by_cases he : (Pl.partAt m i).failures + 1 = (takeAt m i).tries
  · rw [if_pos he]
    intro _
    exact .inl ⟨4, .inr (.inl rfl), rfl⟩
  · rw [if_neg he]
    intro hg
    rcases hg with ⟨why, hw, -, e⟩ | hg
    · have := congrArg Sc.state e
      have : m.state = why := this
      rw [h.core.state] at this
      omega
    · refine .inr ⟨hg, ?_, hk⟩
      have h4 := hr1.swap (x' := { Pl.partAt m i with failures := (Pl.partAt m i).failures + 1 }) rfl rfl rfl (hr1.data (Pl.partAt m i) (by simp))
      have hp : ({ Pl.partAt m i with failures := (Pl.partAt m i).failures + 1 } :: partsOf (takeAt m i)).Perm (partsOf { takeAt m i with waiting := (takeAt m i).waiting ++ [(2 ^ (Pl.partAt m i).failures, { Pl.partAt m i with failures := (Pl.partAt m i).failures + 1 })] }) := by
        unfold partsOf
        simp only [List.map_append, List.map_cons, List.map_nil]
        rw [← List.append_assoc]
        exact (List.perm_append_comm (l₁ := [_]))
      have h5 := h4.perm hp
      exact ⟨h5.size, h5.want, h5.data, h5.tail, h5.footer, h5.piece, h5.pages, h5.lists, h5.tab, h5.new⟩
theorem Sound.tick (h : Sound names gs cols m N k) (hN : N ≤ 100000000000) : Sound names gs cols (Pl.tick m) (N + 4) k := by
  have hg := (h.good.tick hN).2
  rcases h with ⟨why, h1, rfl⟩ | ⟨h, hr, hk⟩
  · exact .inl ⟨why, h1, rfl⟩
  · obtain ⟨al, id, e1, e2, e3, e4⟩ := tick_fold m.waiting m []
    have ht : Pl.tick m = { m with asked := al, lastId := id, waiting := (m.waiting.foldl tickS (m, [])).2 } := by unfold Pl.tick; simp only; rw [e1]
    have hp : (partsOf m).Perm (partsOf { m with asked := al, lastId := id, waiting := (m.waiting.foldl tickS (m, [])).2 }) := by
      unfold partsOf
      refine List.Perm.trans (.of_eq ?_) e3
      simp
    rw [ht] at hg ⊢
    have h5 := hr.perm hp
    rcases hg with ⟨why, hw, -, e⟩ | hg
    · have := congrArg Sc.state e
      have : m.state = why := this
      rw [h.core.state] at this
      omega
    · exact .inr ⟨hg, ⟨h5.size, h5.want, h5.data, h5.tail, h5.footer, h5.piece, h5.pages, h5.lists, h5.tab, h5.new⟩, hk⟩
theorem pos_left {r : Rw} {pd : List WPage} (h : RwG r pd) (ht : TabOk gs cols r) : posOf gs r + r.left = totalOf gs := by
  have e : r.groups.map (·.rows) = (gs.drop r.gone).map fun G => (G.getD 0 []).length := by
    apply List.ext_getElem?
    intro i
    rw [List.getElem?_map, List.getElem?_map, List.getElem?_drop]
    cases hi : r.groups[i]? with
    | none =>
      have : r.groups.length ≤ i := List.getElem?_eq_none_iff.1 hi
      rw [List.getElem?_eq_none (by have := ht.count; omega)]
      rfl
    | some G =>
      have hlt := (List.getElem?_eq_some_iff.1 hi).1
      have := ht.rows i G hi
      have hg : r.gone + i < gs.length := by have := ht.count; omega
      rw [List.getElem?_eq_getElem hg]
      rw [List.getD_eq_getElem?_getD (l := gs), List.getElem?_eq_getElem hg] at this
      simp only [Option.map_some, Option.some.injEq]
      exact this
  have hl := h.left
  rw [e] at hl
  have hs : totalOf gs = ahead' gs r.gone + ((gs.drop r.gone).map fun G => (G.getD 0 []).length).sum := by
    unfold totalOf ahead'
    rw [List.take_length, ← List.sum_append, ← List.map_append, List.take_append_drop]
  rw [hs]
  unfold posOf
  omega
/-- Next: nothing, or the next rows of the table -/
theorem Sound.next (he : Even gs cols) (h : Sound names gs cols m N k) : ((Pl.next m).2 = none ∧ Sound names gs cols (Pl.next m).1 N k) ∨ ∃ n, (Pl.next m).2 = some ((List.range cols.length).map fun c => ((colOf gs cols c).drop k).take n) ∧ 1 ≤ n ∧ k + n ≤ totalOf gs ∧ (n = m.nrows ∨ k + n = totalOf gs) ∧ Sound names gs cols (Pl.next m).1 N (k + n) := by
  have hgd := h.good.next.2
  rcases h with ⟨why, h1, rfl⟩ | ⟨h, hr, hk⟩
  · left
    have : rwNext (ended why).rows (ended why).nrows = (none, (ended why).rows) := by unfold rwNext; rw [if_pos (.inl rfl)]
    have e : Pl.next (ended why) = (ended why, none) := by unfold Pl.next; rw [this]
    rw [e]
    exact ⟨rfl, .inl ⟨why, h1, rfl⟩⟩
  · by_cases hx : ∃ x ∈ partsOf m, isPiece x.aim = false
    · left
      have hl := (hr.new hx).1
      have : rwNext m.rows m.nrows = (none, m.rows) := by unfold rwNext; rw [if_pos (.inl (by unfold rwCount; rw [hl]; exact Nat.min_zero _))]
      have e : Pl.next m = (m, none) := by unfold Pl.next; rw [this]
      rw [e]
      exact ⟨rfl, .inr ⟨h, hr, hk⟩⟩
    · have htab := hr.tab (fun x hxm => by
        cases e : isPiece x.aim with
        | true => rfl
        | false => exact absurd ⟨x, hxm, e⟩ hx)
      have ht : TabOk gs cols m.rows := ⟨htab.1, htab.2.1, htab.2.2⟩
      have hls : LsOk gs cols m.rows (pend (partsOf m) m.ahead) := hr.lists
      obtain ⟨a1, a2, a3⟩ := next_right he h.core.rows hls ht m.nrows
      have hG2 := (h.core.rows.next m.nrows).1
      have hpl := pos_left h.core.rows ht
      rcases a3 with ⟨b1, b2⟩ | ⟨b1, b2, b3, b4⟩
      · left
        have e : Pl.next m = (m, none) := by unfold Pl.next; simp only; rw [b1]
        rw [e]
        exact ⟨rfl, .inr ⟨h, hr, hk⟩⟩
      · right
        have hcle : rwCount m.rows m.nrows ≤ m.rows.left := Nat.min_le_right _ _
        have hor : rwCount m.rows m.nrows = m.nrows ∨ rwCount m.rows m.nrows = m.rows.left := by unfold rwCount; omega
        refine ⟨rwCount m.rows m.nrows, ?_, b3, by omega, by omega, ?_⟩
        · unfold Pl.next
          simp only
          rw [b1, hk]
          simp only
          split <;> rfl
        · by_cases h0 : (rwNext m.rows m.nrows).2.left = 0
          · have e : (Pl.next m).1 = ended 1 := by unfold Pl.next; simp only; rw [b1]; simp only; rw [if_pos h0]
            rw [e]
            exact .inl ⟨1, .inl ⟨rfl, by omega⟩, rfl⟩
          · have e : (Pl.next m).1 = { m with rows := (rwNext m.rows m.nrows).2 } := by unfold Pl.next; simp only; rw [b1]; simp only; rw [if_neg h0]
            rw [e]
            refine .inr ⟨⟨{ h.core with rows := hG2 }, h.ticks⟩, ⟨hr.size, hr.want, hr.data, hr.tail, hr.footer, hr.piece, hr.pages, a1, fun _ => ⟨a2.columns, a2.count, a2.rows⟩, fun hy => absurd hy hx⟩, by rw [hk]; exact b2.symm⟩
theorem Sound.open (want : List (List UInt8)) (w t r g : Nat) (hc : columns names (keepNames want) = some cols) (hs : (Ft names gs).length ≤ 4000) (hw : w ≤ 4) (ht1 : 1 ≤ t) (ht : t ≤ 4) (hr : r ≤ 20) (hg : g ≤ 32) : Sound names gs cols (openSc (Ft names gs).length want w t r g) 1 0 := by
  have hgd := Good.open (Ft names gs).length want w t r g hs hw ht1 ht hr hg
  have hlen : 10 ≤ (Ft names gs).length := by
    have := whole_len (parts names gs)
    obtain ⟨R, -, hp1⟩ := whole_eq names gs
    have h4 : 4 ≤ (parts names gs).1.length := by rw [hp1, List.length_append]; have : Pl.mark.length = 4 := rfl; omega
    show 10 ≤ (whole (parts names gs)).length
    omega
  unfold openSc at hgd ⊢
  rw [if_neg (by omega)] at hgd ⊢
  rcases hgd with ⟨why, hw, -, e⟩ | hgd
  · have := congrArg Sc.state e
    have : 0 = why := this
    omega
  · refine .inr ⟨hgd, ?_, by unfold posOf; rw [show (fetch _ _ _ _).rows.gone = 0 from rfl, ahead'_zero]; rfl⟩
    have hpe : partsOf (fetch { size := (Ft names gs).length, want := keepNames want, win := w, tries := t, nrows := r, gap := g } ((Ft names gs).length - 6) 6 .tail) = [⟨(Ft names gs).length - 6, 6, [], 0, .tail⟩] := rfl
    rw [hpe]
    refine ⟨rfl, hc, fun y hy => ?_, fun y hy e => ?_, fun y hy e => ?_, fun y hy p e => ?_, fun y hy => ?_, fun i G c l a b => ?_, fun hall => ?_, fun _ => ⟨rfl, rfl, rfl⟩⟩
    · simp at hy; subst hy; simp [bytesAt]
    · simp at hy; subst hy; exact ⟨rfl, rfl⟩
    · simp at hy; subst hy; cases e
    · simp at hy; subst hy; cases e
    · have hy : y ∈ pend [⟨(Ft names gs).length - 6, 6, [], 0, .tail⟩] [] := hy
      simp [pend, aimPages] at hy
    · have a : ([] : List RGroup)[i]? = some G := a
      simp at a
    · have := hall _ (List.mem_singleton.2 rfl)
      cases this
end
end Go.Proofs.YthicgffppmbamaaGreat

namespace Go.Proofs.YthicgffppmbamaaGreat
open Pl
def Ids (m : Sc) : Prop := (m.asked.map (·.1)).Pairwise (· < ·) ∧ ∀ q ∈ m.asked, 1 ≤ q.1 ∧ q.1 ≤ m.lastId
theorem Ids.ended (why : Nat) : Ids (ended why) := ⟨List.Pairwise.nil, fun q hq => by cases hq⟩
theorem Ids.ask {m : Sc} (h : Ids m) (p : Part) : Ids (Pl.ask m p) := by
  refine ⟨?_, fun q hq => ?_⟩
  · show ((m.asked ++ [(m.lastId + 1, p)]).map (·.1)).Pairwise (· < ·)
    rw [List.map_append, List.pairwise_append]
    refine ⟨h.1, by simp, fun a ha b hb => ?_⟩
    obtain ⟨q, hq, rfl⟩ := List.mem_map.1 ha
    simp at hb
    subst hb
    have := (h.2 q hq).2
    omega
  · rcases List.mem_append.1 hq with hq | hq
    · have := h.2 q hq
      exact ⟨this.1, Nat.le_trans this.2 (Nat.le_succ _)⟩
    · simp at hq
      subst hq
      exact ⟨Nat.succ_le_succ (Nat.zero_le _), Nat.le_refl _⟩
theorem Ids.take {m : Sc} (h : Ids m) (i : Nat) : Ids (takeAt m i) :=
  ⟨h.1.sublist ((List.eraseIdx_sublist m.asked i).map _), fun q hq => h.2 q ((List.eraseIdx_sublist m.asked i).subset hq)⟩
theorem Ids.same {m m' : Sc} (h : Ids m) (e1 : m'.asked = m.asked) (e2 : m'.lastId = m.lastId) : Ids m' := by
  unfold Ids
  rw [e1, e2]
  exact h
theorem Ids.aheadF : ∀ (f : Nat) (m : Sc), Ids m → Ids (askAheadF f m)
  | 0, _, h => h
  | f + 1, m, h => by
    unfold askAheadF
    cases m.ahead with
    | nil => exact h
    | cons p r =>
      simp only
      split
      · exact Ids.aheadF f _ (Ids.ask (m := { m with ahead := r, opened := m.opened + 1 }) h _)
      · exact h
theorem Ids.whole {m : Sc} (h : Ids m) (aim : Aim) (data : List UInt8) : Ids (wholeCame m aim data) := by
  cases aim with
  | tail =>
    show Ids (tailCame m data)
    unfold tailCame
    cases readTail data m.size with
    | none => exact Ids.ended 2
    | some n => exact h.ask _
  | footer =>
    show Ids (footerCame m data)
    unfold footerCame
    cases readFooter data (m.size - 6 - data.length) with
    | none => exact Ids.ended 2
    | some f =>
      simp only
      cases columns f.names m.want with
      | none => exact Ids.ended 3
      | some cols =>
        simp only
        split
        · exact Ids.ended 1
        · exact Ids.aheadF _ _ (h.same rfl rfl)
  | piece p =>
    show Ids (pieceCame m p data)
    unfold pieceCame
    cases putsF p data p.pages m.rows with
    | none => exact Ids.ended 2
    | some r => exact Ids.aheadF _ _ (h.same rfl rfl)
theorem Ids.failed {m : Sc} (h : Ids m) (p : Part) : Ids (partFailed m p) := by
  unfold partFailed
  split
  · exact Ids.ended 4
  · exact h.same rfl rfl
theorem Ids.fail {m : Sc} (h : Ids m) (id : Int) : Ids (Pl.fail m id).1 := by
  unfold Pl.fail
  cases findId m.asked id with
  | none => exact h
  | some i => exact (h.take i).failed _
theorem Ids.answer {m : Sc} (h : Ids m) (id : Int) (l : List UInt8) : Ids (Pl.answer m id l).1 := by
  unfold Pl.answer
  cases findId m.asked id with
  | none => exact h
  | some i =>
    simp only
    split
    · exact h
    · split
      · exact h.fail id
      · unfold Pl.partCame
        simp only
        split
        · exact (h.take i).ask _
        · exact (h.take i).whole _ _
theorem Ids.tick {m : Sc} (h : Ids m) : Ids (Pl.tick m) := by
  have : ∀ (l : List (Nat × Part)) (m : Sc) (s : List (Nat × Part)), Ids m → Ids (l.foldl tickS (m, s)).1 := by
    intro l
    induction l with
    | nil => intro m s h; exact h
    | cons q l ih =>
      intro m s h
      rw [List.foldl_cons]
      unfold tickS
      split
      · exact ih m _ h
      · exact ih _ _ (h.ask _)
  unfold Pl.tick
  exact (this m.waiting m [] h).same rfl rfl
theorem Ids.next {m : Sc} (h : Ids m) : Ids (Pl.next m).1 := by
  unfold Pl.next
  obtain ⟨a, r', he⟩ : ∃ a r', rwNext m.rows m.nrows = (a, r') := ⟨_, _, rfl⟩
  rw [he]
  cases a with
  | none => exact h
  | some l =>
    simp only
    split
    · exact Ids.ended 1
    · exact h.same rfl rfl
theorem Ids.open (size : Nat) (want : List (List UInt8)) (w t r g : Nat) : Ids (openSc size want w t r g) := by
  unfold openSc
  split
  · exact Ids.ended 2
  · exact Ids.ask ⟨List.Pairwise.nil, fun q hq => by cases hq⟩ _
/-- as many as the window has room for -/
theorem Going.window {m : Sc} {N : Nat} (h : Going m N) (hw : 1 ≤ m.win) : m.asked.length ≤ m.win := by
  have hl : m.asked.length ≤ (partsOf m).length := by unfold partsOf; simp
  by_cases hx : ∃ x ∈ partsOf m, isPiece x.aim = false
  · have := (h.core.first hx).1; omega
  · have : (partsOf m).filter (fun x => isPiece x.aim) = partsOf m := List.filter_eq_self.2 (fun x hxL => by
      cases e : isPiece x.aim with
      | true => rfl
      | false => exact absurd ⟨x, hxL, e⟩ hx)
    have h1 := h.core.opened
    rw [this] at h1
    have := h.core.openw
    omega
end Go.Proofs.YthicgffppmbamaaGreat

namespace Go.Proofs.YthicgffppmbamaaGreat
open Pl
structure Within (m : Sc) : Prop where
  asked : ∀ q ∈ m.asked, q.2.place + q.2.length ≤ m.size
  waiting : ∀ q ∈ m.waiting, q.2.place + q.2.length ≤ m.size
  ahead : ∀ p ∈ m.ahead, p.place + p.length ≤ m.size
theorem Within.ended (why : Nat) : Within (ended why) := ⟨(fun q hq => by cases hq), (fun q hq => by cases hq), (fun q hq => by cases hq)⟩
theorem Within.ask {m : Sc} (h : Within m) (p : Part) (hp : p.place + p.length ≤ m.size) : Within (Pl.ask m p) := by
  refine ⟨fun q hq => ?_, h.waiting, h.ahead⟩
  rcases List.mem_append.1 hq with hq | hq
  · exact h.asked q hq
  · simp at hq
    subst hq
    exact hp
theorem Within.take {m : Sc} (h : Within m) (i : Nat) : Within (takeAt m i) := ⟨fun q hq => h.asked q ((List.eraseIdx_sublist m.asked i).subset hq), h.waiting, h.ahead⟩
theorem Within.aheadF : ∀ (f : Nat) (m : Sc), Within m → Within (askAheadF f m)
  | 0, _, h => h
  | f + 1, m, h => by
    unfold askAheadF
    cases ha : m.ahead with
    | nil => exact h
    | cons p r =>
      simp only
      split
      · have hp := h.ahead p (by rw [ha]; simp)
        exact Within.aheadF f _ (Within.ask (m := { m with ahead := r, opened := m.opened + 1 }) ⟨h.asked, h.waiting, fun q hq => h.ahead q (by rw [ha]; exact List.mem_cons_of_mem _ hq)⟩ _ hp)
      · exact h
theorem Within.whole {m : Sc} (h : Within m) (aim : Aim) (data : List UInt8) (hf : aim = .footer → data.length + 10 ≤ m.size) : Within (wholeCame m aim data) := by
  cases aim with
  | tail =>
    show Within (tailCame m data)
    unfold tailCame
    cases hr : readTail data m.size with
    | none => exact Within.ended 2
    | some n =>
      unfold readTail at hr
      split at hr
      · rename_i hc
        simp only [Option.some.injEq] at hr
        obtain ⟨-, -, c1, c2⟩ := hc
        rw [hr] at c1 c2
        exact h.ask _ (by simp only; omega)
      · cases hr
  | footer =>
    have hf := hf rfl
    show Within (footerCame m data)
    unfold footerCame
    cases hr : readFooter data (m.size - 6 - data.length) with
    | none => exact Within.ended 2
    | some f =>
      simp only
      have hfo := readFooter_ok data _ (by omega) f hr
      cases hc : columns f.names m.want with
      | none => exact Within.ended 3
      | some cols =>
        simp only
        obtain ⟨c1, c2, c3, c4⟩ := columns_ok _ _ _ hc
        split
        · exact Within.ended 1
        · refine Within.aheadF _ _ ⟨h.asked, h.waiting, fun p hp => ?_⟩
          have := (piecesOf_ok m.gap (m.size - 6 - data.length) cols f.names.length f.groups hfo.groups c3 f.groups.length (Nat.le_refl _) p hp).1.ends
          show p.place + p.length ≤ m.size
          omega
  | piece p =>
    show Within (pieceCame m p data)
    unfold pieceCame
    cases putsF p data p.pages m.rows with
    | none => exact Within.ended 2
    | some r => exact Within.aheadF _ _ ⟨h.asked, h.waiting, h.ahead⟩
theorem Within.part {m : Sc} (h : Within m) (i : Nat) (hi : i < m.asked.length) : (Pl.partAt m i).place + (Pl.partAt m i).length ≤ m.size := by
  have : Pl.partAt m i = (m.asked[i]).2 := by unfold Pl.partAt; rw [List.getD_eq_getElem?_getD, List.getElem?_eq_getElem hi]; rfl
  rw [this]
  exact h.asked _ (List.getElem_mem hi)
theorem Within.fail {m : Sc} (h : Within m) (id : Int) : Within (Pl.fail m id).1 := by
  unfold Pl.fail
  cases hi : findId m.asked id with
  | none => exact h
  | some i =>
    simp only
    unfold partFailed
    split
    · exact Within.ended 4
    · refine ⟨(h.take i).asked, fun q hq => ?_, h.ahead⟩
      rcases List.mem_append.1 hq with hq | hq
      · exact h.waiting q hq
      · simp at hq
        subst hq
        exact h.part i (findId_lt hi)
theorem Within.answer {m : Sc} {N : Nat} (h : Within m) (hg : Good m N) (id : Int) (l : List UInt8) : Within (Pl.answer m id l).1 := by
  unfold Pl.answer
  cases hi : findId m.asked id with
  | none => exact h
  | some i =>
    simp only
    by_cases h1 : (Pl.partAt m i).length - (Pl.partAt m i).data.length < l.length
    · rw [if_pos h1]; exact h
    · rw [if_neg h1]
      by_cases h2 : l.length = 0
      · rw [if_pos h2]; exact h.fail id
      · rw [if_neg h2]
        unfold Pl.partCame
        simp only
        by_cases h3 : (Pl.partAt m i).data.length + l.length < (Pl.partAt m i).length
        · rw [if_pos h3]
          exact (h.take i).ask _ (h.part i (findId_lt hi))
        · rw [if_neg h3]
          rcases hg with ⟨why, -, -, rfl⟩ | hg
          · have := findId_lt hi
            exact absurd this (by show ¬ i < 0; omega)
          · have hp := (hg.taken i (findId_lt hi)).2
            refine (h.take i).whole _ _ (fun e => ?_)
            have := hp.footer e
            have hd := hp.data
            show ((Pl.partAt m i).data ++ l).length + 10 ≤ m.size
            rw [List.length_append]
            omega
theorem Within.tick {m : Sc} (h : Within m) : Within (Pl.tick m) := by
  have : ∀ (l : List (Nat × Part)) (m : Sc) (s : List (Nat × Part)), Within m → (∀ q ∈ l, q.2.place + q.2.length ≤ m.size) → (∀ q ∈ s, q.2.place + q.2.length ≤ m.size) → Within (l.foldl tickS (m, s)).1 ∧ (l.foldl tickS (m, s)).1.size = m.size ∧ ∀ q ∈ (l.foldl tickS (m, s)).2, q.2.place + q.2.length ≤ m.size := by
    intro l
    induction l with
    | nil => intro m s h _ hs; exact ⟨h, rfl, hs⟩
    | cons q l ih =>
      intro m s h hl hs
      rw [List.foldl_cons]
      by_cases h1 : 1 < q.1
      · have e : tickS (m, s) q = (m, s ++ [(q.1 - 1, q.2)]) := by unfold tickS; rw [if_pos h1]
        rw [e]
        refine ih m _ h (fun y hy => hl y (by simp [hy])) (fun y hy => ?_)
        rcases List.mem_append.1 hy with hy | hy
        · exact hs y hy
        · simp at hy
          subst hy
          exact hl q (by simp)
      · have e : tickS (m, s) q = (Pl.ask m q.2, s) := by unfold tickS; rw [if_neg h1]
        rw [e]
        exact ih (Pl.ask m q.2) s (h.ask _ (hl q (by simp))) (fun y hy => hl y (by simp [hy])) hs
  obtain ⟨a, b, c⟩ := this m.waiting m [] h h.waiting (fun q hq => by cases hq)
  unfold Pl.tick
  exact ⟨a.asked, fun q hq => Nat.le_trans (c q hq) (Nat.le_of_eq b.symm), a.ahead⟩
theorem Within.next {m : Sc} (h : Within m) : Within (Pl.next m).1 := by
  unfold Pl.next
  obtain ⟨a, r', he⟩ : ∃ a r', rwNext m.rows m.nrows = (a, r') := ⟨_, _, rfl⟩
  rw [he]
  cases a with
  | none => exact h
  | some l =>
    simp only
    split
    · exact Within.ended 1
    · exact ⟨h.asked, h.waiting, h.ahead⟩
theorem Within.open (size : Nat) (want : List (List UInt8)) (w t r g : Nat) : Within (openSc size want w t r g) := by
  unfold openSc
  by_cases hs : size < 10
  · rw [if_pos hs]; exact Within.ended 2
  · rw [if_neg hs]
    exact Within.ask ⟨(fun q hq => by cases hq), (fun q hq => by cases hq), (fun q hq => by cases hq)⟩ _ (by show size - 6 + 6 ≤ size; omega)
end Go.Proofs.YthicgffppmbamaaGreat

namespace Go.Proofs.YthicgffppmbamaaGreat
open Pl

structure Mo0 (m : Sc) (L : List Part) (w t r F : Nat) : Prop where
  set : m.state = 0 → m.win = w ∧ m.tries = t ∧ m.nrows = r
  st4 : m.state = 4 → t ≤ F
  no5 : m.state ≠ 5
  fails : ∀ x ∈ L, x.failures ≤ F
  live : m.state = 0 → (∃ x ∈ L, isPiece x.aim = false) ∨ 1 ≤ m.rows.left
def Mo (m : Sc) (w t r F : Nat) : Prop := Mo0 m (partsOf m) w t r F ∧ (m.ahead = [] ∨ m.win ≤ m.opened)
theorem Mo.ended {why w t r F : Nat} (h0 : why ≠ 0) (h4 : why = 4 → t ≤ F) (h5 : why ≠ 5) : Mo (Pl.ended why) w t r F :=
  ⟨⟨fun e => absurd e h0, h4, h5, (fun x hx => by cases hx), fun e => absurd e h0⟩, .inl rfl⟩
section
variable {m : Sc} {L L' : List Part} {w t r F : Nat}
theorem Mo0.perm (h : Mo0 m L w t r F) (hp : L.Perm L') : Mo0 m L' w t r F := ⟨h.set, h.st4, h.no5, fun x hx => h.fails x (hp.mem_iff.2 hx), fun e => (h.live e).imp (fun ⟨x, hx, q⟩ => ⟨x, hp.mem_iff.1 hx, q⟩) id⟩
theorem Mo0.swap {x x' : Part} {F' : Nat} (h : Mo0 m (x :: L) w t r F) (ha : x'.aim = x.aim) (hf : x'.failures ≤ F') (hF : F ≤ F') : Mo0 m (x' :: L) w t r F' := by
  refine ⟨h.set, fun e => Nat.le_trans (h.st4 e) hF, h.no5, fun y hy => ?_, fun e => (h.live e).imp (fun ⟨y, hy, q⟩ => ?_) id⟩
  · rcases List.mem_cons.1 hy with rfl | hy
    · exact hf
    · exact Nat.le_trans (h.fails y (List.mem_cons_of_mem _ hy)) hF
  · rcases List.mem_cons.1 hy with rfl | hy
    · exact ⟨x', by simp, by rw [ha]; exact q⟩
    · exact ⟨y, List.mem_cons_of_mem _ hy, q⟩
end
theorem Mo0.aheadF {w t r F : Nat} : ∀ (f : Nat) (m : Sc), m.ahead.length ≤ f → Mo0 m (partsOf m) w t r F → Mo (askAheadF f m) w t r F
  | 0, _, hl, h => ⟨h, .inl (List.eq_nil_of_length_eq_zero (Nat.le_zero.1 hl))⟩
  | f + 1, m, hl, h => by
    unfold askAheadF
    cases ha : m.ahead with
    | nil => exact ⟨h, .inl ha⟩
    | cons p r' =>
      simp only
      by_cases hw : m.opened < m.win
      · rw [if_pos hw]
        refine Mo0.aheadF f _ (by rw [ha] at hl; show r'.length ≤ f; simpa using hl) ?_
        refine Mo0.perm (L := partsOf m ++ [⟨p.place, p.length, [], 0, .piece p⟩]) ⟨h.set, h.st4, h.no5, fun x hx => ?_, fun e => (h.live e).imp (fun ⟨x, hx, q⟩ => ⟨x, List.mem_append.2 (.inl hx), q⟩) id⟩ (partsOf_ask { m with ahead := r', opened := m.opened + 1 } _)
        rcases List.mem_append.1 hx with hx | hx
        · exact h.fails x hx
        · simp at hx
          subst hx
          exact Nat.zero_le _
      · rw [if_neg hw]
        exact ⟨h, .inr (by omega)⟩
theorem putsF_left {p : Piece} {data : List UInt8} : ∀ (pages : List WPage) (r r' : Rw), putsF p data pages r = some r' → r'.left = r.left
  | [], r, r', h => by unfold putsF at h; cases h; rfl
  | x :: t, r, r', h => by
    unfold putsF at h
    cases hl : readW p x data with
    | none => rw [hl] at h; cases h
    | some l =>
      rw [hl] at h
      exact putsF_left t (rwPut r x.group x.column l) r' h
def wt : Aim → Nat
  | .tail => 26
  | .footer => 25
  | .piece _ => 1
/-- how many parts are to come, at most -/
def Pw (m : Sc) (L : List Part) : Nat := (L.map fun x => wt x.aim).sum + m.ahead.length
def Ww (m : Sc) : Nat := (m.waiting.map (·.1)).sum
theorem Pw_perm {m : Sc} {L L' : List Part} (h : L.Perm L') : Pw m L = Pw m L' := by unfold Pw; rw [(h.map _).sum_nat]
theorem Pw_aheadF : ∀ (f : Nat) (m : Sc), Pw (askAheadF f m) (partsOf (askAheadF f m)) = Pw m (partsOf m) ∧ (askAheadF f m).waiting = m.waiting
  | 0, _ => ⟨rfl, rfl⟩
  | f + 1, m => by
    unfold askAheadF
    cases ha : m.ahead with
    | nil => exact ⟨rfl, rfl⟩
    | cons p r =>
      simp only
      by_cases hw : m.opened < m.win
      · rw [if_pos hw]
        obtain ⟨h1, h2⟩ := Pw_aheadF f (fetch { m with ahead := r, opened := m.opened + 1 } p.place p.length (.piece p))
        refine ⟨?_, h2⟩
        rw [h1]
        have := Pw_perm (m := fetch { m with ahead := r, opened := m.opened + 1 } p.place p.length (.piece p)) (partsOf_ask { m with ahead := r, opened := m.opened + 1 } ⟨p.place, p.length, [], 0, .piece p⟩)
        refine this.symm.trans ?_
        unfold Pw
        rw [List.map_append, List.sum_append]
        show ((partsOf m).map fun x => wt x.aim).sum + (1 + 0) + r.length = _ + m.ahead.length
        rw [ha, List.length_cons]
        omega
      · rw [if_neg hw]
        exact ⟨rfl, rfl⟩
section
variable {m : Sc} {x : Part} {N w t r F : Nat}
/-- a whole part has come -/
theorem Mo0.whole (h : Mo0 m (x :: partsOf m) w t r F) (hc : Core m (x :: partsOf m) N) (data : List UInt8) (hd : data.length = x.length) : Mo (wholeCame m x.aim data) w t r F ∧ ((wholeCame m x.aim data).state = 0 → Pw (wholeCame m x.aim data) (partsOf (wholeCame m x.aim data)) + 1 ≤ Pw m (x :: partsOf m) ∧ (wholeCame m x.aim data).waiting = m.waiting) := by
  have hx := hc.parts x (by simp)
  cases ha : x.aim with
  | tail =>
    obtain ⟨hL, hah, -⟩ := hc.alone (by rw [ha]; rfl)
    show Mo (tailCame m data) w t r F ∧ ((tailCame m data).state = 0 → Pw (tailCame m data) (partsOf (tailCame m data)) + 1 ≤ Pw m (x :: partsOf m) ∧ (tailCame m data).waiting = m.waiting)
    unfold tailCame
    cases readTail data m.size with
    | none => exact ⟨Mo.ended (by decide) (fun e => by cases e) (by decide), fun e => by cases e⟩
    | some n =>
      have hp : partsOf (fetch m (m.size - 6 - n) n .footer) = [⟨m.size - 6 - n, n, [], 0, .footer⟩] := by
        have := List.perm_singleton.1 ((partsOf_ask m ⟨m.size - 6 - n, n, [], 0, .footer⟩).symm.trans (by rw [hL]; exact .refl _))
        exact this
      refine ⟨⟨⟨h.set, h.st4, h.no5, ?_, fun _ => .inl ?_⟩, .inl hah⟩, fun _ => ⟨?_, rfl⟩⟩
      · simp only [hp]; intro y hy; simp at hy; subst hy; exact Nat.zero_le _
      · simp only [hp]; exact ⟨_, List.mem_singleton.2 rfl, rfl⟩
      · simp only [hp]
        show 25 + 0 + m.ahead.length + 1 ≤ _
        unfold Pw
        rw [List.map_cons, List.sum_cons, ha, hah]
        show _ ≤ 26 + _ + 0
        simp only [List.length_nil]
        omega
  | footer =>
    obtain ⟨hL, hah, hop⟩ := hc.alone (by rw [ha]; rfl)
    have hfl := hx.footer ha
    have hsz := hc.size
    show Mo (footerCame m data) w t r F ∧ ((footerCame m data).state = 0 → Pw (footerCame m data) (partsOf (footerCame m data)) + 1 ≤ Pw m (x :: partsOf m) ∧ (footerCame m data).waiting = m.waiting)
    unfold footerCame
    cases hr : readFooter data (m.size - 6 - data.length) with
    | none => exact ⟨Mo.ended (by decide) (fun e => by cases e) (by decide), fun e => by cases e⟩
    | some f =>
      simp only
      have hfo := readFooter_ok data _ (by omega) f hr
      cases hcc : columns f.names m.want with
      | none => exact ⟨Mo.ended (by decide) (fun e => by cases e) (by decide), fun e => by cases e⟩
      | some cols =>
        simp only
        obtain ⟨c1, c2, c3, c4⟩ := columns_ok _ _ _ hcc
        have hwant := hc.want
        split
        · exact ⟨Mo.ended (by decide) (fun e => by cases e) (by decide), fun e => by cases e⟩
        · rename_i hne
          have hpn : partsOf { m with rows := rwNew cols.length (f.groups.map (·.rows)), ahead := piecesOf m.gap cols f.groups } = [] := hL
          have hlen := (piecesTo_few m.gap cols f.groups f.groups.length).1
          have h24 : f.groups.length * cols.length ≤ 6 * 4 := Nat.mul_le_mul hfo.count (by omega)
          obtain ⟨p1, p2⟩ := Pw_aheadF (piecesOf m.gap cols f.groups).length { m with rows := rwNew cols.length (f.groups.map (·.rows)), ahead := piecesOf m.gap cols f.groups }
          refine ⟨Mo0.aheadF _ _ (Nat.le_refl _) ⟨h.set, h.st4, h.no5, (by rw [hpn]; intro y hy; cases hy), fun _ => .inr ?_⟩, fun _ => ⟨?_, p2⟩⟩
          · show 1 ≤ (f.groups.map (·.rows)).sum
            cases hg : f.groups with
            | nil => rw [hg] at hne; exact absurd rfl hne
            | cons G R =>
              have := (hfo.groups G (by rw [hg]; simp)).rows1
              simp only [List.map_cons, List.sum_cons]
              omega
          · refine Nat.le_trans (Nat.succ_le_succ (Nat.le_of_eq p1)) ?_
            rw [hpn]
            show 0 + (piecesTo _ _ _ _).length + 1 ≤ _
            unfold Pw
            rw [List.map_cons, List.sum_cons, ha, hah]
            show _ ≤ 25 + _ + 0
            omega
  | piece p =>
    show Mo (pieceCame m p data) w t r F ∧ ((pieceCame m p data).state = 0 → Pw (pieceCame m p data) (partsOf (pieceCame m p data)) + 1 ≤ Pw m (x :: partsOf m) ∧ (pieceCame m p data).waiting = m.waiting)
    unfold pieceCame
    cases hr : putsF p data p.pages m.rows with
    | none => exact ⟨Mo.ended (by decide) (fun e => by cases e) (by decide), fun e => by cases e⟩
    | some r' =>
      simp only
      obtain ⟨p1, p2⟩ := Pw_aheadF m.ahead.length { m with rows := r', opened := m.opened - 1 }
      refine ⟨Mo0.aheadF _ _ (Nat.le_refl _) ⟨h.set, h.st4, h.no5, fun y hy => h.fails y (List.mem_cons_of_mem _ hy), fun e => ?_⟩, fun _ => ⟨?_, p2⟩⟩
      · rcases h.live e with ⟨y, hy, q⟩ | hl
        · rcases List.mem_cons.1 hy with rfl | hy
          · rw [ha] at q; cases q
          · exact .inl ⟨y, hy, q⟩
        · right
          have := putsF_left _ _ _ hr
          show 1 ≤ r'.left
          omega
      · refine Nat.le_trans (Nat.succ_le_succ (Nat.le_of_eq p1)) ?_
        show ((partsOf m).map fun x => wt x.aim).sum + m.ahead.length + 1 ≤ _
        unfold Pw
        rw [List.map_cons, List.sum_cons, ha]
        show _ ≤ 1 + _ + _
        omega
end
end Go.Proofs.YthicgffppmbamaaGreat
