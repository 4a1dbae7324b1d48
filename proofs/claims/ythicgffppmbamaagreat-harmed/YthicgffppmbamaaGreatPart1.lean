/- Plain, Base, Read, OpenA, PlainB, PlainM, KsPlain, Late, LateN, OwnG, ReadP, Check, Check2, Check3, Check4, Lent0. -/
import Derived.Test.YthicgffppmbamaaGreatProg
import Derived.WalkKit
import Derived.Deep.Upon
import Derived.Deep.Draws
import Derived.Deep.Slices
import Derived.SizedLaws
import Derived.ProofKit
import Derived.OrdersHeld
import Derived.StillTail
import Derived.Deep.DeepMust
import Derived.Laws.CopyOwn
namespace Go.Proofs.YthicgffppmbamaaGreat.Pl

def vintF : Nat → Nat → List UInt8
  | 0, n => [UInt8.ofNat n]
  | f + 1, n => if n < 128 then [UInt8.ofNat n] else UInt8.ofNat (n % 128 + 128) :: vintF f (n / 128)

theorem vintF_eq (f : Nat) : ∀ g n, n ≤ f → n ≤ g → vintF f n = vintF g n := by
  induction f with
  | zero =>
    intro g n h1 h2
    obtain rfl : n = 0 := by omega
    cases g <;> simp [vintF]
  | succ f ih =>
    intro g n h1 h2
    cases g with
    | zero => obtain rfl : n = 0 := by omega
              simp [vintF]
    | succ g =>
      simp only [vintF]
      by_cases h : n < 128
      · simp [h]
      · simp only [h, if_false]
        rw [ih g (n / 128) (by omega) (by omega)]

def vint (n : Nat) : List UInt8 := vintF n n

theorem vint_lt (n : Nat) (h : n < 128) : vint n = [UInt8.ofNat n] := by
  unfold vint
  cases n <;> simp [vintF, h]

theorem vint_ge (n : Nat) (h : 128 ≤ n) : vint n = UInt8.ofNat (n % 128 + 128) :: vint (n / 128) := by
  unfold vint
  cases n with
  | zero => omega
  | succ m =>
    simp only [vintF, show ¬ (m + 1 < 128) by omega, if_false]
    rw [vintF_eq m ((m + 1) / 128) ((m + 1) / 128) (by omega) (by omega)]

theorem vint_len (k : Nat) : ∀ n, n < 128 ^ (k + 1) → (vint n).length ≤ k + 1 := by
  induction k with
  | zero => intro n h; rw [vint_lt n (by simpa using h)]; simp
  | succ k ih =>
    intro n h
    by_cases h1 : n < 128
    · rw [vint_lt n h1]; simp
    · rw [vint_ge n (by omega)]
      have := ih (n / 128) (by rw [Nat.pow_succ] at h; omega)
      simp; omega

theorem vint_pos (n : Nat) : 1 ≤ (vint n).length := by
  by_cases h : n < 128
  · rw [vint_lt n h]; simp
  · rw [vint_ge n (by omega)]; simp

/-- one step of the sum -/
def sumStep (h : Nat) (b : UInt8) : Nat := ((h ^^^ b.toNat) * 16777619) % 4294967296
def sumFrom (h : Nat) : List UInt8 → Nat
  | [] => h
  | b :: r => sumFrom (sumStep h b) r
theorem sumFrom_snoc (l : List UInt8) (b : UInt8) : ∀ h, sumFrom h (l ++ [b]) = sumStep (sumFrom h l) b := by
  induction l with
  | nil => intro h; rfl
  | cons c r ih => intro h; exact ih _
theorem sumStep_lt (h : Nat) (b : UInt8) : sumStep h b < 4294967296 := by
  unfold sumStep
  exact Nat.mod_lt _ (by omega)
theorem sumFrom_lt (l : List UInt8) : ∀ h, h < 4294967296 → sumFrom h l < 4294967296 := by
  induction l with
  | nil => intro h hh; exact hh
  | cons c r ih => intro h _; exact ih _ (sumStep_lt _ _)
def sumOf (l : List UInt8) : Nat := sumFrom 2166136261 l
theorem sumOf_lt (l : List UInt8) : sumOf l < 4294967296 := by
  unfold sumOf
  exact sumFrom_lt l _ (by omega)
def bytes4 (h : Nat) : List UInt8 :=
  [UInt8.ofNat (h / 16777216), UInt8.ofNat (h / 65536 % 256), UInt8.ofNat (h / 256 % 256), UInt8.ofNat (h % 256)]
def sum4 (l : List UInt8) : List UInt8 := bytes4 (sumOf l)
theorem sum4_len (l : List UInt8) : (sum4 l).length = 4 := by
  unfold sum4 bytes4
  simp only [List.length_cons, List.length_nil]

/-- the three kinds of pages, without the kind's byte -/
def plain (l : List Int) : List UInt8 := l.flatMap fun x => vint x.toNat
theorem plain_snoc (l : List Int) (x : Int) : plain (l ++ [x]) = plain l ++ vint x.toNat := by simp [plain]

/-- how many values at the head are x -/
def runLen (x : Int) : List Int → Nat
  | [] => 0
  | y :: r => if y = x then runLen x r + 1 else 0
theorem runLen_le (x : Int) (l : List Int) : runLen x l ≤ l.length := by
  induction l with
  | nil => simp [runLen]
  | cons y r ih => simp only [runLen]; split <;> simp <;> omega

def runsF : Nat → List Int → List UInt8
  | 0, _ => []
  | _ + 1, [] => []
  | f + 1, x :: r => vint (runLen x r + 1) ++ vint x.toNat ++ runsF f (r.drop (runLen x r))
theorem runsF_eq (f : Nat) : ∀ g l, l.length ≤ f → l.length ≤ g → runsF f l = runsF g l := by
  induction f with
  | zero => intro g l h1 h2
            obtain rfl : l = [] := List.eq_nil_of_length_eq_zero (by omega)
            cases g <;> simp [runsF]
  | succ f ih =>
    intro g l h1 h2
    cases l with
    | nil => cases g <;> simp [runsF]
    | cons x r =>
      cases g with
      | zero => simp at h2
      | succ g =>
        simp only [runsF]
        rw [ih g _ (by simp at *; omega) (by simp at *; omega)]
def runs (l : List Int) : List UInt8 := runsF l.length l
theorem runs_nil : runs [] = [] := rfl
theorem runs_cons (x : Int) (r : List Int) : runs (x :: r) = vint (runLen x r + 1) ++ vint x.toNat ++ runs (r.drop (runLen x r)) := by
  show runsF (r.length + 1) (x :: r) = _
  simp only [runsF]
  rw [runsF_eq r.length (r.drop (runLen x r)).length _ (by simp) (Nat.le_refl _)]
  rfl

/-- is no value below the one ahead of it? -/
def rises : Int → List Int → Bool
  | _, [] => true
  | a, x :: r => decide (a ≤ x) && rises x r
def rising : Int → List Int → List UInt8
  | _, [] => []
  | a, x :: r => vint (x - a).toNat ++ rising x r

/-- the shortest page -/
def page (l : List Int) : List UInt8 :=
  let p0 := (0 : UInt8) :: plain l
  let p1 := (1 : UInt8) :: runs l
  let p2 := (2 : UInt8) :: rising 0 l
  let b1 := if p1.length < p0.length then p1 else p0
  if rises 0 l = true ∧ p2.length < b1.length then p2 else b1

/-- a writer's two rows, a page more -/
def addP (st : List UInt8 × List UInt8) (xs : List Int) : List UInt8 × List UInt8 :=
  (st.1 ++ page xs, st.2 ++ vint st.1.length ++ vint (page xs).length ++ sum4 (page xs))
def addPs (st : List UInt8 × List UInt8) : List (List Int) → List UInt8 × List UInt8
  | [] => st
  | x :: r => addPs (addP st x) r
theorem addPs_snoc (l : List (List Int)) (x : List Int) : ∀ st, addPs st (l ++ [x]) = addP (addPs st l) x := by
  induction l with
  | nil => intro st; rfl
  | cons y r ih => intro st; exact ih _
def addG (st : List UInt8 × List UInt8) (g : List (List Int)) : List UInt8 × List UInt8 := addPs (st.1, st.2 ++ vint (g.getD 0 []).length) g
def addGs (st : List UInt8 × List UInt8) : List (List (List Int)) → List UInt8 × List UInt8
  | [] => st
  | g :: r => addGs (addG st g) r
theorem addGs_snoc (l : List (List (List Int))) (x : List (List Int)) : ∀ st, addGs st (l ++ [x]) = addG (addGs st l) x := by
  induction l with
  | nil => intro st; rfl
  | cons y r ih => intro st; exact ih _

/-- names in a footer -/
def nameBytes (ss : List (List UInt8)) : List UInt8 := ss.flatMap fun s => vint s.length ++ s
theorem nameBytes_snoc (ss : List (List UInt8)) (s : List UInt8) : nameBytes (ss ++ [s]) = nameBytes ss ++ (vint s.length ++ s) := by simp [nameBytes]

def mark : List UInt8 := [67, 79, 76, 49]
/-- pages and footer of a table -/
def parts (names : List (List UInt8)) (gs : List (List (List Int))) : List UInt8 × List UInt8 :=
  addGs (mark, vint names.length ++ nameBytes names ++ vint gs.length) gs
def whole (p : List UInt8 × List UInt8) : List UInt8 := p.1 ++ p.2 ++ [UInt8.ofNat (p.2.length / 256), UInt8.ofNat (p.2.length % 256)] ++ mark

/-- may it be written? -/
def okName (s : List UInt8) : Bool := decide (1 ≤ s.length) && decide (s.length ≤ 8)
def okNames (ss : List (List UInt8)) : Bool := decide (1 ≤ ss.length) && decide (ss.length ≤ 4) && ss.all okName && decide (ss.Nodup)
def okVal (x : Int) : Bool := decide (0 ≤ x) && decide (x ≤ 1099511627775)
def okGroup (cols : Nat) (g : List (List Int)) : Bool :=
  decide (g.length = cols) && decide (1 ≤ (g.getD 0 []).length) && decide ((g.getD 0 []).length ≤ 20) && g.all fun l => decide (l.length = (g.getD 0 []).length) && l.all okVal
def okTable (names : List (List UInt8)) (gs : List (List (List Int))) : Bool := okNames names && decide (gs.length ≤ 6) && gs.all (okGroup names.length)

/-- a file, or that it is too long -/
def sealed (p : List UInt8 × List UInt8) : List UInt8 × Int := if (whole p).length ≤ 4000 then (whole p, 0) else ([], 1)
theorem sealed_le (p : List UInt8 × List UInt8) (h : (whole p).length ≤ 4000) : sealed p = (whole p, 0) := by unfold sealed; rw [if_pos h]
theorem sealed_gt (p : List UInt8 × List UInt8) (h : 4000 < (whole p).length) : sealed p = ([], 1) := by unfold sealed; rw [if_neg (by omega)]
/-- what Write answers -/
def write (names : List (List UInt8)) (gs : List (List (List Int))) : List UInt8 × Int :=
  if okTable names gs = true then sealed (parts names gs) else ([], 1)

end Go.Proofs.YthicgffppmbamaaGreat.Pl

namespace Go.Proofs.YthicgffppmbamaaGreat
open Go.RowKit

theorem hide {p : Prop} (h : p) : Hid p := h
theorem unhide {p : Prop} (h : Hid p) : p := h

/-- Of the blocks that were there all but those of S are as they were. -/
structure Kp (S : Nat → Prop) (w w' : World) : Prop where
  os : w'.os = w.os
  tape : w'.tape = w.tape
  output : w'.output = w.output
  size : w.heap.size ≤ w'.heap.size
  block : ∀ k, k < w.heap.size → ¬ S k → w'.heap[k]? = w.heap[k]?

/-- Nothing that was there has turned. -/
abbrev Ext (w w' : World) : Prop := Kp (fun _ => False) w w'
/-- the blocks of one value -/
abbrev Of (v : Value) : Nat → Prop := fun k => v.ownBlock = some k
/-- the blocks from B on -/
abbrev From (B : Nat) : Nat → Prop := fun k => B ≤ k

theorem Kp.refl (S : Nat → Prop) (w : World) : Kp S w w := ⟨rfl, rfl, rfl, Nat.le_refl _, fun _ _ _ => rfl⟩
theorem Kp.mono {S S' : Nat → Prop} {w w' : World} (h : Kp S w w') (hs : ∀ k, k < w.heap.size → S k → S' k) : Kp S' w w' :=
  ⟨h.os, h.tape, h.output, h.size, fun k hk hn => h.block k hk (fun hS => hn (hs k hk hS))⟩
theorem Kp.trans {S : Nat → Prop} {a b c : World} (h : Kp S a b) (k : Kp S b c) : Kp S a c :=
  ⟨k.os.trans h.os, k.tape.trans h.tape, k.output.trans h.output, Nat.le_trans h.size k.size, fun i hi hn => (k.block i (Nat.lt_of_lt_of_le hi h.size) hn).trans (h.block i hi hn)⟩
theorem Kp.of_ext {S : Nat → Prop} {w w' : World} (h : Ext w w') : Kp S w w' := h.mono (fun _ _ f => f.elim)
theorem Kp.alloc {S : Nat → Prop} {a w : World} (h : Kp S a w) (o : Obj) : Kp S a (w.alloc o) :=
  h.trans ⟨rfl, rfl, rfl, by simp, fun k hk _ => Below.heap_alloc _ _ _ hk⟩
theorem Kp.drew {S : Nat → Prop} {a w : World} (h : Kp S a w) : Kp S a w.drew := ⟨h.os, h.tape, h.output, h.size, h.block⟩
theorem Kp.drewN {S : Nat → Prop} {a w : World} (h : Kp S a w) (n : Nat) : Kp S a (w.drewN n) := ⟨h.os, h.tape, h.output, h.size, h.block⟩
theorem Kp.setCell {S : Nat → Prop} {a w : World} (h : Kp S a w) {p : Addr} (hp : S p.block ∨ a.heap.size ≤ p.block) (u : Value) : Kp S a (w.setCell p u) := by
  refine ⟨h.os, h.tape, h.output, by simp [World.setCell]; exact h.size, fun k hk hn => ?_⟩
  rw [Below.heap_setCell _ _ _ _ (fun e => by subst e; rcases hp with hp | hp; exact hn hp; omega)]
  exact h.block k hk hn
theorem Kp.cell {S : Nat → Prop} {w w' : World} (h : Kp S w w') {a : Addr} {v : Value} (hc : w.cell? a = some v) (hn : ¬ S a.block) : w'.cell? a = some v :=
  (World.cell?_of_block (h.block a.block (World.block_lt_of_cell? w a hc) hn)).trans hc
theorem Kp.ext_after {S : Nat → Prop} {w w1 w2 : World} (h : Ext w w1) (k : Kp S w1 w2) : Kp S w w2 := (Kp.of_ext h).trans k
/-- what is written behind is new, or one of S -/
theorem Kp.then {S S' : Nat → Prop} {w w1 w2 : World} (h : Kp S w w1) (k : Kp S' w1 w2) (hs : ∀ i, i < w.heap.size → S' i → S i) : Kp S w w2 :=
  ⟨k.os.trans h.os, k.tape.trans h.tape, k.output.trans h.output, Nat.le_trans h.size k.size, fun i hi hn => (k.block i (Nat.lt_of_lt_of_le hi h.size) (fun e => hn (hs i hi e))).trans (h.block i hi hn)⟩
theorem Ext.below {w w' : World} (h : Ext w w') : Below w.heap.size w w' := ⟨h.os, h.tape, h.output, h.size, fun k hk => h.block k hk id⟩

/-- a byte as a cell -/
def B (b : UInt8) : Value := .int .u8 b.toNat
theorem B_one (bs : List UInt8) : ∀ u ∈ bs.map B, u.oneCell' = true := by
  intro u hu
  obtain ⟨_, _, rfl⟩ := List.mem_map.1 hu
  rfl

/-- v is a row of bytes of the call's own: it holds bs, and may be written. -/
def OwnB (w : World) (v : Value) (bs : List UInt8) : Prop :=
  (v = .slice none 0 0 ∧ bs = []) ∨ ∃ g cap, v = .slice (some ⟨g, 0, none⟩) bs.length cap ∧ bs.length ≤ cap ∧ cap ≤ maxLen ∧ g < w.heap.size ∧
    (∀ j, j < bs.length → w.cell? ⟨g, j, none⟩ = (bs.map B)[j]?) ∧ (∀ j, j < cap → (w.cell? ⟨g, j, none⟩).isSome = true ∧ w.frozen? ⟨g, j, none⟩ = false)

/-- where the value lies behind an append: where it lay, or in a new block -/
def Sep (w : World) (v v' : Value) : Prop := v'.ownBlock = v.ownBlock ∨ ∃ g, v'.ownBlock = some g ∧ w.heap.size ≤ g

theorem Sep.refl (w : World) (v : Value) : Sep w v v := .inl rfl
theorem Sep.trans {w w1 : World} {v v1 v2 : Value} (hz : w.heap.size ≤ w1.heap.size) (h : Sep w v v1) (k : Sep w1 v1 v2) : Sep w v v2 := by
  rcases k with k | ⟨g, k1, k2⟩
  · rcases h with h | ⟨g, h1, h2⟩
    · exact .inl (k.trans h)
    · exact .inr ⟨g, k.trans h1, h2⟩
  · exact .inr ⟨g, k1, by omega⟩
theorem Sep.mono {w w1 : World} {v v1 : Value} (hz : w.heap.size ≤ w1.heap.size) (k : Sep w1 v v1) : Sep w v v1 := Sep.trans hz (Sep.refl w v) k

theorem OwnB.kept {w w' : World} {S : Nat → Prop} {v : Value} {bs : List UInt8} (h : OwnB w v bs) (k : Kp S w w') (hn : ∀ g, v.ownBlock = some g → ¬ S g) : OwnB w' v bs := by
  rcases h with h | ⟨g, cap, rfl, h1, h2, h3, h4, h5⟩
  · exact .inl h
  · have e := k.block g h3 (hn g rfl)
    refine .inr ⟨g, cap, rfl, h1, h2, Nat.lt_of_lt_of_le h3 k.size, fun j hj => ?_, fun j hj => ?_⟩
    · rw [World.cell?_of_block (w := w) (a := ⟨g, j, none⟩) e]; exact h4 j hj
    · rw [World.cell?_of_block (w := w) (a := ⟨g, j, none⟩) e, World.frozen?_of_block (w := w) (a := ⟨g, j, none⟩) e]; exact h5 j hj
theorem OwnB.ext {w w' : World} {v : Value} {bs : List UInt8} (h : OwnB w v bs) (k : Ext w w') : OwnB w' v bs := h.kept k (fun _ _ f => f)
theorem OwnB.lt {w : World} {v : Value} {bs : List UInt8} (h : OwnB w v bs) {g : Nat} (hg : v.ownBlock = some g) : g < w.heap.size := by
  rcases h with ⟨rfl, _⟩ | ⟨g', cap, rfl, _, _, h3, _⟩
  · simp [Value.ownBlock] at hg
  · simp [Value.ownBlock] at hg; omega
theorem OwnB.shape {w : World} {v : Value} {bs : List UInt8} (h : OwnB w v bs) : ∃ ao cap, v = .slice ao bs.length cap := by
  rcases h with ⟨rfl, rfl⟩ | ⟨g', cap, rfl, _⟩
  · exact ⟨_, _, rfl⟩
  · exact ⟨_, _, rfl⟩
theorem OwnB.shape' {w : World} {v : Value} {bs : List UInt8} (h : OwnB w v bs) : ∃ ao n cap, v = .slice ao n cap ∧ Hid (n = bs.length) := by
  obtain ⟨ao, cap, rfl⟩ := h.shape
  exact ⟨_, _, _, rfl, rfl⟩
theorem OwnB.nil (w : World) : OwnB w (.slice none 0 0) [] := .inl ⟨rfl, rfl⟩

theorem info5 : (Tryz.prog.info? 5).map (fun i => (i.zero, i.size, i.bytes)) = some (some (.int .u8 0), 1, 1) := by kernel_rfl

/-- append onto a row of one's own, out of whatever source -/
theorem run_append_b (w : World) (v : Value) (bs : List UInt8) (hown : OwnB w v bs) (tx ty : TypeId) (x : Value) (n : Nat) (news : List UInt8) (hs : Src Tryz.prog 1 tx x n (news.map B) w) (hb : bs.length + n ≤ 1000000) :
    ∃ v' w', (Builtin.append_ #[76, tx] ty #[v, x]).run Tryz.prog w = .ok v' w' ∧ OwnB w' v' (bs ++ news) ∧ Kp (Of v) w w' ∧ Sep w v v' := by
  obtain ⟨i0, hi, hz0, hz1, hz2⟩ := info_parts info5
  have hs' : Src Tryz.prog i0.size tx x n (news.map B) w := by rw [hz1]; exact hs
  have hnl : news.length = n := by simpa using hs.newsLen
  have grow : ∀ (base : Option Addr) (cap : Nat), v = .slice base bs.length cap → cap < bs.length + n → (Builtin.firstCells i0.size bs.length (.slice base bs.length cap)).run Tryz.prog w.drew = .ok (bs.map B).toArray w.drew →
      ∃ v' w', (Builtin.append_ #[76, tx] ty #[v, x]).run Tryz.prog w = .ok v' w' ∧ OwnB w' v' (bs ++ news) ∧ Kp (Of v) w w' ∧ Sep w v v' := by
    rintro base cap rfl hg hold
    have hrun := run_append_grow_src (P := Tryz.prog) w 76 tx ty 5 i0 (.int .u8 0) Tryz.underlying76 hi hz0 base bs.length cap (bs.map B) hold x n (news.map B) hs' hg (by omega) (growslice_fits hg (by rw [hz2]; omega))
    have hge := grownCap_ge w (bs.length + n) cap 5
    have hcm := grownCap_le_maxLen w (bs.length + n) cap 5 (by unfold maxLen; omega)
    have hsz : ((bs.map B ++ news.map B).toArray ++ Builtin.zeroCells (Value.int .u8 0).cells (grownCap w (bs.length + n) cap 5 - (bs.length + n))).size = grownCap w (bs.length + n) cap 5 := by
      rw [Array.size_append, size_zeroCells]
      simp only [List.size_toArray, List.length_append, List.length_map, hnl]
      have : (Value.int .u8 0).cells.size = 1 := rfl
      rw [this]; omega
    refine ⟨_, _, hrun, .inr ⟨w.heap.size, _, by rw [List.length_append, hnl], by rw [List.length_append, hnl]; exact hge, hcm, by simp, fun j hj => ?_, fun j hj => ⟨?_, ?_⟩⟩, Kp.alloc (Kp.drew (Kp.refl _ _)) _, .inr ⟨_, rfl, Nat.le_refl _⟩⟩
    · have e1 := World.cell?_alloc_new w.drew ((bs.map B ++ news.map B).toArray ++ Builtin.zeroCells (Value.int .u8 0).cells (grownCap w (bs.length + n) cap 5 - (bs.length + n))) 5 j
      have e2 : w.drew.heap.size = w.heap.size := rfl
      rw [e2] at e1
      rw [e1, Array.getElem?_append_left (by simpa using hj), List.getElem?_toArray, List.map_append]
    · have e1 := World.cell?_alloc_new w.drew ((bs.map B ++ news.map B).toArray ++ Builtin.zeroCells (Value.int .u8 0).cells (grownCap w (bs.length + n) cap 5 - (bs.length + n))) 5 j
      have e2 : w.drew.heap.size = w.heap.size := rfl
      rw [e2] at e1
      rw [e1, Array.getElem?_eq_getElem (by rw [hsz]; exact hj)]
      rfl
    · exact World.frozen?_alloc_new w.drew _ _ j
  rcases hown with ⟨rfl, rfl⟩ | ⟨g, cap, rfl, h1, h2, h3, h4, h5⟩
  · by_cases hn : n = 0
    · subst hn
      obtain rfl : news = [] := List.eq_nil_of_length_eq_zero hnl
      exact ⟨_, _, run_append_nothing (P := Tryz.prog) w 76 tx ty 5 i0 Tryz.underlying76 hi none 0 0 (Nat.le_refl _) x hs', .inl ⟨rfl, rfl⟩, Kp.refl _ _, Sep.refl _ _⟩
    · exact grow none 0 rfl (by simp; omega) (run_firstCells_none w.drew _ _ _ _)
  · by_cases hfit : bs.length + n ≤ cap
    · have hrun := run_append_room_src (P := Tryz.prog) w 76 tx ty 5 i0 Tryz.underlying76 hi g 0 bs.length cap x n (news.map B) hs' hfit
        (fun j hj => by rw [hz1]; simp at hj ⊢; exact (h5 _ (by omega)).1) (fun j hj => by rw [hz1]; simp at hj ⊢; exact (h5 _ (by omega)).2)
      rw [hz1] at hrun
      simp only [Nat.zero_add, Nat.mul_one] at hrun
      refine ⟨_, _, hrun, .inr ⟨g, cap, by rw [List.length_append, hnl], by rw [List.length_append, hnl]; exact hfit, h2, ?_, fun j hj => ?_, fun j hj => ⟨?_, ?_⟩⟩, ?_, .inl rfl⟩
      · have := (World.keptBut_setCells g (may := fun _ => True) (news.map B) bs.length w (fun _ _ => trivial)).size
        omega
      · by_cases hj1 : j < bs.length
        · rw [World.cell?_setCells_out g _ _ _ _ (fun _ _ => Or.inl hj1), List.map_append, List.getElem?_append_left (by simpa using hj1)]
          exact h4 j hj1
        · have := World.cell?_setCells_in g (news.map B) bs.length w (fun j' hj' => (h5 _ (by simp at hj'; omega)).1) (j - bs.length) (by simp at hj ⊢; omega)
          rw [show bs.length + (j - bs.length) = j by omega] at this
          rw [this, List.map_append, List.getElem?_append_right (by simp; omega), List.getElem?_eq_getElem (by simp at hj ⊢; omega)]
          simp
      · by_cases hj1 : j < bs.length ∨ bs.length + n ≤ j
        · rw [World.cell?_setCells_out g _ _ _ _ (fun _ _ => by simp [hnl]; omega)]
          exact (h5 j hj).1
        · have := World.cell?_setCells_in g (news.map B) bs.length w (fun j' hj' => (h5 _ (by simp at hj'; omega)).1) (j - bs.length) (by simp at hj ⊢; omega)
          rw [show bs.length + (j - bs.length) = j by omega] at this
          rw [this]; rfl
      · rw [World.frozen?_setCells]; exact (h5 j hj).2
      · have hkb := World.keptBut_setCells g (may := fun _ => True) (news.map B) bs.length w (fun _ _ => trivial)
        refine ⟨World.os_setCells _ _ _ _, ?_, World.output_setCells _ _ _ _, hkb.size, fun k hk hn => World.heap_setCells_other _ _ _ _ hk (fun e => hn (by subst e; rfl))⟩
        have ht : ∀ (l : List Value) (o : Nat) (u : World), (u.setCells g o l).tape = u.tape := by
          intro l
          induction l with
          | nil => intro o u; rfl
          | cons y r ih => intro o u; rw [World.setCells, ih]; rfl
        exact ht _ _ _
    · refine grow (some ⟨g, 0, none⟩) cap rfl (by omega) ?_
      rw [hz1]
      exact run_firstCells_some w.drew 1 bs.length ⟨g, 0, none⟩ _ _ (bs.map B) (by simp) (fun j u hu => by
        have hj := (List.getElem?_eq_some_iff.1 hu).1
        simp at hj
        have := h4 j hj
        rw [hu] at this
        rw [Addr.add_lit, Nat.zero_add]; exact this)

theorem wpList_append_b (w : World) {ops : Array Oper} {rest : List Oper} {o : Oper} {a : Act} {Q : Exit → Act → World → Prop} (hgd : o.guard = none) (s x : Operand) (tx : TypeId)
    (ho : o.op = .call { callee := .builtin .append, args := #[s, x], argTypes := #[76, tx] })
    (v : Value) (bs : List UInt8) (hv : a.eval s = v) (hown : OwnB w v bs) (xv : Value) (hx : a.eval x = xv) (n : Nat) (news : List UInt8) (hs : Src Tryz.prog 1 tx xv n (news.map B) w) (hb : bs.length + n ≤ 1000000)
    (hK : ∀ v' w', OwnB w' v' (bs ++ news) → Kp (Of v) w w' → Sep w v v' → wpList Tryz.prog ops Q rest (a.put o.dst v') w') : wpList Tryz.prog ops Q (o :: rest) a w := by
  refine wpList_plain hgd fun K hK' => ?_
  obtain ⟨v', w', hrun, r1, r2, r3⟩ := run_append_b w v bs hown tx o.type xv n news hs hb
  unfold Oper.wp
  simp [execOp, ho, resolve, invoke, builtin, hv, hx, hrun, Result.andThen]
  exact hK' _ _ (hK v' w' r1 r2 r3)

end Go.Proofs.YthicgffppmbamaaGreat

namespace Go.Proofs.YthicgffppmbamaaGreat
open Go.RowKit

/-- v is a slice whose elements are the cells cs, in a block below B -/
def Rd (B : Nat) (w : World) (v : Value) (cs : List Value) : Prop :=
  ∃ ao cap, v = .slice ao cs.length cap ∧ cs.length ≤ cap ∧ cs.length ≤ 17592186044416 ∧ (0 < cs.length → ∃ b off, ao = some ⟨b, off, none⟩ ∧ b < B ∧ ∀ j, j < cs.length → w.cell? ⟨b, off + j, none⟩ = cs[j]?)

theorem Rd.kept {B : Nat} {S : Nat → Prop} {w w' : World} {v : Value} {cs : List Value} (h : Rd B w v cs) (k : Kp S w w') (hS : ∀ i, S i → B ≤ i) : Rd B w' v cs := by
  obtain ⟨ao, cap, rfl, h1, h2, h3⟩ := h
  refine ⟨ao, cap, rfl, h1, h2, fun hp => ?_⟩
  obtain ⟨b, off, rfl, hb, hc⟩ := h3 hp
  refine ⟨b, off, rfl, hb, fun j hj => ?_⟩
  have := hc j hj
  rw [List.getElem?_eq_getElem hj] at this ⊢
  exact k.cell this (fun e => by have := hS _ e; simp at this; omega)
theorem Rd.mono {B B' : Nat} {w : World} {v : Value} {cs : List Value} (h : Rd B w v cs) (hB : B ≤ B') : Rd B' w v cs := by
  obtain ⟨ao, cap, rfl, h1, h2, h3⟩ := h
  exact ⟨ao, cap, rfl, h1, h2, fun hp => let ⟨b, off, e, hb, hc⟩ := h3 hp; ⟨b, off, e, by omega, hc⟩⟩

theorem Rd.drop {B : Nat} {w : World} {b off L cap q : Nat} {cs : List Value} (h : Rd B w (.slice (some ⟨b, off, none⟩) L cap) cs) (hL : cs.length = L) (hq : q ≤ L) :
    Rd B w (.slice (if cap = q then some ⟨b, off, none⟩ else some ⟨b, off + q, none⟩) (L - q) (cap - q)) (cs.drop q) := by
  obtain ⟨ao, cap', e, h1, h2, h3⟩ := h
  simp only [Value.slice.injEq] at e
  obtain ⟨rfl, _, rfl⟩ := e
  refine ⟨_, cap - q, by rw [List.length_drop, hL], by rw [List.length_drop]; omega, by rw [List.length_drop]; omega, fun hp => ?_⟩
  rw [List.length_drop] at hp
  obtain ⟨b', off', e, hb, hc⟩ := h3 (by omega)
  simp only [Option.some.injEq, Addr.mk.injEq] at e
  obtain ⟨rfl, rfl, _⟩ := e
  refine ⟨b, off + q, by rw [if_neg (by omega)], hb, fun j hj => ?_⟩
  rw [List.length_drop] at hj
  rw [Nat.add_assoc, hc (q + j) (by omega), List.getElem?_drop]

theorem Rd.take {B : Nat} {w : World} {ao : Option Addr} {L cap q : Nat} {cs : List Value} (h : Rd B w (.slice ao L cap) cs) (hL : cs.length = L) (hq : q ≤ L) : Rd B w (.slice ao q cap) (cs.take q) := by
  obtain ⟨ao', cap', e, h1, h2, h3⟩ := h
  simp only [Value.slice.injEq] at e
  obtain ⟨rfl, _, rfl⟩ := e
  have hl : (cs.take q).length = q := by rw [List.length_take]; omega
  refine ⟨ao, cap, by rw [hl], by omega, by omega, fun hp => ?_⟩
  obtain ⟨b', off', e, hb, hc⟩ := h3 (by omega)
  refine ⟨b', off', e, hb, fun j hj => ?_⟩
  rw [hc j (by omega), List.getElem?_take_of_lt (by omega)]

def I (x : Int) : Value := .int .i64 x
abbrev RdI (B : Nat) (w : World) (v : Value) (xs : List Int) : Prop := Rd B w v (xs.map I)
abbrev RdS (B : Nat) (w : World) (v : Value) (ss : List ByteArray) : Prop := Rd B w v (ss.map Value.string)

/-- what a walk asks of a list of numbers -/
theorem RdI.open {B : Nat} {w : World} {v : Value} {xs : List Int} (h : RdI B w v xs) : ∃ ao cap, v = .slice ao xs.length cap ∧ xs.length ≤ cap ∧ xs.length ≤ 17592186044416 ∧
    (0 < xs.length → ∃ b off, ao = some ⟨b, off, none⟩ ∧ b < B ∧ ∀ j, j < xs.length → w.cell? ⟨b, off + j, none⟩ = some (.int .i64 (xs.getD j 0))) := by
  obtain ⟨ao, cap, rfl, h1, h2, h3⟩ := h
  simp only [List.length_map] at h1 h2 h3 ⊢
  refine ⟨ao, cap, rfl, h1, h2, fun hp => ?_⟩
  obtain ⟨b, off, rfl, hb, hc⟩ := h3 hp
  exact ⟨b, off, rfl, hb, fun j hj => by rw [hc j hj]; simp [I, List.getElem?_eq_getElem hj]⟩
theorem RdS.open {B : Nat} {w : World} {v : Value} {xs : List ByteArray} (h : RdS B w v xs) : ∃ ao cap, v = .slice ao xs.length cap ∧ xs.length ≤ cap ∧ xs.length ≤ 17592186044416 ∧
    (0 < xs.length → ∃ b off, ao = some ⟨b, off, none⟩ ∧ b < B ∧ ∀ j, j < xs.length → w.cell? ⟨b, off + j, none⟩ = some (.string (xs.getD j ByteArray.empty))) := by
  obtain ⟨ao, cap, rfl, h1, h2, h3⟩ := h
  simp only [List.length_map] at h1 h2 h3 ⊢
  refine ⟨ao, cap, rfl, h1, h2, fun hp => ?_⟩
  obtain ⟨b, off, rfl, hb, hc⟩ := h3 hp
  exact ⟨b, off, rfl, hb, fun j hj => by rw [hc j hj]; simp [List.getElem?_eq_getElem hj]⟩

/-- lists of lists -/
def RdII (B : Nat) (w : World) (v : Value) (xss : List (List Int)) : Prop :=
  ∃ vs : List Value, Rd B w v vs ∧ vs.length = xss.length ∧ ∀ (i : Nat) (x : Value) (xs : List Int), vs[i]? = some x → xss[i]? = some xs → RdI B w x xs
def RdIII (B : Nat) (w : World) (v : Value) (gs : List (List (List Int))) : Prop :=
  ∃ vs : List Value, Rd B w v vs ∧ vs.length = gs.length ∧ ∀ (i : Nat) (x : Value) (xs : List (List Int)), vs[i]? = some x → gs[i]? = some xs → RdII B w x xs

theorem RdII.kept {B : Nat} {S : Nat → Prop} {w w' : World} {v : Value} {xss : List (List Int)} (h : RdII B w v xss) (k : Kp S w w') (hS : ∀ i, S i → B ≤ i) : RdII B w' v xss := by
  obtain ⟨vs, h1, h2, h3⟩ := h
  exact ⟨vs, h1.kept k hS, h2, fun i x xs a b => (h3 i x xs a b).kept k hS⟩
theorem RdIII.kept {B : Nat} {S : Nat → Prop} {w w' : World} {v : Value} {xss : List (List (List Int))} (h : RdIII B w v xss) (k : Kp S w w') (hS : ∀ i, S i → B ≤ i) : RdIII B w' v xss := by
  obtain ⟨vs, h1, h2, h3⟩ := h
  exact ⟨vs, h1.kept k hS, h2, fun i x xs a b => (h3 i x xs a b).kept k hS⟩
theorem RdII.mono {B B' : Nat} {w : World} {v : Value} {xss : List (List Int)} (h : RdII B w v xss) (hB : B ≤ B') : RdII B' w v xss := by
  obtain ⟨vs, h1, h2, h3⟩ := h
  exact ⟨vs, h1.mono hB, h2, fun i x xs a b => (h3 i x xs a b).mono hB⟩
theorem RdIII.mono {B B' : Nat} {w : World} {v : Value} {xss : List (List (List Int))} (h : RdIII B w v xss) (hB : B ≤ B') : RdIII B' w v xss := by
  obtain ⟨vs, h1, h2, h3⟩ := h
  exact ⟨vs, h1.mono hB, h2, fun i x xs a b => (h3 i x xs a b).mono hB⟩

/-- what a walk asks of a list of lists: the i-th is some slice, and it reads -/
theorem RdII.open {B : Nat} {w : World} {v : Value} {xss : List (List Int)} (h : RdII B w v xss) : ∃ ao cap, v = .slice ao xss.length cap ∧ xss.length ≤ cap ∧ xss.length ≤ 17592186044416 ∧
    (0 < xss.length → ∃ b off, ao = some ⟨b, off, none⟩ ∧ b < B ∧ ∀ j, j < xss.length → ∃ ai ci, w.cell? ⟨b, off + j, none⟩ = some (.slice ai (xss.getD j []).length ci) ∧ RdI B w (.slice ai (xss.getD j []).length ci) (xss.getD j [])) := by
  obtain ⟨vs, ⟨ao, cap, rfl, h1, h2, h3⟩, h4, h5⟩ := h
  rw [h4] at h1 h2 h3 ⊢
  refine ⟨ao, cap, rfl, h1, h2, fun hp => ?_⟩
  obtain ⟨b, off, rfl, hb, hc⟩ := h3 hp
  refine ⟨b, off, rfl, hb, fun j hj => ?_⟩
  have e1 : vs[j]? = some vs[j] := List.getElem?_eq_getElem (by omega)
  have e2 : xss[j]? = some xss[j] := List.getElem?_eq_getElem hj
  have hr := h5 j _ _ e1 e2
  have hg : xss.getD j [] = xss[j] := by simp [e2]
  rw [hg]
  obtain ⟨ai, ci, hv, _⟩ := hr.open
  refine ⟨ai, ci, ?_, ?_⟩
  · rw [hc j hj, e1, hv]
  · rw [← hv]; exact hr
theorem RdIII.open {B : Nat} {w : World} {v : Value} {xss : List (List (List Int))} (h : RdIII B w v xss) : ∃ ao cap, v = .slice ao xss.length cap ∧ xss.length ≤ cap ∧ xss.length ≤ 17592186044416 ∧
    (0 < xss.length → ∃ b off, ao = some ⟨b, off, none⟩ ∧ b < B ∧ ∀ j, j < xss.length → ∃ ai ci, w.cell? ⟨b, off + j, none⟩ = some (.slice ai (xss.getD j []).length ci) ∧ RdII B w (.slice ai (xss.getD j []).length ci) (xss.getD j [])) := by
  obtain ⟨vs, ⟨ao, cap, rfl, h1, h2, h3⟩, h4, h5⟩ := h
  rw [h4] at h1 h2 h3 ⊢
  refine ⟨ao, cap, rfl, h1, h2, fun hp => ?_⟩
  obtain ⟨b, off, rfl, hb, hc⟩ := h3 hp
  refine ⟨b, off, rfl, hb, fun j hj => ?_⟩
  have e1 : vs[j]? = some vs[j] := List.getElem?_eq_getElem (by omega)
  have e2 : xss[j]? = some xss[j] := List.getElem?_eq_getElem hj
  have hr := h5 j _ _ e1 e2
  have hg : xss.getD j [] = xss[j] := by simp [e2]
  rw [hg]
  obtain ⟨ai, ci, hv, _⟩ := hr.open
  refine ⟨ai, ci, ?_, ?_⟩
  · rw [hc j hj, e1, hv]
  · rw [← hv]; exact hr

end Go.Proofs.YthicgffppmbamaaGreat

namespace Go.Proofs.YthicgffppmbamaaGreat
open Go.RowKit Go.ChangeShapes Go.WideShapes Go.Deep

section
variable {H : Type} {enc : TypeId × Value → H} {W : World}

/-- each slice in it takes no more than the reach -/
def FitsIn (t : TypeId) (d : DataW H) : Prop := ∀ n ∈ d.weights Tryz.prog t, n ≤ reachBytes
theorem weightsAll_mem {e : TypeId} {l : List (DataW H)} {d : DataW H} (h : d ∈ l) {n : Nat} (hn : n ∈ d.weights Tryz.prog e) : n ∈ DataW.weightsAll Tryz.prog e l := by
  induction l with
  | nil => cases h
  | cons x r ih =>
    simp only [DataW.weightsAll, List.mem_append]
    cases List.mem_cons.1 h with
    | inl e => subst e; exact .inl hn
    | inr e => exact .inr (ih e)
theorem FitsIn.slice {t e : TypeId} {elems spare : List (DataW H)} (hu : Tryz.prog.underlying t = some (.slice e)) (h : FitsIn t (.slice elems spare)) : (elems.length + spare.length) * Tryz.prog.bytesOf e ≤ reachBytes ∧ ∀ d ∈ elems, FitsIn e d := by
  refine ⟨h _ (by simp [DataW.weights, hu]), fun d hd n hn => h n ?_⟩
  simp only [DataW.weights, hu, List.mem_cons, List.mem_append]
  exact .inr (.inl (weightsAll_mem hd hn))

/-- a slice whose elements are one cell each -/
theorem rd_open {t e : TypeId} {bytes : Nat} (ht : Tryz.prog.underlying t = some (.slice e)) (hc : Tryz.prog.cellsOf e = 1) (hb : Tryz.prog.bytesOf e = bytes) (hb8 : 8 ≤ bytes) {fuel : Nat} {v : Value} {d : DataW H} {pl : List MemPlace}
    (h : DataW.trod enc Tryz.prog W 0 (fun _ => true) true fuel t [v] = some (d, pl)) (hf : FitsIn t d) :
    ∃ vs : List Value, Rd W.heap.size W v vs ∧ vs.length * bytes ≤ reachBytes ∧ ∃ n, ∀ u ∈ vs, ∃ x : DataW H × List MemPlace, DataW.trod enc Tryz.prog W 0 (fun _ => true) true n e [u] = some x ∧ FitsIn e x.1 := by
  rcases open_slice1 ht hc h with ⟨hcs, _⟩ | ⟨a, len, cap, m, n, V, D, Pl, hcs, _, hl, _, hm, hx, he⟩
  · simp only [List.cons.injEq, and_true] at hcs
    subst hcs
    exact ⟨[], ⟨none, 0, rfl, Nat.le_refl _, Nat.zero_le _, fun h => absurd h (by simp)⟩, by simp, 0, fun u hu => by cases hu⟩
  · simp only [List.cons.injEq, and_true] at hcs
    subst hcs
    simp only [if_true] at hm
    rw [hm] at hx he
    clear hm
    simp only [Prod.mk.injEq] at hx
    obtain ⟨rfl, _⟩ := hx
    have hsz := hf.slice ht
    simp only [List.length_map, List.length_range, hb] at hsz
    have hcap : cap * bytes ≤ reachBytes := by have := hsz.1; rwa [show len + (cap - len) = cap by omega] at this
    have hcap2 : cap ≤ 17592186044416 := by
      have h1 : cap * 8 ≤ cap * bytes := Nat.mul_le_mul_left _ hb8
      have : reachBytes = 140737488351232 := rfl
      omega
    refine ⟨(List.range len).map V, ⟨some a, cap, by simp, by simpa using hl, by simp only [List.length_map, List.length_range]; omega, fun hp => ?_⟩, ?_, n, fun u hu => ?_⟩
    · simp only [List.length_map, List.length_range] at hp
      have h0 := (he 0 (by omega)).1
      obtain ⟨b, off, spot⟩ := a
      have hspot : spot = none := by
        have := World.cell?_spot h0
        simpa [Addr.add] using this
      subst hspot
      refine ⟨b, off, rfl, ?_, fun j hj => ?_⟩
      · have := World.block_lt_of_cell? _ _ h0
        simpa [Addr.add] using this
      · simp only [List.length_map, List.length_range] at hj
        have := (he j (by omega)).1
        rw [Addr.add_lit] at this
        rw [this]
        simp [hj]
    · simp only [List.length_map, List.length_range]
      exact Nat.le_trans (Nat.mul_le_mul_right _ hl) hcap
    · obtain ⟨i, hi, rfl⟩ := List.mem_map.1 hu
      rw [List.mem_range] at hi
      exact ⟨_, (he i (by omega)).2, hsz.2 _ (List.mem_map.2 ⟨i, List.mem_range.2 hi, rfl⟩)⟩

theorem reach_eq : reachBytes = 140737488351232 := rfl
theorem bytes3 : Tryz.prog.bytesOf 3 = 8 := by kernel_rfl
theorem bytes9 : Tryz.prog.bytesOf 9 = 16 := by kernel_rfl
theorem bytes34 : Tryz.prog.bytesOf 46 = 24 := by kernel_rfl
theorem bytes35 : Tryz.prog.bytesOf 51 = 24 := by kernel_rfl
theorem bytes27 : Tryz.prog.bytesOf 42 = 48 := by kernel_rfl
theorem cells3 : Tryz.prog.cellsOf 3 = 1 := by kernel_rfl
theorem cells9 : Tryz.prog.cellsOf 9 = 1 := by kernel_rfl
theorem cells34 : Tryz.prog.cellsOf 46 = 1 := by kernel_rfl
theorem cells35 : Tryz.prog.cellsOf 51 = 1 := by kernel_rfl
theorem cells24 : Tryz.prog.cellsOf 22 = 1 := by kernel_rfl
theorem cells25 : Tryz.prog.cellsOf 40 = 1 := by kernel_rfl
theorem cells27 : Tryz.prog.cellsOf 42 = 2 := by kernel_rfl

def strOf : Value → ByteArray
  | .string s => s
  | _ => ByteArray.empty

theorem rdI_open {fuel : Nat} {v : Value} {d : DataW H} {pl : List MemPlace} (h : DataW.trod enc Tryz.prog W 0 (fun _ => true) true fuel 46 [v] = some (d, pl)) (hf : FitsIn 46 d) : ∃ xs : List Int, RdI W.heap.size W v xs ∧ xs.length ≤ 17592186043904 := by
  obtain ⟨vs, hr, hl, n, he⟩ := rd_open Tryz.underlying46 cells3 bytes3 (by omega) h hf
  have e : vs = (vs.map intOf).map I := by
    rw [List.map_map]
    conv => lhs; rw [← List.map_id vs]
    refine List.map_congr_left (fun u hu => ?_)
    obtain ⟨x, hx, _⟩ := he u hu
    obtain ⟨k, hk, _⟩ := DataW.trod_int Tryz.underlying3 hx
    simp only [List.cons.injEq, and_true] at hk
    subst hk
    rfl
  refine ⟨vs.map intOf, by unfold RdI; rw [← e]; exact hr, ?_⟩
  rw [List.length_map]
  rw [reach_eq] at hl
  omega
theorem rdS_open {fuel : Nat} {v : Value} {d : DataW H} {pl : List MemPlace} (h : DataW.trod enc Tryz.prog W 0 (fun _ => true) true fuel 22 [v] = some (d, pl)) (hf : FitsIn 22 d) : ∃ ss : List ByteArray, RdS W.heap.size W v ss ∧ ss.length ≤ 8796093021952 := by
  obtain ⟨vs, hr, hl, n, he⟩ := rd_open Tryz.underlying22 cells9 bytes9 (by omega) h hf
  have e : vs = (vs.map strOf).map Value.string := by
    rw [List.map_map]
    conv => lhs; rw [← List.map_id vs]
    refine List.map_congr_left (fun u hu => ?_)
    obtain ⟨x, hx, _⟩ := he u hu
    obtain ⟨k, hk, _⟩ := DataW.trod_string Tryz.underlying9 hx
    simp only [List.cons.injEq, and_true] at hk
    subst hk
    rfl
  refine ⟨vs.map strOf, by unfold RdS; rw [← e]; exact hr, ?_⟩
  rw [List.length_map]
  rw [reach_eq] at hl
  omega

end
end Go.Proofs.YthicgffppmbamaaGreat

namespace Go.Proofs.YthicgffppmbamaaGreat.Pl

def okTo (L : List (List UInt8)) (k : Nat) : Prop := (L.take k).all okName = true ∧ (L.take k).Nodup

theorem okTo_zero (L : List (List UInt8)) : okTo L 0 := by simp [okTo]
theorem okTo_succ (L : List (List UInt8)) (k : Nat) (hk : k < L.length) : okTo L (k + 1) ↔ okTo L k ∧ okName L[k] = true ∧ L[k] ∉ L.take k := by
  unfold okTo
  rw [List.take_succ_eq_append_getElem hk]
  rw [List.all_append, List.nodup_append]
  simp only [List.all_cons, List.all_nil, Bool.and_true, Bool.and_eq_true]
  constructor
  · rintro ⟨⟨a, b⟩, c, d, e⟩
    exact ⟨⟨a, c⟩, b, fun h => e _ h _ (by simp) rfl⟩
  · rintro ⟨⟨a, c⟩, b, d⟩
    refine ⟨⟨a, b⟩, c, by simp, fun x hx y hy e => ?_⟩
    simp at hy
    subst hy
    exact d (e ▸ hx)
theorem okTo_mono (L : List (List UInt8)) (k : Nat) : ∀ n, okTo L (k + n) → okTo L k := by
  intro n h
  unfold okTo at *
  have e : L.take k = (L.take (k + n)).take k := by rw [List.take_take, Nat.min_eq_left (by omega)]
  rw [e]
  refine ⟨?_, h.2.sublist (List.take_sublist _ _)⟩
  rw [List.all_eq_true] at *
  exact fun x hx => h.1 x (List.mem_of_mem_take hx)
theorem okNames_iff (L : List (List UInt8)) : okNames L = true ↔ 1 ≤ L.length ∧ L.length ≤ 4 ∧ okTo L L.length := by
  unfold okNames okTo
  rw [List.take_length]
  simp only [Bool.and_eq_true, decide_eq_true_eq]
  constructor
  · rintro ⟨⟨⟨a, b⟩, c⟩, d⟩; exact ⟨a, b, c, d⟩
  · rintro ⟨a, b, c, d⟩; exact ⟨⟨⟨a, b⟩, c⟩, d⟩
theorem okNames_false (L : List (List UInt8)) (k : Nat) (hk : k ≤ L.length) (h : ¬ okTo L k) : okNames L = false := by
  rw [← Bool.not_eq_true, okNames_iff]
  rintro ⟨_, _, c⟩
  exact h (okTo_mono L k (L.length - k) (by rwa [show k + (L.length - k) = L.length by omega]))
theorem okName_iff (s : List UInt8) : okName s = true ↔ 1 ≤ s.length ∧ s.length ≤ 8 := by
  unfold okName
  simp only [Bool.and_eq_true, decide_eq_true_eq]
theorem okVal_iff (x : Int) : okVal x = true ↔ 0 ≤ x ∧ x ≤ 1099511627775 := by
  unfold okVal
  simp only [Bool.and_eq_true, decide_eq_true_eq]

/-- is a value out of bounds? -/
def badIn (xs : List Int) : Bool := !xs.all okVal
theorem badIn_all {xs : List Int} (h : xs.all okVal = true) : badIn xs = false := by unfold badIn; rw [h]; rfl
theorem badIn_not {xs : List Int} (h : xs.all okVal = false) : badIn xs = true := by unfold badIn; rw [h]; rfl
/-- one list of a group -/
def okList (rows : Nat) (l : List Int) : Bool := decide (l.length = rows) && l.all okVal
theorem okGroup_iff (cols : Nat) (g : List (List Int)) : okGroup cols g = true ↔ g.length = cols ∧ 1 ≤ (g.getD 0 []).length ∧ (g.getD 0 []).length ≤ 20 ∧ ∀ l ∈ g, okList (g.getD 0 []).length l = true := by
  unfold okGroup okList
  simp only [Bool.and_eq_true, decide_eq_true_eq, List.all_eq_true]
  constructor
  · rintro ⟨⟨⟨a, b⟩, c⟩, d⟩; exact ⟨a, b, c, d⟩
  · rintro ⟨a, b, c, d⟩; exact ⟨⟨⟨a, b⟩, c⟩, d⟩
theorem okTable_iff (names : List (List UInt8)) (gs : List (List (List Int))) : okTable names gs = true ↔ okNames names = true ∧ gs.length ≤ 6 ∧ ∀ g ∈ gs, okGroup names.length g = true := by
  unfold okTable
  simp only [Bool.and_eq_true, decide_eq_true_eq, List.all_eq_true]
  constructor
  · rintro ⟨⟨a, b⟩, c⟩; exact ⟨a, b, c⟩
  · rintro ⟨a, b, c⟩; exact ⟨⟨a, b⟩, c⟩

end Go.Proofs.YthicgffppmbamaaGreat.Pl

namespace Go.Proofs.YthicgffppmbamaaGreat.Pl

/-- k steps, the last one outside -/
def iter {α : Type} (f : α → α) : Nat → α → α
  | 0, a => a
  | k + 1, a => f (iter f k a)

/-- a reader: what is left; is something wrong? -/
abbrev Rdr := List UInt8 × Bool
def rByte (r : Rdr) : Nat × Rdr := match r.1 with
  | [] => (0, ([], true))
  | b :: t => (b.toNat, (t, r.2))
/-- a varint: fuel, which byte, so far -/
def rVarF : Nat → Nat → Nat → Rdr → Nat × Bool × Rdr
  | 0, _, _, r => (0, false, r)
  | f + 1, i, n, r =>
    if (rByte r).1 < 128 then (n + (rByte r).1 % 128 * 128 ^ i, decide (0 < (rByte r).1 ∨ i = 0), (rByte r).2)
    else rVarF f (i + 1) (n + (rByte r).1 % 128 * 128 ^ i) (rByte r).2
def rVar (r : Rdr) : Nat × Bool × Rdr := rVarF 9 0 0 r
def rNum (least most : Nat) (r : Rdr) : Nat × Rdr :=
  if (rVar r).2.1 = false ∨ (rVar r).1 < least ∨ most < (rVar r).1 then (least, ((rVar r).2.2.1, true)) else ((rVar r).1, (rVar r).2.2)
def rText (n : Nat) (r : Rdr) : List UInt8 × Rdr := if r.1.length < n then ([], (r.1, true)) else (r.1.take n, (r.1.drop n, r.2))
def rSumS (s : Nat × Rdr) : Nat × Rdr := (s.1 * 256 % 4294967296 + (rByte s.2).1, (rByte s.2).2)
def rSum (r : Rdr) : Nat × Rdr := iter rSumS 4 (0, r)
def rRight (r : Rdr) : Bool := !r.2 && decide (r.1.length = 0)

/-- where a page is, by the footer -/
structure FPage where
  place : Nat
  length : Nat
  sum : Nat
  deriving DecidableEq, Inhabited
structure FGroup where
  rows : Nat
  pages : List FPage
  deriving DecidableEq, Inhabited
structure Foot where
  names : List (List UInt8)
  groups : List FGroup

def nameS (s : List (List UInt8) × Rdr) : List (List UInt8) × Rdr :=
  let k := rNum 1 8 s.2
  let t := rText k.1 k.2
  (s.1 ++ [t.1], t.2)
def fpageS (foot : Nat) (s : List FPage × Rdr) : List FPage × Rdr :=
  let p := rNum 4 (foot - 1) s.2
  let l := rNum 1 (foot - p.1) p.2
  let u := rSum l.2
  (s.1 ++ [⟨p.1, l.1, u.1⟩], u.2)
def fgroup (columns foot : Nat) (r : Rdr) : FGroup × Rdr :=
  let n := rNum 1 20 r
  let ps := iter (fpageS foot) columns ([], n.2)
  (⟨n.1, ps.1⟩, ps.2)
def fgroupS (columns foot : Nat) (s : List FGroup × Rdr) : List FGroup × Rdr :=
  let g := fgroup columns foot s.2
  (s.1 ++ [g.1], g.2)
def footNames (data : List UInt8) : List (List UInt8) × Rdr :=
  let c := rNum 1 4 (data, false)
  iter nameS c.1 ([], c.2)
def footGroups (data : List UInt8) (foot : Nat) : List FGroup × Rdr :=
  let n := footNames data
  let g := rNum 0 6 n.2
  iter (fgroupS n.1.length foot) g.1 ([], g.2)
def readFooter (data : List UInt8) (foot : Nat) : Option Foot :=
  if rRight (footGroups data foot).2 = true ∧ okNames (footNames data).1 = true then some ⟨(footNames data).1, (footGroups data foot).1⟩ else none

/-- the footer's length -/
def readTail (tail : List UInt8) (size : Nat) : Option Nat :=
  if tail.length = 6 ∧ tail.drop 2 = mark ∧ 1 ≤ (tail.getD 0 0).toNat * 256 + (tail.getD 1 0).toNat ∧ (tail.getD 0 0).toNat * 256 + (tail.getD 1 0).toNat + 10 ≤ size
  then some ((tail.getD 0 0).toNat * 256 + (tail.getD 1 0).toNat) else none

/-- the values of a page behind its kind -/
def plainS (s : List Int × Rdr) : List Int × Rdr := (s.1 ++ [((rNum 0 1099511627775 s.2).1 : Int)], (rNum 0 1099511627775 s.2).2)
def risingS (s : List Int × Nat × Rdr) : List Int × Nat × Rdr :=
  let n := rNum 0 (1099511627775 - s.2.1) s.2.2
  (s.1 ++ [((s.2.1 + n.1 : Nat) : Int)], s.2.1 + n.1, n.2)
/-- fuel, how many are still to come -/
def runsR : Nat → Nat → List Int × Rdr → List Int × Rdr
  | 0, _, s => s
  | f + 1, left, s =>
    if left = 0 then s else
      let k := rNum 1 left s.2
      let n := rNum 0 1099511627775 k.2
      runsR f (left - k.1) (s.1 ++ List.replicate k.1 (n.1 : Int), n.2)
def readPage (data : List UInt8) (rows : Nat) : Option (List Int) :=
  let k := rByte (data, false)
  if 3 ≤ k.1 then none
  else
    let s : List Int × Rdr :=
      if k.1 = 0 then iter plainS rows ([], k.2)
      else if k.1 = 1 then runsR rows rows ([], k.2)
      else ((iter risingS rows ([], 0, k.2)).1, (iter risingS rows ([], 0, k.2)).2.2)
    if rRight s.2 = true then some s.1 else none

/-- which columns are wanted -/
def indexOf (names : List (List UInt8)) (n : List UInt8) : Option Nat := names.findIdx? (fun x => decide (x = n))
def columnsF (names : List (List UInt8)) : List (List UInt8) → List Nat → Option (List Nat)
  | [], acc => if 0 < acc.length then some acc else none
  | n :: r, acc => match indexOf names n with
    | none => none
    | some i => if i ∈ acc then none else columnsF names r (acc ++ [i])
def columns (names want : List (List UInt8)) : Option (List Nat) := columnsF names want []

/-- a wanted page -/
structure WPage where
  page : FPage
  group : Nat
  column : Nat
  rows : Nat
  deriving DecidableEq, Inhabited
structure Piece where
  place : Nat
  length : Nat
  pages : List WPage
  deriving DecidableEq, Inhabited

/-- a page goes in from the end, ahead of those with a greater place -/
def insW (l : List WPage) (x : WPage) : List WPage := (l.reverse.dropWhile (fun y => decide (x.page.place < y.page.place))).reverse ++ [x] ++ (l.reverse.takeWhile (fun y => decide (x.page.place < y.page.place))).reverse
def sortW (l : List WPage) : List WPage := l.foldl insW []
def wantedRaw (g : Nat) (gr : FGroup) (cols : List Nat) : List WPage := (List.range cols.length).map fun i => ⟨gr.pages.getD (cols.getD i 0) default, g, i, gr.rows⟩
def lengthWith (p : Piece) (x : WPage) : Nat := max p.length (x.page.place + x.page.length - p.place)
def joins (gap : Nat) (p : Piece) (x : WPage) : Bool := decide (x.page.place ≤ p.place + p.length + gap) && decide (lengthWith p x ≤ 64)
def joinS (gap : Nat) (l : List Piece) (x : WPage) : List Piece :=
  match l.getLast? with
  | none => [⟨x.page.place, x.page.length, [x]⟩]
  | some p => if joins gap p x = true then l.dropLast ++ [⟨p.place, lengthWith p x, p.pages ++ [x]⟩] else l ++ [⟨x.page.place, x.page.length, [x]⟩]
def joinW (gap : Nat) (l : List WPage) : List Piece := l.foldl (joinS gap) []
def piecesG (gap : Nat) (cols : List Nat) (g : Nat) (gr : FGroup) : List Piece := joinW gap (sortW (wantedRaw g gr cols))
def piecesTo (gap : Nat) (cols : List Nat) (gs : List FGroup) : Nat → List Piece
  | 0 => []
  | k + 1 => piecesTo gap cols gs k ++ piecesG gap cols k (gs.getD k default)
def piecesOf (gap : Nat) (cols : List Nat) (gs : List FGroup) : List Piece := piecesTo gap cols gs gs.length

/-- rows that have come -/
structure RGroup where
  rows : Nat
  lists : List (List Int)
  missing : Nat
  deriving Inhabited
structure Rw where
  columns : Nat := 0
  groups : List RGroup := []
  gone : Nat := 0
  row : Nat := 0
  left : Nat := 0
  deriving Inhabited
def rwNew (columns : Nat) (lengths : List Nat) : Rw := { columns := columns, groups := lengths.map fun n => ⟨n, List.replicate columns [], columns⟩, left := lengths.sum }
def rwPut (r : Rw) (g c : Nat) (l : List Int) : Rw := { r with groups := r.groups.modify (g - r.gone) fun x => { x with lists := x.lists.set c l, missing := x.missing - 1 } }
def readyF : List RGroup → Nat
  | [] => 0
  | g :: r => if 0 < g.missing then 0 else g.rows + readyF r
def rwReady (r : Rw) : Nat := readyF r.groups - r.row
def rwTake (r : Rw) : List Int × Rw :=
  let f := r.groups.getD 0 default
  (f.lists.map fun l => l.getD r.row 0,
    if r.row + 1 = f.rows then { r with groups := r.groups.drop 1, gone := r.gone + 1, row := 0, left := r.left - 1 } else { r with row := r.row + 1, left := r.left - 1 })
def rwTakeS (s : List (List Int) × Rw) : List (List Int) × Rw := (s.1 ++ [(rwTake s.2).1], (rwTake s.2).2)
def rwCount (r : Rw) (most : Nat) : Nat := min most r.left
/-- the rows that are handed on, or none -/
def rwNext (r : Rw) (most : Nat) : Option (List (List Int)) × Rw :=
  if rwCount r most = 0 ∨ rwReady r < rwCount r most then (none, r)
  else
    let s := iter rwTakeS (rwCount r most) ([], r)
    (some ((List.range r.columns).map fun i => s.1.map fun row => row.getD i 0), s.2)

/-- what a part of the file is for -/
inductive Aim
  | tail
  | footer
  | piece (p : Piece)
structure Part where
  place : Nat
  length : Nat
  data : List UInt8
  failures : Nat
  aim : Aim
structure Sc where
  state : Nat := 0
  size : Nat := 0
  want : List (List UInt8) := []
  win : Nat := 0
  tries : Nat := 0
  nrows : Nat := 0
  gap : Nat := 0
  lastId : Nat := 0
  asked : List (Nat × Part) := []
  waiting : List (Nat × Part) := []
  ahead : List Piece := []
  opened : Nat := 0
  rows : Rw := {}

def ended (why : Nat) : Sc := { state := why }
def ask (m : Sc) (p : Part) : Sc := { m with lastId := m.lastId + 1, asked := m.asked ++ [(m.lastId + 1, p)] }
def fetch (m : Sc) (place length : Nat) (aim : Aim) : Sc := ask m ⟨place, length, [], 0, aim⟩
/-- as long as the window has room -/
def askAheadF : Nat → Sc → Sc
  | 0, m => m
  | f + 1, m => match m.ahead with
    | [] => m
    | p :: r => if m.opened < m.win then askAheadF f (fetch { m with ahead := r, opened := m.opened + 1 } p.place p.length (.piece p)) else m
def askAhead (m : Sc) : Sc := askAheadF m.ahead.length m
def tailCame (m : Sc) (data : List UInt8) : Sc := match readTail data m.size with
  | none => ended 2
  | some n => fetch m (m.size - 6 - n) n .footer
def footerCame (m : Sc) (data : List UInt8) : Sc := match readFooter data (m.size - 6 - data.length) with
  | none => ended 2
  | some f => match columns f.names m.want with
    | none => ended 3
    | some cols => if f.groups.length = 0 then ended 1 else
      askAhead { m with rows := rwNew cols.length (f.groups.map (·.rows)), ahead := piecesOf m.gap cols f.groups }
def pageOf (p : Piece) (x : WPage) (data : List UInt8) : List UInt8 := (data.drop (x.page.place - p.place)).take x.page.length
def readW (p : Piece) (x : WPage) (data : List UInt8) : Option (List Int) := if sumOf (pageOf p x data) = x.page.sum then readPage (pageOf p x data) x.rows else none
/-- the pages of a piece, one behind the other -/
def putsF (p : Piece) (data : List UInt8) : List WPage → Rw → Option Rw
  | [], r => some r
  | x :: t, r => match readW p x data with
    | none => none
    | some l => putsF p data t (rwPut r x.group x.column l)
def pieceCame (m : Sc) (p : Piece) (data : List UInt8) : Sc := match putsF p data p.pages m.rows with
  | none => ended 2
  | some r => askAhead { m with rows := r, opened := m.opened - 1 }
def wholeCame (m : Sc) (aim : Aim) (data : List UInt8) : Sc := match aim with
  | .tail => tailCame m data
  | .footer => footerCame m data
  | .piece p => pieceCame m p data
def partCame (m : Sc) (p : Part) (data : List UInt8) : Sc :=
  if p.data.length + data.length < p.length then ask m { p with data := p.data ++ data } else wholeCame m p.aim (p.data ++ data)
def partFailed (m : Sc) (p : Part) : Sc :=
  if p.failures + 1 = m.tries then ended 4 else { m with waiting := m.waiting ++ [(2 ^ p.failures, { p with failures := p.failures + 1 })] }
def findId (l : List (Nat × Part)) (id : Int) : Option Nat := l.findIdx? fun q => decide ((q.1 : Int) = id)
def takeAt (m : Sc) (i : Nat) : Sc := { m with asked := m.asked.eraseIdx i }
def partAt (m : Sc) (i : Nat) : Part := (m.asked.getD i (0, ⟨0, 0, [], 0, .tail⟩)).2
def fail (m : Sc) (id : Int) : Sc × Int := match findId m.asked id with
  | none => (m, 3)
  | some i => (partFailed (takeAt m i) (partAt m i), 0)
def answer (m : Sc) (id : Int) (data : List UInt8) : Sc × Int := match findId m.asked id with
  | none => (m, 3)
  | some i =>
    if (partAt m i).length - (partAt m i).data.length < data.length then (m, 4)
    else if data.length = 0 then fail m id
    else (partCame (takeAt m i) (partAt m i) data, 0)
def tickS (s : Sc × List (Nat × Part)) (q : Nat × Part) : Sc × List (Nat × Part) := if 1 < q.1 then (s.1, s.2 ++ [(q.1 - 1, q.2)]) else (ask s.1 q.2, s.2)
def tick (m : Sc) : Sc := let s := m.waiting.foldl tickS (m, []); { s.1 with waiting := s.2 }
def next (m : Sc) : Sc × Option (List (List Int)) :=
  let r := rwNext m.rows m.nrows
  match r.1 with
  | none => (m, none)
  | some l => if r.2.left = 0 then (ended 1, some l) else ({ m with rows := r.2 }, some l)
def cancel (m : Sc) : Sc := if m.state = 0 then ended 5 else m
def reqOf (q : Nat × Part) : Nat × Nat × Nat := (q.1, q.2.place + q.2.data.length, q.2.length - q.2.data.length)
def keepNames (want : List (List UInt8)) : List (List UInt8) := if okNames want = true then want else []
def okS (w t r g : Int) : Bool := decide (1 ≤ w) && decide (w ≤ 4) && decide (1 ≤ t) && decide (t ≤ 4) && decide (1 ≤ r) && decide (r ≤ 20) && decide (0 ≤ g) && decide (g ≤ 32)
theorem okS_iff (w t r g : Int) : okS w t r g = true ↔ (1 ≤ w ∧ w ≤ 4) ∧ (1 ≤ t ∧ t ≤ 4) ∧ (1 ≤ r ∧ r ≤ 20) ∧ 0 ≤ g ∧ g ≤ 32 := by
  unfold okS
  simp only [Bool.and_eq_true, decide_eq_true_eq]
  omega
def okSet (size w t r g : Int) : Bool := decide (0 ≤ size) && decide (size ≤ 4000) && okS w t r g
def openSc (size : Nat) (want : List (List UInt8)) (w t r g : Nat) : Sc :=
  if size < 10 then ended 2 else fetch { size := size, want := keepNames want, win := w, tries := t, nrows := r, gap := g } (size - 6) 6 .tail

end Go.Proofs.YthicgffppmbamaaGreat.Pl

namespace Go.Proofs.YthicgffppmbamaaGreat
open Pl

def pickP (c : Int) (n : Nat) : Nat := ((if c < 0 then -(c + 1) else c) % (n : Int)).toNat
theorem pickP_lt (c : Int) (n : Nat) (h : 0 < n) : pickP c n < n := by
  unfold pickP
  have h1 := Int.emod_nonneg (if c < 0 then -(c + 1) else c) (show (n : Int) ≠ 0 by omega)
  have h2 := Int.emod_lt_of_pos (if c < 0 then -(c + 1) else c) (show (0 : Int) < n by omega)
  omega
def sNext (l : List Int) (i n : Nat) : Nat × Nat := if l.length ≤ i then (0, i) else (pickP (l.getD i 0) n, i + 1)
theorem sNext_lt (l : List Int) (i n : Nat) (h : 0 < n) : (sNext l i n).1 < n := by
  unfold sNext
  split
  · exact h
  · exact pickP_lt _ _ h
theorem sNext_le (l : List Int) (i n : Nat) (h : i ≤ l.length) : (sNext l i n).2 ≤ l.length := by
  unfold sNext
  split
  · exact h
  · show i + 1 ≤ _; omega
def sValue (l : List Int) (i last : Nat) : Nat × Nat :=
  if (sNext l i 6).1 = 0 ∨ (sNext l i 6).1 = 1 then (last, (sNext l i 6).2)
  else if (sNext l i 6).1 = 2 ∨ (sNext l i 6).1 = 3 then (min (last + (sNext l (sNext l i 6).2 300).1) 1099511627775, (sNext l (sNext l i 6).2 300).2)
  else if (sNext l i 6).1 = 4 then sNext l (sNext l i 6).2 1099511627776
  else sNext l (sNext l i 6).2 20
theorem sValue_le (l : List Int) (i last : Nat) (h : last ≤ 1099511627775) : (sValue l i last).1 ≤ 1099511627775 := by
  unfold sValue
  split
  · exact h
  · split
    · exact Nat.min_le_right _ _
    · split
      · have := sNext_lt l (sNext l i 6).2 1099511627776 (by omega); omega
      · have := sNext_lt l (sNext l i 6).2 20 (by omega); omega
theorem sValue_in (l : List Int) (i last : Nat) (h : i ≤ l.length) : (sValue l i last).2 ≤ l.length := by
  have h1 := sNext_le l i 6 h
  unfold sValue
  split
  · exact h1
  · split
    · exact sNext_le l _ _ h1
    · split
      · exact sNext_le l _ _ h1
      · exact sNext_le l _ _ h1
def sRowS (l : List Int) (s : List Int × Nat × Nat) : List Int × Nat × Nat := (s.1 ++ [((sValue l s.2.2 s.2.1).1 : Int)], (sValue l s.2.2 s.2.1).1, (sValue l s.2.2 s.2.1).2)
def sRow (l : List Int) (rows i : Nat) : List Int × Nat × Nat := iter (sRowS l) rows ([], 0, i)
def sColS (l : List Int) (rows : Nat) (s : List (List Int) × Nat) : List (List Int) × Nat := (s.1 ++ [(sRow l rows s.2).1], (sRow l rows s.2).2.2)
def sCols (l : List Int) (rows n i : Nat) : List (List Int) × Nat := iter (sColS l rows) n ([], i)
def sGrp (l : List Int) (n i : Nat) : List (List Int) × Nat := sCols l (1 + (sNext l i 12).1) n (sNext l i 12).2
def sGrpS (l : List Int) (n : Nat) (s : List (List (List Int)) × Nat) : List (List (List Int)) × Nat := (s.1 ++ [(sGrp l n s.2).1], (sGrp l n s.2).2)
def names4 : List (List UInt8) := [[97], [98, 98], [99], [100, 100, 100, 100]]
def sN (l : List Int) : Nat := 1 + (sNext l 0 4).1
def sG (l : List Int) : Nat × Nat := sNext l (sNext l 0 4).2 4
def sGs (l : List Int) : List (List (List Int)) × Nat := iter (sGrpS l (sN l)) (sG l).1 ([], (sG l).2)
def sNames (l : List Int) : List (List UInt8) := names4.take (sN l)
theorem sRow_ok (l : List Int) (i : Nat) (hi : i ≤ l.length) : ∀ rows, (sRow l rows i).1.length = rows ∧ (∀ x ∈ (sRow l rows i).1, okVal x = true) ∧ (sRow l rows i).2.1 ≤ 1099511627775 ∧ (sRow l rows i).2.2 ≤ l.length
  | 0 => ⟨rfl, (fun x hx => by cases hx), Nat.zero_le _, hi⟩
  | r + 1 => by
    obtain ⟨h1, h2, h3, h4⟩ := sRow_ok l i hi r
    have hv := sValue_le l (sRow l r i).2.2 (sRow l r i).2.1 h3
    have e : sRow l (r + 1) i = sRowS l (sRow l r i) := rfl
    rw [e]
    unfold sRowS
    refine ⟨by simp [h1], fun x hx => ?_, hv, sValue_in l _ _ h4⟩
    rcases List.mem_append.1 hx with hx | hx
    · exact h2 x hx
    · simp at hx
      subst hx
      exact (okVal_iff _).2 ⟨by omega, by omega⟩
theorem sCols_ok (l : List Int) (rows i : Nat) (hi : i ≤ l.length) : ∀ n, (sCols l rows n i).1.length = n ∧ (∀ x ∈ (sCols l rows n i).1, okList rows x = true) ∧ (sCols l rows n i).2 ≤ l.length
  | 0 => ⟨rfl, (fun x hx => by cases hx), hi⟩
  | n + 1 => by
    obtain ⟨h1, h2, h3⟩ := sCols_ok l rows i hi n
    have e : sCols l rows (n + 1) i = sColS l rows (sCols l rows n i) := rfl
    rw [e]
    unfold sColS
    obtain ⟨r1, r2, -, r4⟩ := sRow_ok l (sCols l rows n i).2 h3 rows
    refine ⟨by simp [h1], fun x hx => ?_, r4⟩
    rcases List.mem_append.1 hx with hx | hx
    · exact h2 x hx
    · simp at hx
      subst hx
      unfold okList
      simp only [Bool.and_eq_true, decide_eq_true_eq, List.all_eq_true]
      exact ⟨r1, r2⟩
theorem sGrp_ok (l : List Int) (n i : Nat) (hn : 1 ≤ n) (hi : i ≤ l.length) : okGroup n (sGrp l n i).1 = true ∧ (sGrp l n i).2 ≤ l.length := by
  obtain ⟨h1, h2, h3⟩ := sCols_ok l (1 + (sNext l i 12).1) (sNext l i 12).2 (sNext_le l i 12 hi) n
  have hr := sNext_lt l i 12 (by omega)
  have e0 : (((sGrp l n i).1).getD 0 []).length = 1 + (sNext l i 12).1 := by
    have hlt : 0 < (sGrp l n i).1.length := by show 0 < (sCols _ _ _ _).1.length; omega
    rw [List.getD_eq_getElem?_getD, List.getElem?_eq_getElem hlt]
    have := h2 _ (List.getElem_mem hlt)
    unfold okList at this
    simp only [Bool.and_eq_true, decide_eq_true_eq] at this
    exact this.1
  refine ⟨(okGroup_iff _ _).2 ⟨h1, by omega, by omega, fun x hx => ?_⟩, h3⟩
  rw [e0]
  exact h2 x hx
theorem sGs_ok (l : List Int) (n i : Nat) (hn : 1 ≤ n) (hi : i ≤ l.length) : ∀ k, (iter (sGrpS l n) k ([], i)).1.length = k ∧ (∀ g ∈ (iter (sGrpS l n) k ([], i)).1, okGroup n g = true) ∧ (iter (sGrpS l n) k ([], i)).2 ≤ l.length
  | 0 => ⟨rfl, (fun x hx => by cases hx), hi⟩
  | k + 1 => by
    obtain ⟨h1, h2, h3⟩ := sGs_ok l n i hn hi k
    have e : iter (sGrpS l n) (k + 1) ([], i) = sGrpS l n (iter (sGrpS l n) k ([], i)) := rfl
    rw [e]
    unfold sGrpS
    obtain ⟨r1, r2⟩ := sGrp_ok l n (iter (sGrpS l n) k ([], i)).2 hn h3
    refine ⟨by rw [List.length_append]; exact congrArg (· + 1) h1, fun x hx => ?_, r2⟩
    rcases List.mem_append.1 hx with hx | hx
    · exact h2 x hx
    · simp at hx
      subst hx
      exact r1
theorem sN_in (l : List Int) : 1 ≤ sN l ∧ sN l ≤ 4 := by
  have := sNext_lt l 0 4 (by omega)
  unfold sN
  omega
theorem sNames_len (l : List Int) : (sNames l).length = sN l := by
  have := sN_in l
  have h4 : names4.length = 4 := rfl
  unfold sNames
  rw [List.length_take]
  omega
theorem names_ok : ∀ n ∈ [1, 2, 3, 4], okNames (names4.take n) = true := by decide +kernel
theorem sTable_ok (l : List Int) : okTable (sNames l) (sGs l).1 = true := by
  have hn := sN_in l
  obtain ⟨h1, h2, h3⟩ := sGs_ok l (sN l) (sG l).2 hn.1 (sNext_le l _ _ (sNext_le l 0 4 (Nat.zero_le _))) (sG l).1
  have hg := sNext_lt l (sNext l 0 4).2 4 (by omega)
  refine (okTable_iff _ _).2 ⟨names_ok (sN l) (by simp; omega), ?_, fun g hgm => ?_⟩
  · show (iter (sGrpS l (sN l)) (sG l).1 ([], (sG l).2)).1.length ≤ 6
    have : (sG l).1 < 4 := hg
    omega
  · rw [sNames_len]
    exact h2 g hgm
theorem sGs_in (l : List Int) : (sGs l).2 ≤ l.length ∧ (sGs l).1.length ≤ 3 := by
  have hn := sN_in l
  obtain ⟨h1, h2, h3⟩ := sGs_ok l (sN l) (sG l).2 hn.1 (sNext_le l _ _ (sNext_le l 0 4 (Nat.zero_le _))) (sG l).1
  have hg : (sG l).1 < 4 := sNext_lt l (sNext l 0 4).2 4 (by omega)
  exact ⟨h3, by show (iter (sGrpS l (sN l)) (sG l).1 ([], (sG l).2)).1.length ≤ 3; omega⟩

def wCol (n first : Nat) (back : Bool) (i : Nat) : Nat := if back = true then (first + n - i) % n else (first + i) % n
def wCols (n first count : Nat) (back : Bool) : List Nat := (List.range count).map (wCol n first back)
def wNames (n : Nat) (cols : List Nat) : List (List UInt8) := cols.map fun k => (names4.take n).getD k []
theorem wCols_all : ∀ n ∈ [1, 2, 3, 4], ∀ f ∈ List.range n, ∀ c ∈ List.range n, ∀ b ∈ [true, false], (okNames (wNames n (wCols n f (1 + c) b)) && decide (columns (names4.take n) (wNames n (wCols n f (1 + c) b)) = some (wCols n f (1 + c) b)) && (wCols n f (1 + c) b).all fun k => decide (k < n)) = true := by decide +kernel
def sW1 (l : List Int) : Nat × Nat := sNext l (sGs l).2 (sN l)
def sW2 (l : List Int) : Nat × Nat := sNext l (sW1 l).2 (sN l)
def sW3 (l : List Int) : Nat × Nat := sNext l (sW2 l).2 2
def sCl (l : List Int) : List Nat := wCols (sN l) (sW1 l).1 (1 + (sW2 l).1) (decide ((sW3 l).1 = 1))
def sWn (l : List Int) : List (List UInt8) := wNames (sN l) (sCl l)
theorem sCl_ok (l : List Int) : okNames (sWn l) = true ∧ columns (sNames l) (sWn l) = some (sCl l) ∧ (∀ c ∈ sCl l, c < sN l) ∧ 1 ≤ (sCl l).length ∧ (sCl l).length ≤ 4 := by
  have hn := sN_in l
  have h1 : (sW1 l).1 < sN l := sNext_lt l _ _ (by omega)
  have h2 : (sW2 l).1 < sN l := sNext_lt l _ _ (by omega)
  have h := wCols_all (sN l) (by simp; omega) (sW1 l).1 (List.mem_range.2 h1) (sW2 l).1 (List.mem_range.2 h2) (decide ((sW3 l).1 = 1)) (by cases decide ((sW3 l).1 = 1) <;> simp)
  simp only [Bool.and_eq_true, decide_eq_true_eq, List.all_eq_true] at h
  obtain ⟨⟨a, b⟩, c⟩ := h
  refine ⟨a, b, c, ?_, ?_⟩
  · show 1 ≤ (wCols _ _ _ _).length; unfold wCols; simp
  · show (wCols _ _ _ _).length ≤ 4; unfold wCols; simp; omega
theorem sW3_in (l : List Int) : (sW3 l).2 ≤ l.length := sNext_le l _ _ (sNext_le l _ _ (sNext_le l _ _ (sGs_in l).1))
def sS1 (l : List Int) : Nat × Nat := sNext l (sW3 l).2 4
def sS2 (l : List Int) : Nat × Nat := sNext l (sS1 l).2 4
def sS3 (l : List Int) : Nat × Nat := sNext l (sS2 l).2 20
def sS4 (l : List Int) : Nat × Nat := sNext l (sS3 l).2 33
theorem sSet_in (l : List Int) : (sS1 l).1 < 4 ∧ (sS2 l).1 < 4 ∧ (sS3 l).1 < 20 ∧ (sS4 l).1 < 33 := ⟨sNext_lt l _ _ (by omega), sNext_lt l _ _ (by omega), sNext_lt l _ _ (by omega), sNext_lt l _ _ (by omega)⟩
end Go.Proofs.YthicgffppmbamaaGreat

namespace Go.Proofs.YthicgffppmbamaaGreat
open Go.RowKit
section
variable {P : Program} {ops : Array Oper} {Q : Exit → Act → World → Prop} {md : Region.Mode} {S : World → Prop}

/-- Whatever order is picked from here on; S holds behind every operation but number n. -/
def Late (P : Program) (md : Region.Mode) (ops : Array Oper) (Q : Exit → Act → World → Prop) (S : World → Prop) (n : Nat) : Nat → Array Bool → Act → World → Prop
  | 0, listed, a, w => Region.ready md ops listed = [] ∧ Q .normal a w
  | f + 1, listed, a, w => (Region.ready md ops listed = [] → Q .normal a w) ∧
      ∀ i ∈ Region.ready md ops listed, wpOp P ops Q i (fun a' w' => (i ≠ n → S w') ∧ Late P md ops Q S n f (listed.setIfInBounds i true) a' w') a w

theorem Late.any {n : Nat} : ∀ (f : Nat) (listed : Array Bool) (a : Act) (w : World), Late P md ops Q S n f listed a w → wpAny P md ops Q f listed a w
  | 0, _, _, _, h => h
  | f + 1, _, _, _, h => ⟨h.1, fun i hi => wpOp_mono (fun _ _ h' => Late.any f _ _ _ h'.2) (h.2 i hi)⟩

theorem waits_not_ready {n i : Nat} {listed : Array Bool} (hw : Region.waitsFor md ops n i = true) (hu : listed.getD i true = false) : n ∉ Region.ready md ops listed := by
  intro hr
  obtain ⟨oj, hj, e, he, hb, hon⟩ := Region.waitsFor_spec hw
  obtain ⟨_, o', ho', hall⟩ := mem_ready.1 hr
  rw [hj] at ho'
  cases ho'
  have h1 := hall e he hb
  rw [hon] at h1
  rw [getD_both hu] at h1
  cases h1

/-- each of the row waits for the one ahead of it -/
def chained (md : Region.Mode) (ops : Array Oper) : Nat → List Nat → Bool
  | _, [] => true
  | i, c :: r => Region.waitsFor md ops c i && chained md ops c r
theorem chained_not_ready {listed : Array Bool} : ∀ (r : List Nat) (i : Nat), chained md ops i r = true → listed.getD i true = false → (∀ x ∈ r, listed.getD x true = false) → ∀ x ∈ r, x ∉ Region.ready md ops listed
  | [], _, _, _, _, x, hx => by simp at hx
  | c :: r, i, h, hi, hr, x, hx => by
    simp only [chained, Bool.and_eq_true] at h
    rcases List.mem_cons.1 hx with rfl | hx
    · exact waits_not_ready h.1 hi
    · exact chained_not_ready r c h.2 (hr c (by simp)) (fun y hy => hr y (by simp [hy])) x hx

/-- an operation that is ready, yields one value in every world with S, and for which number n waits (by some others between), may be taken first -/
theorem Late.first {n i : Nat} {oi : Oper} {v : Value} (r : List Nat) (hi : ops[i]? = some oi) (hsel : ∀ (j : Nat) (o : Oper) cs b, ops[j]? = some o → o.op ≠ .select cs b) (hw : chained md ops i r = true) (hn : n ∈ r) (hni : i ≠ n)
    (hQ : ∀ c a w, Q (.panic c) (a.put oi.dst v) w → Q (.panic c) a w) : ∀ (f : Nat) (listed : Array Bool) (a : Act) (w : World),
      (∀ x ∈ r, listed.getD x true = false) →
      (∀ j oj, ops[j]? = some oj → j ≠ i → listed.getD j true = false → (∀ e ∈ oj.after, Region.binds md e = true → e.on ≠ i) → oi.apart ops oj = true) →
      i ∈ Region.ready md ops listed → YieldsIf P ops S oi v a → S w →
      Late P md ops Q S n f (listed.setIfInBounds i true) (a.put oi.dst v) w → Late P md ops Q S n (f + 1) listed a w := by
  intro f
  induction f with
  | zero =>
    intro listed a w _ _ hr hy hS H
    refine ⟨fun h => absurd hr (by rw [h]; simp), fun j hj => ?_⟩
    by_cases hji : j = i
    · subst hji
      exact hy.wpOp hi hS ⟨fun _ => hS, H⟩
    · have hm := ready_mono hj hji
      rw [H.1] at hm
      cases hm
  | succ f ih =>
    intro listed a w hch hfree hr hy hS H
    refine ⟨fun h => absurd hr (by rw [h]; simp), fun j hj => ?_⟩
    by_cases hji : j = i
    · subst hji
      exact hy.wpOp hi hS ⟨fun _ => hS, H⟩
    have hiu : listed.getD i true = false := (mem_ready.1 hr).1
    have hjr : ∀ x ∈ r, j ≠ x := fun x hx e => chained_not_ready r i hw hiu hch x hx (e ▸ hj)
    have hjn : j ≠ n := hjr n hn
    have h1 := H.2 j (ready_mono hj hji)
    obtain ⟨hju, oj, hoj, hall⟩ := mem_ready.1 hj
    have hnot : ∀ e ∈ oj.after, Region.binds md e = true → e.on ≠ i := fun e he hb heq => by
      have h2 := hall e he hb
      rw [heq, getD_both hiu] at h2
      cases h2
    have h2 := wpOp_putIf hoj (hfree j oj hoj hji hju hnot) (fun cs b => hsel i oi cs b hi) (fun cs b => hsel j oj cs b hoj) hQ hy h1
    refine wpOp_mono (fun a' w' h3 => ⟨h3.2.1, ih (listed.setIfInBounds j true) a' w' (fun x hx => by rw [getD_set_ne true (hjr x hx)]; exact hch x hx) (fun k ok hk hki hun hno => hfree k ok hk hki ?_ hno) (ready_mono hr (Ne.symm hji)) h3.1 (h3.2.1 hjn) ?_⟩) h2
    · by_cases hjk : j = k
      · subst hjk; exact hju
      · rwa [getD_set_ne true hjk] at hun
    · rw [Array.setIfInBounds_comm _ _ hji]
      exact h3.2.2

theorem Late.take {n i : Nat} {oi : Oper} {v : Value} {f : Nat} {listed : Array Bool} {a : Act} {w : World} (r : List Nat) (hi : ops[i]? = some oi)
    (hs : Region.noSelect ops = true) (hw : chained md ops i r = true) (hn : n ∈ r) (hni : i ≠ n) (hl : r.all (fun x => listed.getD x true == false) = true) (hf : Region.free md ops listed i = true) (hr : (Region.ready md ops listed).contains i = true)
    (hQ : ∀ c a w, Q (.panic c) (a.put oi.dst v) w → Q (.panic c) a w) (hg : oi.guard = none) (hy : ∀ u, S u → (execOp a.eval oi).run P u = .ok (.value v) u) (hS : S w)
    (h : Late P md ops Q S n f (listed.setIfInBounds i true) (a.put oi.dst v) w) : Late P md ops Q S n (f + 1) listed a w :=
  Late.first r hi (Region.noSelect_spec hs) hw hn hni hQ f listed a w (fun x hx => by have := List.all_eq_true.1 hl x hx; simpa using this) (Region.free_spec hi hf) (by simpa using hr) (.inl ⟨by simp [Region.wanted, hg], hy⟩) hS h
/-- just one operation may come up -/
theorem Late.one {n i : Nat} {o : Oper} {f : Nat} {listed : Array Bool} {a : Act} {w : World} (hr : Region.ready md ops listed = [i]) (ho : ops[i]? = some o)
    (h : ∀ K : Act → World → Prop, (∀ a' w', (i ≠ n → S w') → Late P md ops Q S n f (listed.setIfInBounds i true) a' w' → K a' w') → if Region.wanted o (yielded ops a.tmps) = true then Oper.wp P o a w K Q else K (a.put o.dst undef) w) :
    Late P md ops Q S n (f + 1) listed a w := by
  refine ⟨(fun h0 => by rw [hr] at h0; cases h0), fun j hj => ?_⟩
  rw [hr] at hj
  obtain rfl : j = i := by simpa using hj
  have h1 := h (fun a' w' => (j ≠ n → S w') ∧ Late P md ops Q S n f (listed.setIfInBounds j true) a' w') (fun a' w' a b => ⟨a, b⟩)
  unfold wpOp
  simp only [ho]
  by_cases hwn : Region.wanted o (yielded ops a.tmps) = true
  · simp only [hwn, if_true] at h1 ⊢
    exact .inl h1
  · simp only [hwn] at h1 ⊢
    exact h1
theorem Late.done {n : Nat} {listed : Array Bool} {a : Act} {w : World} (hr : Region.ready md ops listed = []) (h : Q .normal a w) : ∀ f, Late P md ops Q S n f listed a w
  | 0 => ⟨hr, h⟩
  | _ + 1 => ⟨fun _ => h, by rw [hr]; simp⟩
theorem wp_region_late {id n : Nat} {a : Act} {w : World} (S : World → Prop) (hm : P.follows .mixedOrders = true) (h : Late P .any ops Q S n ops.size (Array.replicate ops.size false) a w.drew) : (Code.region id ops true).wp P Q a w :=
  wp_region_any hm (Late.any _ _ _ _ h)
end
end Go.Proofs.YthicgffppmbamaaGreat

namespace Go.Proofs.YthicgffppmbamaaGreat
open Go.RowKit
section
variable {P : Program} {ops : Array Oper} {Q : Exit → Act → World → Prop} {md : Region.Mode} {S : World → Prop}

/-- Whatever order is picked from here on; S holds behind every operation but those of N. -/
def LateN (P : Program) (md : Region.Mode) (ops : Array Oper) (Q : Exit → Act → World → Prop) (S : World → Prop) (N : List Nat) : Nat → Array Bool → Act → World → Prop
  | 0, listed, a, w => Region.ready md ops listed = [] ∧ Q .normal a w
  | f + 1, listed, a, w => (Region.ready md ops listed = [] → Q .normal a w) ∧
      ∀ i ∈ Region.ready md ops listed, wpOp P ops Q i (fun a' w' => (i ∉ N → S w') ∧ LateN P md ops Q S N f (listed.setIfInBounds i true) a' w') a w

theorem LateN.any {N : List Nat} : ∀ (f : Nat) (listed : Array Bool) (a : Act) (w : World), LateN P md ops Q S N f listed a w → wpAny P md ops Q f listed a w
  | 0, _, _, _, h => h
  | f + 1, _, _, _, h => ⟨h.1, fun i hi => wpOp_mono (fun _ _ h' => LateN.any f _ _ _ h'.2) (h.2 i hi)⟩

theorem getD_set_self' {l : Array Bool} {j : Nat} (h : l.getD j true = false) : (l.setIfInBounds j true).getD j true = true := by
  have hj : j < l.size := by
    rcases Nat.lt_or_ge j l.size with h' | h'
    · exact h'
    · simp [Array.getD, Nat.not_lt.2 h'] at h
  simp [Array.getD, hj]
/-- an operation that is ready, yields one value in every world with S, and for which those of N wait (by some others between), may be taken first -/
theorem LateN.first {N : List Nat} {i : Nat} {oi : Oper} {v : Value} (r : List Nat) (hi : ops[i]? = some oi) (hsel : ∀ (j : Nat) (o : Oper) cs b, ops[j]? = some o → o.op ≠ .select cs b) (hw : chained md ops i r = true)
    (hQ : ∀ c a w, Q (.panic c) (a.put oi.dst v) w → Q (.panic c) a w) : ∀ (f : Nat) (listed : Array Bool) (a : Act) (w : World),
      (∀ x ∈ r, listed.getD x true = false) → (∀ n ∈ N, n ∈ r ∨ listed.getD n true = true) →
      (∀ j oj, ops[j]? = some oj → j ≠ i → listed.getD j true = false → (∀ e ∈ oj.after, Region.binds md e = true → e.on ≠ i) → oi.apart ops oj = true) →
      i ∈ Region.ready md ops listed → YieldsIf P ops S oi v a → S w →
      LateN P md ops Q S N f (listed.setIfInBounds i true) (a.put oi.dst v) w → LateN P md ops Q S N (f + 1) listed a w := by
  intro f
  induction f with
  | zero =>
    intro listed a w _ _ _ hr hy hS H
    refine ⟨fun h => absurd hr (by rw [h]; simp), fun j hj => ?_⟩
    by_cases hji : j = i
    · subst hji
      exact hy.wpOp hi hS ⟨fun _ => hS, H⟩
    · have hm := ready_mono hj hji
      rw [H.1] at hm
      cases hm
  | succ f ih =>
    intro listed a w hch hn hfree hr hy hS H
    refine ⟨fun h => absurd hr (by rw [h]; simp), fun j hj => ?_⟩
    by_cases hji : j = i
    · subst hji
      exact hy.wpOp hi hS ⟨fun _ => hS, H⟩
    have hiu : listed.getD i true = false := (mem_ready.1 hr).1
    have hjr : ∀ x ∈ r, j ≠ x := fun x hx e => chained_not_ready r i hw hiu hch x hx (e ▸ hj)
    have h1 := H.2 j (ready_mono hj hji)
    obtain ⟨hju, oj, hoj, hall⟩ := mem_ready.1 hj
    have hjn : j ∉ N := fun e => (hn j e).elim (fun h => hjr j h rfl) (fun h => by rw [hju] at h; cases h)
    have hnot : ∀ e ∈ oj.after, Region.binds md e = true → e.on ≠ i := fun e he hb heq => by
      have h2 := hall e he hb
      rw [heq, getD_both hiu] at h2
      cases h2
    have h2 := wpOp_putIf hoj (hfree j oj hoj hji hju hnot) (fun cs b => hsel i oi cs b hi) (fun cs b => hsel j oj cs b hoj) hQ hy h1
    refine wpOp_mono (fun a' w' h3 => ⟨h3.2.1, ih (listed.setIfInBounds j true) a' w' (fun x hx => by rw [getD_set_ne true (hjr x hx)]; exact hch x hx) (fun n hn' => (hn n hn').imp id (fun h => (Decidable.em (j = n)).elim (fun e => by subst e; exact getD_set_self' hju) (fun e => by rw [getD_set_ne true e]; exact h))) (fun k ok hk hki hun hno => hfree k ok hk hki ?_ hno) (ready_mono hr (Ne.symm hji)) h3.1 (h3.2.1 hjn) ?_⟩) h2
    · by_cases hjk : j = k
      · subst hjk; exact hju
      · rwa [getD_set_ne true hjk] at hun
    · rw [Array.setIfInBounds_comm _ _ hji]
      exact h3.2.2

theorem LateN.take {N : List Nat} {i : Nat} {oi : Oper} {v : Value} {f : Nat} {listed : Array Bool} {a : Act} {w : World} (r : List Nat) (hi : ops[i]? = some oi)
    (hs : Region.noSelect ops = true) (hw : chained md ops i r = true) (hn : N.all (fun n => r.contains n || listed.getD n true) = true) (hl : r.all (fun x => listed.getD x true == false) = true) (hf : Region.free md ops listed i = true) (hr : (Region.ready md ops listed).contains i = true)
    (hQ : ∀ c a w, Q (.panic c) (a.put oi.dst v) w → Q (.panic c) a w) (hg : oi.guard = none) (hy : ∀ u, S u → (execOp a.eval oi).run P u = .ok (.value v) u) (hS : S w)
    (h : LateN P md ops Q S N f (listed.setIfInBounds i true) (a.put oi.dst v) w) : LateN P md ops Q S N (f + 1) listed a w :=
  LateN.first r hi (Region.noSelect_spec hs) hw hQ f listed a w (fun x hx => by have := List.all_eq_true.1 hl x hx; simpa using this) (fun n h => by have := List.all_eq_true.1 hn n h; rw [Bool.or_eq_true] at this; exact this.imp (fun h => by simpa using h) id) (Region.free_spec hi hf) (by simpa using hr) (.inl ⟨by simp [Region.wanted, hg], hy⟩) hS h
/-- an operation of N that yields one value in every world may be taken first -/
theorem LateN.pure {N : List Nat} {i : Nat} {oi : Oper} {v : Value} (hi : ops[i]? = some oi) (hsel : ∀ (j : Nat) (o : Oper) cs b, ops[j]? = some o → o.op ≠ .select cs b) (hN : i ∈ N)
    (hQ : ∀ c a w, Q (.panic c) (a.put oi.dst v) w → Q (.panic c) a w) : ∀ (f : Nat) (listed : Array Bool) (a : Act) (w : World),
      (∀ j oj, ops[j]? = some oj → j ≠ i → listed.getD j true = false → (∀ e ∈ oj.after, Region.binds md e = true → e.on ≠ i) → oi.apart ops oj = true) →
      i ∈ Region.ready md ops listed → YieldsIf P ops (fun _ => True) oi v a →
      LateN P md ops Q S N f (listed.setIfInBounds i true) (a.put oi.dst v) w → LateN P md ops Q S N (f + 1) listed a w := by
  intro f
  induction f with
  | zero =>
    intro listed a w _ hr hy H
    refine ⟨fun h => absurd hr (by rw [h]; simp), fun j hj => ?_⟩
    by_cases hji : j = i
    · subst hji
      exact hy.wpOp hi trivial ⟨fun h => absurd hN h, H⟩
    · have hm := ready_mono hj hji
      rw [H.1] at hm
      cases hm
  | succ f ih =>
    intro listed a w hfree hr hy H
    refine ⟨fun h => absurd hr (by rw [h]; simp), fun j hj => ?_⟩
    by_cases hji : j = i
    · subst hji
      exact hy.wpOp hi trivial ⟨fun h => absurd hN h, H⟩
    have hiu : listed.getD i true = false := (mem_ready.1 hr).1
    have h1 := H.2 j (ready_mono hj hji)
    obtain ⟨hju, oj, hoj, hall⟩ := mem_ready.1 hj
    have hnot : ∀ e ∈ oj.after, Region.binds md e = true → e.on ≠ i := fun e he hb heq => by
      have h2 := hall e he hb
      rw [heq, getD_both hiu] at h2
      cases h2
    have h2 := wpOp_putIf hoj (hfree j oj hoj hji hju hnot) (fun cs b => hsel i oi cs b hi) (fun cs b => hsel j oj cs b hoj) hQ hy h1
    refine wpOp_mono (fun a' w' h3 => ⟨h3.2.1, ih (listed.setIfInBounds j true) a' w' (fun k ok hk hki hun hno => hfree k ok hk hki ?_ hno) (ready_mono hr (Ne.symm hji)) h3.1 ?_⟩) h2
    · by_cases hjk : j = k
      · subst hjk; exact hju
      · rwa [getD_set_ne true hjk] at hun
    · rw [Array.setIfInBounds_comm _ _ hji]
      exact h3.2.2
theorem LateN.takeP {N : List Nat} {i : Nat} {oi : Oper} {v : Value} {f : Nat} {listed : Array Bool} {a : Act} {w : World} (hi : ops[i]? = some oi)
    (hs : Region.noSelect ops = true) (hN : i ∈ N) (hf : Region.free md ops listed i = true) (hr : (Region.ready md ops listed).contains i = true)
    (hQ : ∀ c a w, Q (.panic c) (a.put oi.dst v) w → Q (.panic c) a w) (hg : oi.guard = none) (hy : ∀ u : World, (execOp a.eval oi).run P u = .ok (.value v) u)
    (h : LateN P md ops Q S N f (listed.setIfInBounds i true) (a.put oi.dst v) w) : LateN P md ops Q S N (f + 1) listed a w :=
  LateN.pure hi (Region.noSelect_spec hs) hN hQ f listed a w (Region.free_spec hi hf) (by simpa using hr) (.inl ⟨by simp [Region.wanted, hg], fun u _ => hy u⟩) h
/-- just one operation may come up -/
theorem LateN.one {N : List Nat} {i : Nat} {o : Oper} {f : Nat} {listed : Array Bool} {a : Act} {w : World} (hr : Region.ready md ops listed = [i]) (ho : ops[i]? = some o)
    (h : ∀ K : Act → World → Prop, (∀ a' w', (i ∉ N → S w') → LateN P md ops Q S N f (listed.setIfInBounds i true) a' w' → K a' w') → if Region.wanted o (yielded ops a.tmps) = true then Oper.wp P o a w K Q else K (a.put o.dst undef) w) :
    LateN P md ops Q S N (f + 1) listed a w := by
  refine ⟨(fun h0 => by rw [hr] at h0; cases h0), fun j hj => ?_⟩
  rw [hr] at hj
  obtain rfl : j = i := by simpa using hj
  have h1 := h (fun a' w' => (j ∉ N → S w') ∧ LateN P md ops Q S N f (listed.setIfInBounds j true) a' w') (fun a' w' a b => ⟨a, b⟩)
  unfold wpOp
  simp only [ho]
  by_cases hwn : Region.wanted o (yielded ops a.tmps) = true
  · simp only [hwn, if_true] at h1 ⊢
    exact .inl h1
  · simp only [hwn] at h1 ⊢
    exact h1
theorem LateN.done {N : List Nat} {listed : Array Bool} {a : Act} {w : World} (hr : Region.ready md ops listed = []) (h : Q .normal a w) : ∀ f, LateN P md ops Q S N f listed a w
  | 0 => ⟨hr, h⟩
  | _ + 1 => ⟨fun _ => h, by rw [hr]; simp⟩
theorem wp_region_lateN {id : Nat} {N : List Nat} {a : Act} {w : World} (S : World → Prop) (hm : P.follows .mixedOrders = true) (h : LateN P .any ops Q S N ops.size (Array.replicate ops.size false) a w.drew) : (Code.region id ops true).wp P Q a w :=
  wp_region_any hm (LateN.any _ _ _ _ h)
end
end Go.Proofs.YthicgffppmbamaaGreat

namespace Go.Proofs.YthicgffppmbamaaGreat
open Go.RowKit

/-- v is a slice of n elements of 'size' cells each, in a row of the call's own: its cells are cs, and it may be written. -/
def Own (w : World) (size : Nat) (v : Value) (n : Nat) (cs : List Value) : Prop :=
  cs.length = n * size ∧ ((v = .slice none 0 0 ∧ n = 0) ∨ ∃ g cap, v = .slice (some ⟨g, 0, none⟩) n cap ∧ n ≤ cap ∧ cap ≤ maxLen ∧ g < w.heap.size ∧
    (∀ j, j < n * size → w.cell? ⟨g, j, none⟩ = cs[j]?) ∧ (∀ j, j < cap * size → (w.cell? ⟨g, j, none⟩).isSome = true ∧ w.frozen? ⟨g, j, none⟩ = false))

theorem Own.nil (w : World) (size : Nat) : Own w size (.slice none 0 0) 0 [] := ⟨by simp, .inl ⟨rfl, rfl⟩⟩
theorem Own.kept {w w' : World} {S : Nat → Prop} {size n : Nat} {v : Value} {cs : List Value} (h : Own w size v n cs) (k : Kp S w w') (hn : ∀ g, v.ownBlock = some g → ¬ S g) : Own w' size v n cs := by
  refine ⟨h.1, ?_⟩
  rcases h.2 with h | ⟨g, cap, rfl, h1, h2, h3, h4, h5⟩
  · exact .inl h
  · have e := k.block g h3 (hn g rfl)
    refine .inr ⟨g, cap, rfl, h1, h2, Nat.lt_of_lt_of_le h3 k.size, fun j hj => ?_, fun j hj => ?_⟩
    · rw [World.cell?_of_block (w := w) (a := ⟨g, j, none⟩) e]; exact h4 j hj
    · rw [World.cell?_of_block (w := w) (a := ⟨g, j, none⟩) e, World.frozen?_of_block (w := w) (a := ⟨g, j, none⟩) e]; exact h5 j hj
theorem Own.ext {w w' : World} {size n : Nat} {v : Value} {cs : List Value} (h : Own w size v n cs) (k : Ext w w') : Own w' size v n cs := h.kept k (fun _ _ f => f)
theorem Own.lt {w : World} {size n : Nat} {v : Value} {cs : List Value} (h : Own w size v n cs) {g : Nat} (hg : v.ownBlock = some g) : g < w.heap.size := by
  rcases h.2 with ⟨rfl, _⟩ | ⟨g', cap, rfl, _, _, h3, _⟩
  · simp [Value.ownBlock] at hg
  · simp [Value.ownBlock] at hg; omega
theorem Own.shape {w : World} {size n : Nat} {v : Value} {cs : List Value} (h : Own w size v n cs) : ∃ ao cap, v = .slice ao n cap ∧ n ≤ cap := by
  rcases h.2 with ⟨rfl, rfl⟩ | ⟨g', cap, rfl, h1, _⟩
  · exact ⟨_, _, rfl, Nat.le_refl _⟩
  · exact ⟨_, _, rfl, h1⟩

/-- append: the new row, and the old one as it was; where the new one lies -/
theorem run_append_s (P : Program) (w : World) (t e tx ty : TypeId) (z : Value) (size bytes : Nat) (ht : P.underlying t = some (.slice e)) (hinfo : (P.info? e).map (fun i => (i.zero, i.size, i.bytes)) = some (some z, size, bytes)) (hzc : z.cells.size = size)
    (v : Value) (n : Nat) (cs : List Value) (hown : Own w size v n cs) (x : Value) (m : Nat) (news : List Value) (hs : Src P size tx x m news w) (hb : (n + m) * bytes ≤ 140737488355328) (hm : n + m ≤ 1000000000000000) :
    ∃ v' w', (Builtin.append_ #[t, tx] ty #[v, x]).run P w = .ok v' w' ∧ Own w' size v' (n + m) (cs ++ news) ∧ Kp (Of v) w w' ∧ Own w' size v n cs ∧ (v'.ownBlock = v.ownBlock ∨ ∃ g, v'.ownBlock = some g ∧ w.heap.size ≤ g ∧ Ext w w') := by
  obtain ⟨i0, hi, hz0, hz1, hz2⟩ := info_parts hinfo
  have hs' : Src P i0.size tx x m news w := by rw [hz1]; exact hs
  have hnl : news.length = m * size := hs.newsLen
  have hcl := hown.1
  have hlen : (cs ++ news).length = (n + m) * size := by rw [List.length_append, hcl, hnl, Nat.add_mul]
  have grow : ∀ (base : Option Addr) (cap : Nat), v = .slice base n cap → cap < n + m → (Builtin.firstCells i0.size n (.slice base n cap)).run P w.drew = .ok cs.toArray w.drew →
      ∃ v' w', (Builtin.append_ #[t, tx] ty #[v, x]).run P w = .ok v' w' ∧ Own w' size v' (n + m) (cs ++ news) ∧ Kp (Of v) w w' ∧ Own w' size v n cs ∧ (v'.ownBlock = v.ownBlock ∨ ∃ g, v'.ownBlock = some g ∧ w.heap.size ≤ g ∧ Ext w w') := by
    rintro base cap rfl hg hold
    have hrun := run_append_grow_src (P := P) w t tx ty e i0 z ht hi hz0 base n cap cs hold x m news hs' hg (by omega) (growslice_fits hg (by rw [hz2]; exact hb))
    have hge := grownCap_ge w (n + m) cap e
    have hcm := grownCap_le_maxLen w (n + m) cap e (by unfold maxLen; omega)
    have hsz : ((cs ++ news).toArray ++ Builtin.zeroCells z.cells (grownCap w (n + m) cap e - (n + m))).size = grownCap w (n + m) cap e * size := by
      rw [Array.size_append, size_zeroCells, hzc, List.size_toArray, hlen, ← Nat.add_mul]
      congr 1
      omega
    refine ⟨_, _, hrun, ⟨hlen, .inr ⟨w.heap.size, _, rfl, hge, hcm, by simp, fun j hj => ?_, fun j hj => ⟨?_, ?_⟩⟩⟩, Kp.alloc (Kp.drew (Kp.refl _ _)) _, hown.ext (Kp.alloc (Kp.drew (Kp.refl _ _)) _), .inr ⟨_, rfl, Nat.le_refl _, Kp.alloc (Kp.drew (Kp.refl _ _)) _⟩⟩
    · have e1 := World.cell?_alloc_new w.drew ((cs ++ news).toArray ++ Builtin.zeroCells z.cells (grownCap w (n + m) cap e - (n + m))) e j
      have e2 : w.drew.heap.size = w.heap.size := rfl
      rw [e2] at e1
      rw [e1, Array.getElem?_append_left (by rw [List.size_toArray, hlen]; exact hj), List.getElem?_toArray]
    · have e1 := World.cell?_alloc_new w.drew ((cs ++ news).toArray ++ Builtin.zeroCells z.cells (grownCap w (n + m) cap e - (n + m))) e j
      have e2 : w.drew.heap.size = w.heap.size := rfl
      rw [e2] at e1
      rw [e1, Array.getElem?_eq_getElem (by rw [hsz]; exact hj)]
      rfl
    · exact World.frozen?_alloc_new w.drew _ _ j
  rcases hown.2 with ⟨rfl, rfl⟩ | ⟨g, cap, rfl, h1, h2, h3, h4, h5⟩
  · obtain rfl : cs = [] := List.eq_nil_of_length_eq_zero (by simpa using hcl)
    by_cases hn : m = 0
    · subst hn
      obtain rfl : news = [] := List.eq_nil_of_length_eq_zero (by simpa using hnl)
      exact ⟨_, _, run_append_nothing (P := P) w t tx ty e i0 ht hi none 0 0 (Nat.le_refl _) x hs', ⟨by simp, .inl ⟨rfl, rfl⟩⟩, Kp.refl _ _, hown, .inl rfl⟩
    · exact grow none 0 rfl (by omega) (run_firstCells_none w.drew _ _ _ _)
  · by_cases hfit : n + m ≤ cap
    · have hcs : (n + m) * size ≤ cap * size := Nat.mul_le_mul_right _ hfit
      rw [Nat.add_mul] at hcs
      have hrun := run_append_room_src (P := P) w t tx ty e i0 ht hi g 0 n cap x m news hs' hfit
        (fun j hj => by rw [hz1, Nat.zero_add]; exact (h5 _ (by omega)).1) (fun j hj => by rw [hz1, Nat.zero_add]; exact (h5 _ (by omega)).2)
      rw [hz1] at hrun
      simp only [Nat.zero_add] at hrun
      refine ⟨_, _, hrun, ⟨hlen, .inr ⟨g, cap, rfl, hfit, h2, ?_, fun j hj => ?_, fun j hj => ⟨?_, ?_⟩⟩⟩, ?_, ⟨hcl, .inr ⟨g, cap, rfl, h1, h2, ?_, fun j hj => ?_, fun j hj => ⟨?_, ?_⟩⟩⟩, .inl rfl⟩
      · have := (World.keptBut_setCells g (may := fun _ => True) news (n * size) w (fun _ _ => trivial)).size
        omega
      · rw [Nat.add_mul] at hj
        by_cases hj1 : j < n * size
        · rw [World.cell?_setCells_out g _ _ _ _ (fun _ _ => Or.inl hj1), List.getElem?_append_left (by omega)]
          exact h4 j hj1
        · have := World.cell?_setCells_in g news (n * size) w (fun j' hj' => (h5 _ (by omega)).1) (j - n * size) (by omega)
          rw [show n * size + (j - n * size) = j by omega] at this
          rw [this, List.getElem?_append_right (by omega), hcl, List.getElem?_eq_getElem]
      · by_cases hj1 : j < n * size ∨ n * size + news.length ≤ j
        · rw [World.cell?_setCells_out g _ _ _ _ (fun _ _ => hj1)]
          exact (h5 j hj).1
        · have := World.cell?_setCells_in g news (n * size) w (fun j' hj' => (h5 _ (by omega)).1) (j - n * size) (by omega)
          rw [show n * size + (j - n * size) = j by omega] at this
          rw [this]; rfl
      · rw [World.frozen?_setCells]; exact (h5 j hj).2
      · have hkb := World.keptBut_setCells g (may := fun _ => True) news (n * size) w (fun _ _ => trivial)
        refine ⟨World.os_setCells _ _ _ _, ?_, World.output_setCells _ _ _ _, hkb.size, fun k hk hn => World.heap_setCells_other _ _ _ _ hk (fun e => hn (by subst e; rfl))⟩
        have ht : ∀ (l : List Value) (o : Nat) (u : World), (u.setCells g o l).tape = u.tape := by
          intro l
          induction l with
          | nil => intro o u; rfl
          | cons y r ih => intro o u; rw [World.setCells, ih]; rfl
        exact ht _ _ _
      · have := (World.keptBut_setCells g (may := fun _ => True) news (n * size) w (fun _ _ => trivial)).size
        omega
      · rw [World.cell?_setCells_out g _ _ _ _ (fun _ _ => Or.inl hj)]
        exact h4 j hj
      · by_cases hj1 : j < n * size ∨ n * size + news.length ≤ j
        · rw [World.cell?_setCells_out g _ _ _ _ (fun _ _ => hj1)]
          exact (h5 j hj).1
        · have := World.cell?_setCells_in g news (n * size) w (fun j' hj' => (h5 _ (by omega)).1) (j - n * size) (by omega)
          rw [show n * size + (j - n * size) = j by omega] at this
          rw [this]; rfl
      · rw [World.frozen?_setCells]; exact (h5 j hj).2
    · refine grow (some ⟨g, 0, none⟩) cap rfl (by omega) ?_
      rw [hz1]
      exact run_firstCells_some w.drew size n ⟨g, 0, none⟩ _ _ cs hcl (fun j u hu => by
        have hj := (List.getElem?_eq_some_iff.1 hu).1
        rw [Addr.add_lit, Nat.zero_add]
        exact (h4 j (by omega)).trans hu)

theorem run_append_g (P : Program) (w : World) (t e tx ty : TypeId) (z : Value) (size bytes : Nat) (ht : P.underlying t = some (.slice e)) (hinfo : (P.info? e).map (fun i => (i.zero, i.size, i.bytes)) = some (some z, size, bytes)) (hzc : z.cells.size = size)
    (v : Value) (n : Nat) (cs : List Value) (hown : Own w size v n cs) (x : Value) (m : Nat) (news : List Value) (hs : Src P size tx x m news w) (hb : (n + m) * bytes ≤ 140737488355328) (hm : n + m ≤ 1000000000000000) :
    ∃ v' w', (Builtin.append_ #[t, tx] ty #[v, x]).run P w = .ok v' w' ∧ Own w' size v' (n + m) (cs ++ news) ∧ Kp (Of v) w w' ∧ Sep w v v' := by
  obtain ⟨v', w', h1, h2, h3, _, h4⟩ := run_append_s P w t e tx ty z size bytes ht hinfo hzc v n cs hown x m news hs hb hm
  exact ⟨v', w', h1, h2, h3, h4.imp id (fun ⟨g, a, b, _⟩ => ⟨g, a, b⟩)⟩

theorem wpList_append_g {P : Program} (w : World) {ops : Array Oper} {rest : List Oper} {o : Oper} {a : Act} {Q : Exit → Act → World → Prop} (hgd : o.guard = none) (s x : Operand) (t tx : TypeId)
    (ho : o.op = .call { callee := .builtin .append, args := #[s, x], argTypes := #[t, tx] }) (e : TypeId) (z : Value) (size bytes : Nat) (ht : P.underlying t = some (.slice e)) (hinfo : (P.info? e).map (fun i => (i.zero, i.size, i.bytes)) = some (some z, size, bytes)) (hzc : z.cells.size = size)
    (v : Value) (n : Nat) (cs : List Value) (hv : a.eval s = v) (hown : Own w size v n cs) (xv : Value) (hx : a.eval x = xv) (m : Nat) (news : List Value) (hs : Src P size tx xv m news w) (hb : (n + m) * bytes ≤ 140737488355328) (hm : n + m ≤ 1000000000000000)
    (hK : ∀ v' w', Own w' size v' (n + m) (cs ++ news) → Kp (Of v) w w' → Sep w v v' → wpList P ops Q rest (a.put o.dst v') w') : wpList P ops Q (o :: rest) a w := by
  refine wpList_plain hgd fun K hK' => ?_
  obtain ⟨v', w', hrun, r1, r2, r3⟩ := run_append_g P w t e tx o.type z size bytes ht hinfo hzc v n cs hown xv m news hs hb hm
  unfold Oper.wp
  simp [execOp, ho, resolve, invoke, builtin, hv, hx, hrun, Result.andThen]
  exact hK' _ _ (hK v' w' r1 r2 r3)
theorem wpList_append_s {P : Program} (w : World) {ops : Array Oper} {rest : List Oper} {o : Oper} {a : Act} {Q : Exit → Act → World → Prop} (hgd : o.guard = none) (s x : Operand) (t tx : TypeId)
    (ho : o.op = .call { callee := .builtin .append, args := #[s, x], argTypes := #[t, tx] }) (e : TypeId) (z : Value) (size bytes : Nat) (ht : P.underlying t = some (.slice e)) (hinfo : (P.info? e).map (fun i => (i.zero, i.size, i.bytes)) = some (some z, size, bytes)) (hzc : z.cells.size = size)
    (v : Value) (n : Nat) (cs : List Value) (hv : a.eval s = v) (hown : Own w size v n cs) (xv : Value) (hx : a.eval x = xv) (m : Nat) (news : List Value) (hs : Src P size tx xv m news w) (hb : (n + m) * bytes ≤ 140737488355328) (hm : n + m ≤ 1000000000000000)
    (hK : ∀ v' w', Own w' size v' (n + m) (cs ++ news) → Kp (Of v) w w' → Own w' size v n cs → (v'.ownBlock = v.ownBlock ∨ ∃ g, v'.ownBlock = some g ∧ w.heap.size ≤ g ∧ Ext w w') → wpList P ops Q rest (a.put o.dst v') w') : wpList P ops Q (o :: rest) a w := by
  refine wpList_plain hgd fun K hK' => ?_
  obtain ⟨v', w', hrun, r1, r2, r3, r4⟩ := run_append_s P w t e tx o.type z size bytes ht hinfo hzc v n cs hown xv m news hs hb hm
  unfold Oper.wp
  simp [execOp, ho, resolve, invoke, builtin, hv, hx, hrun, Result.andThen]
  exact hK' _ _ (hK v' w' r1 r2 r3 r4)
end Go.Proofs.YthicgffppmbamaaGreat

namespace Go.Proofs.YthicgffppmbamaaGreat
open Go.RowKit

/-- v is a slice of elements of one cell each, cs, in a block with C -/
def RdP (C : Nat → Prop) (w : World) (v : Value) (cs : List Value) : Prop :=
  ∃ ao cap, v = .slice ao cs.length cap ∧ cs.length ≤ cap ∧ cs.length ≤ 17592186044416 ∧ (0 < cs.length → ∃ b off, ao = some ⟨b, off, none⟩ ∧ C b ∧ ∀ j, j < cs.length → w.cell? ⟨b, off + j, none⟩ = cs[j]?)

theorem RdP.kept {C : Nat → Prop} {S : Nat → Prop} {w w' : World} {v : Value} {cs : List Value} (h : RdP C w v cs) (k : Kp S w w') (hS : ∀ i, C i → ¬ S i) : RdP C w' v cs := by
  obtain ⟨ao, cap, rfl, h1, h2, h3⟩ := h
  refine ⟨ao, cap, rfl, h1, h2, fun hp => ?_⟩
  obtain ⟨b, off, rfl, hb, hc⟩ := h3 hp
  refine ⟨b, off, rfl, hb, fun j hj => ?_⟩
  have := hc j hj
  rw [List.getElem?_eq_getElem hj] at this ⊢
  exact k.cell this (hS b hb)
theorem RdP.mono {C C' : Nat → Prop} {w : World} {v : Value} {cs : List Value} (h : RdP C w v cs) (hC : ∀ b, b < w.heap.size → C b → C' b) : RdP C' w v cs := by
  obtain ⟨ao, cap, rfl, h1, h2, h3⟩ := h
  refine ⟨ao, cap, rfl, h1, h2, fun hp => ?_⟩
  obtain ⟨b, off, rfl, hb, hc⟩ := h3 hp
  refine ⟨b, off, rfl, hC b ?_ hb, hc⟩
  have := hc 0 hp
  rw [List.getElem?_eq_getElem hp] at this
  simpa using World.block_lt_of_cell? _ _ this
theorem RdP.rd {C : Nat → Prop} {w : World} {v : Value} {cs : List Value} (h : RdP C w v cs) : Rd w.heap.size w v cs := h.mono (C' := fun b => b < w.heap.size) (fun _ hb _ => hb)
theorem Rd.rdP {B : Nat} {w : World} {v : Value} {cs : List Value} (h : Rd B w v cs) : RdP (fun b => b < B) w v cs := h
theorem RdP.nil (C : Nat → Prop) (w : World) : RdP C w (.slice none 0 0) [] := ⟨none, 0, rfl, Nat.le_refl _, Nat.zero_le _, fun h => absurd h (by simp)⟩

theorem RdP.drop {C : Nat → Prop} {w : World} {b off L cap q : Nat} {cs : List Value} (h : RdP C w (.slice (some ⟨b, off, none⟩) L cap) cs) (hL : cs.length = L) (hq : q ≤ L) :
    RdP C w (.slice (if cap = q then some ⟨b, off, none⟩ else some ⟨b, off + q, none⟩) (L - q) (cap - q)) (cs.drop q) := by
  obtain ⟨ao, cap', e, h1, h2, h3⟩ := h
  simp only [Value.slice.injEq] at e
  obtain ⟨rfl, _, rfl⟩ := e
  refine ⟨_, cap - q, by rw [List.length_drop, hL], by rw [List.length_drop]; omega, by rw [List.length_drop]; omega, fun hp => ?_⟩
  rw [List.length_drop] at hp
  obtain ⟨b', off', e, hb, hc⟩ := h3 (by omega)
  simp only [Option.some.injEq, Addr.mk.injEq] at e
  obtain ⟨rfl, rfl, _⟩ := e
  refine ⟨b, off + q, by rw [if_neg (by omega)], hb, fun j hj => ?_⟩
  rw [List.length_drop] at hj
  rw [Nat.add_assoc, hc (q + j) (by omega), List.getElem?_drop]
theorem RdP.take {C : Nat → Prop} {w : World} {ao : Option Addr} {L cap q : Nat} {cs : List Value} (h : RdP C w (.slice ao L cap) cs) (hL : cs.length = L) (hq : q ≤ L) : RdP C w (.slice ao q cap) (cs.take q) := by
  obtain ⟨ao', cap', e, h1, h2, h3⟩ := h
  simp only [Value.slice.injEq] at e
  obtain ⟨rfl, _, rfl⟩ := e
  have hl : (cs.take q).length = q := by rw [List.length_take]; omega
  refine ⟨ao, cap, by rw [hl], by omega, by omega, fun hp => ?_⟩
  obtain ⟨b', off', e, hb, hc⟩ := h3 (by omega)
  refine ⟨b', off', e, hb, fun j hj => ?_⟩
  rw [hc j (by omega), List.getElem?_take_of_lt (by omega)]

/-- bytes that are read -/
abbrev RdB (C : Nat → Prop) (w : World) (v : Value) (bs : List UInt8) : Prop := RdP C w v (bs.map B)
theorem RdB.open {C : Nat → Prop} {w : World} {v : Value} {bs : List UInt8} (h : RdB C w v bs) : ∃ ao cap, v = .slice ao bs.length cap ∧ bs.length ≤ cap ∧ bs.length ≤ 17592186044416 ∧
    (0 < bs.length → ∃ b off, ao = some ⟨b, off, none⟩ ∧ C b ∧ ∀ j, j < bs.length → w.cell? ⟨b, off + j, none⟩ = some (.int .u8 ((bs.getD j 0).toNat))) := by
  obtain ⟨ao, cap, rfl, h1, h2, h3⟩ := h
  simp only [List.length_map] at h1 h2 h3 ⊢
  refine ⟨ao, cap, rfl, h1, h2, fun hp => ?_⟩
  obtain ⟨b, off, rfl, hb, hc⟩ := h3 hp
  exact ⟨b, off, rfl, hb, fun j hj => by rw [hc j hj]; simp [B, List.getElem?_eq_getElem hj]⟩
theorem OwnB.rdB {w : World} {v : Value} {bs : List UInt8} (h : OwnB w v bs) (hl : bs.length ≤ 100000) (C : Nat → Prop) (hC : ∀ g, v.ownBlock = some g → C g) : RdB C w (match v with | .slice a n c => .slice a n (min c 17592186044416) | x => x) bs := by
  rcases h with ⟨rfl, rfl⟩ | ⟨g, cap, rfl, h1, h2, h3, h4, _⟩
  · exact RdP.nil C w
  · refine ⟨_, _, by simp only [List.length_map]; rfl, by simp only [List.length_map]; omega, by simp only [List.length_map]; omega, fun _ => ⟨g, 0, rfl, hC g rfl, fun j hj => ?_⟩⟩
    simp only [List.length_map] at hj
    rw [Nat.zero_add]; exact h4 j hj

end Go.Proofs.YthicgffppmbamaaGreat

namespace Go.Proofs.YthicgffppmbamaaGreat
open Go.RowKit

def bytesOf (s : ByteArray) : List UInt8 := s.data.toList
theorem bytesOf_len (s : ByteArray) : (bytesOf s).length = s.size := by
  unfold bytesOf
  rw [Array.length_toList]
  rfl
theorem bytesOf_inj {s t : ByteArray} (h : bytesOf s = bytesOf t) : s = t := by
  cases s; cases t
  simp only [bytesOf] at h
  congr 1
  exact Array.toList_inj.1 h
theorem eq_bytes (s t : ByteArray) : (s.toList == t.toList) = decide (bytesOf s = bytesOf t) := by
  rw [ByteArray.toList_eq, ByteArray.toList_eq, Bool.eq_iff_iff]
  simp [bytesOf]

set_option maxRecDepth 20000 in
set_option maxHeartbeats 400000 in
theorem wrongValue_any (w : World) (n : Int) : Calls Tryz.prog 137 #[.int .i64 n] w fun e w' => e = .returned (.bool (!Pl.okVal n)) ∧ w' = w := by
  by_cases h1 : n < 0
  · have e : Pl.okVal n = false := by rw [← Bool.not_eq_true, Pl.okVal_iff]; omega
    rw [e]
    go_enter Tryz.func137, Tryz.ntmps137
    go_wp2
    go_ret
    exact ⟨rfl, rfl⟩
  · by_cases h2 : 1099511627775 < n
    · have e : Pl.okVal n = false := by rw [← Bool.not_eq_true, Pl.okVal_iff]; omega
      rw [e]
      go_enter Tryz.func137, Tryz.ntmps137
      go_wp2
      go_ret
      exact ⟨by simp, rfl⟩
    · have e : Pl.okVal n = true := by rw [Pl.okVal_iff]; omega
      rw [e]
      go_enter Tryz.func137, Tryz.ntmps137
      go_wp2
      go_ret
      exact ⟨by simp, rfl⟩

set_option maxRecDepth 20000 in
set_option maxHeartbeats 400000 in
theorem indexFunc_any (B0 : Nat) (w : World) (v : Value) (xs : List Int) (hr : RdI B0 w v xs) :
    Calls Tryz.prog 152 #[v, .func (.func 137) #[] #[]] w fun e w' => ∃ r : Int, e = .returned (.int .i64 r) ∧ -1 ≤ r ∧ r ≤ 17592186044416 ∧ (0 ≤ r ↔ Pl.badIn xs = true) ∧ w' = w := by
  obtain ⟨ao, cap, rfl, h1, h2, h3⟩ := RdI.open hr
  clear hr
  go_enter Tryz.func152, Tryz.ntmps152
  go_wp2_with fail
  go_loop [8] (fun i => ∃ k : Nat, k ≤ xs.length ∧ i = .int .i64 k ∧ Hid ((xs.take k).all Pl.okVal = true)) (fun i => xs.length - (intOf i).toNat)
  case atStart => exact ⟨0, Nat.zero_le _, rfl, by show _ = _; simp⟩
  case round =>
    obtain ⟨k, hk, rfl, hall⟩ := hrel
    by_cases hkl : k < xs.length
    · obtain ⟨b, off, rfl, hb, hc⟩ := h3 (by omega)
      have hck := hc k hkl
      clear hc h3
      rw [show xs.getD k 0 = xs[k] by rw [List.getD_eq_getElem?_getD, List.getElem?_eq_getElem hkl]; rfl] at hck
      cases hok : Pl.okVal xs[k] with
      | true =>
        have hw := wrongValue_any w xs[k]
        rw [hok] at hw
        have HN : Hid ((xs.take (k + 1)).all Pl.okVal = true) := by
          show _ = _
          rw [List.take_succ_eq_append_getElem hkl, List.all_append, hall.out]; simp [hok]
        clear hok
        generalize xs[k] = x at *
        have HW := hide hw
        clear hw
        go_wp2_with fail
        refine (unhide HW).mono ?_
        rintro e w1 ⟨rfl, rfl⟩
        go_wp2_with fail
        go_round
        case rel => exact ⟨k + 1, by omega, by go_num, HN⟩
        case measure => simp [intOf]; omega
      | false =>
        have hw := wrongValue_any w xs[k]
        rw [hok] at hw
        have HN : Hid (xs.all Pl.okVal = false) := by
          show _ = _
          rw [← Bool.not_eq_true, List.all_eq_true]
          intro h
          have := h xs[k] (List.getElem_mem hkl)
          rw [hok] at this
          cases this
        clear hok
        generalize xs[k] = x at *
        have HW := hide hw
        clear hw
        go_wp2_with fail
        refine (unhide HW).mono ?_
        rintro e w1 ⟨rfl, rfl⟩
        go_wp2_with fail
        go_ret
        exact ⟨_, rfl, by omega, by omega, ⟨fun _ => Pl.badIn_not HN.out, fun _ => by omega⟩, rfl⟩
    · go_wp2_with fail
      go_ret
      have := hall.out
      rw [List.take_of_length_le (by omega)] at this
      exact ⟨_, rfl, by omega, by omega, ⟨fun h => by omega, fun h => by rw [Pl.badIn_all this] at h; cases h⟩, rfl⟩

set_option maxRecDepth 20000 in
set_option maxHeartbeats 400000 in
theorem containsFunc_any (B0 : Nat) (w : World) (v : Value) (xs : List Int) (hr : RdI B0 w v xs) :
    Calls Tryz.prog 136 #[v, .func (.func 137) #[] #[]] w fun e w' => e = .returned (.bool (Pl.badIn xs)) ∧ w' = w := by
  go_enter Tryz.func136, Tryz.ntmps136
  go_wp2_with fail
  refine (indexFunc_any B0 w v xs hr).mono ?_
  rintro e w1 ⟨r, rfl, h1, h2, h3, rfl⟩
  have HR := hide h3
  clear h3
  go_wp2_with fail
  go_ret
  refine ⟨?_, rfl⟩
  have := HR.out
  cases hb : Pl.badIn xs with
  | true => rw [hb] at this; simp [this]
  | false => rw [hb] at this; simp at this; simp [this]

set_option maxRecDepth 20000 in
set_option maxHeartbeats 400000 in
theorem index_any (B0 : Nat) (w : World) (v : Value) (ss : List ByteArray) (s : ByteArray) (hr : RdS B0 w v ss) :
    Calls Tryz.prog 140 #[v, .string s] w fun e w' => ∃ r : Int, e = .returned (.int .i64 r) ∧ -1 ≤ r ∧ r ≤ 17592186044416 ∧ (0 ≤ r ↔ bytesOf s ∈ ss.map bytesOf) ∧ w' = w := by
  obtain ⟨ao, cap, rfl, h1, h2, h3⟩ := RdS.open hr
  clear hr
  generalize hP : (bytesOf s ∈ ss.map bytesOf) = P0
  have HP := hide hP
  clear hP
  go_enter Tryz.func140, Tryz.ntmps140
  go_wp2_with fail
  go_loop [8] (fun i => ∃ k : Nat, k ≤ ss.length ∧ i = .int .i64 k ∧ Hid (bytesOf s ∉ (ss.take k).map bytesOf)) (fun i => ss.length - (intOf i).toNat)
  case atStart => exact ⟨0, Nat.zero_le _, rfl, by show _ ∉ _; simp⟩
  case round =>
    obtain ⟨k, hk, rfl, hall⟩ := hrel
    by_cases hkl : k < ss.length
    · obtain ⟨b, off, rfl, hb, hc⟩ := h3 (by omega)
      have hck := hc k hkl
      clear hc h3
      rw [show ss.getD k ByteArray.empty = ss[k] by rw [List.getD_eq_getElem?_getD, List.getElem?_eq_getElem hkl]; rfl] at hck
      have he := eq_bytes s ss[k]
      have hmem : bytesOf ss[k] ∈ ss.map bytesOf := List.mem_map.2 ⟨_, List.getElem_mem hkl, rfl⟩
      have htk : (ss.take (k + 1)).map bytesOf = (ss.take k).map bytesOf ++ [bytesOf ss[k]] := by rw [List.take_succ_eq_append_getElem hkl, List.map_append]; rfl
      generalize ss[k] = y at *
      by_cases hok : bytesOf s = bytesOf y
      · rw [decide_eq_true hok] at he
        have HN : Hid P0 := by show P0; rw [← HP.out, hok]; exact hmem
        clear hok hmem htk
        go_wp2_with fail
        go_ret
        exact ⟨_, rfl, by omega, by omega, ⟨fun _ => HN.out, fun _ => by omega⟩, rfl⟩
      · rw [decide_eq_false hok] at he
        have HN : Hid (bytesOf s ∉ (ss.take (k + 1)).map bytesOf) := by
          show _ ∉ _
          rw [htk]
          simp only [List.mem_append, List.mem_singleton]
          rintro (h | h)
          · exact hall.out h
          · exact hok h
        clear hok hmem htk
        go_wp2_with fail
        go_round
        case rel => exact ⟨k + 1, by omega, by go_num, HN⟩
        case measure => simp [intOf]; omega
    · go_wp2_with fail
      go_ret
      have := hall.out
      rw [List.take_of_length_le (by omega), HP.out] at this
      exact ⟨_, rfl, by omega, by omega, ⟨fun h => by omega, fun h => absurd h this⟩, rfl⟩

set_option maxRecDepth 20000 in
set_option maxHeartbeats 400000 in
theorem contains_any (B0 : Nat) (w : World) (v : Value) (ss : List ByteArray) (s : ByteArray) (hr : RdS B0 w v ss) (b : Bool) (hb : b = decide (bytesOf s ∈ ss.map bytesOf)) :
    Calls Tryz.prog 116 #[v, .string s] w fun e w' => e = .returned (.bool b) ∧ w' = w := by
  have HB := hide hb
  clear hb
  go_enter Tryz.func116, Tryz.ntmps116
  go_wp2_with fail
  refine (index_any B0 w v ss s hr).mono ?_
  rintro e w1 ⟨r, rfl, h1, h2, h3, rfl⟩
  have HR := hide h3
  clear h3
  go_wp2_with fail
  go_ret
  refine ⟨?_, rfl⟩
  have hb : b = decide (0 ≤ r) := by rw [HB.out, decide_eq_decide]; exact HR.out.symm
  rw [hb]
  rfl
end Go.Proofs.YthicgffppmbamaaGreat

namespace Go.Proofs.YthicgffppmbamaaGreat
open Go.RowKit

set_option maxRecDepth 20000 in
set_option maxHeartbeats 1000000 in
theorem rightNames_any (B0 : Nat) (w : World) (v : Value) (ss : List ByteArray) (hr : RdS B0 w v ss) :
    Calls Tryz.prog 100 #[v] w fun e w' => e = .returned (.bool (Pl.okNames (ss.map bytesOf))) ∧ w' = w := by
  have hr0 := hr
  obtain ⟨ao, cap, rfl, h1, h2, h3⟩ := RdS.open hr
  clear hr
  have hml : (ss.map bytesOf).length = ss.length := by simp
  by_cases hs : ss.length < 1
  · have e : Pl.okNames (ss.map bytesOf) = false := by rw [← Bool.not_eq_true, Pl.okNames_iff]; omega
    rw [e]
    clear e hml
    go_enter Tryz.func100, Tryz.ntmps100
    go_wp2
    go_ret
    exact ⟨rfl, rfl⟩
  by_cases hs4 : 4 < ss.length
  · have e : Pl.okNames (ss.map bytesOf) = false := by rw [← Bool.not_eq_true, Pl.okNames_iff]; omega
    rw [e]
    clear e hml
    go_enter Tryz.func100, Tryz.ntmps100
    go_wp2
    go_ret
    exact ⟨rfl, rfl⟩
  generalize hb : Pl.okNames (ss.map bytesOf) = bb
  have HB := hide hb
  have HM := hide hml
  clear hb hml
  obtain ⟨b, off, rfl, hb0, hc⟩ := h3 (by omega)
  go_enter Tryz.func100, Tryz.ntmps100
  go_wp2_with fail
  go_loop [15] (fun i => ∃ k : Nat, k ≤ ss.length ∧ i = .int .i64 k ∧ Hid (Pl.okTo (ss.map bytesOf) k)) (fun i => ss.length - (intOf i).toNat)
  case atStart => exact ⟨0, Nat.zero_le _, rfl, Pl.okTo_zero _⟩
  case round =>
    obtain ⟨k, hk, rfl, hall⟩ := hrel
    by_cases hkl : k < ss.length
    · have hck := hc k hkl
      clear hc h3
      have hgk : ss.getD k ByteArray.empty = ss[k] := by rw [List.getD_eq_getElem?_getD, List.getElem?_eq_getElem hkl]; rfl
      rw [hgk] at hck
      have hstep := Pl.okTo_succ (ss.map bytesOf) k (by rw [HM.out]; exact hkl)
      rw [List.getElem_map, Pl.okName_iff, bytesOf_len] at hstep
      have hcon := contains_any B0 w (.slice (some ⟨b, off, none⟩) k cap) (ss.take k) ss[k] (by have := Rd.take hr0 (q := k) (by simp) (by omega); rw [← List.map_take] at this; exact this) (decide (bytesOf ss[k] ∈ (ss.take k).map bytesOf)) rfl
      rw [List.map_take] at hcon
      have HS := hide hstep
      have HC := hide hcon
      clear hstep hcon hgk
      generalize ss[k] = y at *
      by_cases hy1 : y.size < 1
      · go_wp2_with fail
        go_ret
        rw [← HB.out, Pl.okNames_false _ (k + 1) (by rw [HM.out]; omega) (fun h => by have := (HS.out.1 h).2.1; omega)]
        exact ⟨rfl, rfl⟩
      by_cases hy8 : 8 < y.size
      · go_wp2_with fail
        go_ret
        rw [← HB.out, Pl.okNames_false _ (k + 1) (by rw [HM.out]; omega) (fun h => by have := (HS.out.1 h).2.1; omega)]
        exact ⟨rfl, rfl⟩
      by_cases hin : bytesOf y ∈ (ss.map bytesOf).take k
      · rw [decide_eq_true hin] at HC
        have HI := hide hin
        clear hin
        go_wp2_with fail
        refine (unhide HC).mono ?_
        rintro e w1 ⟨rfl, rfl⟩
        go_wp2_with fail
        go_ret
        rw [← HB.out, Pl.okNames_false _ (k + 1) (by rw [HM.out]; omega) (fun h => (HS.out.1 h).2.2 HI.out)]
        exact ⟨rfl, rfl⟩
      · rw [decide_eq_false hin] at HC
        have HI := hide hin
        clear hin
        go_wp2_with fail
        refine (unhide HC).mono ?_
        rintro e w1 ⟨rfl, rfl⟩
        go_wp2_with fail
        go_round
        case rel => exact ⟨k + 1, by omega, by go_num, HS.out.2 ⟨hall.out, ⟨by omega, by omega⟩, HI.out⟩⟩
        case measure => simp [intOf]; omega
    · go_wp2_with fail
      go_ret
      obtain rfl : k = ss.length := by omega
      have e : Pl.okNames (ss.map bytesOf) = true := by
        rw [Pl.okNames_iff, HM.out]
        exact ⟨by omega, by omega, hall.out⟩
      rw [← HB.out, e]
      exact ⟨rfl, rfl⟩
end Go.Proofs.YthicgffppmbamaaGreat

namespace Go.Proofs.YthicgffppmbamaaGreat
open Go.RowKit

theorem getD_at {α : Type} (l : List α) (k : Nat) (d : α) (h : k < l.length) : l.getD k d = l[k] := by rw [List.getD_eq_getElem?_getD, List.getElem?_eq_getElem h]; rfl

set_option maxRecDepth 20000 in
set_option maxHeartbeats 1000000 in
theorem rightGroup_any (B0 : Nat) (w : World) (v : Value) (g : List (List Int)) (cols : Nat) (hr : RdII B0 w v g) (hc1 : 1 ≤ cols) (hc4 : cols ≤ 4) :
    Calls Tryz.prog 112 #[v, .int .i64 cols] w fun e w' => e = .returned (.bool (Pl.okGroup cols g)) ∧ w' = w := by
  have hr0 := hr
  obtain ⟨ao, cap, rfl, h1, h2, h3⟩ := hr.open
  clear hr
  by_cases hs : g.length = cols
  · obtain ⟨b, off, rfl, hb0, hc⟩ := h3 (by omega)
    clear h3
    obtain ⟨a0, c0, hcell0, hrd0⟩ := hc 0 (by omega)
    have hiff := Pl.okGroup_iff cols g
    have hm0 : RdI B0 w (.slice a0 (g.getD 0 []).length c0) (g.getD 0 []) := hrd0
    obtain ⟨_, _, he, hrl, hrc, _⟩ := RdI.open hm0
    cases he
    generalize hrows : (g.getD 0 []).length = rows at *
    clear hrd0 hm0
    simp only [Nat.add_zero] at hcell0
    generalize hb : Pl.okGroup cols g = bb at *
    have hsb : ((g.length : Int) != (cols : Int)) = false := by simp [hs]
    have HI := hide hiff
    have HL := hide hs
    clear hiff hb hrows hs
    have hgp : 0 < g.length := by rw [HL.out]; omega
    by_cases hr1 : rows < 1
    · go_enter Tryz.func112, Tryz.ntmps112
      go_wp2_with fail
      go_ret
      have e : bb = false := by rw [← Bool.not_eq_true, HI.out]; omega
      rw [e]
      exact ⟨rfl, rfl⟩
    by_cases hr20 : 20 < rows
    · go_enter Tryz.func112, Tryz.ntmps112
      go_wp2_with fail
      go_ret
      have e : bb = false := by rw [← Bool.not_eq_true, HI.out]; omega
      rw [e]
      exact ⟨rfl, rfl⟩
    go_enter Tryz.func112, Tryz.ntmps112
    go_wp2_with fail
    go_loop [24] (fun i => ∃ k : Nat, k ≤ g.length ∧ i = .int .i64 k ∧ Hid (∀ l ∈ g.take k, Pl.okList rows l = true)) (fun i => g.length - (intOf i).toNat)
    case atStart => exact ⟨0, Nat.zero_le _, rfl, by show ∀ l ∈ _, _; simp⟩
    case round =>
      obtain ⟨k, hk, rfl, hall⟩ := hrel
      by_cases hkl : k < g.length
      · obtain ⟨ak, ck, hck, hrk⟩ := hc k hkl
        clear hc
        have htk : g.take (k + 1) = g.take k ++ [g[k]] := List.take_succ_eq_append_getElem hkl
        have hmem : g[k] ∈ g := List.getElem_mem hkl
        rw [getD_at g k [] hkl] at hck hrk
        generalize g[k] = xs at *
        obtain ⟨_, _, he, hxl, hxc, _⟩ := RdI.open hrk
        cases he
        have hcf := containsFunc_any B0 w _ xs hrk
        generalize hxn : xs.length = n at *
        have HXN := hide hxn
        clear hxn
        by_cases hne : n = rows
        · have hnb : ((n : Int) != (rows : Int)) = false := by simp [hne]
          have HNE := hide hne
          clear hne
          cases hbad : Pl.badIn xs with
          | true =>
            rw [hbad] at hcf
            have HC := hide hcf
            have hno : Pl.okList rows xs = false := by
              unfold Pl.okList
              unfold Pl.badIn at hbad
              simp at hbad ⊢
              intro _
              exact hbad
            have HNO := hide hno
            clear hno hcf hbad
            go_wp2_with fail
            refine (unhide HC).mono ?_
            rintro e w1 ⟨rfl, rfl⟩
            go_wp2_with fail
            go_ret
            have e : bb = false := by
              rw [← Bool.not_eq_true, HI.out]
              rintro ⟨_, _, _, h⟩
              have := h xs hmem
              rw [HNO.out] at this
              cases this
            rw [e]
            exact ⟨rfl, rfl⟩
          | false =>
            rw [hbad] at hcf
            have HC := hide hcf
            have hyes : Pl.okList rows xs = true := by
              unfold Pl.okList
              unfold Pl.badIn at hbad
              rw [HXN.out, HNE.out]
              simp at hbad ⊢
              exact hbad
            have HY : Hid (∀ l ∈ g.take (k + 1), Pl.okList rows l = true) := by
              show ∀ l ∈ _, _
              rw [htk]
              intro l hl
              rcases List.mem_append.1 hl with h | h
              · exact hall.out l h
              · rw [List.mem_singleton.1 h]; exact hyes
            clear hcf hbad hyes htk
            go_wp2_with fail
            refine (unhide HC).mono ?_
            rintro e w1 ⟨rfl, rfl⟩
            go_wp2_with fail
            go_round
            case rel => exact ⟨k + 1, by omega, by go_num, HY⟩
            case measure => simp [intOf]; omega
        · have hnb : ((n : Int) != (rows : Int)) = true := by simp; omega
          have HNE := hide hne
          clear hne hcf
          go_wp2_with fail
          go_ret
          have e : bb = false := by
            rw [← Bool.not_eq_true, HI.out]
            rintro ⟨_, _, _, h⟩
            have := h xs hmem
            unfold Pl.okList at this
            rw [Bool.and_eq_true, decide_eq_true_eq, HXN.out] at this
            exact HNE.out this.1
          rw [e]
          exact ⟨rfl, rfl⟩
      · go_wp2_with fail
        go_ret
        obtain rfl : k = g.length := by omega
        have h := hall.out
        rw [List.take_length] at h
        have e : bb = true := HI.out.2 ⟨HL.out, by omega, by omega, h⟩
        rw [e]
        exact ⟨rfl, rfl⟩
  · have hsb : ((g.length : Int) != (cols : Int)) = true := by simp; omega
    have e : Pl.okGroup cols g = false := by
      rw [← Bool.not_eq_true, Pl.okGroup_iff]
      rintro ⟨h, _⟩
      exact hs h
    rw [e]
    clear e h3
    go_enter Tryz.func112, Tryz.ntmps112
    go_wp2
    go_ret
    exact ⟨rfl, rfl⟩
end Go.Proofs.YthicgffppmbamaaGreat

namespace Go.Proofs.YthicgffppmbamaaGreat
open Go.RowKit

set_option maxRecDepth 20000 in
set_option maxHeartbeats 1000000 in
theorem writable_any (B0 : Nat) (w : World) (nv gv : Value) (ss : List ByteArray) (gs : List (List (List Int))) (hn : RdS B0 w nv ss) (hg : RdIII B0 w gv gs) :
    Calls Tryz.prog 95 #[.agg #[nv, gv]] w fun e w' => e = .returned (.bool (Pl.okTable (ss.map bytesOf) gs)) ∧ Ext w w' := by
  have hiff := Pl.okTable_iff (ss.map bytesOf) gs
  rw [List.length_map] at hiff
  have hrn : ∀ u, Ext w u → Calls Tryz.prog 100 #[nv] u fun e w' => e = .returned (.bool (Pl.okNames (ss.map bytesOf))) ∧ w' = u := fun u hu => rightNames_any B0 u nv ss (hn.kept hu (fun _ f => f.elim))
  have hl := Pl.okNames_iff (ss.map bytesOf)
  rw [List.length_map] at hl
  obtain ⟨an, cn, rfl, n1, n2, -⟩ := RdS.open hn
  have hg0 := hg
  obtain ⟨ag, cg, rfl, g1, g2, g3⟩ := hg.open
  generalize hb : Pl.okTable (ss.map bytesOf) gs = bb at *
  have HI := hide hiff
  have HR := hide hrn
  clear hb hiff hrn
  have hext : ∀ o, Ext w (w.alloc o) := fun o => (Kp.refl _ _).alloc o
  cases hok : Pl.okNames (ss.map bytesOf) with
  | false =>
    rw [hok] at HR HI
    clear hok hl
    go_enter Tryz.func95, Tryz.ntmps95
    go_wp2_with fail
    refine ((unhide HR) _ (hext _)).mono ?_
    rintro e w1 ⟨rfl, rfl⟩
    go_wp2_with fail
    go_ret
    have e : bb = false := by rw [← Bool.not_eq_true, HI.out]; simp
    rw [e]
    exact ⟨rfl, hext _⟩
  | true =>
    have hln := hl.1 hok
    rw [hok] at HR HI
    clear hok hl
    by_cases h6 : 6 < gs.length
    · go_enter Tryz.func95, Tryz.ntmps95
      go_wp2_with fail
      refine ((unhide HR) _ (hext _)).mono ?_
      rintro e w1 ⟨rfl, rfl⟩
      go_wp2_with fail
      go_ret
      have e : bb = false := by rw [← Bool.not_eq_true, HI.out]; omega
      rw [e]
      exact ⟨rfl, hext _⟩
    go_enter Tryz.func95, Tryz.ntmps95
    go_wp2_with fail
    refine ((unhide HR) _ (hext _)).mono ?_
    rintro e w1 ⟨rfl, rfl⟩
    go_wp2_with fail
    generalize hN : ss.length = N at *
    go_loop [18] (fun i => ∃ k : Nat, k ≤ gs.length ∧ i = .int .i64 k ∧ Hid (∀ g ∈ gs.take k, Pl.okGroup N g = true)) (fun i => gs.length - (intOf i).toNat)
    case atStart => exact ⟨0, Nat.zero_le _, rfl, by show ∀ g ∈ _, _; simp⟩
    case round =>
      obtain ⟨k, hk, rfl, hall⟩ := hrel
      by_cases hkl : k < gs.length
      · have hgw := hg0.kept (hext (.cells #[.slice an N cn, .slice ag gs.length cg] 42)) (fun _ f => f.elim)
        obtain ⟨_, _, he, _, _, g4⟩ := hgw.open
        cases he
        obtain ⟨b, off, rfl, hb0, hc⟩ := g4 (by omega)
        obtain ⟨ak, ck, hck, hrk⟩ := hc k hkl
        clear hc g3 hgw g4
        have htk : gs.take (k + 1) = gs.take k ++ [gs[k]] := List.take_succ_eq_append_getElem hkl
        have hmem : gs[k] ∈ gs := List.getElem_mem hkl
        rw [getD_at gs k [] hkl] at hck hrk
        generalize gs[k] = g at *
        have hrg := rightGroup_any B0 _ _ g N hrk (by omega) (by omega)
        generalize g.length = gl at *
        cases hgo : Pl.okGroup N g with
        | true =>
          rw [hgo] at hrg
          have HG := hide hrg
          have HY : Hid (∀ l ∈ gs.take (k + 1), Pl.okGroup N l = true) := by
            show ∀ l ∈ _, _
            rw [htk]
            intro l hl
            rcases List.mem_append.1 hl with h | h
            · exact hall.out l h
            · rw [List.mem_singleton.1 h]; exact hgo
          clear hrg hgo htk
          go_wp2_with fail
          refine (unhide HG).mono ?_
          rintro e w1 ⟨rfl, rfl⟩
          go_wp2_with fail
          go_round
          case rel => exact ⟨k + 1, by omega, by go_num, HY⟩
          case measure => simp [intOf]; omega
        | false =>
          rw [hgo] at hrg
          have HG := hide hrg
          have HGO := hide hgo
          clear hrg hgo htk
          go_wp2_with fail
          refine (unhide HG).mono ?_
          rintro e w1 ⟨rfl, rfl⟩
          go_wp2_with fail
          go_ret
          have e : bb = false := by
            rw [← Bool.not_eq_true, HI.out]
            rintro ⟨_, _, h⟩
            have := h g hmem
            rw [HGO.out] at this
            cases this
          rw [e]
          exact ⟨rfl, hext _⟩
      · go_wp2_with fail
        go_ret
        obtain rfl : k = gs.length := by omega
        have h := hall.out
        rw [List.take_length] at h
        have e : bb = true := HI.out.2 ⟨by trivial, by omega, h⟩
        rw [e]
        exact ⟨rfl, hext _⟩
end Go.Proofs.YthicgffppmbamaaGreat

namespace Go.Proofs.YthicgffppmbamaaGreat
open Go.RowKit

/-- block b holds the cells cs, and may be written -/
def Blk (w : World) (b : Nat) (cs : List Value) (e : TypeId) : Prop := w.heap[b]? = some (.cells cs.toArray e (0, 0))

theorem Blk.cell {w : World} {b : Nat} {cs : List Value} {e : TypeId} (h : Blk w b cs e) (j : Nat) : w.cell? ⟨b, j, none⟩ = cs[j]? := by
  unfold Blk at h
  simp [World.cell?, h]
theorem Blk.free {w : World} {b : Nat} {cs : List Value} {e : TypeId} (h : Blk w b cs e) (j : Nat) : w.frozen? ⟨b, j, none⟩ = false := by
  unfold Blk at h
  simp [World.frozen?, h]
theorem Blk.lt {w : World} {b : Nat} {cs : List Value} {e : TypeId} (h : Blk w b cs e) : b < w.heap.size := lt_of_block h
theorem Blk.kept {S : Nat → Prop} {w w' : World} {b : Nat} {cs : List Value} {e : TypeId} (h : Blk w b cs e) (k : Kp S w w') (hn : ¬ S b) : Blk w' b cs e := by
  unfold Blk at *
  rw [k.block b (lt_of_block h) hn]
  exact h
theorem Blk.ne {w : World} {b b' : Nat} {cs cs' : List Value} {e e' : TypeId} (h : Blk w b cs e) (h' : Blk w b' cs' e') (he : e ≠ e') : b ≠ b' := by
  intro hb
  subst hb
  unfold Blk at *
  rw [h] at h'
  simp at h'
  exact he h'.2
theorem Blk.set {w : World} {b : Nat} {cs : List Value} {e : TypeId} (h : Blk w b cs e) (j : Nat) (v : Value) : Blk (w.setCell ⟨b, j, none⟩ v) b (cs.set j v) e := by
  unfold Blk at *
  simp only [World.setCell, Array.getElem?_modify, h]
  simp
theorem kp_set' (w : World) (b j : Nat) (v : Value) : Kp (fun k => k = b) w (w.setCell ⟨b, j, none⟩ v) := Kp.setCell (S := fun k => k = b) (p := ⟨b, j, none⟩) (Kp.refl _ _) (.inl rfl) v
theorem size_set (w : World) (a : Addr) (v : Value) : (w.setCell a v).heap.size = w.heap.size := by simp [World.setCell]
theorem Blk.of_alloc (w : World) (cs : List Value) (e : TypeId) : Blk (w.alloc (.cells cs.toArray e)) w.heap.size cs e := heap_alloc_new w _

/-- make([]T, n) -/
theorem wpList_make_blk (w : World) {ops : Array Oper} {rest : List Oper} {o : Oper} {a : Act} {Q : Exit → Act → World → Prop} (hg : o.guard = none) (l c : Operand) (t : TypeId) (hop : o.op = Op.makeSlice t l c)
    (e : TypeId) (z : Value) (bytes : Nat) (h1 : Tryz.prog.underlying t = some (.slice e)) (h2 : (Tryz.prog.info? e).map (fun i => (i.zero, i.size, i.bytes)) = some (some z, 1, bytes)) (hz : z.cells = #[z])
    (n : Nat) (L C : Int) (hl : a.eval l = .int .i64 L) (hc : a.eval c = .int .i64 C) (hL : L = n) (hC : C = n) (hb : bytes * n ≤ 281474976710656) (hn : n ≤ 1000000000000000)
    (hK : ∀ w', Blk w' w.heap.size (List.replicate n z) e → Ext w w' → w'.heap.size = w.heap.size + 1 → wpList Tryz.prog ops Q rest (a.put o.dst (.slice (some ⟨w.heap.size, 0, none⟩) n n)) w') : wpList Tryz.prog ops Q (o :: rest) a w := by
  refine wpList_plain hg fun K hK' => ?_
  obtain ⟨i, hi, hz0, hz1, hz2⟩ := info_parts h2
  subst hL
  subst hC
  have hrun := run_make (P := Tryz.prog) w t e i z h1 hi hz0 .i64 .i64 (n : Int) (n : Int) (by omega) (Int.le_refl _) (by rw [hz2]; omega) (by omega)
  rw [Int.toNat_natCast, hz1, Nat.mul_one, hz] at hrun
  have hm : madeCells #[z] n = (List.replicate n z).toArray := by
    apply Array.ext'
    rw [toList_madeCells_one]
  rw [hm] at hrun
  unfold Oper.wp
  simp [execOp, hop, hl, hc, hrun, Result.andThen]
  exact hK' _ _ (hK _ (Blk.of_alloc _ _ _) ((Kp.refl _ _).alloc _) (by simp))

/-- copy into a block that is known whole -/
theorem run_copy_blk (B0 : Nat) (w : World) (dT elem : TypeId) (hu : Tryz.prog.underlying dT = some (.slice elem)) (hs : (Tryz.prog.info? elem).map (·.size) = some 1) (b dLen dCap : Nat) (cur : List Value) (hb : Blk w b cur elem)
    (ao : Option Addr) (sLen sCap : Nat) (cs : List Value) (hl : cs.length = sLen) (hr : Rd B0 w (.slice ao sLen sCap) cs) (hle : cs.length ≤ dLen) (hfit : cs.length ≤ cur.length) (h1 : ∀ v ∈ cs, v.oneCell' = true) (ty : TypeId) :
    ∃ w' n, (Builtin.copy_ #[dT, dT] ty #[.slice (some ⟨b, 0, none⟩) dLen dCap, .slice ao sLen sCap]).run Tryz.prog w = .ok n w' ∧ Blk w' b (cs ++ cur.drop cs.length) elem ∧ Kp (fun k => k = b) w w' ∧ w'.heap.size = w.heap.size := by
  obtain ⟨ao', cap', e, c1, c2, c3⟩ := hr
  simp only [Value.slice.injEq] at e
  obtain ⟨rfl, _, rfl⟩ := e
  by_cases hp : 0 < cs.length
  · obtain ⟨b', off, rfl, hb', hc⟩ := c3 hp
    have hrun := run_copy_row Tryz.prog w dT dT ty elem b 0 dLen dCap ⟨b', off, none⟩ sLen sCap cur.toArray elem cs hu hs hb (by rw [hl]; exact (Nat.min_eq_left (by omega)).symm) (fun j v hv => by
      rw [Addr.add_lit, hc j (List.getElem?_eq_some_iff.1 hv).1]; exact hv) (by simpa using hfit) h1
    refine ⟨_, _, hrun, ?_, ?_, by simp⟩
    · unfold Blk at *
      simp only [World.setRow, Array.getElem?_modify, hb]
      simp
    · refine ⟨rfl, rfl, rfl, by simp, fun k hk hn => ?_⟩
      simp only [World.setRow, Array.getElem?_modify]
      rw [if_neg (fun e => hn e.symm)]
  · have h0 : cs = [] := List.eq_nil_of_length_eq_zero (by omega)
    subst h0
    have hrun := run_copy_none (P := Tryz.prog) w dT dT ty elem (some ⟨b, 0, none⟩) ao dLen dCap sLen sCap hu hs (by simp at hl; subst hl; exact Nat.zero_min _)
    exact ⟨_, _, hrun, by simpa using hb, Kp.refl _ _, rfl⟩

/-- a slice over a block of one's own, two places longer -/
abbrev sl (b n : Nat) : Value := .slice (some ⟨b, 0, none⟩) n (n + 2)
abbrev nilS : Value := .slice none 0 0
theorem Rd.ofBlk {B0 : Nat} {w : World} {b : Nat} {cs rest : List Value} {e : TypeId} (h : Blk w b (cs ++ rest) e) (_hr : rest.length = 2) (hb : b < B0) (hm : cs.length ≤ 17592186044000) : Rd B0 w (sl b cs.length) cs := by
  refine ⟨_, _, rfl, by omega, by omega, fun _ => ⟨b, 0, rfl, hb, fun j hj => ?_⟩⟩
  rw [Nat.zero_add, h.cell, List.getElem?_append_left hj]

end Go.Proofs.YthicgffppmbamaaGreat
