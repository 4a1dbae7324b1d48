/- The plain mathematics of a written table: numbers, lists, bytes. Nothing of the program. -/
namespace Go.Proofs.YthicgffppmbamaaGreat.Pl

def vintF : Nat → Nat → List UInt8
  | 0, n => [UInt8.ofNat n]
  | f + 1, n => if n < 128 then [UInt8.ofNat n] else UInt8.ofNat (n % 128 + 128) :: vintF f (n / 128)

theorem vintF_eq (f : Nat) : ∀ g n, n ≤ f → n ≤ g → vintF f n = vintF g n := by
  induction f with
  | zero =>
    intro g n h1 h2
    obtain rfl : n = 0 := by omega
    cases g <;> simp [vintF]
  | succ f ih =>
    intro g n h1 h2
    cases g with
    | zero => obtain rfl : n = 0 := by omega
              simp [vintF]
    | succ g =>
      simp only [vintF]
      by_cases h : n < 128
      · simp [h]
      · simp only [h, if_false]
        rw [ih g (n / 128) (by omega) (by omega)]

def vint (n : Nat) : List UInt8 := vintF n n

theorem vint_lt (n : Nat) (h : n < 128) : vint n = [UInt8.ofNat n] := by
  unfold vint
  cases n <;> simp [vintF, h]

theorem vint_ge (n : Nat) (h : 128 ≤ n) : vint n = UInt8.ofNat (n % 128 + 128) :: vint (n / 128) := by
  unfold vint
  cases n with
  | zero => omega
  | succ m =>
    simp only [vintF, show ¬ (m + 1 < 128) by omega, if_false]
    rw [vintF_eq m ((m + 1) / 128) ((m + 1) / 128) (by omega) (by omega)]

theorem vint_len (k : Nat) : ∀ n, n < 128 ^ (k + 1) → (vint n).length ≤ k + 1 := by
  induction k with
  | zero => intro n h; rw [vint_lt n (by simpa using h)]; simp
  | succ k ih =>
    intro n h
    by_cases h1 : n < 128
    · rw [vint_lt n h1]; simp
    · rw [vint_ge n (by omega)]
      have := ih (n / 128) (by rw [Nat.pow_succ] at h; omega)
      simp; omega

theorem vint_pos (n : Nat) : 1 ≤ (vint n).length := by
  by_cases h : n < 128
  · rw [vint_lt n h]; simp
  · rw [vint_ge n (by omega)]; simp

/-- one step of the sum -/
def sumStep (h : Nat) (b : UInt8) : Nat := ((h ^^^ b.toNat) * 16777619) % 4294967296
def sumFrom (h : Nat) : List UInt8 → Nat
  | [] => h
  | b :: r => sumFrom (sumStep h b) r
theorem sumFrom_snoc (l : List UInt8) (b : UInt8) : ∀ h, sumFrom h (l ++ [b]) = sumStep (sumFrom h l) b := by
  induction l with
  | nil => intro h; rfl
  | cons c r ih => intro h; exact ih _
theorem sumStep_lt (h : Nat) (b : UInt8) : sumStep h b < 4294967296 := by
  unfold sumStep
  exact Nat.mod_lt _ (by omega)
theorem sumFrom_lt (l : List UInt8) : ∀ h, h < 4294967296 → sumFrom h l < 4294967296 := by
  induction l with
  | nil => intro h hh; exact hh
  | cons c r ih => intro h _; exact ih _ (sumStep_lt _ _)
def sumOf (l : List UInt8) : Nat := sumFrom 2166136261 l
theorem sumOf_lt (l : List UInt8) : sumOf l < 4294967296 := by
  unfold sumOf
  exact sumFrom_lt l _ (by omega)
def bytes4 (h : Nat) : List UInt8 :=
  [UInt8.ofNat (h / 16777216), UInt8.ofNat (h / 65536 % 256), UInt8.ofNat (h / 256 % 256), UInt8.ofNat (h % 256)]
def sum4 (l : List UInt8) : List UInt8 := bytes4 (sumOf l)
theorem sum4_len (l : List UInt8) : (sum4 l).length = 4 := by
  unfold sum4 bytes4
  simp only [List.length_cons, List.length_nil]

/-- the three kinds of pages, without the kind's byte -/
def plain (l : List Int) : List UInt8 := l.flatMap fun x => vint x.toNat
theorem plain_snoc (l : List Int) (x : Int) : plain (l ++ [x]) = plain l ++ vint x.toNat := by simp [plain]

/-- how many values at the head are x -/
def runLen (x : Int) : List Int → Nat
  | [] => 0
  | y :: r => if y = x then runLen x r + 1 else 0
theorem runLen_le (x : Int) (l : List Int) : runLen x l ≤ l.length := by
  induction l with
  | nil => simp [runLen]
  | cons y r ih => simp only [runLen]; split <;> simp <;> omega

def runsF : Nat → List Int → List UInt8
  | 0, _ => []
  | _ + 1, [] => []
  | f + 1, x :: r => vint (runLen x r + 1) ++ vint x.toNat ++ runsF f (r.drop (runLen x r))
theorem runsF_eq (f : Nat) : ∀ g l, l.length ≤ f → l.length ≤ g → runsF f l = runsF g l := by
  induction f with
  | zero => intro g l h1 h2
            obtain rfl : l = [] := List.eq_nil_of_length_eq_zero (by omega)
            cases g <;> simp [runsF]
  | succ f ih =>
    intro g l h1 h2
    cases l with
    | nil => cases g <;> simp [runsF]
    | cons x r =>
      cases g with
      | zero => simp at h2
      | succ g =>
        simp only [runsF]
        rw [ih g _ (by simp at *; omega) (by simp at *; omega)]
def runs (l : List Int) : List UInt8 := runsF l.length l
theorem runs_nil : runs [] = [] := rfl
theorem runs_cons (x : Int) (r : List Int) : runs (x :: r) = vint (runLen x r + 1) ++ vint x.toNat ++ runs (r.drop (runLen x r)) := by
  show runsF (r.length + 1) (x :: r) = _
  simp only [runsF]
  rw [runsF_eq r.length (r.drop (runLen x r)).length _ (by simp) (Nat.le_refl _)]
  rfl

/-- is no value below the one ahead of it? -/
def rises : Int → List Int → Bool
  | _, [] => true
  | a, x :: r => decide (a ≤ x) && rises x r
def rising : Int → List Int → List UInt8
  | _, [] => []
  | a, x :: r => vint (x - a).toNat ++ rising x r

/-- the shortest page -/
def page (l : List Int) : List UInt8 :=
  let p0 := (0 : UInt8) :: plain l
  let p1 := (1 : UInt8) :: runs l
  let p2 := (2 : UInt8) :: rising 0 l
  let b1 := if p1.length < p0.length then p1 else p0
  if rises 0 l = true ∧ p2.length < b1.length then p2 else b1

/-- a writer's two rows, a page more -/
def addP (st : List UInt8 × List UInt8) (xs : List Int) : List UInt8 × List UInt8 :=
  (st.1 ++ page xs, st.2 ++ vint st.1.length ++ vint (page xs).length ++ sum4 (page xs))
def addPs (st : List UInt8 × List UInt8) : List (List Int) → List UInt8 × List UInt8
  | [] => st
  | x :: r => addPs (addP st x) r
theorem addPs_snoc (l : List (List Int)) (x : List Int) : ∀ st, addPs st (l ++ [x]) = addP (addPs st l) x := by
  induction l with
  | nil => intro st; rfl
  | cons y r ih => intro st; exact ih _
def addG (st : List UInt8 × List UInt8) (g : List (List Int)) : List UInt8 × List UInt8 := addPs (st.1, st.2 ++ vint (g.getD 0 []).length) g
def addGs (st : List UInt8 × List UInt8) : List (List (List Int)) → List UInt8 × List UInt8
  | [] => st
  | g :: r => addGs (addG st g) r
theorem addGs_snoc (l : List (List (List Int))) (x : List (List Int)) : ∀ st, addGs st (l ++ [x]) = addG (addGs st l) x := by
  induction l with
  | nil => intro st; rfl
  | cons y r ih => intro st; exact ih _

/-- names in a footer -/
def nameBytes (ss : List (List UInt8)) : List UInt8 := ss.flatMap fun s => vint s.length ++ s
theorem nameBytes_snoc (ss : List (List UInt8)) (s : List UInt8) : nameBytes (ss ++ [s]) = nameBytes ss ++ (vint s.length ++ s) := by simp [nameBytes]

def mark : List UInt8 := [67, 79, 76, 49]
/-- pages and footer of a table -/
def parts (names : List (List UInt8)) (gs : List (List (List Int))) : List UInt8 × List UInt8 :=
  addGs (mark, vint names.length ++ nameBytes names ++ vint gs.length) gs
def whole (p : List UInt8 × List UInt8) : List UInt8 := p.1 ++ p.2 ++ [UInt8.ofNat (p.2.length / 256), UInt8.ofNat (p.2.length % 256)] ++ mark

/-- may it be written? -/
def okName (s : List UInt8) : Bool := decide (1 ≤ s.length) && decide (s.length ≤ 8)
def okNames (ss : List (List UInt8)) : Bool := decide (1 ≤ ss.length) && decide (ss.length ≤ 4) && ss.all okName && decide (ss.Nodup)
def okVal (x : Int) : Bool := decide (0 ≤ x) && decide (x ≤ 1099511627775)
def okGroup (cols : Nat) (g : List (List Int)) : Bool :=
  decide (g.length = cols) && decide (1 ≤ (g.getD 0 []).length) && decide ((g.getD 0 []).length ≤ 20) && g.all fun l => decide (l.length = (g.getD 0 []).length) && l.all okVal
def okTable (names : List (List UInt8)) (gs : List (List (List Int))) : Bool := okNames names && decide (gs.length ≤ 6) && gs.all (okGroup names.length)

/-- a file, or that it is too long -/
def sealed (p : List UInt8 × List UInt8) : List UInt8 × Int := if (whole p).length ≤ 4000 then (whole p, 0) else ([], 1)
theorem sealed_le (p : List UInt8 × List UInt8) (h : (whole p).length ≤ 4000) : sealed p = (whole p, 0) := by unfold sealed; rw [if_pos h]
theorem sealed_gt (p : List UInt8 × List UInt8) (h : 4000 < (whole p).length) : sealed p = ([], 1) := by unfold sealed; rw [if_neg (by omega)]
/-- what Write answers -/
def write (names : List (List UInt8)) (gs : List (List (List Int))) : List UInt8 × Int :=
  if okTable names gs = true then sealed (parts names gs) else ([], 1)

end Go.Proofs.YthicgffppmbamaaGreat.Pl
