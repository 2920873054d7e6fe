/- Deltas as plain mathematics: steps read, printed, applied. -/
import Derived.Test.YthaibdflehnbbaaBinMath
namespace Go.Proofs.Ythaibdflehnbbaa

/-- A step: a copy of n bytes from fr on, or the bytes da. -/
structure Op where
  cp : Bool
  fr : Int
  n : Int
  da : List Int

def oz : Op := ⟨false, 0, 0, []⟩

/-- The bytes of a number of which only those follow whose bits in c are set (m more of them, from the k-th on), the lowest first. -/
def spl (c : Int) : Nat → Nat → List Int → Option (Int × List Int)
  | 0, _, ys => some (0, ys)
  | m + 1, k, ys => if c / 2 ^ k % 2 = 1 then (match ys with
      | [] => none
      | b :: r => (spl c m (k + 1) r).map fun p => (256 ^ k * b + p.1, p.2))
    else spl c m (k + 1) ys

/-- A copy's numbers behind its head c. -/
def cpr (c : Int) (ys : List Int) : Option (Op × List Int) :=
  (spl c 4 0 ys).bind fun p => (spl (c / 16) 3 0 p.2).map fun q => (⟨true, p.1, if q.1 = 0 then 65536 else q.1, []⟩, q.2)

/-- One step behind its head c, not 0. -/
def st1 (c : Int) (r : List Int) : Option (Op × List Int) :=
  if c < 128 then (if r.length < c.toNat then none else some (⟨false, 0, 0, r.take c.toNat⟩, r.drop c.toNat)) else cpr c r

/-- All steps: the fault (0: none), and they (f: the most). -/
def ps : Nat → List Int → Int × List Op
  | _, [] => (0, [])
  | 0, _ :: _ => (0, [])
  | f + 1, c :: r => if c = 0 then (2, []) else match st1 c r with
      | none => (3, [])
      | some p => if (ps f p.2).1 = 0 then (0, p.1 :: (ps f p.2).2) else ((ps f p.2).1, [])

theorem spl_len (c : Int) : ∀ (m k : Nat) (ys : List Int) (p : Int × List Int), spl c m k ys = some p → p.2.length ≤ ys.length := by
  intro m
  induction m with
  | zero => intro k ys p h; simp [spl] at h; rw [← h]; exact Nat.le_refl _
  | succ m ih =>
    intro k ys p h
    unfold spl at h
    split at h
    · cases ys with
      | nil => simp at h
      | cons b r =>
        simp only [Option.map_eq_some_iff] at h
        obtain ⟨q, hq, rfl⟩ := h
        have := ih _ _ _ hq
        simp only [List.length_cons]
        omega
    · exact ih _ _ _ h

theorem st1_len (c : Int) (r : List Int) (p : Op × List Int) (h : st1 c r = some p) : p.2.length ≤ r.length := by
  unfold st1 at h
  split at h
  · split at h
    · cases h
    · cases h
      simp
  · unfold cpr at h
    rw [Option.bind_eq_some_iff] at h
    obtain ⟨q, hq, h⟩ := h
    rw [Option.map_eq_some_iff] at h
    obtain ⟨s, hs, rfl⟩ := h
    have h1 := spl_len _ _ _ _ _ hq
    have h2 := spl_len _ _ _ _ _ hs
    exact Nat.le_trans h2 h1

theorem ps_fuel : ∀ (f g : Nat) (ys : List Int), ys.length ≤ f → ys.length ≤ g → ps f ys = ps g ys := by
  intro f
  induction f with
  | zero =>
    intro g ys h1 h2
    have : ys = [] := List.eq_nil_of_length_eq_zero (by omega)
    subst this
    cases g <;> rfl
  | succ f ih =>
    intro g ys h1 h2
    cases ys with
    | nil => cases g <;> rfl
    | cons c r =>
      cases g with
      | zero => simp at h2
      | succ g =>
        unfold ps
        by_cases hc : c = 0
        · rw [if_pos hc, if_pos hc]
        · rw [if_neg hc, if_neg hc]
          cases hs : st1 c r with
          | none => rfl
          | some p =>
            have hl := st1_len c r p hs
            simp only [List.length_cons] at h1 h2
            simp only [ih g p.2 (by omega) (by omega)]

/-- All steps of the bytes. -/
def psl (ys : List Int) : Int × List Op := ps ys.length ys

theorem psl_nil : psl [] = (0, []) := rfl

theorem psl_zero (r : List Int) : psl (0 :: r) = (2, []) := by simp [psl, ps]

theorem psl_none (c : Int) (r : List Int) (hc : c ≠ 0) (h : st1 c r = none) : psl (c :: r) = (3, []) := by simp [psl, ps, hc, h]

theorem psl_some (c : Int) (r : List Int) (hc : c ≠ 0) (p : Op × List Int) (h : st1 c r = some p) : psl (c :: r) = if (psl p.2).1 = 0 then (0, p.1 :: (psl p.2).2) else ((psl p.2).1, []) := by
  have hl := st1_len c r p h
  have e : ps r.length p.2 = psl p.2 := ps_fuel _ _ _ hl (Nat.le_refl _)
  simp only [psl, List.length_cons, ps, if_neg hc, h]
  rw [e]
  rfl

/-- Steps l, then what the rest answers. -/
def cat (l : List Op) (q : Int × List Op) : Int × List Op := if q.1 = 0 then (0, l ++ q.2) else (q.1, [])

theorem cat_nil (q : Int × List Op) (h : q.1 ≠ 0 → q.2 = []) : cat [] q = q := by
  unfold cat
  by_cases hq : q.1 = 0
  · rw [if_pos hq, ← hq]; rfl
  · rw [if_neg hq, ← h hq]

theorem cat_step (l : List Op) (o : Op) (q : Int × List Op) : cat l (if q.1 = 0 then (0, o :: q.2) else (q.1, [])) = cat (l ++ [o]) q := by
  unfold cat
  by_cases hq : q.1 = 0
  · simp [hq]
  · simp [hq]

theorem psl_bad (ys : List Int) (h : (psl ys).1 ≠ 0) : (psl ys).2 = [] := by
  cases ys with
  | nil => exact absurd rfl h
  | cons c r =>
    by_cases hc : c = 0
    · subst hc; rw [psl_zero]
    · cases hs : st1 c r with
      | none => rw [psl_none c r hc hs]
      | some p =>
        rw [psl_some c r hc p hs] at h ⊢
        by_cases hq : (psl p.2).1 = 0
        · rw [if_pos hq] at h; exact absurd rfl h
        · rw [if_neg hq]

/-- The two sizes, how many bytes they have, the fault. -/
def szs (d : List Int) : Int × Int × Nat × Int :=
  if (sizeAns d).2.2 ≠ 0 then (0, 0, 0, (sizeAns d).2.2) else
  if (sizeAns (d.drop (sizeAns d).2.1.toNat)).2.2 ≠ 0 then (0, 0, 0, (sizeAns (d.drop (sizeAns d).2.1.toNat)).2.2) else
  ((sizeAns d).1, (sizeAns (d.drop (sizeAns d).2.1.toNat)).1, (sizeAns d).2.1.toNat + (sizeAns (d.drop (sizeAns d).2.1.toNat)).2.1.toNat, 0)

/-- A delta: the two sizes, the steps, the fault. -/
def prs (d : List Int) : Int × Int × List Op × Int :=
  if (szs d).2.2.2 ≠ 0 then (0, 0, [], (szs d).2.2.2) else
  if (psl (d.drop (szs d).2.2.1)).1 ≠ 0 then (0, 0, [], (psl (d.drop (szs d).2.2.1)).1) else
  ((szs d).1, (szs d).2.1, (psl (d.drop (szs d).2.2.1)).2, 0)

/-- What a step makes of the base b. -/
def mk1 (b : List Int) (o : Op) : List Int := if o.cp then (b.drop o.fr.toNat).take o.n.toNat else o.da

def mks (b : List Int) (l : List Op) : List Int := l.flatMap (mk1 b)

theorem mks_app (b : List Int) (l m : List Op) : mks b (l ++ m) = mks b l ++ mks b m := by simp [mks]

theorem mks_one (b : List Int) (o : Op) : mks b [o] = mk1 b o := by simp [mks]

/-- No copy goes beyond so many bytes. -/
abbrev win (B : Nat) (o : Op) : Prop := o.cp = true → o.fr + o.n ≤ B

abbrev wins (B : Nat) (l : List Op) : Prop := ∀ o ∈ l, win B o

/-- How many bytes a step makes. -/
def osz (o : Op) : Int := o.n + o.da.length

def tot : List Op → Int
  | [] => 0
  | o :: l => osz o + tot l

theorem tot_app (l m : List Op) : tot (l ++ m) = tot l + tot m := by
  induction l with
  | nil => simp [tot]
  | cons o l ih => simp only [List.cons_append, tot, ih]; omega

/-- A step as reading tells it. -/
structure okr (o : Op) : Prop where
  c0 : o.cp = true → 0 ≤ o.fr ∧ o.fr < 4294967296 ∧ 1 ≤ o.n ∧ o.n < 16777216 ∧ o.da = []
  c1 : o.cp = false → o.fr = 0 ∧ o.n = 0 ∧ 1 ≤ o.da.length ∧ o.da.length ≤ 127
  byt : ∀ x ∈ o.da, 0 ≤ x ∧ x < 256

theorem okr.pos {o : Op} (h : okr o) : 0 ≤ o.fr ∧ 0 ≤ o.n ∧ o.n < 16777216 ∧ o.fr < 4294967296 ∧ o.da.length ≤ 127 := by
  cases hc : o.cp with
  | true => have := h.c0 hc; simp [this]; omega
  | false => have := h.c1 hc; omega

theorem okr.size {o : Op} (h : okr o) : 1 ≤ osz o ∧ osz o < 16777216 := by
  unfold osz
  cases hc : o.cp with
  | true => have := h.c0 hc; simp [this]
  | false => have := h.c1 hc; omega

theorem spl_bound (c : Int) : ∀ (m k : Nat) (ys : List Int) (p : Int × List Int), (∀ x ∈ ys, 0 ≤ x ∧ x < 256) → spl c m k ys = some p → 0 ≤ p.1 ∧ p.1 + 256 ^ k ≤ 256 ^ (k + m) ∧ ∀ x ∈ p.2, 0 ≤ x ∧ x < 256 := by
  intro m
  induction m with
  | zero => intro k ys p hb h; simp [spl] at h; rw [← h]; exact ⟨Int.le_refl _, by simp, hb⟩
  | succ m ih =>
    intro k ys p hb h
    have hp : (0 : Int) < 256 ^ k := Int.pow_pos (by decide)
    have hs : (256 : Int) ^ (k + 1) = 256 ^ k * 256 := Int.pow_succ _ _
    unfold spl at h
    split at h
    · cases ys with
      | nil => simp at h
      | cons b r =>
        simp only [Option.map_eq_some_iff] at h
        obtain ⟨q, hq, rfl⟩ := h
        have hh := ih _ _ _ (fun x hx => hb x (by simp [hx])) hq
        have hbb := hb b (by simp)
        have e : k + 1 + m = k + (m + 1) := by omega
        rw [e, hs] at hh
        have m0 : 0 ≤ 256 ^ k * b := Int.mul_nonneg (by omega) hbb.1
        have m1 : 256 ^ k * b ≤ 256 ^ k * 255 := Int.mul_le_mul_of_nonneg_left (by omega) (by omega)
        refine ⟨by show 0 ≤ 256 ^ k * b + q.1; omega, by show 256 ^ k * b + q.1 + 256 ^ k ≤ _; omega, hh.2.2⟩
    · have hh := ih _ _ _ hb h
      have e : k + 1 + m = k + (m + 1) := by omega
      rw [e, hs] at hh
      exact ⟨hh.1, by omega, hh.2.2⟩

theorem st1_ok (c : Int) (r : List Int) (p : Op × List Int) (h0 : c ≠ 0) (h1 : 0 ≤ c) (hb : ∀ x ∈ r, 0 ≤ x ∧ x < 256) (h : st1 c r = some p) : okr p.1 ∧ ∀ x ∈ p.2, 0 ≤ x ∧ x < 256 := by
  unfold st1 at h
  split at h
  · rename_i hc
    split at h
    · cases h
    · rename_i hl
      cases h
      refine ⟨⟨(fun e => by cases e), fun _ => ⟨rfl, rfl, ?_, ?_⟩, fun x hx => hb x (List.mem_of_mem_take hx)⟩, fun x hx => hb x (List.mem_of_mem_drop hx)⟩
      · show 1 ≤ (r.take c.toNat).length
        simp; omega
      · show (r.take c.toNat).length ≤ 127
        simp; omega
  · unfold cpr at h
    rw [Option.bind_eq_some_iff] at h
    obtain ⟨q, hq, h⟩ := h
    rw [Option.map_eq_some_iff] at h
    obtain ⟨s, hs, rfl⟩ := h
    have b1 := spl_bound _ _ _ _ _ hb hq
    have b2 := spl_bound _ _ _ _ _ b1.2.2 hs
    have e4 : (256 : Int) ^ (0 + 4) = 4294967296 := rfl
    have e3 : (256 : Int) ^ (0 + 3) = 16777216 := rfl
    have e0 : (256 : Int) ^ 0 = 1 := rfl
    rw [e4, e0] at b1
    rw [e3, e0] at b2
    refine ⟨⟨fun _ => ⟨b1.1, by show q.1 < _; omega, ?_, ?_, rfl⟩, (fun e => by cases e), (fun x hx => by cases hx)⟩, b2.2.2⟩
    · show 1 ≤ (if s.1 = 0 then 65536 else s.1)
      split <;> omega
    · show (if s.1 = 0 then 65536 else s.1) < 16777216
      split <;> omega

theorem ps_ok : ∀ (f : Nat) (ys : List Int), (∀ x ∈ ys, 0 ≤ x ∧ x < 256) → ∀ o ∈ (ps f ys).2, okr o := by
  intro f
  induction f with
  | zero => intro ys _ o ho; cases ys <;> cases ho
  | succ f ih =>
    intro ys hb o ho
    cases ys with
    | nil => cases ho
    | cons c r =>
      unfold ps at ho
      by_cases hc : c = 0
      · rw [if_pos hc] at ho; cases ho
      · rw [if_neg hc] at ho
        cases hs : st1 c r with
        | none => rw [hs] at ho; cases ho
        | some p =>
          rw [hs] at ho
          have hk := st1_ok c r p hc (hb c (by simp)).1 (fun x hx => hb x (by simp [hx])) hs
          by_cases hq : (ps f p.2).1 = 0
          · simp only [hq, if_true] at ho
            rcases List.mem_cons.1 ho with rfl | ho
            · exact hk.1
            · exact ih p.2 hk.2 o ho
          · simp only [if_neg hq] at ho
            cases ho

theorem ps_len : ∀ (f : Nat) (ys : List Int), (ps f ys).2.length ≤ ys.length := by
  intro f
  induction f with
  | zero => intro ys; cases ys <;> simp [ps]
  | succ f ih =>
    intro ys
    cases ys with
    | nil => simp [ps]
    | cons c r =>
      unfold ps
      by_cases hc : c = 0
      · simp [hc]
      · rw [if_neg hc]
        cases hs : st1 c r with
        | none => simp
        | some p =>
          have := ih p.2
          have := st1_len c r p hs
          by_cases hq : (ps f p.2).1 = 0
          · simp only [hq, if_true, List.length_cons]; omega
          · simp [hq]

theorem prs_ok (d : List Int) (hb : ∀ x ∈ d, 0 ≤ x ∧ x < 256) : (∀ o ∈ (prs d).2.2.1, okr o) ∧ (prs d).2.2.1.length ≤ d.length := by
  unfold prs
  split
  · exact ⟨(fun o ho => by cases ho), by simp⟩
  · split
    · exact ⟨(fun o ho => by cases ho), by simp⟩
    · refine ⟨ps_ok _ _ (fun x hx => hb x (List.mem_of_mem_drop hx)), Nat.le_trans (ps_len _ _) (by simp)⟩

theorem mk1_len (b : List Int) (o : Op) (h : okr o) (hw : win b.length o) : ((mk1 b o).length : Int) = osz o := by
  unfold mk1 osz
  cases hc : o.cp with
  | true =>
    have h0 := h.c0 hc
    have := hw hc
    simp [h0]
    omega
  | false =>
    have h1 := h.c1 hc
    simp [h1]

theorem mks_len (b : List Int) (l : List Op) (h : ∀ o ∈ l, okr o) (hw : wins b.length l) : ((mks b l).length : Int) = tot l := by
  induction l with
  | nil => rfl
  | cons o l ih =>
    have e : mks b (o :: l) = mk1 b o ++ mks b l := rfl
    have := mk1_len b o (h o (by simp)) (hw o (by simp))
    have := ih (fun x hx => h x (by simp [hx])) (fun x hx => hw x (by simp [hx]))
    rw [e, List.length_append, tot]
    omega

theorem mk1_byt (b : List Int) (hb : ∀ x ∈ b, 0 ≤ x ∧ x < 256) (o : Op) (h : okr o) : ∀ x ∈ mk1 b o, 0 ≤ x ∧ x < 256 := by
  unfold mk1
  split
  · exact fun x hx => hb x (List.mem_of_mem_drop (List.mem_of_mem_take hx))
  · exact h.byt

theorem tot_pos (l : List Op) (h : ∀ o ∈ l, okr o) : 0 ≤ tot l ∧ tot l ≤ 16777216 * l.length := by
  induction l with
  | nil => simp [tot]
  | cons o l ih =>
    have := (h o (by simp)).size
    have := ih (fun x hx => h x (by simp [hx]))
    simp only [tot, List.length_cons]
    omega

/-- Apply: the bytes, the fault. -/
def apy (b d : List Int) (most : Int) : List Int × Int :=
  if (prs d).2.2.2 ≠ 0 then ([], (prs d).2.2.2) else if (prs d).1 ≠ b.length then ([], 2) else if most < (prs d).2.1 then ([], 5) else
  if wins b.length (prs d).2.2.1 ∧ tot (prs d).2.2.1 = (prs d).2.1 then (mks b (prs d).2.2.1, 0) else ([], 2)

end Go.Proofs.Ythaibdflehnbbaa
