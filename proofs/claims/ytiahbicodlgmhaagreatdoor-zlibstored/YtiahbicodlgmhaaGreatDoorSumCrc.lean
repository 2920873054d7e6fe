/- CRC-32 and Adler-32, ls plain mathematics. -/
import Derived.Test.YtiahbicodlgmhaaGreatDoorM01
namespace Go.Proofs.YtiahbicodlgmhaaGreatDoor.Sum

def POLY : Nat := 3988292384

/-- One turn. -/
def trn (v : Nat) : Nat := (v / 2) ^^^ (if v % 2 = 1 then POLY else 0)

def trns : Nat → Nat → Nat
  | 0, v => v
  | n + 1, v => trn (trns n v)

theorem trn_odd (v : Nat) (h : v % 2 = 1) : trn v = (v / 2) ^^^ POLY := by rw [trn, if_pos h]
theorem trn_even (v : Nat) (h : ¬ v % 2 = 1) : trn v = v / 2 := by rw [trn, if_neg h, Nat.xor_zero]

theorem trn_lt (v : Nat) (h : v < 4294967296) : trn v < 4294967296 := by
  have h2 : v / 2 < 2 ^ 32 := by omega
  unfold trn
  split
  · exact Nat.xor_lt_two_pow h2 (by decide)
  · rw [Nat.xor_zero]; exact h2

theorem trns_lt (n v : Nat) (h : v < 4294967296) : trns n v < 4294967296 := by
  induction n with
  | zero => exact h
  | succ n ih => exact trn_lt _ ih

theorem xor_swap (a b c d : Nat) : (a ^^^ b) ^^^ (c ^^^ d) = (a ^^^ c) ^^^ (b ^^^ d) := by
  rw [Nat.xor_assoc, Nat.xor_assoc, ← Nat.xor_assoc b, Nat.xor_comm b c, Nat.xor_assoc c]

theorem xor_div2 (a b : Nat) : (a ^^^ b) / 2 = (a / 2) ^^^ (b / 2) := by
  have := Nat.shiftRight_xor_distrib (i := 1) (a := a) (b := b)
  simpa [Nat.shiftRight_succ] using this

theorem xor_mod2 (a b : Nat) : (a ^^^ b) % 2 = (a % 2 + b % 2) % 2 := by
  have h := Nat.testBit_xor a b 0
  simp only [Nat.testBit_zero] at h
  rcases Nat.mod_two_eq_zero_or_one a with ha | ha <;> rcases Nat.mod_two_eq_zero_or_one b with hb | hb <;> rcases Nat.mod_two_eq_zero_or_one (a ^^^ b) with hc | hc <;> simp [ha, hb, hc] at h ⊢

theorem trn_xor (a b : Nat) : trn (a ^^^ b) = trn a ^^^ trn b := by
  unfold trn
  rw [xor_div2, xor_swap]
  congr 1
  rw [xor_mod2]
  rcases Nat.mod_two_eq_zero_or_one a with ha | ha <;> rcases Nat.mod_two_eq_zero_or_one b with hb | hb <;> simp [ha, hb]

theorem trns_xor (n a b : Nat) : trns n (a ^^^ b) = trns n a ^^^ trns n b := by
  induction n with
  | zero => rfl
  | succ n ih => simp only [trns, ih, trn_xor]

theorem trns_zero (n : Nat) : trns n 0 = 0 := by
  induction n with
  | zero => rfl
  | succ n ih => rw [trns, ih]; rfl

theorem trns_shift (n m : Nat) : trns n (2 ^ n * m) = m := by
  induction n generalizing m with
  | zero => simp [trns]
  | succ n ih =>
    rw [trns, Nat.pow_succ, Nat.mul_assoc, ih, trn_even _ (by omega)]
    omega

theorem trns_add (a b v : Nat) : trns (a + b) v = trns a (trns b v) := by
  induction a with
  | zero => simp [trns]
  | succ a ih => rw [Nat.succ_add, trns, trns, ih]

theorem split8 (s : Nat) : s = (s % 256) ^^^ (2 ^ 8 * (s / 256)) := by
  apply Nat.eq_of_testBit_eq
  intro i
  rw [Nat.testBit_xor, show (256 : Nat) = 2 ^ 8 from rfl, Nat.testBit_mod_two_pow, Nat.testBit_two_pow_mul]
  by_cases h : i < 8
  · simp [h, show ¬ 8 ≤ i by omega]
  · simp only [h, decide_false, Bool.false_and, Bool.false_xor]
    rw [Nat.testBit_div_two_pow]
    simp [show 8 ≤ i by omega]

/-- One byte behind a state. -/
def cstep (s b : Nat) : Nat := trns 8 (s ^^^ b)

theorem cstep_table (s b : Nat) : trns 8 ((s % 256) ^^^ b) ^^^ (s / 256) = cstep s b := by
  unfold cstep
  have h : s ^^^ b = ((s % 256) ^^^ b) ^^^ (2 ^ 8 * (s / 256)) := by
    rw [Nat.xor_assoc, Nat.xor_comm b, ← Nat.xor_assoc, ← split8]
  rw [h, trns_xor 8 ((s % 256) ^^^ b) (2 ^ 8 * (s / 256)), trns_shift]

def cfold (s : Nat) (bs : List Nat) : Nat := bs.foldl cstep s

theorem cstep_lt (s b : Nat) (hs : s < 4294967296) (hb : b < 256) : cstep s b < 4294967296 := trns_lt _ _ (Nat.xor_lt_two_pow (n := 32) hs (Nat.lt_trans hb (by decide)))

theorem cfold_lt (s : Nat) (bs : List Nat) (hs : s < 4294967296) (hb : ∀ b ∈ bs, b < 256) : cfold s bs < 4294967296 := by
  induction bs generalizing s with
  | nil => exact hs
  | cons b bs ih => exact ih _ (cstep_lt s b hs (hb b (by simp))) (fun x hx => hb x (by simp [hx]))

theorem cfold_app (s : Nat) (ls bs : List Nat) : cfold s (ls ++ bs) = cfold (cfold s ls) bs := List.foldl_append

theorem cfold_snoc (s : Nat) (ls : List Nat) (b : Nat) : cfold s (ls ++ [b]) = cstep (cfold s ls) b := by rw [cfold_app]; rfl

def ONES : Nat := 4294967295

def inv (c : Nat) : Nat := ONES ^^^ c

theorem inv_eq (c : Nat) : inv c = ONES ^^^ c := rfl

theorem xor_twice (m c : Nat) : m ^^^ (m ^^^ c) = c := by rw [← Nat.xor_assoc, Nat.xor_self, Nat.zero_xor]

theorem inv_inv (c : Nat) : inv (inv c) = c := by rw [inv_eq, inv_eq]; exact xor_twice ONES c

theorem xor_lt32 (a b : Nat) (ha : a < 4294967296) (hb : b < 4294967296) : a ^^^ b < 4294967296 := by
  have h : a ^^^ b < 2 ^ 32 := Nat.xor_lt_two_pow (by omega) (by omega)
  omega

theorem inv_lt (c : Nat) (h : c < 4294967296) : inv c < 4294967296 := by
  have := xor_lt32 ONES c (by unfold ONES; omega) h
  rw [inv_eq]
  exact this

/-- CRC-32 of bs behind bytes whose CRC-32 is c. -/
def cmore (c : Nat) (bs : List Nat) : Nat := inv (cfold (inv c) bs)

theorem cmore_lt (c : Nat) (bs : List Nat) (h : c < 4294967296) (hb : ∀ b ∈ bs, b < 256) : cmore c bs < 4294967296 := inv_lt _ (cfold_lt _ _ (inv_lt _ h) hb)

theorem cmore_app (c : Nat) (ls bs : List Nat) : cmore c (ls ++ bs) = cmore (cmore c ls) bs := by
  unfold cmore
  rw [cfold_app, inv_inv]

theorem cmore_nil (c : Nat) : cmore c [] = c := inv_inv c

def MD : Int := 65521

/-- The two sums, not cut down. -/
def pl (s1 s2 : Int) : List Int → Int × Int
  | [] => (s1, s2)
  | b :: bs => pl (s1 + b) (s2 + (s1 + b)) bs

theorem pl_snoc (s1 s2 : Int) (bs : List Int) (b : Int) : pl s1 s2 (bs ++ [b]) = ((pl s1 s2 bs).1 + b, (pl s1 s2 bs).2 + ((pl s1 s2 bs).1 + b)) := by
  induction bs generalizing s1 s2 with
  | nil => rfl
  | cons x bs ih => exact ih _ _

theorem pl_app (s1 s2 : Int) (ls bs : List Int) : pl s1 s2 (ls ++ bs) = pl (pl s1 s2 ls).1 (pl s1 s2 ls).2 bs := by
  induction ls generalizing s1 s2 with
  | nil => rfl
  | cons x ls ih => exact ih _ _

/-- What the sums of bs are behind other sums. -/
theorem pl_from (s1 s2 : Int) (bs : List Int) : (pl s1 s2 bs).1 = s1 - 1 + (pl 1 0 bs).1 ∧ (pl s1 s2 bs).2 = s2 + (bs.length : Int) * (s1 - 1) + (pl 1 0 bs).2 := by
  have key : ∀ (bs : List Int) (s1 s2 t1 t2 : Int), (pl s1 s2 bs).1 = s1 - t1 + (pl t1 t2 bs).1 ∧ (pl s1 s2 bs).2 = s2 - t2 + (bs.length : Int) * (s1 - t1) + (pl t1 t2 bs).2 := by
    intro bs
    induction bs with
    | nil => intro s1 s2 t1 t2; simp [pl]
    | cons b bs ih =>
      intro s1 s2 t1 t2
      obtain ⟨h1, h2⟩ := ih (s1 + b) (s2 + (s1 + b)) (t1 + b) (t2 + (t1 + b))
      refine ⟨by simp only [pl]; omega, ?_⟩
      simp only [pl, List.length_cons, h2]
      rw [show s1 + b - (t1 + b) = s1 - t1 by omega, show ((bs.length + 1 : Nat) : Int) = (bs.length : Int) + 1 by omega, Int.add_mul]
      omega
  have := key bs s1 s2 1 0
  exact ⟨this.1, by rw [this.2, Int.sub_zero]⟩

/-- The sums, each cut down behind each byte, and cut down at the end alone. -/
theorem mod_step (p1 p2 b : Int) : (p1 % MD + b) % MD = (p1 + b) % MD ∧ (p2 % MD + (p1 + b) % MD) % MD = (p2 + (p1 + b)) % MD := by
  unfold MD
  omega

theorem pl_mod (s1 s2 : Int) (bs : List Int) : (pl (s1 % MD) (s2 % MD) bs).1 % MD = (pl s1 s2 bs).1 % MD ∧ (pl (s1 % MD) (s2 % MD) bs).2 % MD = (pl s1 s2 bs).2 % MD := by
  obtain ⟨a1, a2⟩ := pl_from s1 s2 bs
  obtain ⟨b1, b2⟩ := pl_from (s1 % MD) (s2 % MD) bs
  rw [a1, a2, b1, b2]
  have e1 : s1 = MD * (s1 / MD) + s1 % MD := (Int.mul_ediv_add_emod s1 MD).symm
  have e2 : s2 = MD * (s2 / MD) + s2 % MD := (Int.mul_ediv_add_emod s2 MD).symm
  constructor
  · have : s1 - 1 + (pl 1 0 bs).1 = (s1 % MD - 1 + (pl 1 0 bs).1) + MD * (s1 / MD) := by omega
    rw [this, Int.add_mul_emod_self_left]
  · have : s2 + (bs.length : Int) * (s1 - 1) + (pl 1 0 bs).2 = (s2 % MD + (bs.length : Int) * (s1 % MD - 1) + (pl 1 0 bs).2) + MD * (s2 / MD + (bs.length : Int) * (s1 / MD)) := by
      have e3 : (bs.length : Int) * (s1 - 1) = (bs.length : Int) * (s1 % MD - 1) + MD * ((bs.length : Int) * (s1 / MD)) := by
        rw [show s1 - 1 = (s1 % MD - 1) + MD * (s1 / MD) by omega, Int.mul_add, Int.mul_left_comm]
      rw [e3, Int.mul_add]
      omega
    rw [this, Int.add_mul_emod_self_left]

/-- The bound of a run. -/
theorem pl_bound (bs : List Int) (hb : ∀ x ∈ bs, 0 ≤ x ∧ x < 256) (s1 s2 : Int) (h1 : 0 ≤ s1) (h2 : 0 ≤ s2) : 0 ≤ (pl s1 s2 bs).1 ∧ (pl s1 s2 bs).1 ≤ s1 + 255 * bs.length ∧ 0 ≤ (pl s1 s2 bs).2 ∧ 2 * (pl s1 s2 bs).2 ≤ 2 * s2 + 2 * (bs.length * s1) + 255 * ((bs.length : Int) * bs.length + bs.length) := by
  induction bs generalizing s1 s2 with
  | nil => simp [pl]; omega
  | cons b bs ih =>
    have hb0 := hb b (by simp)
    obtain ⟨i1, i2, i3, i4⟩ := ih (fun x hx => hb x (by simp [hx])) (s1 + b) (s2 + (s1 + b)) (by omega) (by omega)
    have hn : (0 : Int) ≤ (bs.length : Int) := by omega
    have hc : (((b :: bs).length : Nat) : Int) = (bs.length : Int) + 1 := by simp
    rw [hc]
    generalize (bs.length : Int) = n at i2 i4 hn ⊢
    refine ⟨i1, by change (pl (s1 + b) (s2 + (s1 + b)) bs).1 ≤ _; omega, i3, ?_⟩
    have hm : n * b ≤ n * 255 := Int.mul_le_mul_of_nonneg_left (by omega) hn
    have e1 : n * (s1 + b) = n * s1 + n * b := Int.mul_add _ _ _
    have e2 : (n + 1) * s1 = n * s1 + s1 := by rw [Int.add_mul, Int.one_mul]
    have e3 : (n + 1) * (n + 1) = n * n + n + n + 1 := by rw [Int.add_mul, Int.mul_add, Int.one_mul, Int.mul_one]; omega
    change 2 * (pl (s1 + b) (s2 + (s1 + b)) bs).2 ≤ _
    rw [e2, e3]
    rw [e1] at i4
    omega

end Go.Proofs.YtiahbicodlgmhaaGreatDoor.Sum
