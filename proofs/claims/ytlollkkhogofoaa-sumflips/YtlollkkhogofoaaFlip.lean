/- CRC-32 of bytes of which some bits are turned, as plain mathematics. -/
import Derived.Test.YtlollkkhogofoaaCrc
namespace Go.Proofs.Ytlollkkhogofoaa

/-- Bytes as one number. -/
def numf : Nat → (Nat → Nat) → Nat
  | 0, _ => 0
  | n + 1, g => numf n g ^^^ (2 ^ (8 * n) * g n)

theorem mul_xor (k a b : Nat) : 2 ^ k * (a ^^^ b) = (2 ^ k * a) ^^^ (2 ^ k * b) := by
  have h := Nat.shiftLeft_xor_distrib (a := a) (b := b) (i := k)
  rw [Nat.shiftLeft_eq, Nat.shiftLeft_eq, Nat.shiftLeft_eq] at h
  rw [Nat.mul_comm, h, Nat.mul_comm a, Nat.mul_comm b]

theorem cfold_num (s n : Nat) (g : Nat → Nat) : cfold s ((List.range n).map g) = trns (8 * n) (s ^^^ numf n g) := by
  induction n with
  | zero => simp [cfold, numf, trns]
  | succ n ih =>
    rw [List.range_succ, List.map_append, List.map_cons, List.map_nil, cfold_snoc, ih, cstep, numf, ← Nat.xor_assoc, show 8 * (n + 1) = 8 + 8 * n by omega, trns_add, trns_xor (8 * n) (s ^^^ numf n g), trns_shift]

theorem numf_xor (n : Nat) (g h : Nat → Nat) : numf n (fun j => g j ^^^ h j) = numf n g ^^^ numf n h := by
  induction n with
  | zero => simp [numf]
  | succ n ih => rw [numf, numf, numf, ih, mul_xor, xor_swap]

theorem numf_zero (n : Nat) : numf n (fun _ => 0) = 0 := by
  induction n with
  | zero => rfl
  | succ n ih => rw [numf, ih]; simp

theorem numf_congr (n : Nat) (g h : Nat → Nat) (e : ∀ j, j < n → g j = h j) : numf n g = numf n h := by
  induction n with
  | zero => rfl
  | succ n ih => rw [numf, numf, ih (fun j hj => e j (by omega)), e n (by omega)]

theorem numf_one (n j d : Nat) : numf n (fun i => if i = j then d else 0) = if j < n then 2 ^ (8 * j) * d else 0 := by
  induction n with
  | zero => simp [numf]
  | succ n ih =>
    rw [numf, ih]
    by_cases h : j < n
    · have h1 : ¬ n = j := by omega
      have h2 : j < n + 1 := by omega
      simp [h, h1, h2]
    · by_cases e : n = j
      · simp [e]
      · have h2 : ¬ j < n + 1 := by omega
        simp [h, e, h2]

/-- One byte turned by d. -/
theorem numf_set (n j d : Nat) (g : Nat → Nat) (hj : j < n) : numf n (fun i => if i = j then g j ^^^ d else g i) = numf n g ^^^ (2 ^ (8 * j) * d) := by
  rw [numf_congr n _ (fun i => g i ^^^ (if i = j then d else 0)) (fun i _ => by
    by_cases e : i = j
    · simp [e]
    · simp [e]), numf_xor, numf_one, if_pos hj]

theorem xor_cancel (a b c : Nat) (h : a ^^^ b = a ^^^ c) : b = c := by
  have := congrArg (a ^^^ ·) h
  simp only [xor_twice] at this
  exact this

theorem trn_inj (v : Nat) (h : v < 4294967296) (e : trn v = 0) : v = 0 := by
  by_cases ho : v % 2 = 1
  · rw [trn_odd v ho] at e
    have h2 : (v / 2) ^^^ POLY = (v / 2) ^^^ (v / 2) := by rw [e, Nat.xor_self]
    have := xor_cancel _ _ _ h2
    unfold POLY at this
    omega
  · rw [trn_even v ho] at e
    omega

theorem trns_inj (n v : Nat) (h : v < 4294967296) (e : trns n v = 0) : v = 0 := by
  induction n with
  | zero => exact e
  | succ n ih => exact ih (trn_inj _ (trns_lt n v h) e)

theorem crc_num (n : Nat) (g : Nat → Nat) : cmore 0 ((List.range n).map g) = (ONES ^^^ trns (8 * n) ONES) ^^^ trns (8 * n) (numf n g) := by
  unfold cmore
  rw [inv_eq, inv_eq, Nat.xor_zero, cfold_num, trns_xor, Nat.xor_assoc]

/-- A burst of at most thirty-two bits. -/
theorem burst (n bit p : Nat) (x g : Nat → Nat) (hb : bit ≤ 8 * n) (hp : p < 4294967296) (h : numf n x = numf n g ^^^ (2 ^ bit * p)) : cmore 0 ((List.range n).map x) = cmore 0 ((List.range n).map g) ↔ p = 0 := by
  rw [crc_num, crc_num, h, trns_xor]
  have e : trns (8 * n) (2 ^ bit * p) = trns (8 * n - bit) p := by
    rw [show 8 * n = (8 * n - bit) + bit by omega, trns_add, trns_shift]
    congr 1
    omega
  rw [e]
  constructor
  · intro hh
    have h1 := xor_cancel _ _ _ hh
    have h2 : trns (8 * n) (numf n g) ^^^ trns (8 * n - bit) p = trns (8 * n) (numf n g) ^^^ 0 := by rw [h1, Nat.xor_zero]
    exact trns_inj _ p hp (xor_cancel _ _ _ h2)
  · intro hh
    rw [hh, trns_zero, Nat.xor_zero]

theorem three (n : Nat) (g h : Nat → Nat) : (cmore 0 ((List.range n).map g) ^^^ cmore 0 ((List.range n).map h)) ^^^ cmore 0 ((List.range n).map (fun _ => 0)) = cmore 0 ((List.range n).map (fun j => g j ^^^ h j)) := by
  rw [crc_num, crc_num, crc_num, crc_num, numf_xor, numf_zero, trns_zero, Nat.xor_zero, trns_xor]
  generalize ONES ^^^ trns (8 * n) ONES = K
  generalize trns (8 * n) (numf n g) = A
  generalize trns (8 * n) (numf n h) = B
  rw [xor_swap K A K B, Nat.xor_self, Nat.zero_xor, Nat.xor_comm]

theorem mod_next (p k : Nat) : p % 2 ^ (k + 1) = (p % 2 ^ k) ^^^ (2 ^ k * (p / 2 ^ k % 2)) := by
  apply Nat.eq_of_testBit_eq
  intro i
  rw [Nat.testBit_xor, Nat.testBit_mod_two_pow, Nat.testBit_mod_two_pow, Nat.testBit_two_pow_mul]
  by_cases h : i < k
  · simp [h, show i < k + 1 by omega, show ¬ k ≤ i by omega]
  · by_cases e : i = k
    · subst e
      simp [Nat.testBit_eq_decide_div_mod_eq]
    · have h2 : 1 ≤ i - k := by omega
      have h3 : (p / 2 ^ k % 2).testBit (i - k) = false := by
        apply Nat.testBit_lt_two_pow
        exact Nat.lt_of_lt_of_le (Nat.mod_lt _ (by omega)) (Nat.le_trans (by omega : 2 ≤ 2 ^ 1) (Nat.pow_le_pow_right (by omega) h2))
      simp [h, show ¬ i < k + 1 by omega, h3]

end Go.Proofs.Ytlollkkhogofoaa
