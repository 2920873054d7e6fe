/- Bits in a number, from the lowest on; plain arithmetic. -/
import Derived.WalkKit
import Derived.WalkLawsBesides
namespace Go.Proofs.Ythaibdflehnbbaa
open Go.RowKit

theorem p2 (k : Nat) : (0 : Int) < 2 ^ k := Int.pow_pos (by decide)

theorem p2_le (a b : Nat) (h : a ≤ b) : (2 : Int) ^ a ≤ 2 ^ b := by
  exact_mod_cast Nat.pow_le_pow_right (n := 2) (by decide) h

theorem p2_split (a b : Nat) (h : a ≤ b) : (2 : Int) ^ b = 2 ^ a * 2 ^ (b - a) := by rw [← Int.pow_add]; congr 1; omega

theorem div_div (x : Int) (a b : Nat) : x / 2 ^ a / 2 ^ b = x / 2 ^ (a + b) := by
  rw [Int.ediv_ediv_of_nonneg (Int.le_of_lt (p2 a)), Int.pow_add]

/-- The lowest a + b bits: the lowest a, and the b above them. -/
theorem mod_add (v : Int) (a b : Nat) : v % 2 ^ (a + b) = v % 2 ^ a + 2 ^ a * (v / 2 ^ a % 2 ^ b) := by
  have ha := p2 a
  have hb := p2 b
  have h1 := Int.emod_add_mul_ediv v (2 ^ a)
  have h2 := Int.emod_add_mul_ediv (v / 2 ^ a) (2 ^ b)
  have h3 := Int.emod_nonneg v (Int.ne_of_gt ha)
  have h4 := Int.emod_lt_of_pos v ha
  have h5 := Int.emod_nonneg (v / 2 ^ a) (Int.ne_of_gt hb)
  have h6 := Int.emod_lt_of_pos (v / 2 ^ a) hb
  have h7 : 2 ^ a * (v / 2 ^ a % 2 ^ b) ≤ 2 ^ a * (2 ^ b - 1) := Int.mul_le_mul_of_nonneg_left (by omega) (by omega)
  have h8 : 0 ≤ 2 ^ a * (v / 2 ^ a % 2 ^ b) := Int.mul_nonneg (by omega) h5
  rw [Int.mul_sub, Int.mul_one, ← Int.pow_add] at h7
  refine ((Int.ediv_emod_unique (b := 2 ^ (a + b)) (q := v / 2 ^ a / 2 ^ b) (p2 _)).2 ⟨?_, by omega, by omega⟩).2
  rw [Int.pow_add, Int.mul_assoc, Int.add_assoc, ← Int.mul_add, h2, h1]

theorem mod_one (v : Int) (a : Nat) : v % 2 ^ (a + 1) = v % 2 ^ a + 2 ^ a * (v / 2 ^ a % 2) := mod_add v a 1

theorem mod_nn (v : Int) (a : Nat) : 0 ≤ v % 2 ^ a := Int.emod_nonneg v (Int.ne_of_gt (p2 a))

theorem mod_lt (v : Int) (a : Nat) : v % 2 ^ a < 2 ^ a := Int.emod_lt_of_pos v (p2 a)

theorem mod_mod (v : Int) (a b : Nat) (h : a ≤ b) : v % 2 ^ b % 2 ^ a = v % 2 ^ a :=
  Int.emod_emod_of_dvd v ⟨2 ^ (b - a), p2_split a b h⟩

/-- Bits put above: what lies at a and below b stays. -/
theorem put_div (N x : Int) (a b : Nat) (h : a ≤ b) : (N + 2 ^ b * x) / 2 ^ a = N / 2 ^ a + 2 ^ (b - a) * x := by
  rw [p2_split a b h, Int.mul_assoc, Int.add_mul_ediv_left _ _ (Int.ne_of_gt (p2 a))]

theorem put_low (N x : Int) (a b k : Nat) (h : a + k ≤ b) : (N + 2 ^ b * x) / 2 ^ a % 2 ^ k = N / 2 ^ a % 2 ^ k := by
  rw [put_div N x a b (by omega), p2_split k (b - a) (by omega), Int.mul_assoc, Int.add_mul_emod_self_left]

theorem put_high (N x : Int) (b : Nat) (h0 : 0 ≤ N) (h1 : N < 2 ^ b) : (N + 2 ^ b * x) / 2 ^ b = x := by
  rw [put_div N x b b (Nat.le_refl _), Nat.sub_self, Int.pow_zero, Int.one_mul, Int.ediv_eq_zero_of_lt h0 h1, Int.zero_add]

theorem put_mod (N x : Int) (b : Nat) (h0 : 0 ≤ N) (h1 : N < 2 ^ b) : (N + 2 ^ b * x) % 2 ^ b = N := by
  rw [Int.add_mul_emod_self_left, Int.emod_eq_of_lt h0 h1]

theorem put_bound (N x : Int) (b k : Nat) (h0 : 0 ≤ N) (h1 : N < 2 ^ b) (hx0 : 0 ≤ x) (hx1 : x < 2 ^ k) : 0 ≤ N + 2 ^ b * x ∧ N + 2 ^ b * x < 2 ^ (b + k) := by
  have hb := p2 b
  have h2 : 0 ≤ 2 ^ b * x := Int.mul_nonneg (by omega) hx0
  have h3 : 2 ^ b * x ≤ 2 ^ b * (2 ^ k - 1) := Int.mul_le_mul_of_nonneg_left (by omega) (by omega)
  rw [Int.mul_sub, Int.mul_one, ← Int.pow_add] at h3
  omega

theorem div_lt (N : Int) (a b : Nat) (h1 : N < 2 ^ (a + b)) : N / 2 ^ a < 2 ^ b := by
  refine Int.ediv_lt_of_lt_mul (p2 a) ?_
  rw [← Int.pow_add, Nat.add_comm]
  exact h1

theorem div_nn (N : Int) (a : Nat) (h0 : 0 ≤ N) : 0 ≤ N / 2 ^ a := Int.ediv_nonneg h0 (Int.le_of_lt (p2 a))

/-- The lowest n bits of v the other way round. -/
def T (v : Int) : Nat → Int
  | 0 => 0
  | k + 1 => 2 * T v k + v / 2 ^ k % 2

theorem T_bound (v : Int) (k : Nat) : 0 ≤ T v k ∧ T v k < 2 ^ k := by
  induction k with
  | zero => exact ⟨by simp [T], by simp [T]⟩
  | succ k ih =>
    have h1 : 0 ≤ v / 2 ^ k % 2 := Int.emod_nonneg _ (by decide)
    have h2 : v / 2 ^ k % 2 < 2 := Int.emod_lt_of_pos _ (by decide)
    have h3 : (2 : Int) ^ (k + 1) = 2 ^ k * 2 := Int.pow_succ _ _
    simp only [T]
    omega

theorem T_div (v : Int) (m j : Nat) : T v (m + j) / 2 ^ j = T v m := by
  induction j with
  | zero => simp
  | succ j ih =>
    have h1 : 0 ≤ v / 2 ^ (m + j) % 2 := Int.emod_nonneg _ (by decide)
    have h2 : v / 2 ^ (m + j) % 2 < 2 := Int.emod_lt_of_pos _ (by decide)
    have e : (2 : Int) ^ (j + 1) = 2 ^ (1 + j) := by rw [Nat.add_comm]
    rw [← ih, e, ← div_div]
    congr 1
    show T v (m + j + 1) / 2 ^ 1 = T v (m + j)
    simp only [T]
    omega

/-- A bit of the number turned. -/
theorem T_bit (v : Int) (n j : Nat) (h : j < n) : T v n / 2 ^ j % 2 = v / 2 ^ (n - 1 - j) % 2 := by
  have e : n = (n - 1 - j + 1) + j := by omega
  conv => lhs; rw [e, T_div]
  have h1 : 0 ≤ v / 2 ^ (n - 1 - j) % 2 := Int.emod_nonneg _ (by decide)
  have h2 : v / 2 ^ (n - 1 - j) % 2 < 2 := Int.emod_lt_of_pos _ (by decide)
  simp only [T]
  omega

theorem T_T_aux (v : Int) (n k : Nat) (h : k ≤ n) : T (T v n) k = v % 2 ^ n / 2 ^ (n - k) := by
  induction k with
  | zero => rw [Nat.sub_zero, Int.ediv_eq_zero_of_lt (mod_nn v n) (mod_lt v n)]; rfl
  | succ k ih =>
    have e : n - k = (n - (k + 1)) + 1 := by omega
    have hb : v % 2 ^ n / 2 ^ (n - (k + 1)) % 2 = v / 2 ^ (n - 1 - k) % 2 := by
      have e2 : n = (n - (k + 1)) + (k + 1) := by omega
      have e4 : n - (k + 1) = n - 1 - k := by omega
      have h5 := mod_add v (n - (k + 1)) (k + 1)
      rw [← e2] at h5
      rw [h5, put_div _ _ _ _ (Nat.le_refl _), Nat.sub_self, Int.pow_zero, Int.one_mul, Int.ediv_eq_zero_of_lt (mod_nn _ _) (mod_lt _ _), Int.zero_add, e4]
      exact mod_mod (v / 2 ^ (n - 1 - k)) 1 (k + 1) (by omega)
    simp only [T]
    rw [ih (by omega), T_bit v n k (by omega), e, ← div_div, ← hb]
    show 2 * (v % 2 ^ n / 2 ^ (n - (k + 1)) / 2 ^ 1) + _ = _
    omega

/-- Turned twice is itself. -/
theorem T_T (v : Int) (n : Nat) : T (T v n) n = v % 2 ^ n := by rw [T_T_aux v n n (Nat.le_refl _), Nat.sub_self]; simp

theorem T_congr (v u : Int) (n : Nat) (h : v % 2 ^ n = u % 2 ^ n) : T v n = T u n := by
  rw [← Int.emod_eq_of_lt (T_bound v n).1 (T_bound v n).2, ← T_T, ← Int.emod_eq_of_lt (T_bound u n).1 (T_bound u n).2, ← T_T, T_T v, T_T u, h]

/-- The bytes of a number, the lowest first. -/
def by8 (N : Int) (m : Nat) : List Int := (List.range m).map fun j => N / 2 ^ (8 * j) % 256

theorem by8_len (N : Int) (m : Nat) : (by8 N m).length = m := by simp [by8]

theorem by8_succ (N : Int) (m : Nat) : by8 N (m + 1) = by8 N m ++ [N / 2 ^ (8 * m) % 256] := by simp [by8, List.range_succ]

theorem by8_get (N : Int) (m j : Nat) (h : j < m) : (by8 N m).getD j 0 = N / 2 ^ (8 * j) % 256 := by
  simp [by8, List.getD, h]

theorem by8_byt (N : Int) (m : Nat) : ∀ x ∈ by8 N m, 0 ≤ x ∧ x < 256 := by
  intro x hx
  simp only [by8, List.mem_map] at hx
  obtain ⟨j, _, rfl⟩ := hx
  exact ⟨Int.emod_nonneg _ (by decide), Int.emod_lt_of_pos _ (by decide)⟩

/-- Bits put behind whole bytes leave them. -/
theorem by8_put (N x : Int) (b m : Nat) (h : 8 * m ≤ b) : by8 (N + 2 ^ b * x) m = by8 N m := by
  simp only [by8]
  refine List.map_congr_left fun j hj => ?_
  have : j < m := by simpa using hj
  exact put_low N x (8 * j) b 8 (by omega)

/-- The bits of a number, the lowest first. -/
def bl (N : Int) (m : Nat) : List Bool := (List.range m).map fun j => N / 2 ^ j % 2 == 1

theorem bl_len (N : Int) (m : Nat) : (bl N m).length = m := by simp [bl]

theorem bl_get (N : Int) (m j : Nat) (h : j < m) : (bl N m)[j]? = some (N / 2 ^ j % 2 == 1) := by simp [bl, h]

theorem bl_put (N b : Int) (m : Nat) (h0 : 0 ≤ N) (h1 : N < 2 ^ m) (hb0 : 0 ≤ b) (hb1 : b < 2) : bl (N + 2 ^ m * b) (m + 1) = bl N m ++ [b == 1] := by
  simp only [bl, List.range_succ, List.map_append, List.map_cons, List.map_nil]
  congr 1
  · refine List.map_congr_left fun j hj => ?_
    have : j < m := by simpa using hj
    rw [show (N + 2 ^ m * b) / 2 ^ j % 2 = N / 2 ^ j % 2 from put_low N b j m 1 (by omega)]
  · rw [put_high N b m h0 h1, Int.emod_eq_of_lt hb0 hb1]

/-- Every row of bytes is the bytes of a number. -/
theorem by8_exists (xs : List Int) (h : ∀ x ∈ xs, 0 ≤ x ∧ x < 256) : ∃ N, 0 ≤ N ∧ N < 2 ^ (8 * xs.length) ∧ by8 N xs.length = xs := by
  obtain ⟨m, hm⟩ : ∃ m, m = xs.length := ⟨_, rfl⟩
  induction m generalizing xs with
  | zero =>
    have : xs = [] := List.eq_nil_of_length_eq_zero hm.symm
    subst this
    exact ⟨0, by simp, by simp, by simp [by8]⟩
  | succ m ih =>
    rcases List.eq_nil_or_concat xs with rfl | ⟨ys, y, rfl⟩
    · simp at hm
    · obtain ⟨N, h0, h1, h2⟩ := ih ys (fun x hx => h x (by simp [hx])) (by simp at hm; omega)
      obtain ⟨hy0, hy1⟩ := h y (by simp)
      obtain ⟨g0, g1⟩ := put_bound N y (8 * ys.length) 8 h0 h1 hy0 hy1
      refine ⟨N + 2 ^ (8 * ys.length) * y, g0, ?_, ?_⟩
      · simpa [Nat.mul_add] using g1
      · rw [List.concat_eq_append, show (ys ++ [y]).length = ys.length + 1 by simp, by8_succ, by8_put _ _ _ _ (Nat.le_refl _), h2, put_high N y _ h0 h1, Int.emod_eq_of_lt hy0 (by omega)]

/-- Two numbers of one row of bytes are one. -/
theorem by8_inj (N M : Int) (m : Nat) (h0 : 0 ≤ N) (h1 : N < 2 ^ (8 * m)) (g0 : 0 ≤ M) (g1 : M < 2 ^ (8 * m)) (h : by8 N m = by8 M m) : N = M := by
  induction m generalizing N M with
  | zero => simp at h1 g1; omega
  | succ m ih =>
    rw [by8_succ, by8_succ] at h
    obtain ⟨ha, hb⟩ := List.append_inj h (by simp [by8_len])
    have e : ∀ K : Int, 0 ≤ K → K < 2 ^ (8 * (m + 1)) → K = K % 2 ^ (8 * m) + 2 ^ (8 * m) * (K / 2 ^ (8 * m) % 256) := fun K k0 k1 => by
      have := mod_add K (8 * m) 8
      rw [show 8 * m + 8 = 8 * (m + 1) by omega, Int.emod_eq_of_lt k0 k1] at this
      exact this
    have f : ∀ K : Int, 0 ≤ K → K < 2 ^ (8 * (m + 1)) → by8 (K % 2 ^ (8 * m)) m = by8 K m := fun K k0 k1 => by
      conv => rhs; rw [e K k0 k1]
      rw [by8_put _ _ _ _ (Nat.le_refl _)]
    have hN := ih (N % 2 ^ (8 * m)) (M % 2 ^ (8 * m)) (mod_nn _ _) (mod_lt _ _) (mod_nn _ _) (mod_lt _ _) (by rw [f N h0 h1, f M g0 g1, ha])
    have hb' : N / 2 ^ (8 * m) % 256 = M / 2 ^ (8 * m) % 256 := by simpa using hb
    rw [e N h0 h1, e M g0 g1, hN, hb']

end Go.Proofs.Ythaibdflehnbbaa
