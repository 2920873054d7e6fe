/- Codes by their lengths, as plain arithmetic: counts, first codes, what no code is. -/
import Derived.Test.YtjkfmnahmbnbnaaDoorMath
namespace Go.Proofs.YtjkfmnahmbnbnaaDoor
open Go.RowKit

/-- How many of the first i lengths are n. -/
def cn (L : Nat → Int) (n : Int) : Nat → Int
  | 0 => 0
  | i + 1 => cn L n i + (if L i = n then 1 else 0)

theorem cn_nn (L : Nat → Int) (n : Int) (i : Nat) : 0 ≤ cn L n i ∧ cn L n i ≤ i := by
  induction i with
  | zero => simp [cn]
  | succ i ih => simp only [cn]; split <;> omega

theorem cn_mono (L : Nat → Int) (n : Int) (i j : Nat) (h : i ≤ j) : cn L n i ≤ cn L n j := by
  induction j with
  | zero =>
    obtain rfl : i = 0 := by omega
    omega
  | succ j ih =>
    rcases Nat.lt_or_ge i (j + 1) with hlt | hge
    · have := ih (by omega)
      simp only [cn]
      split <;> omega
    · obtain rfl : i = j + 1 := by omega
      omega

theorem cn_lt (L : Nat → Int) (n : Int) (i j : Nat) (h : i < j) (e : L i = n) : cn L n i < cn L n j := by
  have h1 := cn_mono L n (i + 1) j h
  have h2 : cn L n (i + 1) = cn L n i + 1 := by simp [cn, e]
  omega

/-- The one that has so many of its length ahead. -/
theorem cn_find (L : Nat → Int) (n : Int) (m : Nat) (r : Int) (h0 : 0 ≤ r) (h1 : r < cn L n m) : ∃ i, i < m ∧ L i = n ∧ cn L n i = r := by
  induction m with
  | zero => simp [cn] at h1; omega
  | succ m ih =>
    by_cases hr : r < cn L n m
    · obtain ⟨i, a, b, c⟩ := ih hr
      exact ⟨i, by omega, b, c⟩
    · simp only [cn] at h1
      by_cases e : L m = n
      · rw [if_pos e] at h1
        exact ⟨m, by omega, e, by omega⟩
      · rw [if_neg e] at h1
        omega

/-- What the codes of at most n bits among the first i take of 2^n. -/
def G (L : Nat → Int) (n : Nat) : Nat → Int
  | 0 => 0
  | i + 1 => G L n i + (if 0 < L i ∧ L i ≤ n then 2 ^ (n - (L i).toNat) else 0)

theorem G_nn (L : Nat → Int) (n i : Nat) : 0 ≤ G L n i := by
  induction i with
  | zero => simp [G]
  | succ i ih =>
    simp only [G]
    have := p2 (n - (L i).toNat)
    split <;> omega

theorem G_zero (L : Nat → Int) (i : Nat) : G L 0 i = 0 := by
  induction i with
  | zero => rfl
  | succ i ih =>
    simp only [G, ih]
    rw [if_neg (by omega)]
    rfl

theorem G_step (L : Nat → Int) (n i : Nat) : G L (n + 1) i = 2 * G L n i + cn L ((n + 1 : Nat) : Int) i := by
  induction i with
  | zero => simp [G, cn]
  | succ i ih =>
    simp only [G, cn]
    by_cases h1 : 0 < L i ∧ L i ≤ (n : Int)
    · rw [if_pos h1, if_pos (by omega), if_neg (by omega), show n + 1 - (L i).toNat = (n - (L i).toNat) + 1 by omega, Int.pow_succ, ih]
      omega
    · rw [if_neg h1]
      by_cases h2 : L i = ((n + 1 : Nat) : Int)
      · rw [if_pos h2, if_pos (by omega), h2, Int.toNat_natCast, Nat.sub_self, Int.pow_zero, ih]
        omega
      · rw [if_neg h2, if_neg (by omega), ih]
        omega

theorem G_more (L : Nat → Int) (m n d : Nat) : G L n m * 2 ^ d ≤ G L (n + d) m := by
  induction d with
  | zero => simp
  | succ d ih =>
    have h := G_step L (n + d) m
    have h0 := (cn_nn L ((n + d + 1 : Nat) : Int) m).1
    rw [Int.pow_succ, ← Int.mul_assoc, show n + (d + 1) = n + d + 1 by omega, h]
    omega

/-- The first code of n bits. -/
def F (L : Nat → Int) (m : Nat) : Nat → Int
  | 0 => 0
  | n + 1 => 2 * G L n m

/-- How many have n bits; of none, nought. -/
def C (L : Nat → Int) (m : Nat) : Nat → Int
  | 0 => 0
  | n + 1 => cn L ((n + 1 : Nat) : Int) m

theorem FC (L : Nat → Int) (m n : Nat) : F L m n + C L m n = G L n m := by
  cases n with
  | zero => simp [F, C, G_zero]
  | succ n => rw [G_step]; rfl

theorem F_succ (L : Nat → Int) (m n : Nat) : F L m (n + 1) = (F L m n + C L m n) * 2 := by
  rw [FC, Int.mul_comm]; rfl

theorem C_nn (L : Nat → Int) (m n : Nat) : 0 ≤ C L m n ∧ C L m n ≤ m := by
  cases n with
  | zero => simp [C]
  | succ n => exact cn_nn L _ m

theorem F_nn (L : Nat → Int) (m n : Nat) : 0 ≤ F L m n := by
  cases n with
  | zero => simp [F]
  | succ n => have := G_nn L n m; simp only [F]; omega

theorem C_pos (L : Nat → Int) (m n : Nat) (h : 0 < n) : C L m n = cn L (n : Int) m := by
  cases n with
  | zero => omega
  | succ n => rfl

/-- A symbol's code. -/
def cd (L : Nat → Int) (m i : Nat) : Int := if 0 < L i then F L m (L i).toNat + cn L (L i) i else 0

/-- A number of each symbol: from f on by its length. -/
def nb (L : Nat → Int) (f : Nat → Int) (i : Nat) : Int := if 0 < L i then f (L i).toNat + cn L (L i) i else 0

theorem cd_low (L : Nat → Int) (m i : Nat) (n : Nat) (h : L i = n) (hn : 0 < n) : cd L m i = F L m n + cn L n i := by
  rw [cd, if_pos (by omega), h, Int.toNat_natCast]

theorem cd_between (L : Nat → Int) (m i n : Nat) (hi : i < m) (h : L i = n) (hn : 0 < n) : F L m n ≤ cd L m i ∧ cd L m i < G L n m := by
  rw [cd_low L m i n h hn, ← FC, C_pos L m n hn]
  have h1 := (cn_nn L n i).1
  have h2 := cn_lt L n i m hi h
  omega

/-- Not over full. -/
def Fits (L : Nat → Int) (m : Nat) : Prop := G L 15 m ≤ 32768

theorem G_le (L : Nat → Int) (m n : Nat) (h : Fits L m) (hn : n ≤ 15) : G L n m ≤ 2 ^ n := by
  have h1 := G_more L m n (15 - n)
  rw [show n + (15 - n) = 15 by omega] at h1
  have h2 : (2 : Int) ^ n * 2 ^ (15 - n) = 32768 := by rw [← Int.pow_add, show n + (15 - n) = 15 by omega]; rfl
  unfold Fits at h
  have h3 : G L n m * 2 ^ (15 - n) ≤ 2 ^ n * 2 ^ (15 - n) := by omega
  exact Int.le_of_mul_le_mul_right h3 (p2 _)

theorem G_small (L : Nat → Int) (m n : Nat) (h : Fits L m) (hn : n ≤ 15) : 0 ≤ G L n m ∧ G L n m ≤ 32768 := by
  have h1 := G_le L m n h hn
  have h2 := p2_le n 15 hn
  have h3 : (2 : Int) ^ 15 = 32768 := rfl
  exact ⟨G_nn _ _ _, by omega⟩

theorem F_small (L : Nat → Int) (m n : Nat) (h : Fits L m) (hn : n ≤ 16) : 0 ≤ F L m n ∧ F L m n ≤ 65536 := by
  cases n with
  | zero => simp [F]
  | succ n => have := G_small L m n h (by omega); simp only [F]; omega

theorem cd_lt (L : Nat → Int) (m i n : Nat) (h : Fits L m) (hi : i < m) (e : L i = n) (hn : 0 < n) (h15 : n ≤ 15) : 0 ≤ cd L m i ∧ cd L m i < 2 ^ n := by
  have h1 := cd_between L m i n hi e hn
  have h2 := G_le L m n h h15
  have h3 := F_nn L m n
  omega

/-- Longer codes lie behind. -/
theorem F_far (L : Nat → Int) (m n d : Nat) : G L n m * 2 ^ (d + 1) ≤ F L m (n + d + 1) := by
  have := G_more L m n d
  simp only [F]
  rw [Int.pow_succ, ← Int.mul_assoc]
  omega

theorem cd_front (L : Nat → Int) (m i k n d : Nat) (hi : i < m) (hk : k < m) (e : L i = n) (hn : 0 < n) (e2 : L k = ((n + d + 1 : Nat) : Int)) : cd L m i < cd L m k / 2 ^ (d + 1) := by
  have h1 := (cd_between L m i n hi e hn).2
  have h2 := (cd_between L m k (n + d + 1) hk e2 (by omega)).1
  have h3 := F_far L m n d
  have h4 : G L n m ≤ cd L m k / 2 ^ (d + 1) := (Int.le_ediv_iff_mul_le (p2 _)).2 (by omega)
  omega

theorem cd_rise (L : Nat → Int) (m i k n : Nat) (e : L i = n) (hn : 0 < n) (e2 : L k = n) (h : k < i) : cd L m k < cd L m i := by
  rw [cd_low L m i n e hn, cd_low L m k n e2 hn]
  have := cn_lt L n k i h e2
  omega

theorem cd_inj (L : Nat → Int) (m i k n : Nat) (e : L i = n) (hn : 0 < n) (e2 : L k = n) (h : cd L m k = cd L m i) : k = i := by
  rcases Nat.lt_trichotomy k i with h1 | h1 | h1
  · have := cd_rise L m i k n e hn e2 h1; omega
  · exact h1
  · have := cd_rise L m k i n e2 hn e h1; omega

/-- How many have fewer bits than n. -/
def pl (L : Nat → Int) (m : Nat) : Nat → Int
  | 0 => 0
  | n + 1 => pl L m n + C L m n

theorem pl_nn (L : Nat → Int) (m n : Nat) : 0 ≤ pl L m n ∧ pl L m n ≤ n * m := by
  induction n with
  | zero => simp [pl]
  | succ n ih =>
    have h := C_nn L m n
    simp only [pl]
    have e : ((n + 1 : Nat) : Int) * m = n * m + m := by rw [Int.natCast_add, Int.add_mul]; simp
    rw [e]
    omega

theorem pl_mono (L : Nat → Int) (m n k : Nat) (h : n ≤ k) : pl L m n ≤ pl L m k := by
  induction k with
  | zero =>
    obtain rfl : n = 0 := by omega
    omega
  | succ k ih =>
    rcases Nat.lt_or_ge n (k + 1) with hlt | hge
    · have := ih (by omega)
      have h := C_nn L m k
      simp only [pl]
      omega
    · obtain rfl : n = k + 1 := by omega
      omega

/-- The sum of all lengths. -/
def SM (L : Nat → Int) : Nat → Int
  | 0 => 0
  | i + 1 => SM L i + L i

theorem SM_is (L : Nat → Int) (m : Nat) (h : ∀ i, i < m → 0 ≤ L i ∧ L i ≤ 15) : SM L m = cn L 1 m + 2 * cn L 2 m + 3 * cn L 3 m + 4 * cn L 4 m + 5 * cn L 5 m + 6 * cn L 6 m + 7 * cn L 7 m + 8 * cn L 8 m + 9 * cn L 9 m + 10 * cn L 10 m + 11 * cn L 11 m + 12 * cn L 12 m + 13 * cn L 13 m + 14 * cn L 14 m + 15 * cn L 15 m := by
  induction m with
  | zero => simp [SM, cn]
  | succ m ih =>
    have h1 := ih (fun i hi => h i (by omega))
    have h2 := h m (by omega)
    simp only [SM, cn, h1]
    have h3 : L m = 0 ∨ L m = 1 ∨ L m = 2 ∨ L m = 3 ∨ L m = 4 ∨ L m = 5 ∨ L m = 6 ∨ L m = 7 ∨ L m = 8 ∨ L m = 9 ∨ L m = 10 ∨ L m = 11 ∨ L m = 12 ∨ L m = 13 ∨ L m = 14 ∨ L m = 15 := by omega
    rcases h3 with e | e | e | e | e | e | e | e | e | e | e | e | e | e | e | e <;> simp [e] <;> omega

theorem SM_nn (L : Nat → Int) (m : Nat) (h : ∀ i, i < m → 0 ≤ L i ∧ L i ≤ 15) : 0 ≤ SM L m ∧ SM L m ≤ 15 * m := by
  induction m with
  | zero => simp [SM]
  | succ m ih =>
    have h1 := ih (fun i hi => h i (by omega))
    have h2 := h m (by omega)
    simp only [SM]
    omega

/-- No symbol, or one of one bit: by the counts. -/
def Half (c : Nat → Int) : Prop := (∀ n, n < 16 → c n = 0) ∨ (∀ n, n < 16 → c n = if n = 1 then 1 else 0)

theorem half_iff (L : Nat → Int) (m : Nat) (h : ∀ i, i < m → 0 ≤ L i ∧ L i ≤ 15) : Half (C L m) ↔ SM L m ≤ 1 := by
  have hs := SM_is L m h
  have a1 := (cn_nn L 1 m).1
  have a2 := (cn_nn L 2 m).1
  have a3 := (cn_nn L 3 m).1
  have a4 := (cn_nn L 4 m).1
  have a5 := (cn_nn L 5 m).1
  have a6 := (cn_nn L 6 m).1
  have a7 := (cn_nn L 7 m).1
  have a8 := (cn_nn L 8 m).1
  have a9 := (cn_nn L 9 m).1
  have a10 := (cn_nn L 10 m).1
  have a11 := (cn_nn L 11 m).1
  have a12 := (cn_nn L 12 m).1
  have a13 := (cn_nn L 13 m).1
  have a14 := (cn_nn L 14 m).1
  have a15 := (cn_nn L 15 m).1
  constructor
  · rintro (hc | hc)
    · have b : ∀ n, n < 15 → cn L ((n + 1 : Nat) : Int) m = 0 := fun n hn => hc (n + 1) (by omega)
      have b0 := b 0 (by omega)
      have b1 := b 1 (by omega)
      have b2 := b 2 (by omega)
      have b3 := b 3 (by omega)
      have b4 := b 4 (by omega)
      have b5 := b 5 (by omega)
      have b6 := b 6 (by omega)
      have b7 := b 7 (by omega)
      have b8 := b 8 (by omega)
      have b9 := b 9 (by omega)
      have b10 := b 10 (by omega)
      have b11 := b 11 (by omega)
      have b12 := b 12 (by omega)
      have b13 := b 13 (by omega)
      have b14 := b 14 (by omega)
      simp at b0 b1 b2 b3 b4 b5 b6 b7 b8 b9 b10 b11 b12 b13 b14
      omega
    · have b : ∀ n, n < 15 → cn L ((n + 1 : Nat) : Int) m = if n + 1 = 1 then 1 else 0 := fun n hn => hc (n + 1) (by omega)
      have b0 := b 0 (by omega)
      have b1 := b 1 (by omega)
      have b2 := b 2 (by omega)
      have b3 := b 3 (by omega)
      have b4 := b 4 (by omega)
      have b5 := b 5 (by omega)
      have b6 := b 6 (by omega)
      have b7 := b 7 (by omega)
      have b8 := b 8 (by omega)
      have b9 := b 9 (by omega)
      have b10 := b 10 (by omega)
      have b11 := b 11 (by omega)
      have b12 := b 12 (by omega)
      have b13 := b 13 (by omega)
      have b14 := b 14 (by omega)
      simp at b0 b1 b2 b3 b4 b5 b6 b7 b8 b9 b10 b11 b12 b13 b14
      omega
  · intro hle
    by_cases h0 : cn L 1 m = 0
    · left
      intro n hn
      rcases n with _ | _ | _ | _ | _ | _ | _ | _ | _ | _ | _ | _ | _ | _ | _ | _ | n <;> simp [C] <;> omega
    · right
      intro n hn
      rcases n with _ | _ | _ | _ | _ | _ | _ | _ | _ | _ | _ | _ | _ | _ | _ | _ | n <;> simp [C] <;> omega

/-- A symbol of n bits whose code is v. -/
def Hit (L : Nat → Int) (m n : Nat) (v : Int) (i : Nat) : Prop := i < m ∧ L i = n ∧ cd L m i = v

theorem Hit.one {L : Nat → Int} {m n : Nat} {v : Int} {i k : Nat} (hn : 0 < n) (h : Hit L m n v i) (h' : Hit L m n v k) : i = k :=
  cd_inj L m k i n h'.2.1 hn h.2.1 (by rw [h.2.2, h'.2.2])

/-- What is read from bit p of X on (nb bytes), v being read already, of n - 1 bits: the symbol, the fault, how far. f: how many lengths are left. -/
def Nx (L : Nat → Int) (m : Nat) (X : Int) (nb : Nat) : Nat → Nat → Int → Nat → Int → Int → Nat → Prop
  | 0, _, _, p, s, g, q => s = 0 ∧ g = 2 ∧ q = p
  | f + 1, n, v, p, s, g, q =>
    (8 * nb < p + 1 ∧ s = 0 ∧ g = 3 ∧ q = p) ∨
    (p + 1 ≤ 8 * nb ∧ ∃ i, Hit L m n (2 * v + X / 2 ^ p % 2) i ∧ s = i ∧ g = 0 ∧ q = p + 1) ∨
    (p + 1 ≤ 8 * nb ∧ (∀ i, ¬ Hit L m n (2 * v + X / 2 ^ p % 2) i) ∧ (∀ i, i < m → ¬ (n : Int) < L i) ∧ s = 0 ∧ g = 2 ∧ q = p + 1) ∨
    (p + 1 ≤ 8 * nb ∧ (∀ i, ¬ Hit L m n (2 * v + X / 2 ^ p % 2) i) ∧ (∃ i, i < m ∧ (n : Int) < L i) ∧ Nx L m X nb f (n + 1) (2 * v + X / 2 ^ p % 2) (p + 1) s g q)

theorem Nx.one {L : Nat → Int} {m : Nat} {X : Int} {nb f : Nat} : ∀ {n : Nat} {v : Int} {p : Nat} {s g s' g' : Int} {q q' : Nat}, 0 < n → Nx L m X nb f n v p s g q → Nx L m X nb f n v p s' g' q' → s = s' ∧ g = g' ∧ q = q' := by
  induction f with
  | zero =>
    intro n v p s g s' g' q q' _ h h'
    simp only [Nx] at h h'
    omega
  | succ f ih =>
    intro n v p s g s' g' q q' hn h h'
    simp only [Nx] at h h'
    rcases h with ⟨a, rfl, rfl, rfl⟩ | ⟨a, i, hi, rfl, rfl, rfl⟩ | ⟨a, b, c, rfl, rfl, rfl⟩ | ⟨a, b, ⟨j, hj, hl⟩, c⟩
    · rcases h' with ⟨a', rfl, rfl, rfl⟩ | ⟨a', _⟩ | ⟨a', _⟩ | ⟨a', _⟩
      · exact ⟨rfl, rfl, rfl⟩
      all_goals omega
    · rcases h' with ⟨a', _⟩ | ⟨a', i', hi', rfl, rfl, rfl⟩ | ⟨a', b', _⟩ | ⟨a', b', _⟩
      · omega
      · exact ⟨by rw [hi.one hn hi'], rfl, rfl⟩
      · exact absurd hi (b' i)
      · exact absurd hi (b' i)
    · rcases h' with ⟨a', _⟩ | ⟨a', i', hi', _⟩ | ⟨a', b', c', rfl, rfl, rfl⟩ | ⟨a', b', ⟨j, hj, hl⟩, _⟩
      · omega
      · exact absurd hi' (b i')
      · exact ⟨rfl, rfl, rfl⟩
      · exact absurd hl (c j hj)
    · rcases h' with ⟨a', _⟩ | ⟨a', i', hi', _⟩ | ⟨a', b', c', _⟩ | ⟨a', b', _, c'⟩
      · omega
      · exact absurd hi' (b i')
      · exact absurd hl (c' j hj)
      · exact ih (by omega) c c'

/-- Behind the bits of a symbol's code, that symbol. -/
theorem Nx.code {L : Nat → Int} {m : Nat} {X : Int} {nb i N p : Nat} (hi : i < m) (hL : L i = N) (hp : p + N ≤ 8 * nb)
    (hb : ∀ j, j < N → X / 2 ^ (p + j) % 2 = cd L m i / 2 ^ (N - 1 - j) % 2) :
    ∀ (k f n : Nat), k + n = N → 0 < n → k < f → Nx L m X nb f n (cd L m i / 2 ^ (k + 1)) (p + (n - 1)) i 0 (p + N) := by
  intro k
  induction k with
  | zero =>
    intro f n hk hn hf
    obtain ⟨f, rfl⟩ : ∃ g, f = g + 1 := ⟨f - 1, by omega⟩
    obtain rfl : n = N := by omega
    simp only [Nx]
    refine Or.inr (Or.inl ⟨by omega, i, ⟨hi, hL, ?_⟩, rfl, trivial, by omega⟩)
    have h1 := hb (n - 1) (by omega)
    rw [h1, show n - 1 - (n - 1) = 0 by omega]
    simp only [Int.pow_zero, Nat.zero_add, Int.pow_succ, Int.ediv_one, Int.one_mul]
    omega
  | succ k ih =>
    intro f n hk hn hf
    obtain ⟨f, rfl⟩ : ∃ g, f = g + 1 := ⟨f - 1, by omega⟩
    have h1 := hb (n - 1) (by omega)
    have h2 : 2 * (cd L m i / 2 ^ (k + 1 + 1)) + X / 2 ^ (p + (n - 1)) % 2 = cd L m i / 2 ^ (k + 1) := by
      rw [h1, show N - 1 - (n - 1) = k + 1 by omega, show k + 1 + 1 = (k + 1) + 1 from rfl, ← div_div _ (k + 1) 1]
      simp only [Int.pow_succ, Int.pow_zero, Int.one_mul]
      omega
    simp only [Nx]
    rw [h2]
    refine .inr (.inr (.inr ⟨by omega, ?_, ⟨i, hi, by omega⟩, ?_⟩))
    · rintro j ⟨hj, hl, hc⟩
      have h3 := cd_front L m j i n k hj hi hl hn (by rw [hL]; congr 1; omega)
      omega
    · have h4 := ih f (n + 1) (by omega) (by omega) (by omega)
      rw [show p + (n + 1 - 1) = p + (n - 1) + 1 by omega] at h4
      exact h4

end Go.Proofs.YtjkfmnahmbnbnaaDoor
