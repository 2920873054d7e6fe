/- Huff, Ints, WIndex, WCheck. -/
import Derived.Test.YtiahbicodlgmhaaGreatDoorM01
import Derived.Laws.AppendOwnNone
import Derived.Laws.StructEq
/- Codes by their lengths, as plain arithmetic: counts, first codes, what no code is. -/
namespace Go.Proofs.YtiahbicodlgmhaaGreatDoor
open Go.RowKit

/-- How many of the first i lengths are n. -/
def cn (L : Nat → Int) (n : Int) : Nat → Int
  | 0 => 0
  | i + 1 => cn L n i + (if L i = n then 1 else 0)

theorem cn_nn (L : Nat → Int) (n : Int) (i : Nat) : 0 ≤ cn L n i ∧ cn L n i ≤ i := by
  induction i with
  | zero => simp [cn]
  | succ i ih => simp only [cn]; split <;> omega

theorem cn_mono (L : Nat → Int) (n : Int) (i j : Nat) (h : i ≤ j) : cn L n i ≤ cn L n j := by
  induction j with
  | zero =>
    obtain rfl : i = 0 := by omega
    omega
  | succ j ih =>
    rcases Nat.lt_or_ge i (j + 1) with hlt | hge
    · have := ih (by omega)
      simp only [cn]
      split <;> omega
    · obtain rfl : i = j + 1 := by omega
      omega

theorem cn_lt (L : Nat → Int) (n : Int) (i j : Nat) (h : i < j) (e : L i = n) : cn L n i < cn L n j := by
  have h1 := cn_mono L n (i + 1) j h
  have h2 : cn L n (i + 1) = cn L n i + 1 := by simp [cn, e]
  omega

/-- The one that has so many of its length ahead. -/
theorem cn_find (L : Nat → Int) (n : Int) (m : Nat) (r : Int) (h0 : 0 ≤ r) (h1 : r < cn L n m) : ∃ i, i < m ∧ L i = n ∧ cn L n i = r := by
  induction m with
  | zero => simp [cn] at h1; omega
  | succ m ih =>
    by_cases hr : r < cn L n m
    · obtain ⟨i, a, b, c⟩ := ih hr
      exact ⟨i, by omega, b, c⟩
    · simp only [cn] at h1
      by_cases e : L m = n
      · rw [if_pos e] at h1
        exact ⟨m, by omega, e, by omega⟩
      · rw [if_neg e] at h1
        omega

/-- What the codes of at most n bits among the first i take of 2^n. -/
def G (L : Nat → Int) (n : Nat) : Nat → Int
  | 0 => 0
  | i + 1 => G L n i + (if 0 < L i ∧ L i ≤ n then 2 ^ (n - (L i).toNat) else 0)

theorem G_nn (L : Nat → Int) (n i : Nat) : 0 ≤ G L n i := by
  induction i with
  | zero => simp [G]
  | succ i ih =>
    simp only [G]
    have := p2 (n - (L i).toNat)
    split <;> omega

theorem G_zero (L : Nat → Int) (i : Nat) : G L 0 i = 0 := by
  induction i with
  | zero => rfl
  | succ i ih =>
    simp only [G, ih]
    rw [if_neg (by omega)]
    rfl

theorem G_step (L : Nat → Int) (n i : Nat) : G L (n + 1) i = 2 * G L n i + cn L ((n + 1 : Nat) : Int) i := by
  induction i with
  | zero => simp [G, cn]
  | succ i ih =>
    simp only [G, cn]
    by_cases h1 : 0 < L i ∧ L i ≤ (n : Int)
    · rw [if_pos h1, if_pos (by omega), if_neg (by omega), show n + 1 - (L i).toNat = (n - (L i).toNat) + 1 by omega, Int.pow_succ, ih]
      omega
    · rw [if_neg h1]
      by_cases h2 : L i = ((n + 1 : Nat) : Int)
      · rw [if_pos h2, if_pos (by omega), h2, Int.toNat_natCast, Nat.sub_self, Int.pow_zero, ih]
        omega
      · rw [if_neg h2, if_neg (by omega), ih]
        omega

theorem G_more (L : Nat → Int) (m n d : Nat) : G L n m * 2 ^ d ≤ G L (n + d) m := by
  induction d with
  | zero => simp
  | succ d ih =>
    have h := G_step L (n + d) m
    have h0 := (cn_nn L ((n + d + 1 : Nat) : Int) m).1
    rw [Int.pow_succ, ← Int.mul_assoc, show n + (d + 1) = n + d + 1 by omega, h]
    omega

/-- The first code of n bits. -/
def F (L : Nat → Int) (m : Nat) : Nat → Int
  | 0 => 0
  | n + 1 => 2 * G L n m

/-- How many have n bits; of none, nought. -/
def C (L : Nat → Int) (m : Nat) : Nat → Int
  | 0 => 0
  | n + 1 => cn L ((n + 1 : Nat) : Int) m

theorem FC (L : Nat → Int) (m n : Nat) : F L m n + C L m n = G L n m := by
  cases n with
  | zero => simp [F, C, G_zero]
  | succ n => rw [G_step]; rfl

theorem F_succ (L : Nat → Int) (m n : Nat) : F L m (n + 1) = (F L m n + C L m n) * 2 := by
  rw [FC, Int.mul_comm]; rfl

theorem C_nn (L : Nat → Int) (m n : Nat) : 0 ≤ C L m n ∧ C L m n ≤ m := by
  cases n with
  | zero => simp [C]
  | succ n => exact cn_nn L _ m

theorem F_nn (L : Nat → Int) (m n : Nat) : 0 ≤ F L m n := by
  cases n with
  | zero => simp [F]
  | succ n => have := G_nn L n m; simp only [F]; omega

theorem C_pos (L : Nat → Int) (m n : Nat) (h : 0 < n) : C L m n = cn L (n : Int) m := by
  cases n with
  | zero => omega
  | succ n => rfl

/-- A symbol's code. -/
def cd (L : Nat → Int) (m i : Nat) : Int := if 0 < L i then F L m (L i).toNat + cn L (L i) i else 0

/-- A number of each symbol: from f on by its length. -/
def nb (L : Nat → Int) (f : Nat → Int) (i : Nat) : Int := if 0 < L i then f (L i).toNat + cn L (L i) i else 0

theorem cd_low (L : Nat → Int) (m i : Nat) (n : Nat) (h : L i = n) (hn : 0 < n) : cd L m i = F L m n + cn L n i := by
  rw [cd, if_pos (by omega), h, Int.toNat_natCast]

theorem cd_between (L : Nat → Int) (m i n : Nat) (hi : i < m) (h : L i = n) (hn : 0 < n) : F L m n ≤ cd L m i ∧ cd L m i < G L n m := by
  rw [cd_low L m i n h hn, ← FC, C_pos L m n hn]
  have h1 := (cn_nn L n i).1
  have h2 := cn_lt L n i m hi h
  omega

/-- Not over full. -/
def Fits (L : Nat → Int) (m : Nat) : Prop := G L 15 m ≤ 32768

theorem G_le (L : Nat → Int) (m n : Nat) (h : Fits L m) (hn : n ≤ 15) : G L n m ≤ 2 ^ n := by
  have h1 := G_more L m n (15 - n)
  rw [show n + (15 - n) = 15 by omega] at h1
  have h2 : (2 : Int) ^ n * 2 ^ (15 - n) = 32768 := by rw [← Int.pow_add, show n + (15 - n) = 15 by omega]; rfl
  unfold Fits at h
  have h3 : G L n m * 2 ^ (15 - n) ≤ 2 ^ n * 2 ^ (15 - n) := by omega
  exact Int.le_of_mul_le_mul_right h3 (p2 _)

theorem G_small (L : Nat → Int) (m n : Nat) (h : Fits L m) (hn : n ≤ 15) : 0 ≤ G L n m ∧ G L n m ≤ 32768 := by
  have h1 := G_le L m n h hn
  have h2 := p2_le n 15 hn
  have h3 : (2 : Int) ^ 15 = 32768 := rfl
  exact ⟨G_nn _ _ _, by omega⟩

theorem F_small (L : Nat → Int) (m n : Nat) (h : Fits L m) (hn : n ≤ 16) : 0 ≤ F L m n ∧ F L m n ≤ 65536 := by
  cases n with
  | zero => simp [F]
  | succ n => have := G_small L m n h (by omega); simp only [F]; omega

theorem cd_lt (L : Nat → Int) (m i n : Nat) (h : Fits L m) (hi : i < m) (e : L i = n) (hn : 0 < n) (h15 : n ≤ 15) : 0 ≤ cd L m i ∧ cd L m i < 2 ^ n := by
  have h1 := cd_between L m i n hi e hn
  have h2 := G_le L m n h h15
  have h3 := F_nn L m n
  omega

/-- Longer codes lie behind. -/
theorem F_far (L : Nat → Int) (m n d : Nat) : G L n m * 2 ^ (d + 1) ≤ F L m (n + d + 1) := by
  have := G_more L m n d
  simp only [F]
  rw [Int.pow_succ, ← Int.mul_assoc]
  omega

theorem cd_front (L : Nat → Int) (m i k n d : Nat) (hi : i < m) (hk : k < m) (e : L i = n) (hn : 0 < n) (e2 : L k = ((n + d + 1 : Nat) : Int)) : cd L m i < cd L m k / 2 ^ (d + 1) := by
  have h1 := (cd_between L m i n hi e hn).2
  have h2 := (cd_between L m k (n + d + 1) hk e2 (by omega)).1
  have h3 := F_far L m n d
  have h4 : G L n m ≤ cd L m k / 2 ^ (d + 1) := (Int.le_ediv_iff_mul_le (p2 _)).2 (by omega)
  omega

theorem cd_rise (L : Nat → Int) (m i k n : Nat) (e : L i = n) (hn : 0 < n) (e2 : L k = n) (h : k < i) : cd L m k < cd L m i := by
  rw [cd_low L m i n e hn, cd_low L m k n e2 hn]
  have := cn_lt L n k i h e2
  omega

theorem cd_inj (L : Nat → Int) (m i k n : Nat) (e : L i = n) (hn : 0 < n) (e2 : L k = n) (h : cd L m k = cd L m i) : k = i := by
  rcases Nat.lt_trichotomy k i with h1 | h1 | h1
  · have := cd_rise L m i k n e hn e2 h1; omega
  · exact h1
  · have := cd_rise L m k i n e2 hn e h1; omega

/-- How many have fewer bits than n. -/
def pl (L : Nat → Int) (m : Nat) : Nat → Int
  | 0 => 0
  | n + 1 => pl L m n + C L m n

theorem pl_nn (L : Nat → Int) (m n : Nat) : 0 ≤ pl L m n ∧ pl L m n ≤ n * m := by
  induction n with
  | zero => simp [pl]
  | succ n ih =>
    have h := C_nn L m n
    simp only [pl]
    have e : ((n + 1 : Nat) : Int) * m = n * m + m := by rw [Int.natCast_add, Int.add_mul]; simp
    rw [e]
    omega

theorem pl_mono (L : Nat → Int) (m n k : Nat) (h : n ≤ k) : pl L m n ≤ pl L m k := by
  induction k with
  | zero =>
    obtain rfl : n = 0 := by omega
    omega
  | succ k ih =>
    rcases Nat.lt_or_ge n (k + 1) with hlt | hge
    · have := ih (by omega)
      have h := C_nn L m k
      simp only [pl]
      omega
    · obtain rfl : n = k + 1 := by omega
      omega

/-- The sum of all lengths. -/
def SM (L : Nat → Int) : Nat → Int
  | 0 => 0
  | i + 1 => SM L i + L i

theorem SM_is (L : Nat → Int) (m : Nat) (h : ∀ i, i < m → 0 ≤ L i ∧ L i ≤ 15) : SM L m = cn L 1 m + 2 * cn L 2 m + 3 * cn L 3 m + 4 * cn L 4 m + 5 * cn L 5 m + 6 * cn L 6 m + 7 * cn L 7 m + 8 * cn L 8 m + 9 * cn L 9 m + 10 * cn L 10 m + 11 * cn L 11 m + 12 * cn L 12 m + 13 * cn L 13 m + 14 * cn L 14 m + 15 * cn L 15 m := by
  induction m with
  | zero => simp [SM, cn]
  | succ m ih =>
    have h1 := ih (fun i hi => h i (by omega))
    have h2 := h m (by omega)
    simp only [SM, cn, h1]
    have h3 : L m = 0 ∨ L m = 1 ∨ L m = 2 ∨ L m = 3 ∨ L m = 4 ∨ L m = 5 ∨ L m = 6 ∨ L m = 7 ∨ L m = 8 ∨ L m = 9 ∨ L m = 10 ∨ L m = 11 ∨ L m = 12 ∨ L m = 13 ∨ L m = 14 ∨ L m = 15 := by omega
    rcases h3 with e | e | e | e | e | e | e | e | e | e | e | e | e | e | e | e <;> simp [e] <;> omega

theorem SM_nn (L : Nat → Int) (m : Nat) (h : ∀ i, i < m → 0 ≤ L i ∧ L i ≤ 15) : 0 ≤ SM L m ∧ SM L m ≤ 15 * m := by
  induction m with
  | zero => simp [SM]
  | succ m ih =>
    have h1 := ih (fun i hi => h i (by omega))
    have h2 := h m (by omega)
    simp only [SM]
    omega

/-- No symbol, or one of one bit: by the counts. -/
def Half (c : Nat → Int) : Prop := (∀ n, n < 16 → c n = 0) ∨ (∀ n, n < 16 → c n = if n = 1 then 1 else 0)

theorem half_iff (L : Nat → Int) (m : Nat) (h : ∀ i, i < m → 0 ≤ L i ∧ L i ≤ 15) : Half (C L m) ↔ SM L m ≤ 1 := by
  have hs := SM_is L m h
  have a1 := (cn_nn L 1 m).1
  have a2 := (cn_nn L 2 m).1
  have a3 := (cn_nn L 3 m).1
  have a4 := (cn_nn L 4 m).1
  have a5 := (cn_nn L 5 m).1
  have a6 := (cn_nn L 6 m).1
  have a7 := (cn_nn L 7 m).1
  have a8 := (cn_nn L 8 m).1
  have a9 := (cn_nn L 9 m).1
  have a10 := (cn_nn L 10 m).1
  have a11 := (cn_nn L 11 m).1
  have a12 := (cn_nn L 12 m).1
  have a13 := (cn_nn L 13 m).1
  have a14 := (cn_nn L 14 m).1
  have a15 := (cn_nn L 15 m).1
  constructor
  · rintro (hc | hc)
    · have b : ∀ n, n < 15 → cn L ((n + 1 : Nat) : Int) m = 0 := fun n hn => hc (n + 1) (by omega)
      have b0 := b 0 (by omega)
      have b1 := b 1 (by omega)
      have b2 := b 2 (by omega)
      have b3 := b 3 (by omega)
      have b4 := b 4 (by omega)
      have b5 := b 5 (by omega)
      have b6 := b 6 (by omega)
      have b7 := b 7 (by omega)
      have b8 := b 8 (by omega)
      have b9 := b 9 (by omega)
      have b10 := b 10 (by omega)
      have b11 := b 11 (by omega)
      have b12 := b 12 (by omega)
      have b13 := b 13 (by omega)
      have b14 := b 14 (by omega)
      simp at b0 b1 b2 b3 b4 b5 b6 b7 b8 b9 b10 b11 b12 b13 b14
      omega
    · have b : ∀ n, n < 15 → cn L ((n + 1 : Nat) : Int) m = if n + 1 = 1 then 1 else 0 := fun n hn => hc (n + 1) (by omega)
      have b0 := b 0 (by omega)
      have b1 := b 1 (by omega)
      have b2 := b 2 (by omega)
      have b3 := b 3 (by omega)
      have b4 := b 4 (by omega)
      have b5 := b 5 (by omega)
      have b6 := b 6 (by omega)
      have b7 := b 7 (by omega)
      have b8 := b 8 (by omega)
      have b9 := b 9 (by omega)
      have b10 := b 10 (by omega)
      have b11 := b 11 (by omega)
      have b12 := b 12 (by omega)
      have b13 := b 13 (by omega)
      have b14 := b 14 (by omega)
      simp at b0 b1 b2 b3 b4 b5 b6 b7 b8 b9 b10 b11 b12 b13 b14
      omega
  · intro hle
    by_cases h0 : cn L 1 m = 0
    · left
      intro n hn
      rcases n with _ | _ | _ | _ | _ | _ | _ | _ | _ | _ | _ | _ | _ | _ | _ | _ | n <;> simp [C] <;> omega
    · right
      intro n hn
      rcases n with _ | _ | _ | _ | _ | _ | _ | _ | _ | _ | _ | _ | _ | _ | _ | _ | n <;> simp [C] <;> omega

/-- A symbol of n bits whose code is v. -/
def Hit (L : Nat → Int) (m n : Nat) (v : Int) (i : Nat) : Prop := i < m ∧ L i = n ∧ cd L m i = v

theorem Hit.one {L : Nat → Int} {m n : Nat} {v : Int} {i k : Nat} (hn : 0 < n) (h : Hit L m n v i) (h' : Hit L m n v k) : i = k :=
  cd_inj L m k i n h'.2.1 hn h.2.1 (by rw [h.2.2, h'.2.2])

/-- What is read from bit p of X on (nb bytes), v being read already, of n - 1 bits: the symbol, the fault, how far. f: how many lengths are left. -/
def Nx (L : Nat → Int) (m : Nat) (X : Int) (nb : Nat) : Nat → Nat → Int → Nat → Int → Int → Nat → Prop
  | 0, _, _, p, s, g, q => s = 0 ∧ g = 2 ∧ q = p
  | f + 1, n, v, p, s, g, q =>
    (8 * nb < p + 1 ∧ s = 0 ∧ g = 3 ∧ q = p) ∨
    (p + 1 ≤ 8 * nb ∧ ∃ i, Hit L m n (2 * v + X / 2 ^ p % 2) i ∧ s = i ∧ g = 0 ∧ q = p + 1) ∨
    (p + 1 ≤ 8 * nb ∧ (∀ i, ¬ Hit L m n (2 * v + X / 2 ^ p % 2) i) ∧ (∀ i, i < m → ¬ (n : Int) < L i) ∧ s = 0 ∧ g = 2 ∧ q = p + 1) ∨
    (p + 1 ≤ 8 * nb ∧ (∀ i, ¬ Hit L m n (2 * v + X / 2 ^ p % 2) i) ∧ (∃ i, i < m ∧ (n : Int) < L i) ∧ Nx L m X nb f (n + 1) (2 * v + X / 2 ^ p % 2) (p + 1) s g q)

theorem Nx.one {L : Nat → Int} {m : Nat} {X : Int} {nb f : Nat} : ∀ {n : Nat} {v : Int} {p : Nat} {s g s' g' : Int} {q q' : Nat}, 0 < n → Nx L m X nb f n v p s g q → Nx L m X nb f n v p s' g' q' → s = s' ∧ g = g' ∧ q = q' := by
  induction f with
  | zero =>
    intro n v p s g s' g' q q' _ h h'
    simp only [Nx] at h h'
    omega
  | succ f ih =>
    intro n v p s g s' g' q q' hn h h'
    simp only [Nx] at h h'
    rcases h with ⟨a, rfl, rfl, rfl⟩ | ⟨a, i, hi, rfl, rfl, rfl⟩ | ⟨a, b, c, rfl, rfl, rfl⟩ | ⟨a, b, ⟨j, hj, hl⟩, c⟩
    · rcases h' with ⟨a', rfl, rfl, rfl⟩ | ⟨a', _⟩ | ⟨a', _⟩ | ⟨a', _⟩
      · exact ⟨rfl, rfl, rfl⟩
      all_goals omega
    · rcases h' with ⟨a', _⟩ | ⟨a', i', hi', rfl, rfl, rfl⟩ | ⟨a', b', _⟩ | ⟨a', b', _⟩
      · omega
      · exact ⟨by rw [hi.one hn hi'], rfl, rfl⟩
      · exact absurd hi (b' i)
      · exact absurd hi (b' i)
    · rcases h' with ⟨a', _⟩ | ⟨a', i', hi', _⟩ | ⟨a', b', c', rfl, rfl, rfl⟩ | ⟨a', b', ⟨j, hj, hl⟩, _⟩
      · omega
      · exact absurd hi' (b i')
      · exact ⟨rfl, rfl, rfl⟩
      · exact absurd hl (c j hj)
    · rcases h' with ⟨a', _⟩ | ⟨a', i', hi', _⟩ | ⟨a', b', c', _⟩ | ⟨a', b', _, c'⟩
      · omega
      · exact absurd hi' (b i')
      · exact absurd hl (c' j hj)
      · exact ih (by omega) c c'

/-- Behind the bits of a symbol's code, that symbol. -/
theorem Nx.code {L : Nat → Int} {m : Nat} {X : Int} {nb i N p : Nat} (hi : i < m) (hL : L i = N) (hp : p + N ≤ 8 * nb)
    (hb : ∀ j, j < N → X / 2 ^ (p + j) % 2 = cd L m i / 2 ^ (N - 1 - j) % 2) :
    ∀ (k f n : Nat), k + n = N → 0 < n → k < f → Nx L m X nb f n (cd L m i / 2 ^ (k + 1)) (p + (n - 1)) i 0 (p + N) := by
  intro k
  induction k with
  | zero =>
    intro f n hk hn hf
    obtain ⟨f, rfl⟩ : ∃ g, f = g + 1 := ⟨f - 1, by omega⟩
    obtain rfl : n = N := by omega
    simp only [Nx]
    refine Or.inr (Or.inl ⟨by omega, i, ⟨hi, hL, ?_⟩, rfl, trivial, by omega⟩)
    have h1 := hb (n - 1) (by omega)
    rw [h1, show n - 1 - (n - 1) = 0 by omega]
    simp only [Int.pow_zero, Nat.zero_add, Int.pow_succ, Int.ediv_one, Int.one_mul]
    omega
  | succ k ih =>
    intro f n hk hn hf
    obtain ⟨f, rfl⟩ : ∃ g, f = g + 1 := ⟨f - 1, by omega⟩
    have h1 := hb (n - 1) (by omega)
    have h2 : 2 * (cd L m i / 2 ^ (k + 1 + 1)) + X / 2 ^ (p + (n - 1)) % 2 = cd L m i / 2 ^ (k + 1) := by
      rw [h1, show N - 1 - (n - 1) = k + 1 by omega, show k + 1 + 1 = (k + 1) + 1 from rfl, ← div_div _ (k + 1) 1]
      simp only [Int.pow_succ, Int.pow_zero, Int.one_mul]
      omega
    simp only [Nx]
    rw [h2]
    refine .inr (.inr (.inr ⟨by omega, ?_, ⟨i, hi, by omega⟩, ?_⟩))
    · rintro j ⟨hj, hl, hc⟩
      have h3 := cd_front L m j i n k hj hi hl hn (by rw [hL]; congr 1; omega)
      omega
    · have h4 := ih f (n + 1) (by omega) (by omega) (by omega)
      rw [show p + (n + 1 - 1) = p + (n - 1) + 1 by omega] at h4
      exact h4

end Go.Proofs.YtiahbicodlgmhaaGreatDoor

/- Slices of integers in memory; slices.Clone of one. -/
namespace Go.Proofs.YtiahbicodlgmhaaGreatDoor
open Go.RowKit

theorem Tryz.info3 : (Tryz.prog.info? 3).map (fun i => (i.zero, i.size, i.bytes)) = some (some (.int .i64 0), 1, 8) := by kernel_rfl

/-- An integer, as a value. -/
abbrev iv (n : Int) : Value := .int .i64 n

/-- The slice value '.slice ao n c' reads as the first n numbers of L in the world w. -/
structure Ri (w : World) (ao : Option Addr) (n c : Nat) (L : Nat → Int) : Prop where
  le : n ≤ c
  nul : ao = none → n = 0 ∧ c = 0
  cells : ∀ ad, ao = some ad → ∀ j, j < n → w.cell? (ad.add j) = some (.int .i64 (L j))

theorem Ri.nil (w : World) (L : Nat → Int) : Ri w none 0 0 L := ⟨Nat.le_refl _, fun _ => ⟨rfl, rfl⟩, (fun _ h => by cases h)⟩

theorem Ri.plain {w : World} {ao : Option Addr} {n c : Nat} {L : Nat → Int} (h : Ri w ao n c L) (hn : 0 < n) :
    ∃ b off, ao = some ⟨b, off, none⟩ ∧ ∀ j, j < n → w.cell? ⟨b, off + j, none⟩ = some (.int .i64 (L j)) := by
  cases ao with
  | none => have := (h.nul rfl).1; omega
  | some ad =>
    obtain ⟨b, off, spot⟩ := ad
    have hc := h.cells _ rfl 0 hn
    have hspot : spot = none := by simpa [Addr.add] using World.cell?_spot hc
    subst hspot
    refine ⟨b, off, rfl, fun j hj => ?_⟩
    have := h.cells _ rfl j hj
    rwa [Addr.add_lit] at this

theorem Ri.keep {w w' : World} {ao : Option Addr} {n c : Nat} {L : Nat → Int} (h : Ri w ao n c L) (hb : Below w.heap.size w w') : Ri w' ao n c L :=
  ⟨h.le, h.nul, fun ad had j hj => by
    have hc := h.cells ad had j hj
    rw [hb.cell (World.block_lt_of_cell? w _ hc)]
    exact hc⟩

theorem Ri.drew {w : World} {ao : Option Addr} {n c : Nat} {L : Nat → Int} (h : Ri w ao n c L) : Ri w.drew ao n c L := ⟨h.le, h.nul, h.cells⟩

theorem Ri.blk {w : World} {ao : Option Addr} {n c : Nat} {L : Nat → Int} (h : Ri w ao n c L) : ∀ ad, ao = some ad → 0 < n → ad.block < w.heap.size := fun ad had hn => by
  have := h.cells ad had 0 hn
  have := World.block_lt_of_cell? w _ this
  rwa [show (ad.add 0).block = ad.block by unfold Addr.add; split <;> rfl] at this

theorem Ri.fr {P : Nat → Prop} {w w' : World} {ao : Option Addr} {n c : Nat} {L : Nat → Int} (h : Ri w ao n c L) (hf : Fr P w w') (hs : ∀ ad, ao = some ad → 0 < n → ¬ P ad.block) : Ri w' ao n c L :=
  ⟨h.le, h.nul, fun ad had j hj => by
    have hc := h.cells ad had j hj
    have hbk : (ad.add j).block = ad.block := by unfold Addr.add; split <;> rfl
    have hlt := World.block_lt_of_cell? w _ hc
    rw [World.cell?_of_block (hf.block _ hlt (by rw [hbk]; exact hs ad had (by omega)))]
    exact hc⟩

theorem Ri.congr {w : World} {ao : Option Addr} {n c : Nat} {L M : Nat → Int} (h : Ri w ao n c L) (e : ∀ j, j < n → L j = M j) : Ri w ao n c M :=
  ⟨h.le, h.nul, fun ad had j hj => by rw [← e j hj]; exact h.cells ad had j hj⟩

theorem Ri.row {w : World} {b n : Nat} {L : Nat → Int} (h : w.rowIs b 3 n (fun j => .int .i64 (L j))) : Ri w (some ⟨b, 0, none⟩) n n L :=
  ⟨Nat.le_refl _, (fun e => by cases e), fun ad had j hj => by cases had; rw [Addr.add_lit, Nat.zero_add]; exact h.cell hj⟩

/-- The list of the first n numbers, as values. -/
abbrev ivs (L : Nat → Int) (n : Nat) : List Value := vals (fun j => .int .i64 (L j)) n

theorem Ri.cellsOf {w : World} {ao : Option Addr} {n c : Nat} {L : Nat → Int} (h : Ri w ao n c L) : ∀ ad, ao = some ad → ∀ j u, (ivs L n)[j]? = some u → w.cell? (ad.add j) = some u := by
  intro ad had j u hu
  have hj : j < n := by
    have := (List.getElem?_eq_some_iff.1 hu).1
    rwa [vals_len] at this
  rw [h.cells ad had j hj]
  rw [vals_get _ _ _ hj] at hu
  exact hu

theorem ivs_one (L : Nat → Int) (n : Nat) : ∀ v ∈ ivs L n, v.oneCell' = true := by
  intro v hv
  unfold ivs vals at hv
  obtain ⟨j, _, rfl⟩ := List.mem_map.1 hv
  rfl

/-- A row of one's own, as a slice. -/
theorem own_ri {w : World} {base n : Nat} {v : Value} {L : Nat → Int} (h : w.ownsRow base 3 1 v n (ivs L n)) :
    ∃ ao c, v = .slice ao n c ∧ Ri w ao n c L ∧ ∀ ad, ao = some ad → v.ownBlock = some ad.block ∧ base ≤ ad.block := by
  rcases h.2 with ⟨rfl, rfl⟩ | ⟨g, cap, cur, rfl, hg, hh, hle, hrest⟩
  · exact ⟨none, 0, rfl, Ri.nil _ _, fun ad had => by cases had⟩
  · refine ⟨_, _, rfl, ⟨hle, (fun e => by cases e), fun ad had j hj => ?_⟩, fun ad had => by cases had; exact ⟨rfl, hg⟩⟩
    cases had
    have := h.cells (g := g) rfl j (.int .i64 (L j)) (vals_get _ _ _ hj)
    simpa using this

theorem made_get (z : Value) (n i : Nat) (h : i < n) : (madeCells #[z] n)[i]? = some z := by
  simp [madeCells, h, Nat.mod_one]

theorem made_row (w : World) (n : Nat) : (w.alloc (.cells (madeCells #[.int .i64 0] n) 3)).rowIs w.heap.size 3 n (fun _ => .int .i64 0) := by
  have h := World.rowIs_alloc w (madeCells #[.int .i64 0] n) 3 (fun _ => .int .i64 0) (fun i hi => by
    have : i < n := by simpa [madeCells] using hi
    exact made_get _ n i this)
  have e : (madeCells #[Value.int .i64 0] n).size = n := by simp [madeCells]
  rwa [e] at h

set_option maxHeartbeats 400000 in
theorem iclone_any (ao : Option Addr) (n c : Nat) (L : Nat → Int) (w : World) (h : Ri w ao n c L) (hn : n ≤ 1000000) :
    Calls Tryz.prog 118 #[.slice ao n c] w fun e w' => ∃ v', e = .returned v' ∧ w'.ownsRow w.heap.size 3 1 v' n (ivs L n) ∧ Below w.heap.size w w' := by
  obtain ⟨i0, hi, hz0, hz1, hz2⟩ := info_parts Tryz.info3
  cases ao with
  | none =>
    obtain ⟨rfl, rfl⟩ := h.nul rfl
    have hq := fun w => Lib.run_eql_slice_nil (P := Tryz.prog) w 59 3 none 0 0 0 0 Tryz.underlying59
    go_enter Tryz.func118, Tryz.ntmps118
    go_wp2
    go_ret
    exact ⟨_, rfl, World.ownsRow_nil _ _ _ _, Below.refl _ _⟩
  | some ad =>
    have hcells := h.cellsOf ad rfl
    clear h
    have hq := fun w => Lib.run_eql_slice_nil (P := Tryz.prog) w 59 3 (some ad) n c 0 0 Tryz.underlying59
    go_enter Tryz.func118, Tryz.ntmps118
    go_wp2_with (at_builtin; refine wpList_append_own _ rfl _ _ 59 rfl w.heap.size 3 i0 (.int .i64 0) 1 8 Tryz.underlying59 hi hz0 hz1 hz2 rfl (by decide) _ 0 [] rfl ?_ ad n c (ivs L n) rfl ?_ ?_ (ivs_one _ _) ?_ ?_ ?_ ?_)
    · exact World.ownsRow_lit (base := w.heap.size) (e := 3) (size := 1) w #[] 0 (Nat.le_refl _) (by unfold maxLen; omega) rfl
    · rw [vals_len]; omega
    · intro j u hu
      have hc := hcells j u hu
      rw [((Below.refl _ _).alloc (Nat.le_refl _) _ : Below w.heap.size w (w.alloc (.cells #[] 3))).cell (World.block_lt_of_cell? w _ hc)]
      exact hc
    · unfold maxLen; omega
    · omega
    · simp
    · intro v' w2 hown2 hgrow2 hv'
      have hb2 : Below w.heap.size w w2 := ((Below.refl _ _).alloc (Nat.le_refl _) _).grown hgrow2 (by simp) (fun q hq => by cases hq; exact Nat.le_refl _)
      clear hgrow2 hcells hv'
      go_wp2
      go_ret
      exact ⟨_, rfl, by simpa using hown2, hb2⟩

end Go.Proofs.YtiahbicodlgmhaaGreatDoor

/- isNoLength, slices.IndexFunc, slices.ContainsFunc. -/
namespace Go.Proofs.YtiahbicodlgmhaaGreatDoor
open Go.RowKit

/-- A length that may be. -/
def Lm (n : Int) : Prop := 0 ≤ n ∧ n ≤ 15

theorem noLen_no (n : Int) (w : World) (h : Lm n) : Calls Tryz.prog 139 #[.int .i64 n] w fun e w' => e = .returned (.bool false) ∧ w' = w := by
  obtain ⟨h0, h1⟩ := h
  have d1 : decide (n < 0) = false := by simp; omega
  have d2 : decide (15 < n) = false := by simp; omega
  clear h0 h1
  go_enter Tryz.func139, Tryz.ntmps139
  go_wp2
  go_ret
  exact ⟨rfl, rfl⟩

theorem noLen_yes (n : Int) (w : World) (h : ¬ Lm n) : Calls Tryz.prog 139 #[.int .i64 n] w fun e w' => e = .returned (.bool true) ∧ w' = w := by
  by_cases h0 : n < 0
  · have d1 : decide (n < 0) = true := by simp; omega
    clear h h0
    go_enter Tryz.func139, Tryz.ntmps139
    go_wp2
    go_ret
    exact ⟨rfl, rfl⟩
  · have d1 : decide (n < 0) = false := by simp; omega
    have d2 : decide (15 < n) = true := by unfold Lm at h; simp; omega
    clear h h0
    go_enter Tryz.func139, Tryz.ntmps139
    go_wp2
    go_ret
    exact ⟨rfl, rfl⟩

set_option maxHeartbeats 400000 in
theorem index_any (ao : Option Addr) (n c : Nat) (L : Nat → Int) (w : World) (h : Ri w ao n c L) (hn : n ≤ 1000000) :
    Calls Tryz.prog 150 #[.slice ao n c, .func (.func 139) #[] #[]] w fun e w' => ∃ r : Int, e = .returned (.int .i64 r) ∧ w' = w ∧ ((r = -1 ∧ ∀ j, j < n → Lm (L j)) ∨ (0 ≤ r ∧ ¬ ∀ j, j < n → Lm (L j))) := by
  go_enter Tryz.func150, Tryz.ntmps150
  go_wp2
  go_loop [5, 8] (fun _ i => ∃ k : Nat, k ≤ n ∧ i = .int .i64 k ∧ ∀ j, j < k → Lm (L j)) (fun _ i => n - (intOf i).toNat)
  case atStart => exact ⟨0, by omega, rfl, fun j hj => by omega⟩
  case round =>
    obtain ⟨k, hk, rfl, hall⟩ := hrel
    by_cases hlt : k < n
    · obtain ⟨b, off, rfl, hcell⟩ := h.plain (by omega)
      have hck := hcell k hlt
      clear hcell h
      by_cases hL : Lm (L k)
      · have HA : Hid (∀ j, j < k + 1 → Lm (L j)) := fun j hj => by
          rcases Nat.lt_or_ge j k with h' | h'
          · exact hall j h'
          · obtain rfl : j = k := by omega
            exact hL
        clear hall
        go_wp2_with (go_at_call 139; refine (noLen_no (L k) w hL).mono ?_; rintro e w1 ⟨rfl, hw⟩; subst w1)
        go_round
        case rel => exact ⟨k + 1, by omega, by go_num, HA.out⟩
        case measure => simp [intOf]; omega
      · have HA : Hid (¬ ∀ j, j < n → Lm (L j)) := fun h' => hL (h' k hlt)
        clear hall
        go_wp2_with (go_at_call 139; refine (noLen_yes (L k) w hL).mono ?_; rintro e w1 ⟨rfl, hw⟩; subst w1)
        go_ret
        exact ⟨_, rfl, rfl, .inr ⟨by omega, HA.out⟩⟩
    · obtain rfl : k = n := by omega
      clear h
      go_wp2
      go_ret
      exact ⟨_, rfl, rfl, .inl ⟨rfl, hall⟩⟩

theorem contains_no (ao : Option Addr) (n c : Nat) (L : Nat → Int) (w : World) (h : Ri w ao n c L) (hn : n ≤ 1000000) (hL : ∀ j, j < n → Lm (L j)) :
    Calls Tryz.prog 138 #[.slice ao n c, .func (.func 139) #[] #[]] w fun e w' => e = .returned (.bool false) ∧ w' = w := by
  go_enter Tryz.func138, Tryz.ntmps138
  go_wp2_with (go_at_call 150; refine (index_any ao n c L w h hn).mono ?_; rintro e w1 ⟨r, rfl, hw, hr⟩; subst w1)
  go_ret
  rcases hr with ⟨rfl, _⟩ | ⟨_, hq⟩
  · exact ⟨rfl, rfl⟩
  · exact absurd hL hq

theorem contains_yes (ao : Option Addr) (n c : Nat) (L : Nat → Int) (w : World) (h : Ri w ao n c L) (hn : n ≤ 1000000) (hL : ¬ ∀ j, j < n → Lm (L j)) :
    Calls Tryz.prog 138 #[.slice ao n c, .func (.func 139) #[] #[]] w fun e w' => e = .returned (.bool true) ∧ w' = w := by
  go_enter Tryz.func138, Tryz.ntmps138
  go_wp2_with (go_at_call 150; refine (index_any ao n c L w h hn).mono ?_; rintro e w1 ⟨r, rfl, hw, hr⟩; subst w1)
  go_ret
  rcases hr with ⟨_, hq⟩ | ⟨h0, _⟩
  · exact absurd hq hL
  · exact ⟨by simp [h0], rfl⟩

end Go.Proofs.YtiahbicodlgmhaaGreatDoor

/- checked, Check. -/
namespace Go.Proofs.YtiahbicodlgmhaaGreatDoor
open Go.RowKit

theorem results_row3 {P : Program} {fn : Func} {p u v : Tmp} {ty : TypeId} (h : fn.results = #[.cell p ty, .tmp u, .tmp v]) (tmps : Array Value) {w : World} {b t n : Nat} {f : Nat → Value} {d : TypeDesc} (hp : tmps.getD p undef = .pointer (some ⟨b, 0, none⟩)) (hr : w.rowIs b t n f)
    (hu : P.underlying ty = some d) (hd : d.isRow = true) (hi : (P.info? ty).map (·.size) = some n) : (results fn tmps).run P w = .ok (.tuple #[row f n, tmps.getD u undef, tmps.getD v undef]) w := by
  have hp' : tmps[p]?.getD undef = .pointer (some ⟨b, 0, none⟩) := by simpa using hp
  have hl := load_all (P := P) ty d hr hu hd hi
  simp [results, h, hp', asAddr, hl]

theorem zinfo64 : (Tryz.prog.info? 158).map (fun i => (i.zero, i.size)) = some (some (.agg (Array.replicate 16 (Value.int .i64 0))), 16) := by kernel_rfl
theorem size64 : (Tryz.prog.info? 158).map (·.size) = some 16 := (zero_of_info zinfo64).2

/-- Sixteen numbers, by value. -/
abbrev tal (f : Nat → Int) : Value := row (fun j => .int .i64 (f j)) 16

theorem zero64 (w : World) : (zeroValue 158).run Tryz.prog w = .ok (tal (fun _ => 0)) w := (zero_of_info zinfo64).1 w

theorem tal_congr (f g : Nat → Int) (h : ∀ i, i < 16 → f i = g i) : tal f = tal g := row_congr _ _ 16 (fun i hi => by rw [h i hi])

theorem rep_row (w : World) : (w.alloc (.cells (Array.replicate 16 (Value.int .i64 0)) 158)).rowIs w.heap.size 158 16 (fun _ => .int .i64 0) := by
  have h := World.rowIs_alloc w (Array.replicate 16 (Value.int .i64 0)) 158 (fun _ => .int .i64 0) (fun i hi => by simp at hi; simp [hi])
  simpa using h

theorem C_none (L : Nat → Int) (j : Nat) : C L 0 j = 0 := by cases j <;> rfl

theorem C_put (L : Nat → Int) (k x : Nat) (h : L k = x) (hx : 0 < x) (j : Nat) : C L (k + 1) j = if j = x then C L k x + 1 else C L k j := by
  cases j with
  | zero => rw [if_neg (by omega)]; rfl
  | succ j =>
    simp only [C, cn]
    by_cases e : j + 1 = x
    · subst e
      rw [if_pos rfl, if_pos (by rw [h])]
    · rw [if_neg e, if_neg (by omega), Int.add_zero]

theorem C_same (L : Nat → Int) (k : Nat) (h : L k = 0) (j : Nat) : C L (k + 1) j = C L k j := by
  cases j with
  | zero => rfl
  | succ j =>
    simp only [C, cn]
    rw [if_neg (by omega), Int.add_zero]

theorem G_put (L : Nat → Int) (k x : Nat) (h : L k = x) (hx : 0 < x) (h15 : x ≤ 15) : G L 15 (k + 1) = G L 15 k + 2 ^ (15 - x) := by
  simp only [G]
  rw [if_pos (by omega), h, Int.toNat_natCast]

theorem G_same (L : Nat → Int) (k : Nat) (h : L k = 0) : G L 15 (k + 1) = G L 15 k := by
  simp only [G]
  rw [if_neg (by omega), Int.add_zero]

theorem G_bound (L : Nat → Int) (k : Nat) : 0 ≤ G L 15 k ∧ G L 15 k ≤ 32768 * k := by
  refine ⟨G_nn _ _ _, ?_⟩
  induction k with
  | zero => simp [G]
  | succ k ih =>
    simp only [G]
    have h1 := p2_le (15 - (L k).toNat) 15 (by omega)
    have h2 : (2 : Int) ^ 15 = 32768 := rfl
    split <;> omega

theorem shr_full (x : Nat) (h : x ≤ 15) : (32768 : Int) / 2 ^ x = 2 ^ (15 - x) := by
  have h1 : (32768 : Int) = 2 ^ x * 2 ^ (15 - x) := by rw [← Int.pow_add, show x + (15 - x) = 15 by omega]; rfl
  rw [h1, Int.mul_ediv_cancel_left _ (Int.ne_of_gt (p2 x))]

/-- What checked answers of lengths that may be. -/
def ckv (L : Nat → Int) (n : Nat) : Value := if 32768 < G L 15 n then .tuple #[tal (fun _ => 0), .bool false, .int .i64 2] else .tuple #[tal (C L n), .bool (G L 15 n == 32768), .int .i64 0]

set_option maxRecDepth 100000 in
set_option maxHeartbeats 1000000 in
theorem checked_any (ao : Option Addr) (n c : Nat) (L : Nat → Int) (w : World) (h : Ri w ao n c L) (hn : n ≤ 288) (hL : ∀ j, j < n → Lm (L j)) :
    Calls Tryz.prog 115 #[.slice ao n c] w fun e w' => e = .returned (ckv L n) ∧ Below w.heap.size w w' := by
  have hd0 : decide ((288 : Int) < (n : Int)) = false := by simp; omega
  have z64 := zero64
  go_enter Tryz.func115, Tryz.ntmps115
  have h1 := h.keep ((Below.refl _ _).alloc (Nat.le_refl _) (Obj.cells (Array.replicate 16 (Value.int .i64 0)) 158) : Below w.heap.size w (w.alloc (.cells (Array.replicate 16 (Value.int .i64 0)) 158)))
  go_wp2_with (go_at_call 138; refine (contains_no ao n c L _ h1 (by omega) hL).mono ?_; rintro e w1 ⟨rfl, hw⟩; subst w1)
  obtain ⟨B, hB⟩ : ∃ B, B = w.heap.size := ⟨_, rfl⟩
  rw [← hB]
  have r0 : (w.alloc (.cells (Array.replicate 16 (Value.int .i64 0)) 158)).rowIs B 158 16 (fun j => .int .i64 (C L 0 j)) := by rw [hB]; exact (rep_row w).congr (fun j _ => by rw [C_none])
  have HB : Hid (B = w.heap.size) := hB
  clear hB
  have b0 : Below w.heap.size w (w.alloc (.cells (Array.replicate 16 (Value.int .i64 0)) 158)) := (Below.refl _ _).alloc (Nat.le_refl _) _
  go_loopw [5, 7, 18] (fun tk _ i wr => ∃ k : Nat, k ≤ n ∧ i = .int .i64 k ∧ tk = .int .i64 (G L 15 k) ∧ wr.rowIs B 158 16 (fun j => .int .i64 (C L k j)) ∧ Below w.heap.size w wr) (fun _ _ i _ => n - (intOf i).toNat)
  case atStart => exact ⟨0, by omega, rfl, rfl, r0, b0⟩
  case round =>
    obtain ⟨k, hk, rfl, rfl, hr, hb⟩ := hrel
    clear r0 b0 h1 hd0
    have hg := G_bound L k
    by_cases hlt : k < n
    · obtain ⟨b, off, rfl, hcell⟩ := (h.keep hb).plain (by omega)
      have hck := hcell k hlt
      obtain ⟨x, hx⟩ := Int.eq_ofNat_of_zero_le (hL k hlt).1
      have hx15 : x ≤ 15 := by have := (hL k hlt).2; omega
      by_cases hx0 : x = 0
      · have e1 := G_same L k (by omega)
        have hr' : wr.rowIs B 158 16 (fun j => .int .i64 (C L (k + 1) j)) := hr.congr (fun j _ => by rw [C_same L k (by omega)])
        have HG : Hid (G L 15 (k + 1) = G L 15 k) := e1
        rw [hx] at hck
        subst hx0
        clear hcell h hL hr e1 hx
        go_wp2
        go_roundw
        case rel => exact ⟨k + 1, by omega, by go_num, by rw [HG.out], hr', hb⟩
        case measure => simp [intOf]; omega
      · have HG : Hid (G L 15 (k + 1) = G L 15 k + 2 ^ (15 - x)) := G_put L k x hx (by omega) hx15
        have hcx := hr.cell (i := x) (by omega)
        have hfx := hr.frozen x
        have hcb := C_nn L k x
        have e2 := shr_full x hx15
        have e3 := p2_le (15 - x) 15 (by omega)
        have e4 := p2 (15 - x)
        have e5 : (2 : Int) ^ 15 = 32768 := rfl
        have hr' : (wr.setCell ⟨B, x, none⟩ (.int .i64 (C L k x + 1))).rowIs B 158 16 (fun j => .int .i64 (C L (k + 1) j)) := (hr.set x _).congr (fun j _ => by
          rw [C_put L k x hx (by omega)]
          by_cases e : j = x
          · rw [if_pos e, if_pos e]
          · rw [if_neg e, if_neg e])
        have hb' : Below w.heap.size w (wr.setCell ⟨B, x, none⟩ (.int .i64 (C L k x + 1))) := hb.setCell (by simp [HB.out]) _
        rw [hx] at hck
        have hxp : (0 : Int) < (x : Int) := by omega
        obtain ⟨q, hq⟩ : ∃ q : Int, q = 2 ^ (15 - x) := ⟨_, rfl⟩
        rw [← hq] at e2 e3 e4
        have hq2 : q ≤ 32768 := by omega
        have HQ : Hid (q = 2 ^ (15 - x)) := hq
        clear hcell h hL hr hx hb e3 e5 hq
        go_wp2
        go_roundw
        case rel => exact ⟨k + 1, by omega, by go_num, by rw [HG.out, ← HQ.out], hr', hb'⟩
        case measure => simp [intOf]; omega
    · obtain rfl : k = n := by omega
      by_cases hgt : 32768 < G L 15 k
      · go_wp2_with (refine wpList_st rfl 158 _ _ rfl B rfl (fun _ => .int .i64 0) rfl hr size64 (fun j => rfl) ?_; intro w3 h3 f3)
        refine bodyPost_ret (results_row3 rfl _ rfl h3 Tryz.underlying158 rfl size64) rfl ⟨by rw [ckv, if_pos hgt]; rfl, ?_⟩
        exact hb.trans (f3.below _ hb.size (fun i hi e => by have := HB.out; omega))
      · go_wp2_with (first
          | (refine wpList_ld0 rfl 158 _ rfl B rfl _ hr 16 (by omega) Tryz.underlying158 rfl size64 ?_)
          | (refine wpList_st rfl 158 _ _ rfl B rfl (fun j => .int .i64 (C L k j)) rfl hr size64 (fun j => rfl) ?_; intro w3 h3 f3))
        refine bodyPost_ret (results_row3 rfl _ rfl h3 Tryz.underlying158 rfl size64) rfl ⟨by rw [ckv, if_neg (by omega)]; rfl, ?_⟩
        exact hb.trans (f3.below _ hb.size (fun i hi e => by have := HB.out; omega))

set_option maxRecDepth 100000 in
theorem checked_arg (ao : Option Addr) (n c : Nat) (L : Nat → Int) (w : World) (h : Ri w ao n c L) (hn : 288 < n ∨ ¬ ∀ j, j < n → Lm (L j)) :
    Calls Tryz.prog 115 #[.slice ao n c] w fun e w' => e = .returned (.tuple #[tal (fun _ => 0), .bool false, .int .i64 1]) ∧ Below w.heap.size w w' := by
  have z64 := zero64
  have h1 := h.keep ((Below.refl _ _).alloc (Nat.le_refl _) (Obj.cells (Array.replicate 16 (Value.int .i64 0)) 158) : Below w.heap.size w (w.alloc (.cells (Array.replicate 16 (Value.int .i64 0)) 158)))
  have r0 := rep_row w
  have b0 : Below w.heap.size w (w.alloc (.cells (Array.replicate 16 (Value.int .i64 0)) 158)) := (Below.refl _ _).alloc (Nat.le_refl _) _
  by_cases h288 : 288 < n
  · have hd0 : decide ((288 : Int) < (n : Int)) = true := by simp; omega
    clear hn h288 h h1
    go_enter Tryz.func115, Tryz.ntmps115
    go_wp2_with (refine wpList_st rfl 158 _ _ rfl w.heap.size rfl (fun _ => .int .i64 0) rfl r0 size64 (fun j => rfl) ?_; intro w3 h3 f3)
    refine bodyPost_ret (results_row3 rfl _ rfl h3 Tryz.underlying158 rfl size64) rfl ⟨rfl, ?_⟩
    exact b0.trans (f3.below _ b0.size (fun i hi e => by omega))
  · have hd0 : decide ((288 : Int) < (n : Int)) = false := by simp; omega
    have hq : ¬ ∀ j, j < n → Lm (L j) := by
      rcases hn with h' | h'
      · exact absurd h' h288
      · exact h'
    clear hn h
    go_enter Tryz.func115, Tryz.ntmps115
    go_wp2_with (first
      | (go_at_call 138; refine (contains_yes ao n c L _ h1 (by omega) hq).mono ?_; rintro e w1 ⟨rfl, hw⟩; subst w1)
      | (refine wpList_st rfl 158 _ _ rfl w.heap.size rfl (fun _ => .int .i64 0) rfl r0 size64 (fun j => rfl) ?_; intro w3 h3 f3))
    refine bodyPost_ret (results_row3 rfl _ rfl h3 Tryz.underlying158 rfl size64) rfl ⟨rfl, ?_⟩
    exact b0.trans (f3.below _ b0.size (fun i hi e => by omega))

end Go.Proofs.YtiahbicodlgmhaaGreatDoor
