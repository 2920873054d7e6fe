/- A row of symbols, written one behind the other by a code: how many bits, which, how often each, what is read again. -/
import Derived.Test.YtkclaikofdolmaaWCost
namespace Go.Proofs.Ytkclaikofdolmaa
open Go.RowKit

/-- How many bits the first j take. -/
def BL (L : Nat → Int) (q : Nat → Nat) : Nat → Nat
  | 0 => 0
  | j + 1 => BL L q j + (L (q j)).toNat

/-- Which. -/
def BN (L : Nat → Int) (n : Nat) (q : Nat → Nat) : Nat → Int
  | 0 => 0
  | j + 1 => BN L n q j + 2 ^ BL L q j * T (cd L n (q j)) (L (q j)).toNat

/-- How often s is among the first j. -/
def BC (q : Nat → Nat) (s : Nat) : Nat → Int
  | 0 => 0
  | j + 1 => BC q s j + (if q j = s then 1 else 0)

theorem BL_congr (L : Nat → Int) (q q' : Nat → Nat) (u : Nat) (h : ∀ j, j < u → q j = q' j) : BL L q u = BL L q' u := by
  induction u with
  | zero => rfl
  | succ u ih =>
    simp only [BL]
    rw [ih (fun j hj => h j (by omega)), h u (by omega)]

theorem BN_congr (L : Nat → Int) (n : Nat) (q q' : Nat → Nat) (u : Nat) (h : ∀ j, j < u → q j = q' j) : BN L n q u = BN L n q' u := by
  induction u with
  | zero => rfl
  | succ u ih =>
    simp only [BN]
    rw [ih (fun j hj => h j (by omega)), h u (by omega), BL_congr L q q' u (fun j hj => h j (by omega))]

theorem BC_congr (q q' : Nat → Nat) (s u : Nat) (h : ∀ j, j < u → q j = q' j) : BC q s u = BC q' s u := by
  induction u with
  | zero => rfl
  | succ u ih =>
    simp only [BC]
    rw [ih (fun j hj => h j (by omega)), h u (by omega)]

theorem BC_bound (q : Nat → Nat) (s u : Nat) : 0 ≤ BC q s u ∧ BC q s u ≤ u := by
  induction u with
  | zero => simp [BC]
  | succ u ih => simp only [BC]; split <;> omega

/-- One more symbol. -/
def ext (q : Nat → Nat) (u s : Nat) : Nat → Nat := fun j => if j = u then s else q j

theorem ext_old (q : Nat → Nat) (u s j : Nat) (h : j < u) : q j = ext q u s j := by
  simp only [ext]
  rw [if_neg (by omega)]

theorem ext_new (q : Nat → Nat) (u s : Nat) : ext q u s u = s := by simp [ext]

theorem BL_ext (L : Nat → Int) (q : Nat → Nat) (u s x : Nat) (h : L s = x) : BL L (ext q u s) (u + 1) = BL L q u + x := by
  simp only [BL]
  rw [ext_new, h, Int.toNat_natCast, ← BL_congr L q (ext q u s) u (fun j hj => ext_old q u s j hj)]

theorem BN_ext (L : Nat → Int) (n : Nat) (q : Nat → Nat) (u s x : Nat) (h : L s = x) : BN L n (ext q u s) (u + 1) = BN L n q u + 2 ^ BL L q u * T (cd L n s) x := by
  simp only [BN]
  rw [ext_new, h, Int.toNat_natCast, ← BL_congr L q (ext q u s) u (fun j hj => ext_old q u s j hj), ← BN_congr L n q (ext q u s) u (fun j hj => ext_old q u s j hj)]

theorem BC_ext (q : Nat → Nat) (u s t : Nat) : BC (ext q u s) t (u + 1) = if t = s then BC q s u + 1 else BC q t u := by
  simp only [BC]
  rw [ext_new, ← BC_congr q (ext q u s) t u (fun j hj => ext_old q u s j hj)]
  by_cases e : t = s
  · subst e; simp
  · rw [if_neg (fun h => e h.symm), if_neg e, Int.add_zero]

/-- Symbols that have a code. -/
def Good (L : Nat → Int) (n : Nat) (q : Nat → Nat) (u : Nat) : Prop := ∀ j, j < u → q j < n ∧ 0 < L (q j)

theorem Good.ext {L : Nat → Int} {n : Nat} {q : Nat → Nat} {u : Nat} (h : Good L n q u) (s : Nat) (hs : s < n) (h0 : 0 < L s) : Good L n (ext q u s) (u + 1) := by
  intro j hj
  by_cases e : j = u
  · subst e
    rw [ext_new]
    exact ⟨hs, h0⟩
  · rw [← ext_old q u s j (by omega)]
    exact h j (by omega)

theorem BL_le (L : Nat → Int) (n : Nat) (q : Nat → Nat) (u : Nat) (hL : ∀ j, j < n → Lm (L j)) (h : Good L n q u) : BL L q u ≤ 15 * u := by
  induction u with
  | zero => simp [BL]
  | succ u ih =>
    have h1 := ih (fun j hj => h j (by omega))
    have h2 := (hL (q u) (h u (by omega)).1).2
    simp only [BL]
    omega

theorem BN_bound (L : Nat → Int) (n : Nat) (q : Nat → Nat) (u : Nat) : 0 ≤ BN L n q u ∧ BN L n q u < 2 ^ BL L q u := by
  induction u with
  | zero => simp [BN, BL]
  | succ u ih =>
    simp only [BN, BL]
    exact put_bound _ _ _ _ ih.1 ih.2 (T_bound _ _).1 (T_bound _ _).2

theorem BL_mono (L : Nat → Int) (q : Nat → Nat) (j u : Nat) (h : j ≤ u) : BL L q j ≤ BL L q u := by
  induction u with
  | zero =>
    obtain rfl : j = 0 := by omega
    exact Nat.le_refl _
  | succ u ih =>
    rcases Nat.lt_or_ge j (u + 1) with hlt | hge
    · have := ih (by omega)
      simp only [BL]
      omega
    · obtain rfl : j = u + 1 := by omega
      exact Nat.le_refl _

theorem BN_mod (L : Nat → Int) (n : Nat) (q : Nat → Nat) (j u : Nat) (h : j ≤ u) : BN L n q u % 2 ^ BL L q j = BN L n q j := by
  induction u with
  | zero =>
    obtain rfl : j = 0 := by omega
    exact Int.emod_eq_of_lt (BN_bound L n q 0).1 (BN_bound L n q 0).2
  | succ u ih =>
    rcases Nat.lt_or_ge j (u + 1) with hlt | hge
    · have hm := BL_mono L q j u (by omega)
      rw [← ih (by omega)]
      simp only [BN]
      rw [p2_split (BL L q j) (BL L q u) hm, Int.mul_assoc, Int.add_mul_emod_self_left]
    · obtain rfl : j = u + 1 := by omega
      exact Int.emod_eq_of_lt (BN_bound L n q _).1 (BN_bound L n q _).2

theorem low_of (X : Int) (a n M : Nat) (h : a + n ≤ M) : X / 2 ^ a % 2 ^ n = X % 2 ^ M / 2 ^ a % 2 ^ n := by
  have e := Int.emod_add_mul_ediv X (2 ^ M)
  conv => lhs; rw [← e]
  exact put_low _ _ a M n h

theorem BN_code (L : Nat → Int) (n : Nat) (q : Nat → Nat) (j u x : Nat) (h : j < u) (hx : L (q j) = x) : BN L n q u / 2 ^ BL L q j % 2 ^ x = T (cd L n (q j)) x := by
  obtain ⟨b0, b1⟩ := BN_bound L n q j
  have hl : BL L q (j + 1) = BL L q j + x := by simp only [BL]; rw [hx, Int.toNat_natCast]
  rw [low_of _ _ _ (BL L q (j + 1)) (by omega), BN_mod L n q (j + 1) u (by omega)]
  simp only [BN]
  rw [hx, Int.toNat_natCast, put_high _ _ _ b0 b1, Int.emod_eq_of_lt (T_bound _ _).1 (T_bound _ _).2]

theorem BN_bit (L : Nat → Int) (n : Nat) (q : Nat → Nat) (j u x i : Nat) (h : j < u) (hx : L (q j) = x) (hi : i < x) : BN L n q u / 2 ^ (BL L q j + i) % 2 = cd L n (q j) / 2 ^ (x - 1 - i) % 2 := by
  have h1 := BN_code L n q j u x h hx
  have h2 := low_of (BN L n q u / 2 ^ BL L q j) i 1 x (by omega)
  rw [h1, div_div] at h2
  have h3 := T_bit (cd L n (q j)) x i hi
  rw [← h3]
  exact h2

/-- What is read at the j-th symbol's place. -/
theorem BN_next (L : Nat → Int) (n : Nat) (q : Nat → Nat) (j u x nb : Nat) (s g : Int) (p : Nat) (hf : Fits L n) (h : j < u) (hx : L (q j) = x) (hx0 : 0 < x) (hx15 : x ≤ 15) (hq : q j < n) (hb : BL L q u ≤ 8 * nb) (hN : Nx L n (BN L n q u) nb 15 1 0 (BL L q j) s g p) :
    s = q j ∧ g = 0 ∧ p = BL L q (j + 1) := by
  have hl : BL L q (j + 1) = BL L q j + x := by simp only [BL]; rw [hx, Int.toNat_natCast]
  have hm := BL_mono L q (j + 1) u (by omega)
  have h2 := Nx.code (L := L) (m := n) (X := BN L n q u) (nb := nb) (i := q j) (N := x) (p := BL L q j) hq hx (by omega) (fun i hi => BN_bit L n q j u x i h hx hi) (x - 1) 15 1 (by omega) (by omega) (by omega)
  have hc := cd_lt L n (q j) x hf hq hx hx0 hx15
  rw [show x - 1 + 1 = x by omega, Int.ediv_eq_zero_of_lt hc.1 hc.2, show BL L q j + (1 - 1) = BL L q j by omega] at h2
  rw [hl]
  exact Nx.one (by omega) hN h2

theorem CS_congr (L D D' : Nat → Int) (k : Nat) (h : ∀ j, j < k → D j = D' j) : CS L D k = CS L D' k := by
  induction k with
  | zero => rfl
  | succ k ih =>
    simp only [CS]
    rw [ih (fun j hj => h j (by omega)), h k (by omega)]

theorem CS_one (L D : Nat → Int) (s k : Nat) : CS L (fun j => if j = s then D s + 1 else D j) k = CS L D k + (if s < k then L s else 0) := by
  induction k with
  | zero => simp [CS]
  | succ k ih =>
    simp only [CS]
    rw [ih]
    by_cases e : k = s
    · subst e
      rw [if_pos rfl, if_neg (by omega), if_pos (by omega), Int.mul_add, Int.mul_one]
      omega
    · rw [if_neg e]
      by_cases h : s < k
      · rw [if_pos h, if_pos (by omega)]; omega
      · rw [if_neg h, if_neg (by omega)]; omega

theorem CS_zero (L : Nat → Int) (k : Nat) : CS L (fun _ => 0) k = 0 := by
  induction k with
  | zero => rfl
  | succ k ih => simp only [CS]; rw [ih]; simp

/-- What they cost is how many bits they are. -/
theorem CS_is (L : Nat → Int) (n : Nat) (q : Nat → Nat) (u : Nat) (h : Good L n q u) : CS L (fun s => BC q s u) n = BL L q u := by
  induction u with
  | zero => rw [show (fun s => BC q s 0) = (fun _ => 0) from rfl, CS_zero]; rfl
  | succ u ih =>
    have h1 := ih (fun j hj => h j (by omega))
    obtain ⟨h2, h3⟩ := h u (by omega)
    have e : CS L (fun s => BC q s (u + 1)) n = CS L (fun j => if j = q u then BC q (q u) u + 1 else BC q j u) n := CS_congr L _ _ n (fun j _ => by
      simp only [BC]
      by_cases e : j = q u
      · rw [if_pos e.symm, if_pos e, e]
      · rw [if_neg (fun h => e h.symm), if_neg e, Int.add_zero])
    rw [e, CS_one L (fun s => BC q s u) (q u) n, h1, if_pos h2]
    simp only [BL]
    omega

end Go.Proofs.Ytkclaikofdolmaa
