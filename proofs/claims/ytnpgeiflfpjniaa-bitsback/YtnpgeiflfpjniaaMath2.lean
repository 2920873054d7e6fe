/- What stands behind a row of numbers, each put and then put as a code; taken again. -/
import Derived.Test.YtnpgeiflfpjniaaWWriter
namespace Go.Proofs.Ytnpgeiflfpjniaa
open Go.RowKit

/-- How many bits stand behind the first t. -/
def SL (M : Nat → Int) : Nat → Nat
  | 0 => 0
  | t + 1 => ptL (ptL (SL M t) (M t)) (M t)

/-- Which. -/
def SN (V M : Nat → Int) : Nat → Int
  | 0 => 0
  | t + 1 => cdN (ptN (SN V M t) (SL M t) (V t) (M t)) (ptL (SL M t) (M t)) (V t) (M t)

theorem SL_le (M : Nat → Int) (t : Nat) : SL M t ≤ 48 * t := by
  induction t with
  | zero => simp [SL]
  | succ t ih => simp only [SL, ptL]; split <;> omega

theorem SL_no (M : Nat → Int) (t : Nat) (h : M t < 0 ∨ 24 < M t) : SL M (t + 1) = SL M t := by
  simp only [SL, ptL, if_neg (show ¬ (0 ≤ M t ∧ M t ≤ 24) by omega)]

theorem SN_no (V M : Nat → Int) (t : Nat) (h : M t < 0 ∨ 24 < M t) : SN V M (t + 1) = SN V M t := by
  simp only [SN, cdN, ptN, if_neg (show ¬ (0 ≤ M t ∧ M t ≤ 24) by omega)]

theorem SL_yes (M : Nat → Int) (t n : Nat) (h : M t = n) (hn : n ≤ 24) : SL M (t + 1) = SL M t + n + n := by
  simp only [SL, ptL, h, if_pos (show 0 ≤ (n : Int) ∧ (n : Int) ≤ 24 by omega), Int.toNat_natCast]

theorem SN_yes (V M : Nat → Int) (t n : Nat) (h : M t = n) (hn : n ≤ 24) : SN V M (t + 1) = SN V M t + 2 ^ SL M t * (V t % 2 ^ n) + 2 ^ (SL M t + n) * T (V t) n := by
  simp only [SN, cdN, ptN, ptL, h, if_pos (show 0 ≤ (n : Int) ∧ (n : Int) ≤ 24 by omega), Int.toNat_natCast]

theorem SL_mono (M : Nat → Int) (t : Nat) : SL M t ≤ SL M (t + 1) := by
  simp only [SL, ptL]
  split <;> omega

theorem SL_mono' (M : Nat → Int) (t j : Nat) (h : t ≤ j) : SL M t ≤ SL M j := by
  induction j with
  | zero =>
    obtain rfl : t = 0 := by omega
    exact Nat.le_refl _
  | succ j ih =>
    rcases Nat.lt_or_ge t (j + 1) with hlt | hge
    · exact Nat.le_trans (ih (by omega)) (SL_mono M j)
    · obtain rfl : t = j + 1 := by omega
      exact Nat.le_refl _

theorem SN_bound (V M : Nat → Int) (t : Nat) : 0 ≤ SN V M t ∧ SN V M t < 2 ^ SL M t := by
  induction t with
  | zero => simp [SN, SL]
  | succ t ih =>
    by_cases h : 0 ≤ M t ∧ M t ≤ 24
    · obtain ⟨n, hn⟩ := Int.eq_ofNat_of_zero_le h.1
      rw [SN_yes V M t n hn (by omega), SL_yes M t n hn (by omega)]
      obtain ⟨a0, a1⟩ := put_bound _ (V t % 2 ^ n) _ n ih.1 ih.2 (mod_nn _ _) (mod_lt _ _)
      exact put_bound _ (T (V t) n) _ n a0 a1 (T_bound _ _).1 (T_bound _ _).2
    · rw [SN_no V M t (by omega), SL_no M t (by omega)]
      exact ih

theorem SN_mod_one (V M : Nat → Int) (t : Nat) : SN V M (t + 1) % 2 ^ SL M t = SN V M t := by
  obtain ⟨b0, b1⟩ := SN_bound V M t
  by_cases h : 0 ≤ M t ∧ M t ≤ 24
  · obtain ⟨n, hn⟩ := Int.eq_ofNat_of_zero_le h.1
    rw [SN_yes V M t n hn (by omega), Int.pow_add, Int.mul_assoc, Int.add_mul_emod_self_left, put_mod _ _ _ b0 b1]
  · rw [SN_no V M t (by omega), Int.emod_eq_of_lt b0 b1]

theorem SN_mod (V M : Nat → Int) (t j : Nat) (h : t ≤ j) : SN V M j % 2 ^ SL M t = SN V M t := by
  induction j with
  | zero =>
    obtain rfl : t = 0 := by omega
    exact Int.emod_eq_of_lt (SN_bound V M 0).1 (SN_bound V M 0).2
  | succ j ih =>
    rcases Nat.lt_or_ge t (j + 1) with hlt | hge
    · rw [← mod_mod _ _ _ (SL_mono' M t j (by omega)), SN_mod_one, ih (by omega)]
    · obtain rfl : t = j + 1 := by omega
      exact Int.emod_eq_of_lt (SN_bound V M _).1 (SN_bound V M _).2

theorem low_of (X : Int) (a n L : Nat) (h : a + n ≤ L) : X / 2 ^ a % 2 ^ n = X % 2 ^ L / 2 ^ a % 2 ^ n := by
  have e := Int.emod_add_mul_ediv X (2 ^ L)
  conv => lhs; rw [← e]
  exact put_low _ _ a L n h

/-- What is taken first: the number. -/
theorem take_put (V M : Nat → Int) (t k n : Nat) (h : t < k) (hm : M t = n) (hn : n ≤ 24) : SN V M k / 2 ^ SL M t % 2 ^ n = V t % 2 ^ n := by
  obtain ⟨b0, b1⟩ := SN_bound V M t
  have hL := SL_yes M t n hm hn
  rw [low_of _ _ _ (SL M (t + 1)) (by omega), SN_mod V M (t + 1) k (by omega), SN_yes V M t n hm hn, put_low _ _ _ _ n (Nat.le_refl _), put_high _ _ _ b0 b1, mod_mod _ _ _ (Nat.le_refl _)]

/-- What is taken then: its code. -/
theorem take_code (V M : Nat → Int) (t k n : Nat) (h : t < k) (hm : M t = n) (hn : n ≤ 24) : SN V M k / 2 ^ (SL M t + n) % 2 ^ n = T (V t) n := by
  obtain ⟨b0, b1⟩ := SN_bound V M t
  obtain ⟨a0, a1⟩ := put_bound _ (V t % 2 ^ n) _ n b0 b1 (mod_nn _ _) (mod_lt _ _)
  have hL := SL_yes M t n hm hn
  rw [low_of _ _ _ (SL M (t + 1)) (by omega), SN_mod V M (t + 1) k (by omega), SN_yes V M t n hm hn, put_high _ _ _ a0 a1, Int.emod_eq_of_lt (T_bound _ _).1 (T_bound _ _).2]

end Go.Proofs.Ytnpgeiflfpjniaa
