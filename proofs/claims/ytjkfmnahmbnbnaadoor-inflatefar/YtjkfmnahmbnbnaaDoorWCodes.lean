/- Check and Codes of any lengths. -/
import Derived.Test.YtjkfmnahmbnbnaaDoorWOrder
namespace Go.Proofs.YtjkfmnahmbnbnaaDoor
open Go.RowKit

/-- Whether the first k lengths may be. -/
def alm (L : Nat → Int) : Nat → Bool
  | 0 => true
  | k + 1 => alm L k && (decide (0 ≤ L k) && decide (L k ≤ 15))

theorem alm_iff (L : Nat → Int) (k : Nat) : alm L k = true ↔ ∀ j, j < k → Lm (L j) := by
  induction k with
  | zero => simp [alm]
  | succ k ih =>
    simp only [alm, Bool.and_eq_true, decide_eq_true_eq, ih]
    constructor
    · rintro ⟨h1, h2⟩ j hj
      rcases Nat.lt_or_ge j k with h' | h'
      · exact h1 j h'
      · obtain rfl : j = k := by omega
        exact h2
    · intro h
      exact ⟨fun j hj => h j (by omega), h k (by omega)⟩

/-- Whether lengths may be, so many. -/
def okL (L : Nat → Int) (n : Nat) : Bool := decide (n ≤ 288) && alm L n

theorem okL_iff (L : Nat → Int) (n : Nat) : okL L n = true ↔ n ≤ 288 ∧ ∀ j, j < n → Lm (L j) := by
  rw [okL, Bool.and_eq_true, decide_eq_true_eq, alm_iff]

/-- The error of lengths: none 0, no lengths 1, over full 2. -/
def er (L : Nat → Int) (n : Nat) : Int := if okL L n = true then (if 32768 < G L 15 n then 2 else 0) else 1

/-- Whether they are a complete code. -/
def fu (L : Nat → Int) (n : Nat) : Bool := okL L n && (G L 15 n == 32768)

theorem er_zero (L : Nat → Int) (n : Nat) (h : er L n = 0) : n ≤ 288 ∧ (∀ j, j < n → Lm (L j)) ∧ Fits L n := by
  unfold er at h
  by_cases hk : okL L n = true
  · rw [if_pos hk] at h
    by_cases hg : 32768 < G L 15 n
    · rw [if_pos hg] at h; omega
    · have := (okL_iff L n).1 hk
      exact ⟨this.1, this.2, by unfold Fits; omega⟩
  · rw [if_neg hk] at h; omega

theorem er_range (L : Nat → Int) (n : Nat) : er L n = 0 ∨ er L n = 1 ∨ er L n = 2 := by
  unfold er
  split
  · split <;> simp
  · simp

theorem checked_all (ao : Option Addr) (n c : Nat) (L : Nat → Int) (w : World) (h : Ri w ao n c L) :
    Calls Tryd.prog 48 #[.slice ao n c] w fun e w' => ∃ cc, e = .returned (.tuple #[tal cc, .bool (fu L n), .int .i64 (er L n)]) ∧ (er L n = 0 → cc = C L n) ∧ Below w.heap.size w w' := by
  by_cases hk : okL L n = true
  · obtain ⟨h1, h2⟩ := (okL_iff L n).1 hk
    refine (checked_any ao n c L w h h1 h2).mono ?_
    rintro e w' ⟨rfl, hb⟩
    rw [ckv, er, fu, if_pos hk, hk, Bool.true_and]
    by_cases hg : 32768 < G L 15 n
    · rw [if_pos hg, if_pos hg]
      have e1 : (G L 15 n == 32768) = false := by simp; omega
      rw [e1]
      exact ⟨_, rfl, (fun h => by omega), hb⟩
    · rw [if_neg hg, if_neg hg]
      exact ⟨_, rfl, fun _ => rfl, hb⟩
  · have h1 : 288 < n ∨ ¬ ∀ j, j < n → Lm (L j) := by
      rw [okL_iff] at hk
      by_cases h' : n ≤ 288
      · exact .inr (fun h2 => hk ⟨h', h2⟩)
      · exact .inl (by omega)
    refine (checked_arg ao n c L w h h1).mono ?_
    rintro e w' ⟨rfl, hb⟩
    have e1 : okL L n = false := by simpa using hk
    rw [er, fu, if_neg hk, e1, Bool.false_and]
    exact ⟨_, rfl, (fun h => by omega), hb⟩

end Go.Proofs.YtjkfmnahmbnbnaaDoor
