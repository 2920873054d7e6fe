/- Chains as plain mathematics. -/
import Derived.Test.YtgdodphpomkakaaLz
namespace Go.Proofs.Ytgdodphpomkakaa
open Go.RowKit

/-- The three bytes at a place, as one number. -/
def H3 (b : List Int) (j : Nat) : Int := b.getD j 0 * 65536 + b.getD (j + 1) 0 * 256 + b.getD (j + 2) 0

theorem byte_at {b : List Int} (hb : ∀ x ∈ b, 0 ≤ x ∧ x < 256) (j : Nat) : 0 ≤ b.getD j 0 ∧ b.getD j 0 < 256 := by
  rw [List.getD]
  cases hg : b[j]? with
  | none => simp
  | some y => exact hb y (List.mem_of_getElem? hg)

theorem H3_range {b : List Int} (hb : ∀ x ∈ b, 0 ≤ x ∧ x < 256) (j : Nat) : 0 ≤ H3 b j ∧ H3 b j < 16777216 := by
  have h0 := byte_at hb j
  have h1 := byte_at hb (j + 1)
  have h2 := byte_at hb (j + 2)
  unfold H3
  omega

theorem H3_inj {b : List Int} (hb : ∀ x ∈ b, 0 ≤ x ∧ x < 256) {i j : Nat} (h : H3 b i = H3 b j) : ∀ k, k < 3 → b.getD (i + k) 0 = b.getD (j + k) 0 := by
  have h0 := byte_at hb i
  have h1 := byte_at hb (i + 1)
  have h2 := byte_at hb (i + 2)
  have k0 := byte_at hb j
  have k1 := byte_at hb (j + 1)
  have k2 := byte_at hb (j + 2)
  unfold H3 at h
  intro k hk
  rcases (by omega : k = 0 ∨ k = 1 ∨ k = 2) with rfl | rfl | rfl
  · rw [Nat.add_zero, Nat.add_zero]; omega
  · omega
  · omega

/-- The last place ahead of p whose three bytes are h, or -1. -/
def pv (b : List Int) (h : Int) : Nat → Int
  | 0 => -1
  | j + 1 => if j + 3 ≤ b.length ∧ H3 b j = h then (j : Int) else pv b h j

theorem pv_lt (b : List Int) (h : Int) (p : Nat) : -1 ≤ pv b h p ∧ pv b h p < p := by
  induction p with
  | zero => simp [pv]
  | succ p ih =>
    unfold pv
    split <;> omega

theorem pv_spec (b : List Int) (h : Int) (p : Nat) (i : Nat) (e : pv b h p = i) : i < p ∧ i + 3 ≤ b.length ∧ H3 b i = h := by
  induction p with
  | zero => simp [pv] at e
  | succ p ih =>
    unfold pv at e
    split at e
    · rename_i hh
      obtain rfl : p = i := by omega
      exact ⟨by omega, hh.1, hh.2⟩
    · have := ih e
      exact ⟨by omega, this.2⟩

theorem pv_max (b : List Int) (h : Int) (p : Nat) (i : Nat) (hi : i < p) (h3 : i + 3 ≤ b.length) (hh : H3 b i = h) : (i : Int) ≤ pv b h p := by
  induction p with
  | zero => omega
  | succ p ih =>
    unfold pv
    split
    · omega
    · rename_i hn
      rcases Nat.lt_or_ge i p with h' | h'
      · exact ih h'
      · obtain rfl : i = p := by omega
        exact absurd ⟨h3, hh⟩ hn

theorem pv_same (b : List Int) (p : Nat) (h3 : p + 3 ≤ b.length) : pv b (H3 b p) (p + 1) = p := by
  unfold pv
  rw [if_pos ⟨h3, rfl⟩]

theorem pv_other (b : List Int) (h : Int) (p : Nat) (hn : ¬ (p + 3 ≤ b.length ∧ H3 b p = h)) : pv b h (p + 1) = pv b h p := by
  conv => lhs; unfold pv
  rw [if_neg hn]

/-- How many bytes are the same from both places on, at most m. -/
def Sm (b : List Int) (q p m n : Nat) : Prop := n ≤ m ∧ (∀ i, i < n → b.getD (q + i) 0 = b.getD (p + i) 0) ∧ (n < m → b.getD (q + n) 0 ≠ b.getD (p + n) 0)

/-- The best of what was met of the chain at p: its length and distance (0, 0: none); of each row that comes again at a distance of at most e and farther than that which is to come, all. -/
structure Best (b : List Int) (p m n d : Nat) : Prop where
  ok : (n = 0 ∧ d = 0) ∨ (3 ≤ n ∧ n ≤ m ∧ 1 ≤ d ∧ d ≤ 32768 ∧ d ≤ p ∧ ∀ i, i < n → b.getD (p + i) 0 = b.getD (p + i - d) 0)

end Go.Proofs.Ytgdodphpomkakaa
