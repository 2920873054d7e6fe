/- The numbers of seven bits a byte, there and back: plain arithmetic. -/
import Derived.Test.YthaibdflehnbbaaWSize
import Derived.Test.YthaibdflehnbbaaWRdSize
namespace Go.Proofs.Ythaibdflehnbbaa

theorem sz_back (t : List Int) : ∀ (f : Nat) (v : Int), 0 ≤ v → v < 128 ^ f → 1 ≤ f → rdSize (sz f v ++ t) = some (v, (sz f v).length) := by
  intro f
  induction f with
  | zero => intro v _ _ h; omega
  | succ f ih =>
    intro v h0 h1 _
    by_cases h : v ≤ 127
    · rw [sz_last (f + 1) v h (by omega)]
      simp [rdSize, show v < 128 from by omega]
    · have ⟨h2, h3, h4⟩ := sz_step (f + 1) v (by omega) h1 (by omega)
      simp only [Nat.add_sub_cancel] at h3 h4
      rw [h4, List.cons_append, rdSize, if_neg (by omega), ih (v / 128) (by omega) h3 (by omega)]
      simp
      omega

theorem sz_byt : ∀ (f : Nat) (v : Int), 0 ≤ v → ∀ x ∈ sz f v, 0 ≤ x ∧ x < 256 := by
  intro f
  induction f with
  | zero => intro v _ x hx; cases hx
  | succ f ih =>
    intro v h0 x hx
    by_cases h : v ≤ 127
    · simp only [sz, if_pos h, List.mem_singleton] at hx
      omega
    · simp only [sz, if_neg h, List.mem_cons] at hx
      rcases hx with rfl | hx
      · omega
      · exact ih (v / 128) (by omega) x hx

theorem sz_len : ∀ (f : Nat) (v w : Int), 0 ≤ v → v ≤ w → (sz f v).length ≤ (sz f w).length := by
  intro f
  induction f with
  | zero => intro v w _ _; simp [sz]
  | succ f ih =>
    intro v w h0 h
    by_cases h1 : v ≤ 127
    · by_cases h2 : w ≤ 127
      · simp [sz, h1, h2]
      · simp [sz, h1, h2]
    · have h2 : ¬ w ≤ 127 := by omega
      have := ih (v / 128) (w / 128) (by omega) (by omega)
      simp only [sz, if_neg h1, if_neg h2, List.length_cons]
      omega

theorem sz_len_le (f : Nat) : ∀ v, (sz f v).length ≤ f := by
  induction f with
  | zero => intro v; simp [sz]
  | succ f ih =>
    intro v
    by_cases h : v ≤ 127
    · simp [sz, h]
    · simp [sz, h]; exact ih _

theorem sz_pos (f : Nat) (v : Int) : 1 ≤ (sz (f + 1) v).length := by
  by_cases h : v ≤ 127 <;> simp [sz, h]

theorem sz_front (v w : Int) (h0 : 0 ≤ v) (h1 : v ≤ 9223372036854775807) (k0 : 0 ≤ w) (k1 : w ≤ 9223372036854775807) (hne : v ≠ w) : ¬ sz 9 v <+: sz 9 w := by
  rintro ⟨t, ht⟩
  have h9 : (128 : Int) ^ 9 = 9223372036854775808 := rfl
  have a := sz_back t 9 v h0 (by omega) (by omega)
  have b := sz_back [] 9 w k0 (by omega) (by omega)
  rw [List.append_nil, ← ht, a] at b
  simp at b
  exact hne b.1

end Go.Proofs.Ythaibdflehnbbaa
