/- DeltaSmall. -/
import Derived.Test.YthaibdflehnbbaaLMade
namespace Go.Proofs.Ythaibdflehnbbaa
open Go.RowKit

theorem sz_two (v : Int) (h : v < 16384) : (sz 9 v).length ≤ 2 := by
  by_cases h1 : v ≤ 127
  · simp [sz, h1]
  · have h2 : v / 128 ≤ 127 := by omega
    simp [sz, h1, h2]

theorem small_bound (bs pt : List Int) (at' : Nat) (ha : at' ≤ bs.length) (hN : 64 ≤ bs.length) (hp : pt.length ≤ 10) (t : List Int) (ht : t = bs.take at' ++ pt ++ bs.drop at') :
    t.length - wth (lcp bs t) - wth (lcs bs (t.drop (wth (lcp bs t)))) ≤ 17 := by
  have htl : t.length = bs.length + pt.length := by rw [ht]; simp; omega
  have hL : at' ≤ lcp bs t := lcp_max bs t at' ha (by omega) (by
    rw [ht, List.append_assoc, List.take_append_of_le_length (by simp; omega), List.take_take, Nat.min_self])
  have hLl := lcp_le bs t
  have hF : (lcp bs t < 8 ∧ wth (lcp bs t) = 0) ∨ (8 ≤ lcp bs t ∧ wth (lcp bs t) = lcp bs t) := by
    unfold wth
    split
    · exact .inl ⟨by omega, rfl⟩
    · exact .inr ⟨by omega, rfl⟩
  generalize wth (lcp bs t) = F at *
  have hFl : F ≤ t.length := by omega
  have hG1 : min (bs.length - at') (t.length - F) ≤ lcs bs (t.drop F) := by
    apply lcs_max
    · omega
    · rw [List.length_drop]; omega
    · obtain ⟨k, hk⟩ : ∃ k, k = min (bs.length - at') (t.length - F) := ⟨_, rfl⟩
      rw [← hk, List.length_drop, List.drop_drop]
      have e1 : F + (t.length - F - k) = (bs.take at' ++ pt).length + (bs.length - at' - k) := by
        simp only [List.length_append, List.length_take]
        omega
      rw [e1, ht, List.drop_append, List.drop_of_length_le (l := bs.take at' ++ pt) (by omega), List.nil_append, List.drop_drop]
      congr 1
      omega
  have hG : (lcs bs (t.drop F) < 8 ∧ wth (lcs bs (t.drop F)) = 0) ∨ (8 ≤ lcs bs (t.drop F) ∧ wth (lcs bs (t.drop F)) = lcs bs (t.drop F)) := by
    unfold wth
    split
    · exact .inl ⟨by omega, rfl⟩
    · exact .inr ⟨by omega, rfl⟩
  generalize lcs bs (t.drop F) = G' at *
  generalize wth G' = G at *
  omega

end Go.Proofs.Ythaibdflehnbbaa
