/- slices.Reverse on a row of bytes of the call's own. -/
import Derived.Test.YthaibdflehnbbaaWRoom
namespace Go.Proofs.Ythaibdflehnbbaa
open Go.RowKit

theorem grownBy_trans {a b c : World} {r : Option Nat} (h : a.grownBy b r) (k : b.grownBy c r) : a.grownBy c r :=
  ⟨k.os.trans h.os, k.tape.trans h.tape, k.output.trans h.output, Nat.le_trans h.size k.size, fun i hi hr => (k.block i (Nat.lt_of_lt_of_le hi h.size) hr).trans (h.block i hi hr)⟩

theorem grownBy_drew {a b : World} {r : Option Nat} (h : a.grownBy b r) : a.grownBy b.drew r := ⟨h.os, h.tape, h.output, h.size, h.block⟩

theorem rev_step {n k : Nat} {xs zs : List Int} (hzl : zs.length = n) (hlt : 2 * k + 1 < n)
    (hz : ∀ t, t < n → zs.getD t 0 = if t < k ∨ n ≤ t + k then xs.getD (n - 1 - t) 0 else xs.getD t 0) :
    ∀ t, t < n → ((zs.set k (zs.getD (n - 1 - k) 0)).set (n - 1 - k) (zs.getD k 0)).getD t 0 = if t < k + 1 ∨ n ≤ t + (k + 1) then xs.getD (n - 1 - t) 0 else xs.getD t 0 := by
  intro t ht
  have h1 := hz k (by omega)
  have h2 := hz (n - 1 - k) (by omega)
  have h3 := hz t ht
  rw [if_neg (by omega)] at h1 h2
  by_cases e1 : t = n - 1 - k
  · subst e1
    rw [if_pos (by omega), show n - 1 - (n - 1 - k) = k from by omega, ← h1]
    simp [List.getD, hzl, show n - 1 - k < n from by omega]
  · by_cases e2 : t = k
    · subst e2
      rw [if_pos (by omega), ← h2]
      simp [List.getD, hzl, show ¬ n - 1 - t = t from by omega, show t < n from by omega]
    · have e : ((zs.set k (zs.getD (n - 1 - k) 0)).set (n - 1 - k) (zs.getD k 0)).getD t 0 = zs.getD t 0 := by
        simp [List.getD, show ¬ n - 1 - k = t from fun h => e1 h.symm, show ¬ k = t from fun h => e2 h.symm]
      rw [e, h3]
      by_cases hc : t < k ∨ n ≤ t + k
      · rw [if_pos hc, if_pos (by omega)]
      · rw [if_neg hc, if_neg (by omega)]

theorem rev_done {n k : Nat} {xs zs : List Int} (hxl : xs.length = n) (hzl : zs.length = n) (hlt : ¬ 2 * k + 1 < n)
    (hz : ∀ t, t < n → zs.getD t 0 = if t < k ∨ n ≤ t + k then xs.getD (n - 1 - t) 0 else xs.getD t 0) : zs = xs.reverse := by
  apply List.ext_getElem
  · simp [hxl, hzl]
  · intro t h1 h2
    have h := hz t (by omega)
    have e : (if t < k ∨ n ≤ t + k then xs.getD (n - 1 - t) 0 else xs.getD t 0) = xs.getD (n - 1 - t) 0 := by
      by_cases hc : t < k ∨ n ≤ t + k
      · rw [if_pos hc]
      · rw [if_neg hc, show n - 1 - t = t from by omega]
    rw [e] at h
    simp only [List.getD, List.getElem?_eq_getElem h1, Option.getD_some] at h
    rw [h, List.getElem_reverse, List.getElem?_eq_getElem (by omega), Option.getD_some]
    simp [hxl]

end Go.Proofs.Ythaibdflehnbbaa
