/- slices.Reverse on a row of bytes of the call's own. -/
import Derived.Test.YtmkjpfjlohkdoaaWRoom
namespace Go.Proofs.Ytmkjpfjlohkdoaa
open Go.RowKit

theorem grownBy_trans {a b c : World} {r : Option Nat} (h : a.grownBy b r) (k : b.grownBy c r) : a.grownBy c r :=
  ⟨k.os.trans h.os, k.tape.trans h.tape, k.output.trans h.output, Nat.le_trans h.size k.size, fun i hi hr => (k.block i (Nat.lt_of_lt_of_le hi h.size) hr).trans (h.block i hi hr)⟩

theorem grownBy_drew {a b : World} {r : Option Nat} (h : a.grownBy b r) : a.grownBy b.drew r := ⟨h.os, h.tape, h.output, h.size, h.block⟩

theorem rev_step {n k : Nat} {xs zs : List Int} (hzl : zs.length = n) (hlt : 2 * k + 1 < n)
    (hz : ∀ t, t < n → zs.getD t 0 = if t < k ∨ n ≤ t + k then xs.getD (n - 1 - t) 0 else xs.getD t 0) :
    ∀ t, t < n → ((zs.set k (zs.getD (n - 1 - k) 0)).set (n - 1 - k) (zs.getD k 0)).getD t 0 = if t < k + 1 ∨ n ≤ t + (k + 1) then xs.getD (n - 1 - t) 0 else xs.getD t 0 := by
  intro t ht
  have h1 := hz k (by omega)
  have h2 := hz (n - 1 - k) (by omega)
  have h3 := hz t ht
  rw [if_neg (by omega)] at h1 h2
  by_cases e1 : t = n - 1 - k
  · subst e1
    rw [if_pos (by omega), show n - 1 - (n - 1 - k) = k from by omega, ← h1]
    simp [List.getD, hzl, show n - 1 - k < n from by omega]
  · by_cases e2 : t = k
    · subst e2
      rw [if_pos (by omega), ← h2]
      simp [List.getD, hzl, show ¬ n - 1 - t = t from by omega, show t < n from by omega]
    · have e : ((zs.set k (zs.getD (n - 1 - k) 0)).set (n - 1 - k) (zs.getD k 0)).getD t 0 = zs.getD t 0 := by
        simp [List.getD, show ¬ n - 1 - k = t from fun h => e1 h.symm, show ¬ k = t from fun h => e2 h.symm]
      rw [e, h3]
      by_cases hc : t < k ∨ n ≤ t + k
      · rw [if_pos hc, if_pos (by omega)]
      · rw [if_neg hc, if_neg (by omega)]

theorem rev_done {n k : Nat} {xs zs : List Int} (hxl : xs.length = n) (hzl : zs.length = n) (hlt : ¬ 2 * k + 1 < n)
    (hz : ∀ t, t < n → zs.getD t 0 = if t < k ∨ n ≤ t + k then xs.getD (n - 1 - t) 0 else xs.getD t 0) : zs = xs.reverse := by
  apply List.ext_getElem
  · simp [hxl, hzl]
  · intro t h1 h2
    have h := hz t (by omega)
    have e : (if t < k ∨ n ≤ t + k then xs.getD (n - 1 - t) 0 else xs.getD t 0) = xs.getD (n - 1 - t) 0 := by
      by_cases hc : t < k ∨ n ≤ t + k
      · rw [if_pos hc]
      · rw [if_neg hc, show n - 1 - t = t from by omega]
    rw [e] at h
    simp only [List.getD, List.getElem?_eq_getElem h1, Option.getD_some] at h
    rw [h, List.getElem_reverse, List.getElem?_eq_getElem (by omega), Option.getD_some]
    simp [hxl]

set_option maxHeartbeats 800000 in
theorem reverse_any (base g n c : Nat) (xs : List Int) (w : World) (hown : w.ownsRow base 5 1 (.slice (some ⟨g, 0, none⟩) n c) n (xs.map (Value.int .u8))) (hn : n ≤ 1000) :
    Calls Try.prog 32 #[.slice (some ⟨g, 0, none⟩) n c] w fun e w' => e = .returned (.tuple #[]) ∧
      w'.ownsRow base 5 1 (.slice (some ⟨g, 0, none⟩) n c) n (xs.reverse.map (Value.int .u8)) ∧ w.grownBy w' (some g) := by
  have hxl : xs.length = n := by simpa using hown.1
  go_enter Try.func32, Try.ntmps32
  go_wp2_with fail
  go_loopw [2, 3] (fun i j wr => ∃ (k : Nat) (zs : List Int), k ≤ n ∧ i = .int .i64 k ∧ j = .int .i64 ((n : Int) - 1 - k) ∧ zs.length = n ∧
      (∀ t, t < n → zs.getD t 0 = if t < k ∨ n ≤ t + k then xs.getD (n - 1 - t) 0 else xs.getD t 0) ∧
      wr.ownsRow base 5 1 (.slice (some ⟨g, 0, none⟩) n c) n (zs.map (Value.int .u8)) ∧ w.grownBy wr (some g))
    (fun i _ _ => n - (intOf i).toNat)
  case atStart =>
    refine ⟨0, xs, by omega, rfl, ?_, hxl, ?_, hown, World.grownBy.refl _ _⟩
    · simp
    · intro t ht; simp; omega
  case round =>
    obtain ⟨k, zs, hk, rfl, rfl, hzl, hz, hown', hgrow⟩ := hrel
    by_cases hlt : 2 * k + 1 < n
    · have hi := hown'.cellAt k (by omega)
      have hj := hown'.cellAt (n - 1 - k) (by omega)
      have hfi := hown'.frozenAt k
      have hfj := hown'.frozenAt (n - 1 - k)
      rw [List.getElem?_map, List.getElem?_eq_getElem (by omega)] at hi hj
      simp only [Option.map_some] at hi hj
      have HZ : Hid (∀ t, t < n → zs.getD t 0 = if t < k ∨ n ≤ t + k then xs.getD (n - 1 - t) 0 else xs.getD t 0) := hz
      clear hz
      go_wp2
      go_region
      go_wp2
      go_roundw
      case rel =>
        have g1 : zs[n - 1 - k] = zs.getD (n - 1 - k) 0 := by simp [List.getD, List.getElem?_eq_getElem (show n - 1 - k < zs.length by omega)]
        have g2 : zs[k] = zs.getD k 0 := by simp [List.getD, List.getElem?_eq_getElem (show k < zs.length by omega)]
        have s1 := hown'.stored k (Value.int .u8 zs[n - 1 - k])
        have s2 := s1.1.stored (n - 1 - k) (Value.int .u8 zs[k])
        refine ⟨k + 1, (zs.set k (zs.getD (n - 1 - k) 0)).set (n - 1 - k) (zs.getD k 0), by omega, by go_num, by go_num, by simp [hzl], rev_step hzl hlt HZ.out, ?_, grownBy_drew (grownBy_trans hgrow (grownBy_trans s1.2 s2.2))⟩
        have := s2.1
        rw [← g1, ← g2]
        simpa [List.map_set] using this.drew
      case measure => simp [intOf]; omega
    · go_wp2
      go_end0
      have e := rev_done hxl hzl hlt hz
      subst e
      exact ⟨rfl, hown', hgrow⟩

end Go.Proofs.Ytmkjpfjlohkdoaa
