/- number. -/
import Derived.Test.YthaibdflehnbbaaWRoom
import Derived.Test.YthaibdflehnbbaaBinBits
namespace Go.Proofs.Ythaibdflehnbbaa
open Go.RowKit

/-- The number that the bytes say, the highest first (a: what stands ahead). -/
def num : Int → List Int → Int
  | a, [] => a
  | a, c :: cs => num (256 * a + c) cs

theorem num_append (xs ys : List Int) : ∀ a, num a (xs ++ ys) = num (num a xs) ys := by
  induction xs with
  | nil => intro a; rfl
  | cons x xs ih => intro a; simp [num, ih]

theorem num_bound (xs : List Int) (hb : ∀ x ∈ xs, 0 ≤ x ∧ x < 256) : ∀ a, 0 ≤ a → 0 ≤ num a xs ∧ num a xs < (a + 1) * 256 ^ xs.length := by
  induction xs with
  | nil => intro a h; simp [num]; omega
  | cons x xs ih =>
    intro a h
    have hx := hb x (by simp)
    have h' := ih (fun y hy => hb y (by simp [hy])) (256 * a + x) (by omega)
    refine ⟨h'.1, Int.lt_of_lt_of_le h'.2 ?_⟩
    simp only [List.length_cons]
    rw [Int.pow_succ, Int.mul_comm _ (256 : Int), ← Int.mul_assoc]
    exact Int.mul_le_mul_of_nonneg_right (by omega) (Int.le_of_lt (Int.pow_pos (by decide)))

theorem pow256_le (k m : Nat) (h : k ≤ m) : (256 : Int) ^ k ≤ 256 ^ m := by
  obtain ⟨d, rfl⟩ : ∃ d, m = k + d := ⟨m - k, by omega⟩
  rw [Int.pow_add]
  have h1 : (0 : Int) < 256 ^ k := Int.pow_pos (by decide)
  have h2 : (0 : Int) < 256 ^ d := Int.pow_pos (by decide)
  have h3 := Int.mul_le_mul_of_nonneg_left (show (1 : Int) ≤ 256 ^ d by omega) (Int.le_of_lt h1)
  omega

theorem drop_cons (k : Nat) (xs : List Int) (h2 : k < xs.length) : xs.drop k = xs.getD k 0 :: xs.drop (k + 1) := by
  rw [List.drop_eq_getElem_cons h2]
  simp [List.getD, List.getElem?_eq_getElem h2]

theorem u64_or8 (a cb : Int) (h0 : 0 ≤ a) (h1 : a ≤ 72057594037927935) (hb0 : 0 ≤ cb) (hb1 : cb < 256) : bits .or .u64 (256 * a) cb = 256 * a + cb := by
  have hw : ∀ n : Int, 0 ≤ n → n < 2 ^ 64 → IntKind.u64.wrap n = n := by
    intro n hn0 hn1
    simp [IntKind.wrap, IntKind.bits, IntKind.signed]
    omega
  exact bits_join .u64 64 (by decide) hw 8 _ _ (by omega) (by omega) (by omega) hb0 (by omega) (by omega)

set_option maxHeartbeats 400000 in
theorem number_any (ao : Option Addr) (n c : Nat) (xs : List Int) (w : World) (h : Rd w ao n c xs) (hn : n ≤ 8) :
    Calls Try.prog 60 #[.slice ao n c] w fun e w' => e = .returned (.int .u64 (num 0 xs)) ∧ w' = w := by
  have hxl := h.len
  have hbyt := h.byt
  go_enter Try.func60, Try.ntmps60
  go_wp2_with fail
  go_loop [3, 8] (fun u i => ∃ (acc : Int) (k : Nat), k ≤ n ∧ i = .int .i64 k ∧ u = .int .u64 acc ∧ 0 ≤ acc ∧ acc < 256 ^ k ∧ num acc (xs.drop k) = num 0 xs)
    (fun _ i => n - (intOf i).toNat)
  case atStart => exact ⟨0, 0, by omega, rfl, rfl, by omega, by simp, by simp⟩
  case round =>
    obtain ⟨acc, k, hk, rfl, rfl, ha0, ha1, hrd⟩ := hrel
    have HR : Hid (num acc (xs.drop k) = num 0 xs) := hrd
    have HA : Hid (acc < 256 ^ k) := ha1
    clear hrd ha1
    by_cases hlt : k < n
    · obtain ⟨b, off, rfl, hcell⟩ := h.plain (by omega)
      have hck := hcell k (by omega)
      obtain ⟨cb, hcb⟩ : ∃ cb, cb = xs.getD k 0 := ⟨_, rfl⟩
      rw [← hcb] at hck
      have hb : 0 ≤ cb ∧ cb < 256 := by
        rw [hcb]
        simp only [List.getD, List.getElem?_eq_getElem (show k < xs.length by omega), Option.getD_some]
        exact hbyt _ (List.getElem_mem _)
      have HC : Hid (cb = xs.getD k 0) := hcb
      have hb0 := hb.1
      have hb1 := hb.2
      have hac : acc ≤ 72057594037927935 := by
        have h1 := pow256_le k 7 (by omega)
        have h8 : (256 : Int) ^ 7 = 72057594037927936 := rfl
        have := HA.out
        omega
      clear hcb hcell hb hbyt
      go_wp2
      go_round
      case rel =>
        refine ⟨256 * acc + cb, k + 1, by omega, by go_num, by rw [Int.mul_comm, u64_or8 acc cb ha0 hac hb0 hb1], by omega, ?_, ?_⟩
        · have := HA.out
          rw [Int.pow_succ]
          omega
        · rw [← HR.out, drop_cons k xs (by omega), ← HC.out]
          rfl
      case measure => simp [intOf]; omega
    · go_wp2
      go_ret
      have e : k = n := by omega
      subst e
      have := HR.out
      rw [List.drop_of_length_le (by omega)] at this
      rw [← this]
      exact ⟨rfl, rfl⟩

end Go.Proofs.Ythaibdflehnbbaa
