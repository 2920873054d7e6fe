/- Seven bits of a byte, as arithmetic. -/
import Derived.Test.YthaibdflehnbbaaBits
import Derived.WalkKit
import Derived.WalkLawsBesides
import Derived.Laws.Bits128
import Derived.Laws.BitsAllLaws
namespace Go.Proofs.Ythaibdflehnbbaa
open Go.RowKit

theorem u8_or_128 (y : Int) (h0 : 0 ≤ y) (h1 : y < 128) : bits .or .u8 128 y = y + 128 := by
  rw [u8_or 128 y (by omega) (by omega) h0 (by omega)]
  have h := Nat.two_pow_add_eq_or_of_lt (show y.toNat < 2 ^ 7 by omega) 1
  have e : (128 : Int).toNat ||| y.toNat = 2 ^ 7 * 1 + y.toNat := h.symm
  rw [e]
  omega

theorem enc7 (x : Int) : bits .or .u8 128 (bits .and .i64 x 127 % 256) = x % 128 + 128 := by
  rw [i64_and127, u8_or_128 _ (by omega) (by omega)]
  omega

theorem u8_and127 (x : Int) (h0 : 0 ≤ x) (h1 : x < 256) : bits .and .u8 x 127 = x % 128 := bits_mask .u8 8 (by decide) wraps_u8 7 (by decide) x h0 h1

theorem i64_or_comm (a b : Int) (ha0 : 0 ≤ a) (ha : a < 2 ^ 63) (hb0 : 0 ≤ b) (hb : b < 2 ^ 63) : bits .or .i64 a b = bits .or .i64 b a := by
  obtain ⟨x, rfl⟩ := Int.eq_ofNat_of_zero_le ha0
  obtain ⟨y, rfl⟩ := Int.eq_ofNat_of_zero_le hb0
  have hx : x < 2 ^ 63 := by exact_mod_cast ha
  have hy : y < 2 ^ 63 := by exact_mod_cast hb
  rw [(bits_nat .i64 63 (by decide) wraps_i64 x y hx hy).2, (bits_nat .i64 63 (by decide) wraps_i64 y x hy hx).2, Nat.or_comm]

theorem pow128 (k : Nat) : (2 : Int) ^ (7 * k) = 128 ^ k := by rw [Int.pow_mul]; rfl

theorem pow128_pos (k : Nat) : (0 : Int) < 128 ^ k := Int.pow_pos (by decide)

theorem pow128_le (k m : Nat) (h : k ≤ m) : (128 : Int) ^ k ≤ 128 ^ m := by
  exact_mod_cast Nat.pow_le_pow_right (n := 128) (by decide) h

/-- A further seven bits, put above what there is. -/
theorem dec7 (k : Nat) (acc cb : Int) (hk : k ≤ 8) (h0 : 0 ≤ acc) (h1 : acc < 128 ^ k) (hb0 : 0 ≤ cb) (hb1 : cb < 256) :
    bits .or .i64 acc (wrap64 (wrap64 (bits .and .u8 cb 127) * 2 ^ (7 * k))) = acc + 128 ^ k * (cb % 128) ∧ acc + 128 ^ k * (cb % 128) < 128 ^ (k + 1) ∧ 0 ≤ acc + 128 ^ k * (cb % 128) := by
  have hp := pow128_pos k
  have hle := pow128_le k 8 hk
  have h8 : (128 : Int) ^ 8 = 72057594037927936 := rfl
  have hc0 : 0 ≤ cb % 128 := by omega
  have hc1 : cb % 128 ≤ 127 := by omega
  have hm0 : 0 ≤ 128 ^ k * (cb % 128) := Int.mul_nonneg (by omega) hc0
  have hm1 : 128 ^ k * (cb % 128) ≤ 128 ^ k * 127 := Int.mul_le_mul_of_nonneg_left hc1 (by omega)
  refine ⟨?_, ?_, by omega⟩
  · rw [u8_and127 cb hb0 hb1, IntWalk.wrap64_in (cb % 128) (by omega), pow128, Int.mul_comm (cb % 128), IntWalk.wrap64_in _ (by omega)]
    rw [i64_or_comm _ _ h0 (by omega) hm0 (by omega)]
    rw [bits_join .i64 63 (by decide) wraps_i64 (7 * k) _ _ hm0 (by rw [pow128]; exact Int.mul_emod_right _ _) (by omega) h0 (by rw [pow128]; exact h1) (by omega)]
    omega
  · rw [Int.pow_succ]
    omega

end Go.Proofs.Ythaibdflehnbbaa
