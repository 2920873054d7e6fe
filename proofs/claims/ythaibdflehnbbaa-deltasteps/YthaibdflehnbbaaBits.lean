/- And, or, shifts of fixed width, as arithmetic. -/
import Derived.Test.YthaibdflehnbbaaMath
import Derived.Laws.Bits128
import Derived.Laws.BitsAllLaws
namespace Go.Proofs.Ythaibdflehnbbaa
open Go.RowKit

theorem wraps_i64 (n : Int) (h0 : 0 ≤ n) (h1 : n < 2 ^ 63) : IntKind.i64.wrap n = n := by rw [IntKind.wrap_i64]; omega
theorem wraps_u64 (n : Int) (h0 : 0 ≤ n) (h1 : n < 2 ^ 64) : IntKind.u64.wrap n = n := by
  have e : IntKind.u64.wrap n = n % 18446744073709551616 := by simp [IntKind.wrap, IntKind.bits, IntKind.signed]
  rw [e]; omega

/-- Bits above what there is, by or. -/
theorem or_put (k : IntKind) (j : Nat) (hj : j ≤ k.bits) (hk : ∀ n : Int, 0 ≤ n → n < 2 ^ j → k.wrap n = n) (h m : Nat) (lo x : Int) (l0 : 0 ≤ lo) (l1 : lo < 2 ^ h) (x0 : 0 ≤ x) (x1 : x < 2 ^ m) (hm : h + m ≤ j) :
    bits .or k lo (x * 2 ^ h) = lo + 2 ^ h * x := by
  have hc : bits .or k lo (x * 2 ^ h) = bits .or k (x * 2 ^ h) lo := by simp only [bits, BitVec.or_comm]
  have hb := put_bound 0 x h m (by omega) (p2 h) x0 x1
  have hle := p2_le (h + m) j hm
  have hle2 := p2_le h j (by omega)
  rw [hc, bits_join k j hj hk h _ _ (Int.mul_nonneg x0 (Int.le_of_lt (p2 h))) (Int.mul_emod_left _ _) (by rw [Int.mul_comm]; omega) l0 l1 (by omega)]
  rw [Int.mul_comm, Int.add_comm]

theorem u64_put (h m : Nat) (lo x : Int) (l0 : 0 ≤ lo) (l1 : lo < 2 ^ h) (x0 : 0 ≤ x) (x1 : x < 2 ^ m) (hm : h + m ≤ 63) :
    bits .or .u64 lo (IntKind.u64.wrap (x * 2 ^ h)) = lo + 2 ^ h * x := by
  have hb := put_bound 0 x h m (by omega) (p2 h) x0 x1
  have hle := p2_le (h + m) 63 hm
  have hx : x * 2 ^ h = 2 ^ h * x := Int.mul_comm _ _
  rw [wraps_u64 _ (by omega) (by omega)]
  exact or_put .u64 64 (by decide) wraps_u64 h m lo x l0 l1 x0 x1 (by omega)

theorem i64_put (h m : Nat) (lo x : Int) (l0 : 0 ≤ lo) (l1 : lo < 2 ^ h) (x0 : 0 ≤ x) (x1 : x < 2 ^ m) (hm : h + m ≤ 63) :
    bits .or .i64 lo (wrap64 (x * 2 ^ h)) = lo + 2 ^ h * x := by
  have hb := put_bound 0 x h m (by omega) (p2 h) x0 x1
  have hle := p2_le (h + m) 63 hm
  have hx : x * 2 ^ h = 2 ^ h * x := Int.mul_comm _ _
  have h63 : (2 : Int) ^ 63 = 9223372036854775808 := rfl
  rw [IntWalk.wrap64_in _ (by omega)]
  exact or_put .i64 63 (by decide) wraps_i64 h m lo x l0 l1 x0 x1 (by omega)

theorem or_comm' (k : IntKind) (a b : Int) : bits .or k a b = bits .or k b a := by simp only [bits, BitVec.or_comm]

/-- The lowest n bits of a number of either sign. -/
theorem i64_mask (v : Int) (n : Nat) (hn : n ≤ 24) : bits .and .i64 v (2 ^ n - 1) = v % 2 ^ n := by
  have hp := p2 n
  have hle := p2_le n 24 hn
  have hm : (BitVec.ofInt 64 (2 ^ n - 1)).toNat = 2 ^ n - 1 := by
    have hpos : 0 < 2 ^ n := Nat.two_pow_pos n
    have hle' : 2 ^ n ≤ 2 ^ 24 := Nat.pow_le_pow_right (by decide) hn
    rw [show ((2 : Int) ^ n - 1) = ((2 ^ n - 1 : Nat) : Int) by rw [Int.natCast_sub hpos]; simp, BitVec.ofInt_natCast, BitVec.toNat_ofNat]
    exact Nat.mod_eq_of_lt (by omega)
  have key : (BitVec.ofInt 64 v &&& BitVec.ofInt 64 (2 ^ n - 1)).toNat = (v % ((2 ^ 64 : Nat) : Int)).toNat % 2 ^ n := by
    rw [BitVec.toNat_and, BitVec.toNat_ofInt, hm, Nat.and_two_pow_sub_one_eq_mod]
  show IntKind.i64.wrap ((BitVec.ofInt 64 v &&& BitVec.ofInt 64 (2 ^ n - 1)).toNat : Nat) = v % 2 ^ n
  have e : (((v % ((2 ^ 64 : Nat) : Int)).toNat % 2 ^ n : Nat) : Int) = v % 2 ^ n := by
    rw [Int.natCast_emod, Int.toNat_of_nonneg (Int.emod_nonneg _ (by decide))]
    rw [show (((2 ^ n : Nat)) : Int) = 2 ^ n by simp]
    exact mod_mod v n 64 (by omega)
  have l0 := mod_nn v n
  have l1 := mod_lt v n
  rw [key, e, IntKind.wrap_i64]
  omega

theorem i64_one (v : Int) : bits .and .i64 v 1 = v % 2 := i64_mask v 1 (by decide)

theorem u64_mask (v : Int) (n : Nat) (hn : n ≤ 24) (h0 : 0 ≤ v) (h1 : v < 18446744073709551616) : bits .and .u64 v (2 ^ n - 1) = v % 2 ^ n :=
  bits_mask .u64 64 (by decide) wraps_u64 n (by omega) v h0 h1

theorem u8_one (v : Int) (h0 : 0 ≤ v) (h1 : v < 256) : bits .and .u8 v 1 = v % 2 := bits_mask .u8 8 (by decide) wraps_u8 1 (by decide) v h0 h1

end Go.Proofs.Ythaibdflehnbbaa
