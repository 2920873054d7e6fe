/- math/bits.Mul64 and Mul of 1 and a small number. -/
import Derived.Test.YtjkfmnahmbnbnaaDoorInts
namespace Go.Proofs.YtjkfmnahmbnbnaaDoor
open Go.RowKit

theorem mul64_one (n : Nat) (w : World) (h : n ≤ 1000000) : Calls Tryd.prog 36 #[.int .u64 1, .int .u64 n] w fun e w' => e = .returned (.tuple #[.int .u64 0, .int .u64 n]) ∧ w' = w := by
  have e1 : bits .and .u64 1 4294967295 = 1 := by decide
  have e2 : bits .and .u64 (n : Int) 4294967295 = n := by
    have := bits_mask .u64 64 (by decide) wraps_u64 32 (by decide) (n : Int) (by omega) (by omega)
    rw [show (4294967295 : Int) = 2 ^ 32 - 1 from rfl, this]
    omega
  have e3 : bits .and .u64 0 4294967295 = 0 := by decide
  have e4 : (n : Int) / 4294967296 = 0 := by omega
  have e5 : (n : Int) / 2 ^ 32 = 0 := by omega
  have e6 : IntKind.u64.wrap (n : Int) = n := wraps_u64 _ (by omega) (by omega)
  go_enter Tryd.func36, Tryd.ntmps36
  go_wp2
  go_ret2
  exact ⟨rfl, rfl⟩

theorem mul_one (n : Nat) (w : World) (h : n ≤ 1000000) : Calls Tryd.prog 29 #[.int .u64 1, .int .u64 n] w fun e w' => e = .returned (.tuple #[.int .u64 0, .int .u64 n]) ∧ w' = w := by
  have e6 : IntKind.u64.wrap (n : Int) = n := wraps_u64 _ (by omega) (by omega)
  go_enter Tryd.func29, Tryd.ntmps29
  go_wp2_with (go_at_call 36; refine (mul64_one n w h).mono ?_; rintro e w1 ⟨rfl, hw⟩; subst w1)
  go_ret2
  exact ⟨rfl, rfl⟩

end Go.Proofs.YtjkfmnahmbnbnaaDoor
