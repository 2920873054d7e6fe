/- front, unended. -/
import Derived.Test.YthaibdflehnbbaaWRoom
namespace Go.Proofs.Ythaibdflehnbbaa
open Go.RowKit

set_option maxHeartbeats 400000 in
theorem front_any (ao : Option Addr) (n c m : Nat) (w : World) (h : n ≤ c) :
    Calls Try.prog 45 #[.slice ao n c, .int .i64 m] w fun e w' => e = .returned (.slice ao (min n m) c) ∧ w' = w := by
  by_cases hc : n ≤ m
  · have e : min n m = n := by omega
    rw [e]
    go_enter Try.func45, Try.ntmps45
    go_wp2
    go_ret
    exact ⟨rfl, rfl⟩
  · have e : min n m = m := by omega
    rw [e]
    go_enter Try.func45, Try.ntmps45
    go_wp2
    go_ret
    exact ⟨rfl, rfl⟩

theorem unended_any (ao : Option Addr) (n c m : Nat) (w : World) :
    Calls Try.prog 46 #[.slice ao n c, .int .i64 m] w fun e w' => e = .returned (.int .i64 (if n < m then 3 else 5)) ∧ w' = w := by
  by_cases hc : n < m
  · rw [if_pos hc]
    go_enter Try.func46, Try.ntmps46
    go_wp2
    go_ret
    exact ⟨rfl, rfl⟩
  · rw [if_neg hc]
    go_enter Try.func46, Try.ntmps46
    go_wp2
    go_ret
    exact ⟨rfl, rfl⟩

end Go.Proofs.Ythaibdflehnbbaa
