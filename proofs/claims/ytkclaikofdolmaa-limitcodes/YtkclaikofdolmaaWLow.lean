/- mayBe, lowest, Turn. -/
import Derived.Test.YtkclaikofdolmaaFrame
namespace Go.Proofs.Ytkclaikofdolmaa
open Go.RowKit

theorem Try.info5 : (Try.prog.info? 5).map (fun i => (i.zero, i.size, i.bytes)) = some (some (.int .u8 0), 1, 1) := by kernel_rfl
theorem Try.info4 : (Try.prog.info? 4).map (fun i => (i.zero, i.size, i.bytes)) = some (some (.bool false), 1, 1) := by kernel_rfl

theorem mayBe_no (n : Int) (w : World) (h : n < 0 ∨ 24 < n) : Calls Try.prog 54 #[.int .i64 n] w fun e w' => e = .returned (.bool false) ∧ w' = w := by
  by_cases h0 : n < 0
  · have hd : decide (0 ≤ n) = false := by simp; omega
    clear h
    go_enter Try.func54, Try.ntmps54
    go_wp2
    go_ret
    exact ⟨rfl, rfl⟩
  · have hd : decide (0 ≤ n) = true := by simp; omega
    have hd2 : decide (n ≤ 24) = false := by simp; omega
    clear h
    go_enter Try.func54, Try.ntmps54
    go_wp2
    go_ret
    exact ⟨rfl, rfl⟩

theorem mayBe_yes (n : Nat) (w : World) (h : n ≤ 24) : Calls Try.prog 54 #[.int .i64 n] w fun e w' => e = .returned (.bool true) ∧ w' = w := by
  have hd : decide (0 ≤ (n : Int)) = true := by simp
  have hd2 : decide ((n : Int) ≤ 24) = true := by simp; omega
  go_enter Try.func54, Try.ntmps54
  go_wp2
  go_ret
  exact ⟨rfl, rfl⟩

theorem lowest_any (v : Int) (n : Nat) (w : World) (h : n ≤ 24) (h0 : 0 ≤ v) (h1 : v < 18446744073709551616) : Calls Try.prog 56 #[.int .u64 v, .int .i64 n] w fun e w' => e = .returned (.int .u64 (v % 2 ^ n)) ∧ w' = w := by
  have hp := p2 n
  have hle := p2_le n 24 h
  have e1 : IntKind.u64.wrap (2 ^ n) = 2 ^ n := wraps_u64 _ (by omega) (by omega)
  have e2 : IntKind.u64.wrap (2 ^ n - 1) = 2 ^ n - 1 := wraps_u64 _ (by omega) (by omega)
  have e3 := u64_mask v n h h0 h1
  clear hp hle
  go_enter Try.func56, Try.ntmps56
  go_wp2
  go_ret
  exact ⟨rfl, rfl⟩

theorem turn_step (t v : Int) (k : Nat) (hk : k < 24) (t0 : 0 ≤ t) (t1 : t < 2 ^ k) : bits .or .i64 (wrap64 (t * 2)) (bits .and .i64 v 1) = 2 * t + v % 2 := by
  have hle := p2_le k 24 (by omega)
  rw [or_comm', i64_one, show t * 2 = t * 2 ^ 1 from rfl, i64_put 1 24 _ _ (by omega) (by omega) t0 (by omega) (by omega)]
  omega

theorem turn_no (v n : Int) (w : World) (h : n < 0 ∨ 24 < n) : Calls Try.prog 53 #[.int .i64 v, .int .i64 n] w fun e w' => e = .returned (.int .i64 0) ∧ w' = w := by
  go_enter Try.func53, Try.ntmps53
  go_wp2_with (go_at_call 54; refine (mayBe_no n w h).mono ?_; rintro e w1 ⟨rfl, rfl⟩)
  go_ret
  exact ⟨rfl, rfl⟩

set_option maxHeartbeats 400000 in
theorem turn_yes (v : Int) (n : Nat) (w : World) (h : n ≤ 24) : Calls Try.prog 53 #[.int .i64 v, .int .i64 n] w fun e w' => e = .returned (.int .i64 (T v n)) ∧ w' = w := by
  go_enter Try.func53, Try.ntmps53
  go_wp2_with (go_at_call 54; refine (mayBe_yes n w h).mono ?_; rintro e _ ⟨rfl, rfl⟩)
  go_loop [0, 5, 10] (fun u t i => ∃ k : Nat, k ≤ n ∧ u = .int .i64 (v / 2 ^ k) ∧ t = .int .i64 (T v k) ∧ i = .int .i64 k) (fun _ _ i => n - (intOf i).toNat)
  case atStart => exact ⟨0, by omega, by simp, rfl, rfl⟩
  case round =>
    obtain ⟨k, hk, rfl, rfl, rfl⟩ := hrel
    by_cases hlt : k < n
    · have hb := T_bound v k
      have e1 := turn_step (T v k) (v / 2 ^ k) k (by omega) hb.1 hb.2
      have HE : Hid (bits .or .i64 (wrap64 (T v k * 2)) (bits .and .i64 (v / 2 ^ k) 1) = 2 * T v k + v / 2 ^ k % 2) := e1
      clear hb e1
      go_wp2
      go_round
      case rel => exact ⟨k + 1, by omega, by rw [← div_div]; rfl, by rw [HE.out]; rfl, by go_num⟩
      case measure => simp [intOf]; omega
    · obtain rfl : k = n := by omega
      go_wp2
      go_ret
      exact ⟨rfl, rfl⟩

end Go.Proofs.Ytkclaikofdolmaa
