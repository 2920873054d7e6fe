/- mayBe, lowest, Turn. -/
import Derived.Test.YtjkfmnahmbnbnaaDoorFrame
namespace Go.Proofs.YtjkfmnahmbnbnaaDoor
open Go.RowKit

theorem Tryd.info5 : (Tryd.prog.info? 5).map (fun i => (i.zero, i.size, i.bytes)) = some (some (.int .u8 0), 1, 1) := by kernel_rfl
theorem Tryd.info4 : (Tryd.prog.info? 4).map (fun i => (i.zero, i.size, i.bytes)) = some (some (.bool false), 1, 1) := by kernel_rfl

theorem mayBe_no (n : Int) (w : World) (h : n < 0 ∨ 24 < n) : Calls Tryd.prog 45 #[.int .i64 n] w fun e w' => e = .returned (.bool false) ∧ w' = w := by
  by_cases h0 : n < 0
  · have hd : decide (0 ≤ n) = false := by simp; omega
    clear h
    go_enter Tryd.func45, Tryd.ntmps45
    go_wp2
    go_ret
    exact ⟨rfl, rfl⟩
  · have hd : decide (0 ≤ n) = true := by simp; omega
    have hd2 : decide (n ≤ 24) = false := by simp; omega
    clear h
    go_enter Tryd.func45, Tryd.ntmps45
    go_wp2
    go_ret
    exact ⟨rfl, rfl⟩

theorem mayBe_yes (n : Nat) (w : World) (h : n ≤ 24) : Calls Tryd.prog 45 #[.int .i64 n] w fun e w' => e = .returned (.bool true) ∧ w' = w := by
  have hd : decide (0 ≤ (n : Int)) = true := by simp
  have hd2 : decide ((n : Int) ≤ 24) = true := by simp; omega
  go_enter Tryd.func45, Tryd.ntmps45
  go_wp2
  go_ret
  exact ⟨rfl, rfl⟩

theorem lowest_any (v : Int) (n : Nat) (w : World) (h : n ≤ 24) (h0 : 0 ≤ v) (h1 : v < 18446744073709551616) : Calls Tryd.prog 47 #[.int .u64 v, .int .i64 n] w fun e w' => e = .returned (.int .u64 (v % 2 ^ n)) ∧ w' = w := by
  have hp := p2 n
  have hle := p2_le n 24 h
  have e1 : IntKind.u64.wrap (2 ^ n) = 2 ^ n := wraps_u64 _ (by omega) (by omega)
  have e2 : IntKind.u64.wrap (2 ^ n - 1) = 2 ^ n - 1 := wraps_u64 _ (by omega) (by omega)
  have e3 := u64_mask v n h h0 h1
  clear hp hle
  go_enter Tryd.func47, Tryd.ntmps47
  go_wp2
  go_ret
  exact ⟨rfl, rfl⟩

theorem turn_step (t v : Int) (k : Nat) (hk : k < 24) (t0 : 0 ≤ t) (t1 : t < 2 ^ k) : bits .or .i64 (wrap64 (t * 2)) (bits .and .i64 v 1) = 2 * t + v % 2 := by
  have hle := p2_le k 24 (by omega)
  rw [or_comm', i64_one, show t * 2 = t * 2 ^ 1 from rfl, i64_put 1 24 _ _ (by omega) (by omega) t0 (by omega) (by omega)]
  omega

end Go.Proofs.YtjkfmnahmbnbnaaDoor
