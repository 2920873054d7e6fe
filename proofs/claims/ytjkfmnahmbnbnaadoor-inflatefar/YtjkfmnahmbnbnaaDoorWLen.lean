/- scaled, Length, Distance. -/
import Derived.Test.YtjkfmnahmbnbnaaDoorInts
namespace Go.Proofs.YtjkfmnahmbnbnaaDoor
open Go.RowKit

/-- What scaled answers of step s, by groups of g. -/
def sb (g s : Nat) : Nat := if s < g then s else (g + s % g) * 2 ^ (s / g - 1)
def sx (g s : Nat) : Nat := if s < g then 0 else s / g - 1

theorem scaled4 (s : Nat) (w : World) (h : s < 30) : Calls Tryd.prog 24 #[.int .i64 s, .int .i64 4] w fun e w' => e = .returned (.tuple #[.int .i64 (sb 4 s), .int .i64 (sx 4 s)]) ∧ w' = w := by
  by_cases hs : s < 4
  · have d : (s : Int) < 4 := by omega
    have e1 : sb 4 s = s := by rw [sb, if_pos hs]
    have e2 : sx 4 s = 0 := by rw [sx, if_pos hs]
    rw [e1, e2]
    clear e1 e2 hs
    go_enter Tryd.func24, Tryd.ntmps24
    go_wp2
    go_ret2
    exact ⟨rfl, rfl⟩
  · have d : ¬ (s : Int) < 4 := by omega
    have e1 : sb 4 s = (4 + s % 4) * 2 ^ (s / 4 - 1) := by rw [sb, if_neg hs]
    have e2 : sx 4 s = s / 4 - 1 := by rw [sx, if_neg hs]
    rw [e1, e2]
    obtain ⟨x, hx⟩ : ∃ x, x = s / 4 - 1 := ⟨_, rfl⟩
    have t1 : (s : Int).tdiv 4 = x + 1 := by rw [Int.tdiv_eq_ediv_of_nonneg (by omega)]; omega
    have t1' : (s : Int) / 4 = x + 1 := by omega
    obtain ⟨r, hr⟩ : ∃ r, r = s % 4 := ⟨_, rfl⟩
    have t2 : (s : Int).tmod 4 = r := by rw [Int.tmod_eq_emod_of_nonneg (by omega)]; omega
    have t2' : (s : Int) % 4 = r := by omega
    have hx6 : x ≤ 6 := by omega
    have hr4 : r < 4 := by omega
    rw [← hx, ← hr]
    have hp := p2_le x 6 hx6
    have hp0 := p2 x
    have hb : (4 + (r : Int)) * 2 ^ x ≤ 7 * 64 := Int.mul_le_mul (by omega) (by simpa using hp) (by omega) (by omega)
    have hb0 : 0 ≤ (4 + (r : Int)) * 2 ^ x := Int.mul_nonneg (by omega) (by omega)
    have t3 : IntKind.i64.wrap ((4 + (r : Int)) * 2 ^ x) = (4 + (r : Int)) * 2 ^ x := wraps_i64 _ (by omega) (by omega)
    have t4 : wrap64 ((4 + (r : Int)) * 2 ^ x) = (4 + (r : Int)) * 2 ^ x := IntWalk.wrap64_in _ (by omega)
    have hx64 : ¬ 64 ≤ x := by omega
    clear hp hp0 hb hb0 e1 e2 hs hx hr
    go_enter Tryd.func24, Tryd.ntmps24
    go_wp2
    go_ret2
    refine ⟨?_, rfl⟩
    push_cast
    rfl

theorem scaled2 (s : Nat) (w : World) (h : s < 30) : Calls Tryd.prog 24 #[.int .i64 s, .int .i64 2] w fun e w' => e = .returned (.tuple #[.int .i64 (sb 2 s), .int .i64 (sx 2 s)]) ∧ w' = w := by
  by_cases hs : s < 2
  · have d : (s : Int) < 2 := by omega
    have e1 : sb 2 s = s := by rw [sb, if_pos hs]
    have e2 : sx 2 s = 0 := by rw [sx, if_pos hs]
    rw [e1, e2]
    clear e1 e2 hs
    go_enter Tryd.func24, Tryd.ntmps24
    go_wp2
    go_ret2
    exact ⟨rfl, rfl⟩
  · have d : ¬ (s : Int) < 2 := by omega
    have e1 : sb 2 s = (2 + s % 2) * 2 ^ (s / 2 - 1) := by rw [sb, if_neg hs]
    have e2 : sx 2 s = s / 2 - 1 := by rw [sx, if_neg hs]
    rw [e1, e2]
    obtain ⟨x, hx⟩ : ∃ x, x = s / 2 - 1 := ⟨_, rfl⟩
    have t1 : (s : Int).tdiv 2 = x + 1 := by rw [Int.tdiv_eq_ediv_of_nonneg (by omega)]; omega
    have t1' : (s : Int) / 2 = x + 1 := by omega
    obtain ⟨r, hr⟩ : ∃ r, r = s % 2 := ⟨_, rfl⟩
    have t2 : (s : Int).tmod 2 = r := by rw [Int.tmod_eq_emod_of_nonneg (by omega)]; omega
    have t2' : (s : Int) % 2 = r := by omega
    have hx6 : x ≤ 13 := by omega
    have hr4 : r < 2 := by omega
    rw [← hx, ← hr]
    have hp := p2_le x 13 hx6
    have hp0 := p2 x
    have hb : (2 + (r : Int)) * 2 ^ x ≤ 3 * 8192 := Int.mul_le_mul (by omega) (by simpa using hp) (by omega) (by omega)
    have hb0 : 0 ≤ (2 + (r : Int)) * 2 ^ x := Int.mul_nonneg (by omega) (by omega)
    have t3 : IntKind.i64.wrap ((2 + (r : Int)) * 2 ^ x) = (2 + (r : Int)) * 2 ^ x := wraps_i64 _ (by omega) (by omega)
    have t4 : wrap64 ((2 + (r : Int)) * 2 ^ x) = (2 + (r : Int)) * 2 ^ x := IntWalk.wrap64_in _ (by omega)
    have hx64 : ¬ 64 ≤ x := by omega
    clear hp hp0 hb hb0 e1 e2 hs hx hr
    go_enter Tryd.func24, Tryd.ntmps24
    go_wp2
    go_ret2
    refine ⟨?_, rfl⟩
    push_cast
    rfl

/-- A length's symbol: the least length, the bits behind. -/
def lb (s : Nat) : Nat := if s = 285 then 258 else 3 + sb 4 (s - 257)
def lx (s : Nat) : Nat := if s = 285 then 0 else sx 4 (s - 257)
/-- A distance's. -/
def db (s : Nat) : Nat := 1 + sb 2 s
def dx (s : Nat) : Nat := sx 2 s

theorem lb_le : ∀ s, s < 286 → 257 ≤ s → 3 ≤ lb s ∧ lb s ≤ 258 ∧ lx s ≤ 5 := by decide +kernel
theorem db_le : ∀ s, s < 30 → 1 ≤ db s ∧ db s ≤ 24577 ∧ dx s ≤ 13 := by decide +kernel

theorem sb4_le (s : Nat) (h : s < 28) : sb 4 s ≤ 300 ∧ sx 4 s ≤ 6 := by
  have : ∀ s, s < 28 → sb 4 s ≤ 300 ∧ sx 4 s ≤ 6 := by decide +kernel
  exact this s h

theorem sb2_le (s : Nat) (h : s < 30) : sb 2 s ≤ 30000 ∧ sx 2 s ≤ 13 := by
  have : ∀ s, s < 30 → sb 2 s ≤ 30000 ∧ sx 2 s ≤ 13 := by decide +kernel
  exact this s h

theorem length_yes (s : Nat) (w : World) (h0 : 257 ≤ s) (h1 : s ≤ 285) : Calls Tryd.prog 10 #[.int .i64 s] w fun e w' => e = .returned (.tuple #[.int .i64 (lb s), .int .i64 (lx s), .bool true]) ∧ w' = w := by
  have d1 : decide ((s : Int) < 257) = false := by simp; omega
  have d2 : decide ((285 : Int) < s) = false := by simp; omega
  by_cases hs : s = 285
  · subst hs
    go_enter Tryd.func10, Tryd.ntmps10
    go_wp2
    go_ret3
    exact ⟨rfl, rfl⟩
  · have e1 : lb s = 3 + sb 4 (s - 257) := by rw [lb, if_neg hs]
    have e2 : lx s = sx 4 (s - 257) := by rw [lx, if_neg hs]
    rw [e1, e2]
    obtain ⟨k, rfl⟩ : ∃ k, s = k + 257 := ⟨s - 257, by omega⟩
    rw [show k + 257 - 257 = k by omega]
    have hb := sb4_le k (by omega)
    have hk : ((k + 257 : Nat) : Int) - 257 = k := by omega
    have d3 : (((k + 257 : Nat) : Int) == 285) = false := by simp; omega
    have d4 : ¬ k + 257 = 285 := hs
    clear e1 e2
    obtain ⟨z, hz⟩ : ∃ z : Int, z = ((k + 257 : Nat) : Int) := ⟨_, rfl⟩
    rw [← hz] at d1 d2 d3 hk ⊢
    have HZ : Hid (z = ((k + 257 : Nat) : Int)) := hz
    have hzw : IntKind.i64.wrap (z - 257) = k := by rw [hk]; exact wraps_i64 _ (by omega) (by omega)
    have z1 : 257 ≤ z := by omega
    have z2 : z ≤ 285 := by omega
    clear hz d4 hs h0 h1
    go_enter Tryd.func10, Tryd.ntmps10
    go_wp2_with (go_at_call 24; refine (scaled4 k w (by have := HZ.out; omega)).mono ?_; rintro e w1 ⟨rfl, hw⟩; subst w1)
    go_ret3
    refine ⟨?_, rfl⟩
    push_cast
    rfl

theorem length_no (n : Int) (w : World) (h : n < 257 ∨ 285 < n) : Calls Tryd.prog 10 #[.int .i64 n] w fun e w' => e = .returned (.tuple #[.int .i64 0, .int .i64 0, .bool false]) ∧ w' = w := by
  by_cases h1 : n < 257
  · clear h
    go_enter Tryd.func10, Tryd.ntmps10
    go_wp2
    go_ret3
    exact ⟨rfl, rfl⟩
  · have h2 : 285 < n := by omega
    have d1 : decide (n < 257) = false := by simp; omega
    clear h
    go_enter Tryd.func10, Tryd.ntmps10
    go_wp2
    go_ret3
    exact ⟨rfl, rfl⟩

theorem distance_yes (s : Nat) (w : World) (h : s < 30) : Calls Tryd.prog 12 #[.int .i64 s] w fun e w' => e = .returned (.tuple #[.int .i64 (db s), .int .i64 (dx s), .bool true]) ∧ w' = w := by
  have d1 : decide ((s : Int) < 0) = false := by simp
  have d2 : decide ((30 : Int) ≤ s) = false := by simp; omega
  have hb := sb2_le s h
  unfold db dx
  go_enter Tryd.func12, Tryd.ntmps12
  go_wp2_with (go_at_call 24; refine (scaled2 s w h).mono ?_; rintro e w1 ⟨rfl, hw⟩; subst w1)
  go_ret3
  refine ⟨?_, rfl⟩
  push_cast
  rfl

theorem distance_no (n : Int) (w : World) (h : n < 0 ∨ 29 < n) : Calls Tryd.prog 12 #[.int .i64 n] w fun e w' => e = .returned (.tuple #[.int .i64 0, .int .i64 0, .bool false]) ∧ w' = w := by
  by_cases h1 : n < 0
  · clear h
    go_enter Tryd.func12, Tryd.ntmps12
    go_wp2
    go_ret3
    exact ⟨rfl, rfl⟩
  · have h2 : 30 ≤ n := by omega
    have d1 : decide (n < 0) = false := by simp; omega
    clear h
    go_enter Tryd.func12, Tryd.ntmps12
    go_wp2
    go_ret3
    exact ⟨rfl, rfl⟩

end Go.Proofs.YtjkfmnahmbnbnaaDoor
