/- Cost of a code. -/
import Derived.Test.YtkclaikofdolmaaWCPut
namespace Go.Proofs.Ytkclaikofdolmaa
open Go.RowKit

/-- The bits of the first k symbols, each times its count. -/
def CS (L D : Nat → Int) : Nat → Int
  | 0 => 0
  | k + 1 => CS L D k + L k * D k

theorem CS_bound (L D : Nat → Int) (k : Nat) (hL : ∀ j, j < k → Lm (L j)) (hD : ∀ j, j < k → 0 ≤ D j ∧ D j ≤ 16777216) : 0 ≤ CS L D k ∧ CS L D k ≤ 251658240 * k := by
  induction k with
  | zero => simp [CS]
  | succ k ih =>
    have h1 := ih (fun j hj => hL j (by omega)) (fun j hj => hD j (by omega))
    have h2 := hL k (by omega)
    have h3 := hD k (by omega)
    have h4 : 0 ≤ L k * D k := Int.mul_nonneg h2.1 h3.1
    have h5 : L k * D k ≤ 15 * 16777216 := Int.mul_le_mul h2.2 h3.2 h3.1 (by omega)
    simp only [CS]
    omega

set_option maxRecDepth 100000 in
set_option maxHeartbeats 4000000 in
theorem cost_any (R K : Nat) (L D : Nat → Int) (n : Nat) (co : Option Addr) (cc : Nat) (w : World) (hC : Cod w R K L n) (hr : Ri w co n cc D) (hD : ∀ j, j < n → 0 ≤ D j ∧ D j ≤ 16777216) :
    Calls Try.prog 18 #[.pointer (some ⟨R, 0, none⟩), .slice co n cc] w fun e w' => e = .returned (.int .i64 (CS L D n)) ∧ w' = w.drew := by
  obtain ⟨la, lc, cg, sg, sy, M, dp, hC⟩ := hC
  obtain ⟨h288, hL, hf⟩ := er_zero L n hC.ok
  have c0 := hC.row.cell (i := 0) (by omega)
  rw [show ccells (.slice la n lc) (.slice (some ⟨cg, 0, none⟩) n n) (.slice (some ⟨sg, 0, none⟩) M M) (C L n) (F L n) dp 0 = .slice la n lc from rfl] at c0
  have hle := hC.rl.le
  go_enter Try.func18, Try.ntmps18
  go_wp2_with fail
  go_region
  have rl := hC.rl.drew
  have rd := hr.drew
  have HLm : Hid (∀ j, j < n → Lm (L j)) := hL
  have HDm : Hid (∀ j, j < n → 0 ≤ D j ∧ D j ≤ 16777216) := hD
  clear hC hr hf c0 hL hD
  go_wp2_with fail
  go_loop [5, 6, 7, 22] (fun cv _ _ i => ∃ k : Nat, k ≤ n ∧ i = .int .i64 k ∧ cv = .int .i64 (CS L D k)) (fun _ _ _ i => n - (intOf i).toNat)
  case atStart => exact ⟨0, by omega, rfl, rfl⟩
  case round =>
    obtain ⟨k, hk, rfl, rfl⟩ := hrel
    by_cases hlt : k < n
    · obtain ⟨b, off, rfl, hc1⟩ := rl.plain (by omega)
      obtain ⟨b', off', rfl, hc2⟩ := rd.plain (by omega)
      have c1 := hc1 k hlt
      have c2 := hc2 k hlt
      have hb := CS_bound L D k (fun j hj => HLm.out j (by omega)) (fun j hj => HDm.out j (by omega))
      have h4 : 0 ≤ L k * D k := Int.mul_nonneg (HLm.out k hlt).1 (HDm.out k hlt).1
      have h5 : L k * D k ≤ 15 * 16777216 := Int.mul_le_mul (HLm.out k hlt).2 (HDm.out k hlt).2 (HDm.out k hlt).1 (by omega)
      have HS : Hid (CS L D (k + 1) = CS L D k + L k * D k) := rfl
      clear rl rd hc1 hc2
      go_wp2
      go_round
      case rel => exact ⟨k + 1, by omega, by go_num, by rw [HS.out]⟩
      case measure => simp [intOf]; omega
    · obtain rfl : k = n := by omega
      clear rl rd
      go_wp2
      go_ret
      exact ⟨rfl, rfl⟩

end Go.Proofs.Ytkclaikofdolmaa
