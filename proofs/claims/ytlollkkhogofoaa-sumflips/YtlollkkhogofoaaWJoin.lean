/- Join: the program's, the document's. -/
import Derived.Test.YtlollkkhogofoaaWAdler
namespace Go.Proofs.Ytlollkkhogofoaa
open Go.RowKit

/-- Two sums joined. -/
def j1 (a1 b1 : Int) : Int := (a1 - 1 + b1) % MD
def j2 (a1 a2 b2 n : Int) : Int := (a2 + n * (a1 - 1) + b2) % MD

theorem jn_num (a1 a2 b1 b2 n : Int) :
    ((a1 + 65520) % 65521 + b1) % 65521 = j1 a1 b1 ∧ 0 ≤ n % 65521 * ((a1 + 65520) % 65521) ∧ n % 65521 * ((a1 + 65520) % 65521) ≤ 4292870400 ∧ (n % 65521 * ((a1 + 65520) % 65521) + a2 + b2) % 65521 = j2 a1 a2 b2 n := by
  unfold j1 j2 MD
  have e0 : 0 ≤ n % 65521 := by omega
  have e1 : n % 65521 ≤ 65520 := by omega
  have e2 : 0 ≤ (a1 + 65520) % 65521 := by omega
  have e3 : (a1 + 65520) % 65521 ≤ 65520 := by omega
  refine ⟨by omega, Int.mul_nonneg e0 e2, Int.mul_le_mul e1 e3 e2 (by omega), ?_⟩
  have hq : n = 65521 * (n / 65521) + n % 65521 := by omega
  have hm : ∃ q, (a1 + 65520) % 65521 = a1 - 1 + 65521 * q := ⟨1 - (a1 + 65520) / 65521, by omega⟩
  obtain ⟨q, hq2⟩ := hm
  have key : a2 + n * (a1 - 1) + b2 = (n % 65521 * ((a1 + 65520) % 65521) + a2 + b2) + 65521 * (n / 65521 * (a1 - 1) - n % 65521 * q) := by
    rw [hq2, Int.mul_add]
    have s1 : n * (a1 - 1) = 65521 * (n / 65521 * (a1 - 1)) + n % 65521 * (a1 - 1) := by
      conv => lhs; rw [hq]
      rw [Int.add_mul, Int.mul_assoc]
    have s2 : n % 65521 * (65521 * q) = 65521 * (n % 65521 * q) := Int.mul_left_comm _ _ _
    rw [s1, s2, Int.mul_sub]
    omega
  rw [key, Int.add_mul_emod_self_left]

theorem jn_fin (a1 a2 b1 b2 n : Int) (h2 : 0 ≤ a2 ∧ a2 < 65521) (h4 : 0 ≤ b2 ∧ b2 < 65521) :
    bits .or .u32 ((n % 65521 * ((a1 + 65521 - 1) % 65521) + a2 + b2) % 4294967296 % 65521 * 65536) ((a1 + 65521 - 1 + b1) % 65521) = ad (j1 a1 b1) (j2 a1 a2 b2 n) := by
  obtain ⟨k1, k2, k3, k4⟩ := jn_num a1 a2 b1 b2 n
  have c1 := md_nn (a1 - 1 + b1)
  have c2 := md_nn (a2 + n * (a1 - 1) + b2)
  rw [show a1 + 65521 - 1 = a1 + 65520 by omega, show (a1 + 65520 + b1) % 65521 = ((a1 + 65520) % 65521 + b1) % 65521 by omega, k1, Int.emod_eq_of_lt (a := n % 65521 * ((a1 + 65520) % 65521) + a2 + b2) (b := 4294967296) (by omega) (by omega), k4]
  exact ad_or _ _ c1.1 (by unfold j1; omega) c2.1 (by unfold j2; omega)

theorem jr_num (a1 a2 b2 n : Int) (h1 : 0 ≤ a1 ∧ a1 < 65521) : 0 ≤ n % 65521 * (a1 + 65521 - 1) ∧ n % 65521 * (a1 + 65521 - 1) ≤ 65520 * 131040 ∧ (a2 + b2 + n % 65521 * (a1 + 65521 - 1)) % 65521 = j2 a1 a2 b2 n := by
  refine ⟨Int.mul_nonneg (by omega) (by omega), Int.mul_le_mul (by omega) (by omega) (by omega) (by omega), ?_⟩
  unfold j2 MD
  have hq : n = 65521 * (n / 65521) + n % 65521 := by omega
  have key : a2 + b2 + n % 65521 * (a1 + 65521 - 1) = (a2 + n * (a1 - 1) + b2) + 65521 * (n % 65521 - n / 65521 * (a1 - 1)) := by
    have s1 : n * (a1 - 1) = 65521 * (n / 65521 * (a1 - 1)) + n % 65521 * (a1 - 1) := by
      conv => lhs; rw [hq]
      rw [Int.add_mul, Int.mul_assoc]
    have s2 : n % 65521 * (a1 + 65521 - 1) = n % 65521 * (a1 - 1) + n % 65521 * 65521 := by rw [show a1 + 65521 - 1 = (a1 - 1) + 65521 by omega, Int.mul_add]
    rw [s1, s2, Int.mul_sub]
    omega
  rw [key, Int.add_mul_emod_self_left]

theorem jr_fin (a1 a2 b1 b2 n P : Int) (h1 : 0 ≤ a1 ∧ a1 < 65521) (hP : n % 65521 * (a1 + 65521 - 1) = P) :
    bits .or .u64 ((a2 + b2 + P) % 65521 * 65536) ((a1 + b1 + 65521 - 1) % 65521) % 4294967296 = ad (j1 a1 b1) (j2 a1 a2 b2 n) := by
  obtain ⟨_, _, k⟩ := jr_num a1 a2 b2 n h1
  rw [hP] at k
  have c1 := md_nn (a1 - 1 + b1)
  have c2 := md_nn (a2 + n * (a1 - 1) + b2)
  have e1 : (a1 + b1 + 65521 - 1) % 65521 = j1 a1 b1 := by unfold j1 MD; omega
  have d1 : 0 ≤ j1 a1 b1 ∧ j1 a1 b1 < 65521 := c1
  have d2 : 0 ≤ j2 a1 a2 b2 n ∧ j2 a1 a2 b2 n < 65521 := c2
  rw [k, e1]
  have := bits_join .u64 64 (by decide) wraps_u64 16 (j2 a1 a2 b2 n * 65536) (j1 a1 b1) (by omega) (by omega) (by omega) d1.1 (by omega) (by omega)
  rw [this]
  unfold ad
  omega

set_option maxHeartbeats 1000000 in
theorem join_any (a1 a2 b1 b2 n : Int) (w : World) (h1 : 0 ≤ a1 ∧ a1 < 65521) (h2 : 0 ≤ a2 ∧ a2 < 65521) (h3 : 0 ≤ b1 ∧ b1 < 65521) (h4 : 0 ≤ b2 ∧ b2 < 65521) (h5 : 0 ≤ n) (h6 : n ≤ 1000000000) :
    Calls Try.prog 15 #[.int .u32 (ad a1 a2), .int .u32 (ad b1 b2), .int .i64 n] w fun e w' => e = .returned (.int .u32 (ad (j1 a1 b1) (j2 a1 a2 b2 n))) ∧ w' = w := by
  have F := jn_fin a1 a2 b1 b2 n h2 h4
  have hA := halves_any a1 a2 w h1.1 (by omega) h2.1 (by omega)
  have hB := halves_any b1 b2 w h3.1 (by omega) h4.1 (by omega)
  obtain ⟨A, hAe⟩ : ∃ A, A = ad a1 a2 := ⟨_, rfl⟩
  obtain ⟨B, hBe⟩ : ∃ B, B = ad b1 b2 := ⟨_, rfl⟩
  rw [← hAe] at hA ⊢
  rw [← hBe] at hB ⊢
  clear hAe hBe
  have HA : Hid (Calls Try.prog 21 #[.int .u32 A] w fun e w' => e = .returned (.tuple #[.int .u32 a1, .int .u32 a2]) ∧ w' = w) := hA
  have HB : Hid (Calls Try.prog 21 #[.int .u32 B] w fun e w' => e = .returned (.tuple #[.int .u32 b1, .int .u32 b2]) ∧ w' = w) := hB
  clear hA hB
  obtain ⟨t, ht⟩ : ∃ t, t = n % 65521 := ⟨_, rfl⟩
  have tb : 0 ≤ t ∧ t < 65521 := by omega
  have ht' := ht.symm
  rw [ht'] at F
  have HF : Hid (bits .or .u32 ((t * ((a1 + 65521 - 1) % 65521) + a2 + b2) % 4294967296 % 65521 * 65536) ((a1 + 65521 - 1 + b1) % 65521) = ad (j1 a1 b1) (j2 a1 a2 b2 n)) := F
  have h5' : ¬ n < 0 := by omega
  clear ht F
  go_enter Try.func15, Try.ntmps15
  go_wp2_with fail
  refine HA.out.mono ?_
  rintro e w1 ⟨rfl, hw⟩
  subst hw
  go_wp2_with fail
  refine HB.out.mono ?_
  rintro e w1 ⟨rfl, hw⟩
  subst hw
  go_wp2_with fail
  go_ret
  exact ⟨by rw [← HF.out]; rfl, rfl⟩

set_option maxHeartbeats 1000000 in
theorem rjoin_any (a1 a2 b1 b2 n : Int) (w : World) (h1 : 0 ≤ a1 ∧ a1 < 65521) (h2 : 0 ≤ a2 ∧ a2 < 65521) (h3 : 0 ≤ b1 ∧ b1 < 65521) (h4 : 0 ≤ b2 ∧ b2 < 65521) (h5 : 0 ≤ n) (h6 : n ≤ 1000000000) :
    Calls Try.prog 17 #[.int .u32 (ad a1 a2), .int .u32 (ad b1 b2), .int .i64 n] w fun e w' => e = .returned (.int .u32 (ad (j1 a1 b1) (j2 a1 a2 b2 n))) ∧ w' = w := by
  have x1 := ad_low a1 a2 h1.1 (by omega) h2.1 (by omega)
  have x2 := ad_high a1 a2 h1.1 (by omega)
  have x3 := ad_low b1 b2 h3.1 (by omega) h4.1 (by omega)
  have x4 := ad_high b1 b2 h3.1 (by omega)
  obtain ⟨A, hAe⟩ : ∃ A, A = ad a1 a2 := ⟨_, rfl⟩
  obtain ⟨B, hBe⟩ : ∃ B, B = ad b1 b2 := ⟨_, rfl⟩
  rw [← hAe] at x1 x2 ⊢
  rw [← hBe] at x3 x4 ⊢
  clear hAe hBe
  obtain ⟨t, ht⟩ : ∃ t, t = n % 65521 := ⟨_, rfl⟩
  have tb : 0 ≤ t ∧ t < 65521 := by omega
  have ht' := ht.symm
  have h5' : ¬ n < 0 := by omega
  obtain ⟨r1, r2, _⟩ := jr_num a1 a2 b2 n h1
  obtain ⟨P, hP⟩ : ∃ P, n % 65521 * (a1 + 65521 - 1) = P := ⟨_, rfl⟩
  have HF : Hid (bits .or .u64 ((a2 + b2 + P) % 65521 * 65536) ((a1 + b1 + 65521 - 1) % 65521) % 4294967296 = ad (j1 a1 b1) (j2 a1 a2 b2 n)) := jr_fin a1 a2 b1 b2 n P h1 hP
  rw [hP] at r1 r2
  rw [ht'] at hP
  clear ht
  go_enter Try.func17, Try.ntmps17
  go_wp2_with fail
  go_ret
  exact ⟨by rw [← HF.out]; rfl, rfl⟩

end Go.Proofs.Ytlollkkhogofoaa
