/- The document's Check and Codes; ints. -/
import Derived.Test.YtjipohcacimkmaaWCodes
import Derived.Deep.RegionWith
namespace Go.Proofs.Ytjipohcacimkmaa
open Go.RowKit

theorem er_bad (L : Nat → Int) (n : Nat) (h : 288 < n ∨ ¬ ∀ j, j < n → Lm (L j)) : fu L n = false ∧ er L n = 1 := by
  have hk : okL L n = false := by
    cases hq : okL L n
    · rfl
    · have := (okL_iff L n).1 hq
      rcases h with h | h
      · omega
      · exact absurd this.2 h
  rw [fu, er, hk]
  exact ⟨rfl, by simp⟩

theorem er_over (L : Nat → Int) (n : Nat) (h : n ≤ 288) (hL : ∀ j, j < n → Lm (L j)) (hg : 32768 < G L 15 n) : fu L n = false ∧ er L n = 2 := by
  have hk : okL L n = true := (okL_iff L n).2 ⟨h, hL⟩
  have e1 : (G L 15 n == 32768) = false := by simp; omega
  rw [fu, er, hk, e1, if_pos rfl, if_pos hg]
  exact ⟨rfl, rfl⟩

theorem er_fits (L : Nat → Int) (n : Nat) (h : n ≤ 288) (hL : ∀ j, j < n → Lm (L j)) (hg : G L 15 n ≤ 32768) : fu L n = (G L 15 n == 32768) ∧ er L n = 0 := by
  have hk : okL L n = true := (okL_iff L n).2 ⟨h, hL⟩
  rw [fu, er, hk, if_pos rfl, if_neg (by omega), Bool.true_and]
  exact ⟨rfl, rfl⟩

set_option maxHeartbeats 1000000 in
theorem xcheck_any (ao : Option Addr) (n c : Nat) (L : Nat → Int) (w : World) (h : Ri w ao n c L) :
    Calls Try.prog 11 #[.slice ao n c] w fun e w' => e = .returned (.tuple #[.bool (fu L n), .int .i64 (er L n)]) ∧ w' = w := by
  by_cases h288 : 288 < n
  · have hd : decide ((288 : Int) < (n : Int)) = true := by simp; omega
    have he := er_bad L n (.inl h288)
    rw [he.1, he.2]
    clear h288 he h
    go_enter Try.func11, Try.ntmps11
    go_wp2
    go_ret2
    exact ⟨rfl, rfl⟩
  · have hd : decide ((288 : Int) < (n : Int)) = false := by simp; omega
    have hn : n ≤ 288 := by omega
    clear h288
    go_enter Try.func11, Try.ntmps11
    go_wp2
    go_loop [4, 5] (fun sv i => ∃ k : Nat, k ≤ n ∧ i = .int .i64 k ∧ sv = .int .i64 (G L 15 k) ∧ ∀ j, j < k → Lm (L j)) (fun _ i => n - (intOf i).toNat)
    case atStart => exact ⟨0, by omega, rfl, rfl, fun j hj => by omega⟩
    case round =>
      obtain ⟨k, hk, rfl, rfl, hall⟩ := hrel
      have hg := G_bound L k
      by_cases hlt : k < n
      · obtain ⟨b, off, rfl, hcell⟩ := h.plain (by omega)
        have hck := hcell k hlt
        clear hcell h hd
        by_cases hL : Lm (L k)
        · have HA : Hid (∀ j, j < k + 1 → Lm (L j)) := fun j hj => by
            rcases Nat.lt_or_ge j k with h' | h'
            · exact hall j h'
            · obtain rfl : j = k := by omega
              exact hL
          obtain ⟨x, hx⟩ := Int.eq_ofNat_of_zero_le hL.1
          have hx15 : x ≤ 15 := by have := hL.2; omega
          rw [hx] at hck
          by_cases hx0 : x = 0
          · have HG : Hid (G L 15 (k + 1) = G L 15 k) := G_same L k (by omega)
            subst hx0
            clear hall hL hx
            go_wp2
            go_round
            case rel => exact ⟨k + 1, by omega, by go_num, by rw [HG.out], HA.out⟩
            case measure => simp [intOf]; omega
          · have HG : Hid (G L 15 (k + 1) = G L 15 k + 2 ^ (15 - x)) := G_put L k x hx (by omega) hx15
            have e3 := p2_le (15 - x) 15 (by omega)
            have e4 := p2 (15 - x)
            have e5 : (2 : Int) ^ 15 = 32768 := rfl
            have hxp : (0 : Int) < (x : Int) := by omega
            obtain ⟨y, hy⟩ : ∃ y : Nat, y = 15 - x := ⟨_, rfl⟩
            have ey : (15 : Int) - (x : Int) = (y : Int) := by omega
            rw [← hy] at e3 e4
            have hy15 : y ≤ 15 := by omega
            have HY : Hid (y = 15 - x) := hy
            have hq2 : (2 : Int) ^ y ≤ 32768 := by omega
            have d1 : decide ((x : Int) < 0) = false := by simp
            have d2 : decide ((15 : Int) < (x : Int)) = false := by simp; omega
            clear hall hL hx e3 e5 hy
            go_wp2
            go_round
            case rel => exact ⟨k + 1, by omega, by go_num, by rw [HG.out, ← HY.out], HA.out⟩
            case measure => simp [intOf]; omega
        · have he := er_bad L n (.inr (fun h' => hL (h' k hlt)))
          have HE : Hid (fu L n = false ∧ er L n = 1) := he
          by_cases hneg : L k < 0
          · have d1 : decide (L k < 0) = true := by simp; omega
            clear hL he hneg hall
            go_wp2
            go_ret2
            exact ⟨by rw [HE.out.1, HE.out.2] <;> rfl, rfl⟩
          · have d1 : decide (L k < 0) = false := by simp; omega
            have d2 : decide (15 < L k) = true := by unfold Lm at hL; simp; omega
            clear hL he hneg hall
            go_wp2
            go_ret2
            exact ⟨by rw [HE.out.1, HE.out.2] <;> rfl, rfl⟩
      · obtain rfl : k = n := by omega
        clear h hd
        by_cases hgt : 32768 < G L 15 k
        · have HE : Hid (fu L k = false ∧ er L k = 2) := er_over L k hn hall hgt
          clear hall
          go_wp2
          go_ret2
          exact ⟨by rw [HE.out.1, HE.out.2] <;> rfl, rfl⟩
        · have HE : Hid (fu L k = (G L 15 k == 32768) ∧ er L k = 0) := er_fits L k hn hall (by omega)
          clear hall
          go_wp2
          go_ret2
          exact ⟨by rw [HE.out.1, HE.out.2] <;> rfl, rfl⟩

end Go.Proofs.Ytjipohcacimkmaa
