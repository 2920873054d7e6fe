/- isNoLength, slices.IndexFunc, slices.ContainsFunc. -/
import Derived.Test.YtjkfmnahmbnbnaaDoorInts
namespace Go.Proofs.YtjkfmnahmbnbnaaDoor
open Go.RowKit

/-- A length that may be. -/
def Lm (n : Int) : Prop := 0 ≤ n ∧ n ≤ 15

theorem noLen_no (n : Int) (w : World) (h : Lm n) : Calls Tryd.prog 61 #[.int .i64 n] w fun e w' => e = .returned (.bool false) ∧ w' = w := by
  obtain ⟨h0, h1⟩ := h
  have d1 : decide (n < 0) = false := by simp; omega
  have d2 : decide (15 < n) = false := by simp; omega
  clear h0 h1
  go_enter Tryd.func61, Tryd.ntmps61
  go_wp2
  go_ret
  exact ⟨rfl, rfl⟩

theorem noLen_yes (n : Int) (w : World) (h : ¬ Lm n) : Calls Tryd.prog 61 #[.int .i64 n] w fun e w' => e = .returned (.bool true) ∧ w' = w := by
  by_cases h0 : n < 0
  · have d1 : decide (n < 0) = true := by simp; omega
    clear h h0
    go_enter Tryd.func61, Tryd.ntmps61
    go_wp2
    go_ret
    exact ⟨rfl, rfl⟩
  · have d1 : decide (n < 0) = false := by simp; omega
    have d2 : decide (15 < n) = true := by unfold Lm at h; simp; omega
    clear h h0
    go_enter Tryd.func61, Tryd.ntmps61
    go_wp2
    go_ret
    exact ⟨rfl, rfl⟩

set_option maxHeartbeats 400000 in
theorem index_any (ao : Option Addr) (n c : Nat) (L : Nat → Int) (w : World) (h : Ri w ao n c L) (hn : n ≤ 1000000) :
    Calls Tryd.prog 63 #[.slice ao n c, .func (.func 61) #[] #[]] w fun e w' => ∃ r : Int, e = .returned (.int .i64 r) ∧ w' = w ∧ ((r = -1 ∧ ∀ j, j < n → Lm (L j)) ∨ (0 ≤ r ∧ ¬ ∀ j, j < n → Lm (L j))) := by
  go_enter Tryd.func63, Tryd.ntmps63
  go_wp2
  go_loop [5, 8] (fun _ i => ∃ k : Nat, k ≤ n ∧ i = .int .i64 k ∧ ∀ j, j < k → Lm (L j)) (fun _ i => n - (intOf i).toNat)
  case atStart => exact ⟨0, by omega, rfl, fun j hj => by omega⟩
  case round =>
    obtain ⟨k, hk, rfl, hall⟩ := hrel
    by_cases hlt : k < n
    · obtain ⟨b, off, rfl, hcell⟩ := h.plain (by omega)
      have hck := hcell k hlt
      clear hcell h
      by_cases hL : Lm (L k)
      · have HA : Hid (∀ j, j < k + 1 → Lm (L j)) := fun j hj => by
          rcases Nat.lt_or_ge j k with h' | h'
          · exact hall j h'
          · obtain rfl : j = k := by omega
            exact hL
        clear hall
        go_wp2_with (go_at_call 61; refine (noLen_no (L k) w hL).mono ?_; rintro e w1 ⟨rfl, hw⟩; subst w1)
        go_round
        case rel => exact ⟨k + 1, by omega, by go_num, HA.out⟩
        case measure => simp [intOf]; omega
      · have HA : Hid (¬ ∀ j, j < n → Lm (L j)) := fun h' => hL (h' k hlt)
        clear hall
        go_wp2_with (go_at_call 61; refine (noLen_yes (L k) w hL).mono ?_; rintro e w1 ⟨rfl, hw⟩; subst w1)
        go_ret
        exact ⟨_, rfl, rfl, .inr ⟨by omega, HA.out⟩⟩
    · obtain rfl : k = n := by omega
      clear h
      go_wp2
      go_ret
      exact ⟨_, rfl, rfl, .inl ⟨rfl, hall⟩⟩

theorem contains_no (ao : Option Addr) (n c : Nat) (L : Nat → Int) (w : World) (h : Ri w ao n c L) (hn : n ≤ 1000000) (hL : ∀ j, j < n → Lm (L j)) :
    Calls Tryd.prog 60 #[.slice ao n c, .func (.func 61) #[] #[]] w fun e w' => e = .returned (.bool false) ∧ w' = w := by
  go_enter Tryd.func60, Tryd.ntmps60
  go_wp2_with (go_at_call 63; refine (index_any ao n c L w h hn).mono ?_; rintro e w1 ⟨r, rfl, hw, hr⟩; subst w1)
  go_ret
  rcases hr with ⟨rfl, _⟩ | ⟨_, hq⟩
  · exact ⟨rfl, rfl⟩
  · exact absurd hL hq

theorem contains_yes (ao : Option Addr) (n c : Nat) (L : Nat → Int) (w : World) (h : Ri w ao n c L) (hn : n ≤ 1000000) (hL : ¬ ∀ j, j < n → Lm (L j)) :
    Calls Tryd.prog 60 #[.slice ao n c, .func (.func 61) #[] #[]] w fun e w' => e = .returned (.bool true) ∧ w' = w := by
  go_enter Tryd.func60, Tryd.ntmps60
  go_wp2_with (go_at_call 63; refine (index_any ao n c L w h hn).mono ?_; rintro e w1 ⟨r, rfl, hw, hr⟩; subst w1)
  go_ret
  rcases hr with ⟨_, hq⟩ | ⟨h0, _⟩
  · exact absurd hq hL
  · exact ⟨by simp [h0], rfl⟩

end Go.Proofs.YtjkfmnahmbnbnaaDoor
