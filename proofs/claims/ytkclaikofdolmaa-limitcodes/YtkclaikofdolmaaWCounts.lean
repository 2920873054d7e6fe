/- isNoCount, areCounts. -/
import Derived.Test.YtkclaikofdolmaaWIndex
namespace Go.Proofs.Ytkclaikofdolmaa
open Go.RowKit

/-- A count that may be. -/
def Cm (n : Int) : Prop := 0 ≤ n ∧ n ≤ 16777216

theorem noCnt_no (n : Int) (w : World) (h : Cm n) : Calls Try.prog 44 #[.int .i64 n] w fun e w' => e = .returned (.bool false) ∧ w' = w := by
  obtain ⟨h0, h1⟩ := h
  have d1 : decide (n < 0) = false := by simp; omega
  have d2 : decide (16777216 < n) = false := by simp; omega
  clear h0 h1
  go_enter Try.func44, Try.ntmps44
  go_wp2
  go_ret
  exact ⟨rfl, rfl⟩

theorem noCnt_yes (n : Int) (w : World) (h : ¬ Cm n) : Calls Try.prog 44 #[.int .i64 n] w fun e w' => e = .returned (.bool true) ∧ w' = w := by
  by_cases h0 : n < 0
  · have d1 : decide (n < 0) = true := by simp; omega
    clear h h0
    go_enter Try.func44, Try.ntmps44
    go_wp2
    go_ret
    exact ⟨rfl, rfl⟩
  · have d1 : decide (n < 0) = false := by simp; omega
    have d2 : decide (16777216 < n) = true := by unfold Cm at h; simp; omega
    clear h h0
    go_enter Try.func44, Try.ntmps44
    go_wp2
    go_ret
    exact ⟨rfl, rfl⟩

set_option maxHeartbeats 400000 in
theorem cindex_any (ao : Option Addr) (n c : Nat) (L : Nat → Int) (w : World) (h : Ri w ao n c L) (hn : n ≤ 1000000) :
    Calls Try.prog 57 #[.slice ao n c, .func (.func 44) #[] #[]] w fun e w' => ∃ r : Int, e = .returned (.int .i64 r) ∧ w' = w ∧ ((r = -1 ∧ ∀ j, j < n → Cm (L j)) ∨ (0 ≤ r ∧ ¬ ∀ j, j < n → Cm (L j))) := by
  go_enter Try.func57, Try.ntmps57
  go_wp2
  go_loop [5, 8] (fun _ i => ∃ k : Nat, k ≤ n ∧ i = .int .i64 k ∧ ∀ j, j < k → Cm (L j)) (fun _ i => n - (intOf i).toNat)
  case atStart => exact ⟨0, by omega, rfl, fun j hj => by omega⟩
  case round =>
    obtain ⟨k, hk, rfl, hall⟩ := hrel
    by_cases hlt : k < n
    · obtain ⟨b, off, rfl, hcell⟩ := h.plain (by omega)
      have hck := hcell k hlt
      clear hcell h
      by_cases hL : Cm (L k)
      · have HA : Hid (∀ j, j < k + 1 → Cm (L j)) := fun j hj => by
          rcases Nat.lt_or_ge j k with h' | h'
          · exact hall j h'
          · obtain rfl : j = k := by omega
            exact hL
        clear hall
        go_wp2_with (go_at_call 44; refine (noCnt_no (L k) w hL).mono ?_; rintro e w1 ⟨rfl, hw⟩; subst w1)
        go_round
        case rel => exact ⟨k + 1, by omega, by go_num, HA.out⟩
        case measure => simp [intOf]; omega
      · have HA : Hid (¬ ∀ j, j < n → Cm (L j)) := fun h' => hL (h' k hlt)
        clear hall
        go_wp2_with (go_at_call 44; refine (noCnt_yes (L k) w hL).mono ?_; rintro e w1 ⟨rfl, hw⟩; subst w1)
        go_ret
        exact ⟨_, rfl, rfl, .inr ⟨by omega, HA.out⟩⟩
    · obtain rfl : k = n := by omega
      clear h
      go_wp2
      go_ret
      exact ⟨_, rfl, rfl, .inl ⟨rfl, hall⟩⟩

theorem ccontains_no (ao : Option Addr) (n c : Nat) (L : Nat → Int) (w : World) (h : Ri w ao n c L) (hn : n ≤ 1000000) (hL : ∀ j, j < n → Cm (L j)) :
    Calls Try.prog 43 #[.slice ao n c, .func (.func 44) #[] #[]] w fun e w' => e = .returned (.bool false) ∧ w' = w := by
  go_enter Try.func43, Try.ntmps43
  go_wp2_with (go_at_call 57; refine (cindex_any ao n c L w h hn).mono ?_; rintro e w1 ⟨r, rfl, hw, hr⟩; subst w1)
  go_ret
  rcases hr with ⟨rfl, _⟩ | ⟨_, hq⟩
  · exact ⟨rfl, rfl⟩
  · exact absurd hL hq

theorem ccontains_yes (ao : Option Addr) (n c : Nat) (L : Nat → Int) (w : World) (h : Ri w ao n c L) (hn : n ≤ 1000000) (hL : ¬ ∀ j, j < n → Cm (L j)) :
    Calls Try.prog 43 #[.slice ao n c, .func (.func 44) #[] #[]] w fun e w' => e = .returned (.bool true) ∧ w' = w := by
  go_enter Try.func43, Try.ntmps43
  go_wp2_with (go_at_call 57; refine (cindex_any ao n c L w h hn).mono ?_; rintro e w1 ⟨r, rfl, hw, hr⟩; subst w1)
  go_ret
  rcases hr with ⟨_, hq⟩ | ⟨h0, _⟩
  · exact absurd hq hL
  · exact ⟨by simp [h0], rfl⟩

/-- Whether the first k are counts. -/
def acm (D : Nat → Int) : Nat → Bool
  | 0 => true
  | k + 1 => acm D k && (decide (0 ≤ D k) && decide (D k ≤ 16777216))

theorem acm_iff (D : Nat → Int) (k : Nat) : acm D k = true ↔ ∀ j, j < k → Cm (D j) := by
  induction k with
  | zero => simp [acm]
  | succ k ih =>
    simp only [acm, Bool.and_eq_true, decide_eq_true_eq, ih]
    constructor
    · rintro ⟨h1, h2⟩ j hj
      rcases Nat.lt_or_ge j k with h' | h'
      · exact h1 j h'
      · obtain rfl : j = k := by omega
        exact h2
    · intro h
      exact ⟨fun j hj => h j (by omega), h k (by omega)⟩

/-- Whether they are counts, and not too many. -/
def okc (D : Nat → Int) (n : Nat) : Bool := decide (n ≤ 288) && acm D n

theorem okc_iff (D : Nat → Int) (n : Nat) : okc D n = true ↔ n ≤ 288 ∧ ∀ j, j < n → Cm (D j) := by
  rw [okc, Bool.and_eq_true, decide_eq_true_eq, acm_iff]

theorem counts_any (ao : Option Addr) (n c : Nat) (D : Nat → Int) (w : World) (h : Ri w ao n c D) :
    Calls Try.prog 25 #[.slice ao n c] w fun e w' => e = .returned (.bool (okc D n)) ∧ w' = w := by
  by_cases h288 : n ≤ 288
  · have d1 : decide ((n : Int) ≤ 288) = true := by simp; omega
    by_cases hc : ∀ j, j < n → Cm (D j)
    · rw [(okc_iff D n).2 ⟨h288, hc⟩]
      go_enter Try.func25, Try.ntmps25
      go_wp2_with (go_at_call 43; refine (ccontains_no ao n c D w h (by omega) hc).mono ?_; rintro e w1 ⟨rfl, hw⟩; subst w1)
      go_ret
      exact ⟨rfl, rfl⟩
    · have e : okc D n = false := by
        cases hq : okc D n
        · rfl
        · exact absurd ((okc_iff D n).1 hq).2 hc
      rw [e]
      go_enter Try.func25, Try.ntmps25
      go_wp2_with (go_at_call 43; refine (ccontains_yes ao n c D w h (by omega) hc).mono ?_; rintro e w1 ⟨rfl, hw⟩; subst w1)
      go_ret
      exact ⟨rfl, rfl⟩
  · have d1 : decide ((n : Int) ≤ 288) = false := by simp; omega
    have e : okc D n = false := by simp [okc, h288]
    rw [e]
    clear h h288 e
    go_enter Try.func25, Try.ntmps25
    go_wp2
    go_ret
    exact ⟨rfl, rfl⟩

end Go.Proofs.Ytkclaikofdolmaa
