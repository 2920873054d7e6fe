/- The walk of LimitBest. -/
import Derived.Test.YtkclaikofdolmaaXLeasts
import Derived.Test.YtkclaikofdolmaaXWhole
namespace Go.Proofs.Ytkclaikofdolmaa
open Go.RowKit

theorem best_skip (ao : Option Addr) (n c : Nat) (most : Int) (w : World) (h : 300 < n) :
    Calls Try.prog 3 #[.slice ao n c, .int .i64 most] w fun e w' => e = .returned (.bool true) ∧ Below w.heap.size w w' := by
  have d1 : decide ((300 : Int) < (n : Int)) = true := by simp; omega
  clear h
  go_enter Try.func3, Try.ntmps3
  go_wp2_with (go_at_call 7; refine (known_any _).mono ?_; rintro e w1 ⟨rfl, hb⟩)
  go_ret
  exact ⟨rfl, hb⟩

set_option maxRecDepth 100000 in
set_option maxHeartbeats 4000000 in
theorem best_no (ao : Option Addr) (n c : Nat) (D : Nat → Int) (most : Int) (w : World) (h : Ri w ao n c D) (hn : n ≤ 300) (he : lerr D n most ≠ 0) :
    Calls Try.prog 3 #[.slice ao n c, .int .i64 most] w fun e w' => e = .returned (.bool true) ∧ Below w.heap.size w w' := by
  have d1 : decide ((300 : Int) < (n : Int)) = false := by simp; omega
  have HR := hid h
  have C1 := hid (fun w (h : Ri w ao n c D) => lens_no ao n c D most w h he)
  have C2 := hid (fun w (h : Ri w ao n c D) => least_any ao n c D most w h)
  have C3 := hid (fun w (h : Ri w ao n c D) => xleast_any ao n c D most w h)
  have q1 : (lerr D n most == 0) = false := by simp [he]
  generalize lerr D n most = E at *
  generalize lv D n most = V at *
  clear h he
  go_enter Try.func3, Try.ntmps3
  go_wp2_with fail
  refine (known_any _).mono ?_
  rintro e w1 ⟨rfl, b1⟩
  have B1 := hid b1
  clear b1
  go_wp2_with fail
  refine (C1.out w1 (HR.out.keep B1.out)).mono ?_
  rintro e w2 ⟨rfl, b2⟩
  have B2 := hid (B1.out.trans (b2.mono B1.out.size))
  clear b2 B1
  go_wp2_with fail
  refine (C2.out w2 (HR.out.keep B2.out)).mono ?_
  rintro e w3 ⟨rfl, b3⟩
  have B3 := hid (B2.out.trans (b3.mono B2.out.size))
  clear b3 B2
  go_wp2_with fail
  refine (C3.out w3 (HR.out.keep B3.out)).mono ?_
  rintro e w4 ⟨rfl, b4⟩
  have B4 := hid (B3.out.trans (b4.mono B3.out.size))
  clear b4 B3 C1 C2 C3
  go_wp2_with fail
  go_ret
  exact ⟨rfl, B4.out⟩

set_option maxRecDepth 100000 in
set_option maxHeartbeats 4000000 in
theorem best_go (ao : Option Addr) (n c m : Nat) (D : Nat → Int) (w : World) (h : Ri w ao n c D) (hn : n ≤ 300) (he : lerr D n m = 0) :
    Calls Try.prog 3 #[.slice ao n c, .int .i64 m] w fun e w' => e = .returned (.bool true) ∧ Below w.heap.size w w' := by
  have d1 : decide ((300 : Int) < (n : Int)) = false := by simp; omega
  have HR := hid h
  obtain ⟨m', e, hk, h1, h15, hf⟩ := lerr_ok he
  obtain rfl : m = m' := by omega
  obtain ⟨h288, hD⟩ := (okc_iff D n).1 hk
  have HD : Hid (∀ j, j < n → 0 ≤ D j ∧ D j ≤ 16777216) := hD
  have C1 := hid (fun w (h : Ri w ao n c D) => lens_yes ao n c D m w h he)
  have hl : lv D n m = lc D n m := by unfold lv; rw [if_pos he, Int.toNat_natCast]
  have C2 : Hid (∀ w, Ri w ao n c D → Calls Try.prog 9 #[.slice ao n c, .int .i64 m] w fun e w' => e = .returned (.tuple #[.int .i64 (lc D n m), .int .i64 0]) ∧ Below w.heap.size w w') := fun w h => by
    have := least_any ao n c D m w h
    rwa [hl, he] at this
  have C3 : Hid (∀ w, Ri w ao n c D → Calls Try.prog 10 #[.slice ao n c, .int .i64 m] w fun e w' => e = .returned (.tuple #[.int .i64 (lc D n m), .int .i64 0]) ∧ Below w.heap.size w w') := fun w h => by
    have := xleast_any ao n c D m w h
    rwa [hl, he] at this
  have HC : Hid (∀ L, Gd D n m L → CS L D n = lc D n m) := fun L g => g.cost
  clear h he hf hk hD hl e
  generalize lc D n m = V at *
  go_enter Try.func3, Try.ntmps3
  go_wp2_with fail
  refine (known_any _).mono ?_
  rintro e w1 ⟨rfl, b1⟩
  have B1 := hid b1
  clear b1
  go_wp2_with fail
  refine (C1.out w1 (HR.out.keep B1.out)).mono ?_
  rintro e w2 ⟨B, L, rfl, hr, gd, hB, b2⟩
  rw [Int.toNat_natCast] at gd
  have GD := hid gd
  have RL : Hid (Ri w2 (some ⟨B, 0, none⟩) n n L) := Ri.row hr
  have B2 := hid (B1.out.trans (b2.mono B1.out.size))
  clear b2 B1 hr gd hB
  go_wp2_with fail
  refine (C2.out w2 (HR.out.keep B2.out)).mono ?_
  rintro e w3 ⟨rfl, b3⟩
  have RL3 := hid (RL.out.keep b3)
  have B3 := hid (B2.out.trans (b3.mono B2.out.size))
  clear b3 B2 RL
  go_wp2_with fail
  refine (C3.out w3 (HR.out.keep B3.out)).mono ?_
  rintro e w4 ⟨rfl, b4⟩
  have RL4 := hid (RL3.out.keep b4)
  have B4 := hid (B3.out.trans (b4.mono B3.out.size))
  clear b4 B3 RL3 C1 C2 C3
  go_wp2_with fail
  refine (check_any _ n n L w4 RL4.out).mono ?_
  rw [GD.out.er h15 h288]
  rintro e w5 ⟨rfl, b5⟩
  have RL5 := hid (RL4.out.keep b5)
  have B5 := hid (B4.out.trans (b5.mono B4.out.size))
  clear b5 B4 RL4
  go_wp2_with fail
  refine (whole_any D L n m _ ao n c w5 RL5.out (HR.out.keep B5.out) h288 h15 GD.out).mono ?_
  rintro e w6 ⟨rfl, q6, hq6⟩
  have b6 : Below w5.heap.size w5 w6 := by rw [hq6]; exact ⟨rfl, rfl, rfl, Nat.le_refl _, fun _ _ => rfl⟩
  have RL6 := hid (RL5.out.keep b6)
  have B6 := hid (B5.out.trans (b6.mono B5.out.size))
  clear b6 hq6 B5 RL5
  go_wp2_with fail
  refine (xcost_any L D n _ ao n c w6 RL6.out (HR.out.keep B6.out) h288 (GD.out.lm h15) HD.out).mono ?_
  rw [HC.out L GD.out]
  rintro e w7 ⟨rfl, q7, hq7⟩
  have b7 : Below w6.heap.size w6 w7 := by rw [hq7]; exact ⟨rfl, rfl, rfl, Nat.le_refl _, fun _ _ => rfl⟩
  have B7 := hid (B6.out.trans (b7.mono B6.out.size))
  clear b7 hq7 B6 RL6
  go_wp2_with fail
  go_ret
  exact ⟨rfl, B7.out⟩

theorem best_any (ao : Option Addr) (n c : Nat) (most : Int) (D : Nat → Int) (w : World) (h : Ri w ao n c D) :
    Calls Try.prog 3 #[.slice ao n c, .int .i64 most] w fun e w' => e = .returned (.bool true) ∧ Below w.heap.size w w' := by
  by_cases hs : 300 < n
  · exact best_skip ao n c most w hs
  · by_cases he : lerr D n most = 0
    · obtain ⟨m, rfl, _⟩ := lerr_ok he
      exact best_go ao n c m D w h (by omega) he
    · exact best_no ao n c D most w h (by omega) he

end Go.Proofs.Ytkclaikofdolmaa
