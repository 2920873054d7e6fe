/- DeltaBytes. -/
import Derived.Test.YthaibdflehnbbaaXSame
namespace Go.Proofs.Ythaibdflehnbbaa
open Go.RowKit

theorem bytes_skip (bo : Option Addr) (N C : Nat) (tg : Option Addr) (M E : Nat) (mo : Int) (w : World) (h : 3000 < N ∨ 3000 < M ∨ 1048576 < mo) :
    Calls Try.prog 3 #[.slice bo N C, .slice tg M E, .int .i64 mo] w fun e w' => e = .returned (.bool true) ∧ Below w.heap.size w w' := by
  by_cases hN : 3000 < N
  · have z : (3000 : Int) < N := by omega
    go_enter Try.func3, Try.ntmps3
    go_wp2_with (first | (go_at_call 9; refine (known_any w).mono ?_; rintro e w1 ⟨rfl, hB⟩))
    go_ret
    exact ⟨rfl, hB⟩
  · have z3 : decide ((3000 : Int) < (N : Int)) = false := decide_eq_false (by omega)
    by_cases hM : 3000 < M
    · have z : (3000 : Int) < M := by omega
      go_enter Try.func3, Try.ntmps3
      go_wp2_with (first | (go_at_call 9; refine (known_any w).mono ?_; rintro e w1 ⟨rfl, hB⟩))
      go_ret
      exact ⟨rfl, hB⟩
    · have z4 : decide ((3000 : Int) < (M : Int)) = false := decide_eq_false (by omega)
      have z : (1048576 : Int) < mo := by omega
      go_enter Try.func3, Try.ntmps3
      go_wp2_with (first | (go_at_call 9; refine (known_any w).mono ?_; rintro e w1 ⟨rfl, hB⟩))
      go_ret
      exact ⟨rfl, hB⟩

theorem apy_byt (bs d : List Int) (most : Int) (hb : ∀ x ∈ bs, 0 ≤ x ∧ x < 256) (hd : ∀ x ∈ d, 0 ≤ x ∧ x < 256) : ∀ x ∈ (apy bs d most).1, 0 ≤ x ∧ x < 256 := by
  have hk := (prs_ok d hd).1
  unfold apy
  split
  · intro x hx; cases hx
  · split
    · intro x hx; cases hx
    · split
      · intro x hx; cases hx
      · split
        · exact mks_byt bs hb _ hk
        · intro x hx; cases hx

set_option maxRecDepth 100000 in
set_option maxHeartbeats 2000000 in
theorem bytes_go (bo : Option Addr) (N C : Nat) (bs : List Int) (ao : Option Addr) (n c : Nat) (d : List Int) (mo : Int) (w : World) (hb : Rd w bo N C bs) (ht : Rd w ao n c d) (hN : N ≤ 3000) (hM : n ≤ 3000) (hmo : mo ≤ 1048576) :
    Calls Try.prog 3 #[.slice bo N C, .slice ao n c, .int .i64 mo] w fun e w' => e = .returned (.bool true) ∧ Below w.heap.size w w' := by
  have z1 : decide ((3000 : Int) < (N : Int)) = false := decide_eq_false (by omega)
  have z2 : decide ((3000 : Int) < (n : Int)) = false := decide_eq_false (by omega)
  have z3 : decide ((1048576 : Int) < mo) = false := decide_eq_false (by omega)
  have HB : Hid (Rd w bo N C bs) := hb
  have HT : Hid (Rd w ao n c d) := ht
  have habt := apy_byt bs d mo hb.byt ht.byt
  have hpl := (prs_ok d ht.byt).2
  have hdl := ht.len
  clear hb ht
  go_enter Try.func3, Try.ntmps3
  go_wp2_with fail
  refine (known_any w).mono ?_
  rintro e w1 ⟨rfl, B1⟩
  have t1 := HT.out.keep B1
  have j1 := Sizes_any ao n c d w1 t1 (by omega)
  have j2 := rsizes_any ao n c d w1 t1 (by omega)
  generalize szs d = S at *
  obtain ⟨s1, s2, s3, s4⟩ := S
  simp only at j1 j2
  go_wp2_with fail
  refine j1.mono ?_
  rintro e w1' ⟨rfl, rfl⟩
  go_wp2_with fail
  refine j2.mono ?_
  rintro e w1'' ⟨rfl, rfl⟩
  clear j1 j2
  have j3 := Parse_any ao n c d w1'' t1 (by omega)
  go_wp2_with fail
  refine j3.mono ?_
  rintro e w3 ⟨v3, n3, ms3, rfl, o3, g3⟩
  have B3 := B1.trans (g3.mono B1.size)
  have t3 := HT.out.keep B3
  have j4 := rparse_any ao n c d w3 t3 (by omega)
  go_wp2_with fail
  refine j4.mono ?_
  rintro e w4 ⟨v4, n4, ms4, rfl, o4, g4⟩
  have B4 := B3.trans (g4.mono B3.size)
  have t4 := HT.out.keep B4
  have b4 := HB.out.keep B4
  have o3' := o3.keep g4
  obtain ⟨la, lc, rfl, _, os3, _⟩ := o3'.os
  obtain ⟨ma, mc, rfl, _, os4, _⟩ := o4.os
  obtain rfl : n4 = n3 := by rw [← os4.len, os3.len]
  have hn4 : n4 ≤ 3000 := by have := os4.len; omega
  clear j3 j4 o3 o4 o3'
  have j5 := Apply_any bo N C bs ao n c d mo w4 b4 t4 (by omega) (by omega) (by omega)
  go_wp2_with fail
  refine j5.mono ?_
  rintro e w5 ⟨v5, rfl, o5, g5⟩
  have B5 := B4.trans (g5.mono B4.size)
  have t5 := HT.out.keep B5
  have b5 := HB.out.keep B5
  obtain ⟨xa, xc, rfl, x5, _⟩ := own_rd o5 habt
  have j6 := rApply_any bo N C bs ao n c d mo w5 b5 t5 (by omega) (by omega) (by omega)
  go_wp2_with fail
  refine j6.mono ?_
  rintro e w6 ⟨v6, rfl, o6, g6⟩
  have B6 := B5.trans (g6.mono B5.size)
  obtain ⟨ya, yc, rfl, y6, _⟩ := own_rd o6 habt
  have x6 := x5.keep g6
  have G6 := g5.trans (g6.mono g5.size)
  have hsame := same_yes la n4 lc ms3 ma mc ms4 _ w6 (os3.keep G6) (os4.keep G6) (by omega)
  generalize apy bs d mo = A at *
  generalize prs d = P at *
  obtain ⟨p1, p2, p3, p4⟩ := P
  clear j5 j6 o5 o6 x5 t5 b5 t4 b4 t3 t1 os3 os4
  go_wp2_with (first
    | (go_at_call 16; refine hsame.mono ?_; rintro e w7 ⟨rfl, g7⟩; have sx := (x6.keep g7).str; have sy := (y6.keep g7).str))
  go_ret
  exact ⟨rfl, B6.trans (g7.mono B6.size)⟩

end Go.Proofs.Ythaibdflehnbbaa
