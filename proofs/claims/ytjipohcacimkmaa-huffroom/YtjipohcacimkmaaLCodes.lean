/- The walk of HuffCodes. -/
import Derived.Test.YtjipohcacimkmaaWKnown
import Derived.Test.YtjipohcacimkmaaXNews
namespace Go.Proofs.Ytjipohcacimkmaa
open Go.RowKit

/-- How many codes there are. -/
def cl (L : Nat → Int) (n : Nat) : Nat := if er L n = 0 then n else 0

theorem codes_v (ao : Option Addr) (n c : Nat) (L : Nat → Int) (w : World) (h : Ri w ao n c L) :
    Calls Try.prog 12 #[.slice ao n c] w fun e w' => ∃ bo d, e = .returned (.tuple #[.slice bo (cl L n) d, .int .i64 (er L n)]) ∧ Ri w' bo (cl L n) d (cd L n) ∧ Below w.heap.size w w' := by
  unfold cl
  by_cases he : er L n = 0
  · refine (codes_yes ao n c L w h he).mono ?_
    rintro e w' ⟨g, rfl, hg, _, hb⟩
    rw [if_pos he, he]
    exact ⟨_, _, rfl, Ri.row hg, hb⟩
  · refine (codes_no ao n c L w h he).mono ?_
    rintro e w' ⟨rfl, hb⟩
    rw [if_neg he]
    exact ⟨none, 0, rfl, Ri.nil _ _, hb⟩

theorem xcodes_v (ao : Option Addr) (n c : Nat) (L : Nat → Int) (w : World) (h : Ri w ao n c L) :
    Calls Try.prog 13 #[.slice ao n c] w fun e w' => ∃ bo d, e = .returned (.tuple #[.slice bo (cl L n) d, .int .i64 (er L n)]) ∧ Ri w' bo (cl L n) d (cd L n) ∧ Below w.heap.size w w' := by
  unfold cl
  by_cases he : er L n = 0
  · refine (xcodes_yes ao n c L w h he).mono ?_
    rintro e w' ⟨g, rfl, hg, _, hb⟩
    rw [if_pos he, he]
    exact ⟨_, _, rfl, Ri.row hg, hb⟩
  · refine (xcodes_no ao n c L w h he).mono ?_
    rintro e w' ⟨rfl, hw⟩
    subst hw
    rw [if_neg he]
    exact ⟨none, 0, rfl, Ri.nil _ _, Below.refl _ _⟩

/-- What pointer New answers: none just if there is an error. -/
def NP (L : Nat → Int) (n : Nat) (half : Bool) (v : Value) : Prop := (nw L n half ≠ 0 ∧ v = .pointer none) ∨ (nw L n half = 0 ∧ ∃ R, v = .pointer (some ⟨R, 0, none⟩))

theorem new_p (ao : Option Addr) (n c : Nat) (L : Nat → Int) (half : Bool) (w : World) (h : Ri w ao n c L) :
    Calls Try.prog 14 #[.slice ao n c, .bool half] w fun e w' => ∃ v, e = .returned (.tuple #[v, .int .i64 (nw L n half)]) ∧ NP L n half v ∧ Below w.heap.size w w' := by
  by_cases he : nw L n half = 0
  · refine (new_yes ao n c L half w h he).mono ?_
    rintro e w' ⟨R, K, rfl, _, hb⟩
    rw [he]
    exact ⟨_, rfl, .inr ⟨he, R, rfl⟩, hb⟩
  · refine (new_no ao n c L half w h he).mono ?_
    rintro e w' ⟨rfl, hb⟩
    exact ⟨_, rfl, .inl ⟨he, rfl⟩, hb⟩

theorem xnew_p (ao : Option Addr) (n c : Nat) (L : Nat → Int) (half : Bool) (w : World) (h : Ri w ao n c L) :
    Calls Try.prog 15 #[.slice ao n c, .bool half] w fun e w' => ∃ v, e = .returned (.tuple #[v, .int .i64 (nw L n half)]) ∧ NP L n half v ∧ Below w.heap.size w w' := by
  by_cases he : nw L n half = 0
  · refine (xnew_yes ao n c L half w h he).mono ?_
    rintro e w' ⟨Y, K, la, lc, cg, rfl, _, hb⟩
    rw [he]
    exact ⟨_, rfl, .inr ⟨he, Y, rfl⟩, hb⟩
  · refine (xnew_no ao n c L half w h he).mono ?_
    rintro e w' ⟨rfl, hw⟩
    subst hw
    exact ⟨_, rfl, .inl ⟨he, rfl⟩, Below.refl _ _⟩

theorem cl_le (L : Nat → Int) (n : Nat) (h : n ≤ 400) : cl L n ≤ 400 := by
  unfold cl
  split <;> omega

theorem drewN_below (w : World) (q : Nat) : Below w.heap.size w (w.drewN q) := ⟨rfl, rfl, rfl, Nat.le_refl _, fun _ _ => rfl⟩

theorem codes_skip (ao : Option Addr) (n c : Nat) (half : Bool) (w : World) (h : 400 < n) :
    Calls Try.prog 3 #[.slice ao n c, .bool half] w fun e w' => e = .returned (.bool true) ∧ Below w.heap.size w w' := by
  have d1 : decide ((400 : Int) < (n : Int)) = true := by simp; omega
  clear h
  go_enter Try.func3, Try.ntmps3
  go_wp2_with (go_at_call 9; refine (known_any _).mono ?_; rintro e w1 ⟨rfl, hb⟩)
  go_ret
  exact ⟨rfl, hb⟩

set_option maxRecDepth 100000 in
set_option maxHeartbeats 4000000 in
theorem codes_go (ao : Option Addr) (n c : Nat) (L : Nat → Int) (half : Bool) (w : World) (h : Ri w ao n c L) (hn : n ≤ 400) :
    Calls Try.prog 3 #[.slice ao n c, .bool half] w fun e w' => e = .returned (.bool true) ∧ Below w.heap.size w w' := by
  have d1 : decide ((400 : Int) < (n : Int)) = false := by simp; omega
  have hcl := cl_le L n hn
  go_enter Try.func3, Try.ntmps3
  go_wp2_with (go_at_call 9; refine (known_any _).mono ?_; rintro e w1 ⟨rfl, b1⟩)
  have r1 := h.keep b1
  refine (check_any ao n c L w1 r1).mono ?_
  rintro e w2 ⟨rfl, b2⟩
  have B2 := b1.trans (b2.mono b1.size)
  have r2 := r1.keep b2
  clear h b1 b2 r1
  go_wp2_with fail
  refine (xcheck_any ao n c L w2 r2).mono ?_
  rintro e w2' ⟨rfl, hw⟩
  subst w2'
  go_wp2_with fail
  refine (codes_v ao n c L w2 r2).mono ?_
  rintro e w3 ⟨bo, bd, rfl, q3, b3⟩
  have B3 := B2.trans (b3.mono B2.size)
  have r3 := r2.keep b3
  clear B2 b3 r2
  go_wp2_with fail
  refine (xcodes_v ao n c L w3 r3).mono ?_
  rintro e w4 ⟨xo, xd, rfl, x4, b4⟩
  have B4 := B3.trans (b4.mono B3.size)
  have r4 := r3.keep b4
  have q4 := q3.keep b4
  clear B3 b4 r3 q3
  go_wp2_with fail
  refine (new_p ao n c L half w4 r4).mono ?_
  rintro e w5 ⟨p1, rfl, h1, b5⟩
  have B5 := B4.trans (b5.mono B4.size)
  have r5 := r4.keep b5
  have q5 := q4.keep b5
  have x5 := x4.keep b5
  clear B4 b5 r4 q4 x4
  go_wp2_with fail
  refine (xnew_p ao n c L half w5 r5).mono ?_
  rintro e w6 ⟨p2, rfl, h2, b6⟩
  have B6 := B5.trans (b6.mono B5.size)
  have q6 := q5.keep b6
  have x6 := x5.keep b6
  have HI : Hid (Calls Try.prog 16 #[.slice bo (cl L n) bd, .slice xo (cl L n) xd] w6 fun e w' => e = .returned (.bool true) ∧ Below w.heap.size w w') := (ints_same (cd L n) (cl L n) bo xo bd xd w6 q6 x6 (by omega)).mono (fun e w' h => ⟨h.1, by obtain ⟨m, hm⟩ := h.2; rw [hm]; exact B6.trans ((drewN_below w6 m).mono B6.size)⟩)
  clear B5 b6 r5 q5 x5 B6 q6 x6
  generalize er L n = x1 at *
  generalize fu L n = y1 at *
  generalize cl L n = z1 at *
  have hcase : (p1 = .pointer none ∧ p2 = .pointer none) ∨ (∃ R1 R2, p1 = .pointer (some ⟨R1, 0, none⟩) ∧ p2 = .pointer (some ⟨R2, 0, none⟩)) := by
    rcases h1 with ⟨k1, rfl⟩ | ⟨k1, R1, rfl⟩
    · rcases h2 with ⟨_, rfl⟩ | ⟨k2, _⟩
      · exact .inl ⟨rfl, rfl⟩
      · exact absurd k2 k1
    · rcases h2 with ⟨k2, _⟩ | ⟨_, R2, rfl⟩
      · exact absurd k1 k2
      · exact .inr ⟨R1, R2, rfl, rfl⟩
  clear h1 h2
  generalize nw L n half = x2 at *
  rcases hcase with ⟨rfl, rfl⟩ | ⟨R1, R2, rfl, rfl⟩
  · go_wp2_with (go_at_call 16; refine HI.out.mono ?_; rintro e w7 ⟨rfl, b7⟩)
    go_ret
    exact ⟨rfl, b7⟩
  · go_wp2_with (go_at_call 16; refine HI.out.mono ?_; rintro e w7 ⟨rfl, b7⟩)
    go_ret
    exact ⟨rfl, b7⟩

end Go.Proofs.Ytjipohcacimkmaa
