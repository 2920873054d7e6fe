/- InflateTables. -/
import Derived.Test.YtjkfmnahmbnbnaaDoorWKnown
import Derived.Test.YtjkfmnahmbnbnaaDoorXDist
import Derived.Test.YtjkfmnahmbnbnaaDoorXFix
namespace Go.Proofs.YtjkfmnahmbnbnaaDoor
open Go.RowKit

theorem len_both (n : Int) : ∃ (a b : Int) (o : Bool), (∀ w, Calls Tryd.prog 10 #[.int .i64 n] w fun e w' => e = .returned (.tuple #[.int .i64 a, .int .i64 b, .bool o]) ∧ w' = w) ∧
    (∀ w, Calls Tryd.prog 11 #[.int .i64 n] w fun e w' => e = .returned (.tuple #[.int .i64 a, .int .i64 b, .bool o]) ∧ Below w.heap.size w w') := by
  by_cases h : n < 257 ∨ 285 < n
  · exact ⟨0, 0, false, fun w => length_no n w h, fun w => xlength_no n w h⟩
  · obtain ⟨k, rfl⟩ := Int.eq_ofNat_of_zero_le (show 0 ≤ n by omega)
    exact ⟨lb k, lx k, true, fun w => length_yes k w (by omega) (by omega), fun w => xlength_yes k w (by omega) (by omega)⟩

theorem dist_both (n : Int) : ∃ (a b : Int) (o : Bool), (∀ w, Calls Tryd.prog 12 #[.int .i64 n] w fun e w' => e = .returned (.tuple #[.int .i64 a, .int .i64 b, .bool o]) ∧ w' = w) ∧
    (∀ w, Calls Tryd.prog 13 #[.int .i64 n] w fun e w' => e = .returned (.tuple #[.int .i64 a, .int .i64 b, .bool o]) ∧ Below w.heap.size w w') := by
  by_cases h : n < 0 ∨ 29 < n
  · exact ⟨0, 0, false, fun w => distance_no n w h, fun w => xdistance_no n w h⟩
  · obtain ⟨k, rfl⟩ := Int.eq_ofNat_of_zero_le (show 0 ≤ n by omega)
    exact ⟨db k, dx k, true, fun w => distance_yes k w (by omega), fun w => xdistance_yes k w (by omega)⟩

set_option maxRecDepth 100000 in
set_option maxHeartbeats 4000000 in
theorem tables_any (n : Int) (w : World) : Calls Tryd.prog 3 #[.int .i64 n] w fun e w' => e = .returned (.bool true) ∧ Below w.heap.size w w' := by
  obtain ⟨a, b, o, hl1, hl2⟩ := len_both n
  obtain ⟨a', b', o', hd1, hd2⟩ := dist_both n
  have HL1 : Hid (∀ w, Calls Tryd.prog 10 #[.int .i64 n] w fun e w' => e = .returned (.tuple #[.int .i64 a, .int .i64 b, .bool o]) ∧ w' = w) := hl1
  have HL2 : Hid (∀ w, Calls Tryd.prog 11 #[.int .i64 n] w fun e w' => e = .returned (.tuple #[.int .i64 a, .int .i64 b, .bool o]) ∧ Below w.heap.size w w') := hl2
  have HD1 : Hid (∀ w, Calls Tryd.prog 12 #[.int .i64 n] w fun e w' => e = .returned (.tuple #[.int .i64 a', .int .i64 b', .bool o']) ∧ w' = w) := hd1
  have HD2 : Hid (∀ w, Calls Tryd.prog 13 #[.int .i64 n] w fun e w' => e = .returned (.tuple #[.int .i64 a', .int .i64 b', .bool o']) ∧ Below w.heap.size w w') := hd2
  clear hl1 hl2 hd1 hd2
  go_enter Tryd.func3, Tryd.ntmps3
  go_wp2_with fail
  refine (known_any w).mono ?_
  rintro e w1 ⟨rfl, b1⟩
  go_wp2_with fail
  refine (fixed_any w1).mono ?_
  rintro e w2 ⟨la, lc, da, rfl, r2, d2, b2⟩
  have B2 := b1.trans (b2.mono b1.size)
  clear b1 b2
  go_wp2_with fail
  refine (xfixed_any w2).mono ?_
  rintro e w3 ⟨xa, xd, rfl, r3, d3, b3⟩
  have R3 := r2.keep b3
  have D3 := d2.of_block (b3.block _ d2.lt)
  obtain ⟨bl, off, rfl, hcell⟩ := R3.plain (by omega)
  have HB3 : Hid (Below w.heap.size w w3) := B2.trans (b3.mono B2.size)
  have HC : Hid (∀ j, j < 288 → w3.cell? ⟨bl, off + j, none⟩ = some (.int .i64 (fl j))) := hcell
  have HX : Hid (∀ j, j < 288 → w3.cell? ⟨xa, j, none⟩ = some (.int .i64 (fl j))) := fun j hj => r3.cell hj
  have HD : Hid (∀ j, j < 32 → w3.cell? ⟨da, j, none⟩ = some (.int .i64 5)) := fun j hj => D3.cell hj
  have HE : Hid (∀ j, j < 32 → w3.cell? ⟨xd, j, none⟩ = some (.int .i64 5)) := fun j hj => d3.cell hj
  clear r2 d2 r3 d3 b3 B2 R3 D3 hcell
  go_wp2
  go_loopw [7] (fun iv wr => ∃ k : Nat, k ≤ 288 ∧ iv = .int .i64 k ∧ (∀ p, wr.cell? p = w3.cell? p) ∧ Hid (Below w.heap.size w wr)) (fun iv _ => 288 - (intOf iv).toNat)
  case atStart => exact ⟨0, by omega, rfl, fun _ => rfl, HB3⟩
  case round =>
    clear HB3
    obtain ⟨k, hk, rfl, hsame, HB⟩ := hrel
    by_cases hlt : k < 288
    · have c1 := (hsame _).trans (HC.out k hlt)
      have c2 := (hsame _).trans (HX.out k hlt)
      have q1 : (k : Int) < 288 := by omega
      have HS : Hid (∀ p, wr.cell? p = w3.cell? p) := hsame
      clear hsame
      by_cases h32 : k < 32
      · have c3 := (HS.out _).trans (HD.out k h32)
        have c4 := (HS.out _).trans (HE.out k h32)
        have q2 : (k : Int) < 32 := by omega
        generalize fl k = x at *
        go_wp2_with fail
        go_quiet (fail)
        have HS2 : Hid (∀ p, (wr.drewN nq).cell? p = w3.cell? p) := fun p => HS.out p
        have HB2 : Hid (Below w.heap.size w (wr.drewN nq)) := ⟨HB.out.os, HB.out.tape, HB.out.output, HB.out.size, HB.out.block⟩
        go_wp2_with fail
        exact ⟨⟨k + 1, by omega, by go_num, HS2.out, HB2⟩, by simp [intOf]; omega⟩
      · have q2 : decide ((k : Int) < 32) = false := by simp; omega
        generalize fl k = x at *
        go_wp2_with fail
        refine wp_region_quiet_lit (by kernel_rfl) (by kernel_rfl) ?_
        repeat
          with_reducible refine wpQuiet_step (fun K hK => ?_)
          go_simp
          with_reducible refine hK _ ?_
          clear hK K
        with_reducible refine wpQuiet_nil ?_
        intro _ hw'
        obtain ⟨nq, hw''⟩ := hw'
        subst hw''
        have HS2 : Hid (∀ p, (wr.drewN nq).cell? p = w3.cell? p) := fun p => HS.out p
        have HB2 : Hid (Below w.heap.size w (wr.drewN nq)) := ⟨HB.out.os, HB.out.tape, HB.out.output, HB.out.size, HB.out.block⟩
        go_wp2_with fail
        exact ⟨⟨k + 1, by omega, by go_num, HS2.out, HB2⟩, by simp [intOf]; omega⟩
    · obtain rfl : k = 288 := by omega
      clear hlt hsame
      go_wp2_with (first
        | (go_at_call 13; refine (HD2.out _).mono ?_; rintro e w5 ⟨rfl, b5⟩)
        | (go_at_call 12; refine (HD1.out _).mono ?_; rintro e w0 ⟨rfl, hw⟩; subst w0)
        | (go_at_call 11; refine (HL2.out _).mono ?_; rintro e w4 ⟨rfl, b4⟩)
        | (go_at_call 10; refine (HL1.out _).mono ?_; rintro e w0 ⟨rfl, hw⟩; subst w0))
      go_ret
      exact ⟨rfl, (HB.out.trans (b4.mono HB.out.size)).trans (b5.mono (Nat.le_trans HB.out.size b4.size))⟩

end Go.Proofs.YtjkfmnahmbnbnaaDoor
