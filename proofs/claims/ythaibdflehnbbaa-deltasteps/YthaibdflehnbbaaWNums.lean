/- U8, U16, U32, U64, Bytes. -/
import Derived.Test.YthaibdflehnbbaaWTake
import Derived.Test.YthaibdflehnbbaaWNum
namespace Go.Proofs.Ythaibdflehnbbaa
open Go.RowKit

theorem tk_len (xs : List Int) (p : Nat) (er : Int) (m : Nat) : (tk xs p er m).1.length ≤ m := by
  unfold tk
  split
  · simp
  · split
    · simp
    · simp; omega

theorem tk_byt (xs : List Int) (hb : ∀ x ∈ xs, 0 ≤ x ∧ x < 256) (p : Nat) (er : Int) (m : Int) : ∀ x ∈ (tk xs p er m).1, 0 ≤ x ∧ x < 256 := by
  unfold tk
  split
  · intro x hx; cases hx
  · split
    · intro x hx; cases hx
    · exact fun x hx => hb x (List.mem_of_mem_drop (List.mem_of_mem_take hx))

theorem num_tk (xs : List Int) (hb : ∀ x ∈ xs, 0 ≤ x ∧ x < 256) (p : Nat) (er : Int) (m : Nat) : 0 ≤ num 0 (tk xs p er m).1 ∧ num 0 (tk xs p er m).1 < 256 ^ m := by
  have h := num_bound (tk xs p er m).1 (tk_byt xs hb p er m) 0 (by omega)
  have h2 := pow256_le _ _ (tk_len xs p er m)
  omega

set_option maxHeartbeats 400000 in
theorem u8_any (R : Nat) (ao : Option Addr) (n c : Nat) (xs : List Int) (p : Nat) (er : Int) (w : World) (h : IsR w R ao n c xs p er) :
    Calls Try.prog 48 #[.pointer (some ⟨R, 0, none⟩)] w fun e w' => e = .returned (.int .i64 (num 0 (tk xs p er 1).1)) ∧
      IsR w' R ao n c xs (tk xs p er 1).2.1 (tk xs p er 1).2.2 ∧ w.grownBy w' (some R) := by
  have hn : 0 ≤ num 0 (tk xs p er 1).1 ∧ num 0 (tk xs p er 1).1 < 256 ^ 1 := num_tk xs h.rd.byt p er 1
  have hl : (tk xs p er 1).1.length ≤ 1 := tk_len xs p er 1
  obtain ⟨x, hx⟩ : ∃ x, x = num 0 (tk xs p er 1).1 := ⟨_, rfl⟩
  rw [← hx] at hn ⊢
  have hx0 : 0 ≤ x := hn.1
  have hx1 : x ≤ 4294967295 := by have := hn.2; have : (256 : Int) ^ 1 = 256 := rfl; omega
  have HX : Hid (x = num 0 (tk xs p er 1).1) := hx
  clear hx hn
  go_enter Try.func48, Try.ntmps48
  go_wp2_with fail
  refine (take_any R ao n c xs p er 1 w h).mono ?_
  rintro e w1 ⟨ao', k, c', rfl, hr, hR, hg⟩
  go_wp2_with fail
  have hk := hr.len
  refine (number_any ao' k c' _ w1 hr (by omega)).mono ?_
  rintro e w2 ⟨rfl, rfl⟩
  rw [← HX.out]
  clear hk hl hr
  go_wp2
  go_ret
  exact ⟨rfl, hR, hg⟩

theorem bytes_any (R : Nat) (ao : Option Addr) (n c : Nat) (xs : List Int) (p : Nat) (er m : Int) (w : World) (h : IsR w R ao n c xs p er) :
    Calls Try.prog 49 #[.pointer (some ⟨R, 0, none⟩), .int .i64 m] w fun e w' => ∃ ao' k c', e = .returned (.slice ao' k c') ∧ Rd w' ao' k c' (tk xs p er m).1 ∧ (∀ ad, ao' = some ad → w.heap.size ≤ ad.block) ∧
      IsR w' R ao n c xs (tk xs p er m).2.1 (tk xs p er m).2.2 ∧ w.grownBy w' (some R) := by
  go_enter Try.func49, Try.ntmps49
  go_wp2_with fail
  refine (take_any R ao n c xs p er m w h).mono ?_
  rintro e w1 ⟨ao', k, c', rfl, hr, hR, hg⟩
  go_wp2_with fail
  have hk : k ≤ 140737488351232 := by
    have h1 := hr.len
    have h2 : (tk xs p er m).1.length ≤ xs.length := by
      unfold tk
      split
      · simp
      · split
        · simp
        · simp; omega
    have := h.rd.len
    have := h.lim
    omega
  refine (clone_any ao' k c' _ w1 hr hk).mono ?_
  rintro e w2 ⟨ao2, c2, rfl, hr2, hf2, hbel⟩
  clear hk hr
  go_wp2
  go_ret
  exact ⟨_, _, _, rfl, hr2, fun ad had => Nat.le_trans hg.size (hf2 ad had), hR.keep hbel, grownBy_trans hg ⟨hbel.os, hbel.tape, hbel.output, hbel.size, fun k hk _ => hbel.block k hk⟩⟩

end Go.Proofs.Ythaibdflehnbbaa
