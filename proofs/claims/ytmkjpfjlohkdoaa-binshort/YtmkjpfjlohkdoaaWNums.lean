/- U8, U16, U32, U64, Bytes. -/
import Derived.Test.YtmkjpfjlohkdoaaWTake
import Derived.Test.YtmkjpfjlohkdoaaWNum
namespace Go.Proofs.Ytmkjpfjlohkdoaa
open Go.RowKit

theorem tk_len (xs : List Int) (p : Nat) (er : Int) (m : Nat) : (tk xs p er m).1.length ≤ m := by
  unfold tk
  split
  · simp
  · split
    · simp
    · simp; omega

theorem tk_byt (xs : List Int) (hb : ∀ x ∈ xs, 0 ≤ x ∧ x < 256) (p : Nat) (er : Int) (m : Int) : ∀ x ∈ (tk xs p er m).1, 0 ≤ x ∧ x < 256 := by
  unfold tk
  split
  · intro x hx; cases hx
  · split
    · intro x hx; cases hx
    · exact fun x hx => hb x (List.mem_of_mem_drop (List.mem_of_mem_take hx))

theorem num_tk (xs : List Int) (hb : ∀ x ∈ xs, 0 ≤ x ∧ x < 256) (p : Nat) (er : Int) (m : Nat) : 0 ≤ num 0 (tk xs p er m).1 ∧ num 0 (tk xs p er m).1 < 256 ^ m := by
  have h := num_bound (tk xs p er m).1 (tk_byt xs hb p er m) 0 (by omega)
  have h2 := pow256_le _ _ (tk_len xs p er m)
  omega

set_option maxHeartbeats 400000 in
theorem u8_any (R : Nat) (ao : Option Addr) (n c : Nat) (xs : List Int) (p : Nat) (er : Int) (w : World) (h : IsR w R ao n c xs p er) :
    Calls Try.prog 9 #[.pointer (some ⟨R, 0, none⟩)] w fun e w' => e = .returned (.int .i64 (num 0 (tk xs p er 1).1)) ∧
      IsR w' R ao n c xs (tk xs p er 1).2.1 (tk xs p er 1).2.2 ∧ w.grownBy w' (some R) := by
  have hn : 0 ≤ num 0 (tk xs p er 1).1 ∧ num 0 (tk xs p er 1).1 < 256 ^ 1 := num_tk xs h.rd.byt p er 1
  have hl : (tk xs p er 1).1.length ≤ 1 := tk_len xs p er 1
  obtain ⟨x, hx⟩ : ∃ x, x = num 0 (tk xs p er 1).1 := ⟨_, rfl⟩
  rw [← hx] at hn ⊢
  have hx0 : 0 ≤ x := hn.1
  have hx1 : x ≤ 4294967295 := by have := hn.2; have : (256 : Int) ^ 1 = 256 := rfl; omega
  have HX : Hid (x = num 0 (tk xs p er 1).1) := hx
  clear hx hn
  go_enter Try.func9, Try.ntmps9
  go_wp2_with fail
  refine (take_any R ao n c xs p er 1 w h).mono ?_
  rintro e w1 ⟨ao', k, c', rfl, hr, hR, hg⟩
  go_wp2_with fail
  have hk := hr.len
  refine (number_any ao' k c' _ w1 hr (by omega)).mono ?_
  rintro e w2 ⟨rfl, rfl⟩
  rw [← HX.out]
  clear hk hl hr
  go_wp2
  go_ret
  exact ⟨rfl, hR, hg⟩

set_option maxHeartbeats 400000 in
theorem u16_any (R : Nat) (ao : Option Addr) (n c : Nat) (xs : List Int) (p : Nat) (er : Int) (w : World) (h : IsR w R ao n c xs p er) :
    Calls Try.prog 11 #[.pointer (some ⟨R, 0, none⟩)] w fun e w' => e = .returned (.int .i64 (num 0 (tk xs p er 2).1)) ∧
      IsR w' R ao n c xs (tk xs p er 2).2.1 (tk xs p er 2).2.2 ∧ w.grownBy w' (some R) := by
  have hn : 0 ≤ num 0 (tk xs p er 2).1 ∧ num 0 (tk xs p er 2).1 < 256 ^ 2 := num_tk xs h.rd.byt p er 2
  have hl : (tk xs p er 2).1.length ≤ 2 := tk_len xs p er 2
  obtain ⟨x, hx⟩ : ∃ x, x = num 0 (tk xs p er 2).1 := ⟨_, rfl⟩
  rw [← hx] at hn ⊢
  have hx0 : 0 ≤ x := hn.1
  have hx1 : x ≤ 4294967295 := by have := hn.2; have : (256 : Int) ^ 2 = 65536 := rfl; omega
  have HX : Hid (x = num 0 (tk xs p er 2).1) := hx
  clear hx hn
  go_enter Try.func11, Try.ntmps11
  go_wp2_with fail
  refine (take_any R ao n c xs p er 2 w h).mono ?_
  rintro e w1 ⟨ao', k, c', rfl, hr, hR, hg⟩
  go_wp2_with fail
  have hk := hr.len
  refine (number_any ao' k c' _ w1 hr (by omega)).mono ?_
  rintro e w2 ⟨rfl, rfl⟩
  rw [← HX.out]
  clear hk hl hr
  go_wp2
  go_ret
  exact ⟨rfl, hR, hg⟩

set_option maxHeartbeats 400000 in
theorem u32_any (R : Nat) (ao : Option Addr) (n c : Nat) (xs : List Int) (p : Nat) (er : Int) (w : World) (h : IsR w R ao n c xs p er) :
    Calls Try.prog 12 #[.pointer (some ⟨R, 0, none⟩)] w fun e w' => e = .returned (.int .i64 (num 0 (tk xs p er 4).1)) ∧
      IsR w' R ao n c xs (tk xs p er 4).2.1 (tk xs p er 4).2.2 ∧ w.grownBy w' (some R) := by
  have hn : 0 ≤ num 0 (tk xs p er 4).1 ∧ num 0 (tk xs p er 4).1 < 256 ^ 4 := num_tk xs h.rd.byt p er 4
  have hl : (tk xs p er 4).1.length ≤ 4 := tk_len xs p er 4
  obtain ⟨x, hx⟩ : ∃ x, x = num 0 (tk xs p er 4).1 := ⟨_, rfl⟩
  rw [← hx] at hn ⊢
  have hx0 : 0 ≤ x := hn.1
  have hx1 : x ≤ 4294967295 := by have := hn.2; have : (256 : Int) ^ 4 = 4294967296 := rfl; omega
  have HX : Hid (x = num 0 (tk xs p er 4).1) := hx
  clear hx hn
  go_enter Try.func12, Try.ntmps12
  go_wp2_with fail
  refine (take_any R ao n c xs p er 4 w h).mono ?_
  rintro e w1 ⟨ao', k, c', rfl, hr, hR, hg⟩
  go_wp2_with fail
  have hk := hr.len
  refine (number_any ao' k c' _ w1 hr (by omega)).mono ?_
  rintro e w2 ⟨rfl, rfl⟩
  rw [← HX.out]
  clear hk hl hr
  go_wp2
  go_ret
  exact ⟨rfl, hR, hg⟩


/-- What U64 answers, how many were taken then, and the fault then. -/
def u64r (xs : List Int) (p : Nat) (er : Int) : Int × Nat × Int :=
  if 9223372036854775807 < num 0 (tk xs p er 8).1 then (0, p, 5) else (num 0 (tk xs p er 8).1, (tk xs p er 8).2.1, (tk xs p er 8).2.2)

set_option maxHeartbeats 400000 in
theorem u64_any (R : Nat) (ao : Option Addr) (n c : Nat) (xs : List Int) (p : Nat) (er : Int) (w : World) (h : IsR w R ao n c xs p er) :
    Calls Try.prog 13 #[.pointer (some ⟨R, 0, none⟩)] w fun e w' => e = .returned (.int .i64 (u64r xs p er).1) ∧
      IsR w' R ao n c xs (u64r xs p er).2.1 (u64r xs p er).2.2 ∧ w.grownBy w' (some R) := by
  have hn : 0 ≤ num 0 (tk xs p er 8).1 ∧ num 0 (tk xs p er 8).1 < 256 ^ 8 := num_tk xs h.rd.byt p er 8
  have hl : (tk xs p er 8).1.length ≤ 8 := tk_len xs p er 8
  obtain ⟨x, hx⟩ : ∃ x, x = num 0 (tk xs p er 8).1 := ⟨_, rfl⟩
  have hu : u64r xs p er = if 9223372036854775807 < x then (0, p, 5) else (x, (tk xs p er 8).2.1, (tk xs p er 8).2.2) := by rw [hx]; rfl
  rw [← hx] at hn
  have hx0 : 0 ≤ x := hn.1
  have hx1 : x ≤ 18446744073709551615 := by have := hn.2; have : (256 : Int) ^ 8 = 18446744073709551616 := rfl; omega
  have HX : Hid (x = num 0 (tk xs p er 8).1) := hx
  have hp := h.pos
  have hple := h.le
  clear hx hn
  by_cases hc : 9223372036854775807 < x
  · rw [if_pos hc] at hu
    rw [hu]
    clear hu
    go_enter Try.func13, Try.ntmps13
    go_wp2_with fail
    refine (take_any R ao n c xs p er 8 w h).mono ?_
    rintro e w1 ⟨ao', k, c', rfl, hr, hR, hg⟩
    go_wp2_with fail
    have hk := hr.len
    refine (number_any ao' k c' _ w1 hr (by omega)).mono ?_
    rintro e w2 ⟨rfl, rfl⟩
    rw [← HX.out]
    have h1 := hR.pos
    have h2 := hR.err
    have h3 := hR.f1
    have h4 := hR.f2
    have s1 := hR.setPos p hple
    have s2 := s1.1.setErr 5
    clear hk hl hr hR
    go_wp2
    go_ret
    exact ⟨rfl, s2.1, grownBy_trans hg (grownBy_trans s1.2 s2.2)⟩
  · rw [if_neg hc] at hu
    rw [hu]
    clear hu
    go_enter Try.func13, Try.ntmps13
    go_wp2_with fail
    refine (take_any R ao n c xs p er 8 w h).mono ?_
    rintro e w1 ⟨ao', k, c', rfl, hr, hR, hg⟩
    go_wp2_with fail
    have hk := hr.len
    refine (number_any ao' k c' _ w1 hr (by omega)).mono ?_
    rintro e w2 ⟨rfl, rfl⟩
    rw [← HX.out]
    clear hk hl hr
    go_wp2
    go_ret
    exact ⟨rfl, hR, hg⟩

theorem bytes_any (R : Nat) (ao : Option Addr) (n c : Nat) (xs : List Int) (p : Nat) (er m : Int) (w : World) (h : IsR w R ao n c xs p er) :
    Calls Try.prog 14 #[.pointer (some ⟨R, 0, none⟩), .int .i64 m] w fun e w' => ∃ ao' k c', e = .returned (.slice ao' k c') ∧ Rd w' ao' k c' (tk xs p er m).1 ∧ (∀ ad, ao' = some ad → w.heap.size ≤ ad.block) ∧
      IsR w' R ao n c xs (tk xs p er m).2.1 (tk xs p er m).2.2 ∧ w.grownBy w' (some R) := by
  go_enter Try.func14, Try.ntmps14
  go_wp2_with fail
  refine (take_any R ao n c xs p er m w h).mono ?_
  rintro e w1 ⟨ao', k, c', rfl, hr, hR, hg⟩
  go_wp2_with fail
  have hk : k ≤ 140737488351232 := by
    have h1 := hr.len
    have h2 : (tk xs p er m).1.length ≤ xs.length := by
      unfold tk
      split
      · simp
      · split
        · simp
        · simp; omega
    have := h.rd.len
    have := h.lim
    omega
  refine (clone_any ao' k c' _ w1 hr hk).mono ?_
  rintro e w2 ⟨ao2, c2, rfl, hr2, hf2, hbel⟩
  clear hk hr
  go_wp2
  go_ret
  exact ⟨_, _, _, rfl, hr2, fun ad had => Nat.le_trans hg.size (hf2 ad had), hR.keep hbel, grownBy_trans hg ⟨hbel.os, hbel.tape, hbel.output, hbel.size, fun k hk _ => hbel.block k hk⟩⟩

end Go.Proofs.Ytmkjpfjlohkdoaa
