/- turned, left, part, word. -/
import Derived.Test.YtebkgmjmjmaleaaFrame
namespace Go.Proofs.Ytebkgmjmjmaleaa
open Go.RowKit

theorem turned_any (v : Int) (n : Nat) (w : World) (h : n ≤ 31) : Calls Try.prog 23 #[.int .u32 v, .int .i64 n] w fun e w' => e = .returned (.int .u32 (rotl v n)) ∧ w' = w.drew := by
  go_enter Try.func23, Try.ntmps23
  go_wp2
  go_region
  go_wp2
  go_ret
  exact ⟨rfl, rfl⟩

theorem left_any (v : Int) (n : Nat) (w : World) (h : n ≤ 31) : Calls Try.prog 20 #[.int .u32 v, .int .u64 n] w fun e w' => e = .returned (.int .u32 (rotl v n)) ∧ w' = w := by
  go_enter Try.func20, Try.ntmps20
  go_wp2
  go_ret
  exact ⟨rfl, rfl⟩

theorem part_any (t : Nat) (b c d : Int) (w : World) (h : t < 80) : Calls Try.prog 22 #[.int .i64 t, .int .u32 b, .int .u32 c, .int .u32 d] w fun e w' => e = .returned (.tuple #[.int .u32 (fF t b c d), .int .u32 (kK t)]) ∧ w' = w := by
  by_cases h1 : t < 20
  · go_enter Try.func22, Try.ntmps22
    go_wp2
    go_ret2
    exact ⟨by simp [fF, kK, h1], rfl⟩
  by_cases h2 : t < 40
  · go_enter Try.func22, Try.ntmps22
    go_wp2
    go_ret2
    exact ⟨by simp [fF, kK, h1, h2, x3], rfl⟩
  by_cases h3 : t < 60
  · go_enter Try.func22, Try.ntmps22
    go_wp2
    go_ret2
    exact ⟨by simp [fF, kK, h1, h2, h3], rfl⟩
  · go_enter Try.func22, Try.ntmps22
    go_wp2
    go_ret2
    exact ⟨by simp [fF, kK, h1, h2, h3, x3], rfl⟩

theorem word_num (a b c d : Int) (a0 : 0 ≤ a) (a1 : a < 256) (b0 : 0 ≤ b) (b1 : b < 256) (c0 : 0 ≤ c) (c1 : c < 256) (d0 : 0 ≤ d) (d1 : d < 256) :
    bits .or .u32 (bits .or .u32 (bits .or .u32 (a * 16777216) (b * 65536)) (c * 256)) d = a * 16777216 + b * 65536 + c * 256 + d := by
  have hw : ∀ n : Int, 0 ≤ n → n < 2 ^ 32 → IntKind.u32.wrap n = n := fun n h0 h1 => by
    have e : IntKind.u32.wrap n = n % 4294967296 := by simp [IntKind.wrap, IntKind.bits, IntKind.signed]
    rw [e]; omega
  rw [bits_join .u32 32 (by decide) hw 24 (a * 16777216) (b * 65536) (by omega) (by omega) (by omega) (by omega) (by omega) (by omega)]
  rw [bits_join .u32 32 (by decide) hw 16 (a * 16777216 + b * 65536) (c * 256) (by omega) (by omega) (by omega) (by omega) (by omega) (by omega)]
  rw [bits_join .u32 32 (by decide) hw 8 (a * 16777216 + b * 65536 + c * 256) d (by omega) (by omega) (by omega) (by omega) (by omega) (by omega)]

theorem word_any (B o n c : Nat) (w : World) (x0 x1 x2 x3 : Int) (hn : 4 ≤ n) (h0 : w.cell? ⟨B, o, none⟩ = some (.int .u8 x0)) (h1 : w.cell? ⟨B, o + 1, none⟩ = some (.int .u8 x1)) (h2 : w.cell? ⟨B, o + 2, none⟩ = some (.int .u8 x2)) (h3 : w.cell? ⟨B, o + 3, none⟩ = some (.int .u8 x3))
    (b0 : 0 ≤ x0 ∧ x0 < 256) (b1 : 0 ≤ x1 ∧ x1 < 256) (b2 : 0 ≤ x2 ∧ x2 < 256) (b3 : 0 ≤ x3 ∧ x3 < 256) :
    Calls Try.prog 19 #[.slice (some ⟨B, o, none⟩) n c] w fun e w' => e = .returned (.int .u32 (x0 * 16777216 + x1 * 65536 + x2 * 256 + x3)) ∧ w' = w.drew := by
  have HE : Hid _ := word_num x0 x1 x2 x3 b0.1 b0.2 b1.1 b1.2 b2.1 b2.2 b3.1 b3.2
  obtain ⟨p0, q0⟩ := b0
  obtain ⟨p1, q1⟩ := b1
  obtain ⟨p2, q2⟩ := b2
  obtain ⟨p3, q3⟩ := b3
  go_enter Try.func19, Try.ntmps19
  go_wp2
  go_region
  go_wp2
  go_ret
  exact ⟨by rw [← HE.out]; rfl, rfl⟩

end Go.Proofs.Ytebkgmjmjmaleaa
