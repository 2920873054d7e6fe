/- The statements' own put and sym. -/
import Derived.Test.YtjkfmnahmbnbnaaDoorXFld
import Derived.Test.YtjkfmnahmbnbnaaDoorXDist
namespace Go.Proofs.YtjkfmnahmbnbnaaDoor
open Go.RowKit

theorem wsym_any (B R : Nat) (l : List Fd) (s : Nat) (w : World) (h : Wr w B R l) (hs : s < 288) (hl : fb l ≤ 1000000000) :
    Calls Tryd.prog 19 #[.pointer (some ⟨R, 0, none⟩), .int .i64 s] w fun e w' => e = .returned (.tuple #[]) ∧ Wr w' B R (l ++ [sf s]) ∧ Xw B w w' := by
  by_cases h1 : s < 144
  · have q1 : (s : Int) < 144 := by omega
    have hc := wcode_any B R l (48 + (s : Int)) 8 w h (by omega) hl
    have e : sf s = (T (48 + (s : Int)) 8, 8) := by simp [sf, fc, fn, h1]
    rw [e]
    clear e
    go_enter Tryd.func19, Tryd.ntmps19
    go_wp2_with (go_at_call 21; refine hc.mono ?_; rintro e w1 ⟨rfl, h1, x1⟩)
    go_end0
    exact ⟨rfl, h1, x1⟩
  · have q1 : ¬ (s : Int) < 144 := by omega
    by_cases h2 : s < 256
    · have q2 : (s : Int) < 256 := by omega
      have hc := wcode_any B R l (400 + (s : Int) - 144) 9 w h (by omega) hl
      have e : sf s = (T (400 + (s : Int) - 144) 9, 9) := by simp [sf, fc, fn, h1, h2]
      rw [e]
      clear e
      go_enter Tryd.func19, Tryd.ntmps19
      go_wp2_with (go_at_call 21; refine hc.mono ?_; rintro e w1 ⟨rfl, h1, x1⟩)
      go_end0
      exact ⟨rfl, h1, x1⟩
    · have q2 : ¬ (s : Int) < 256 := by omega
      by_cases h3 : s < 280
      · have q3 : (s : Int) < 280 := by omega
        have hc := wcode_any B R l ((s : Int) - 256) 7 w h (by omega) hl
        have e : sf s = (T ((s : Int) - 256) 7, 7) := by simp [sf, fc, fn, h1, h2, h3]
        rw [e]
        clear e
        go_enter Tryd.func19, Tryd.ntmps19
        go_wp2_with (go_at_call 21; refine hc.mono ?_; rintro e w1 ⟨rfl, h1, x1⟩)
        go_end0
        exact ⟨rfl, h1, x1⟩
      · have q3 : ¬ (s : Int) < 280 := by omega
        have hc := wcode_any B R l (192 + (s : Int) - 280) 8 w h (by omega) hl
        have e : sf s = (T (192 + (s : Int) - 280) 8, 8) := by simp [sf, fc, fn, h1, h2, h3]
        rw [e]
        clear e
        go_enter Tryd.func19, Tryd.ntmps19
        go_wp2_with (go_at_call 21; refine hc.mono ?_; rintro e w1 ⟨rfl, h1, x1⟩)
        go_end0
        exact ⟨rfl, h1, x1⟩

theorem db_next : ∀ s, s < 29 → db (s + 1) = db s + 2 ^ dx s := by decide +kernel
theorem db_last : db 29 + 2 ^ dx 29 = 32769 := by decide +kernel
theorem lb_next : ∀ n, n < 285 → 257 ≤ n → lb (n + 1) ≤ lb n + 2 ^ lx n := by decide +kernel

theorem p2c (x : Nat) : ((2 ^ x : Nat) : Int) = 2 ^ x := by simp

set_option maxRecDepth 100000 in
set_option maxHeartbeats 400000 in
theorem symd_any (v : Nat) (w : World) (h1 : 1 ≤ v) (h2 : v ≤ 32768) :
    Calls Tryd.prog 20 #[.int .i64 v, .bool true] w fun e w' => ∃ s u : Nat, e = .returned (.tuple #[.int .i64 s, .int .i64 u, .int .i64 (dx s)]) ∧ s < 30 ∧ u < 2 ^ dx s ∧ db s + u = v ∧ Below w.heap.size w w' := by
  go_enter Tryd.func20, Tryd.ntmps20
  go_wp2_with fail
  go_loopw [7] (fun iv wr => ∃ s : Nat, s ≤ 29 ∧ iv = .int .i64 s ∧ db s ≤ v ∧ Hid (Below w.heap.size w wr)) (fun iv _ => 30 - (intOf iv).toNat)
  case atStart => exact ⟨0, by omega, rfl, by show db 0 ≤ v; have : db 0 = 1 := by decide +kernel
                                              omega, Below.refl _ _⟩
  case round =>
    obtain ⟨s, hs, rfl, hge, HB⟩ := hrel
    have q1 : (s : Int) < 30 := by omega
    have hb := db_le s (by omega)
    have hp0 := p2 (dx s)
    have hp := p2_le (dx s) 13 (by omega)
    have hpc := p2c (dx s)
    have q2 : ((db s : Nat) : Int) ≤ v := by omega
    have hx64 : ¬ 64 ≤ dx s := by omega
    have hu : IntKind.u64.wrap ((dx s : Nat) : Int) = dx s := wraps_u64 _ (by omega) (by omega)
    have hxd := xdistance_yes s wr (by omega)
    have e1 : IntKind.i64.wrap (2 ^ dx s) = 2 ^ dx s := wraps_i64 _ (by omega) (by omega)
    have e2 : wrap64 (2 ^ dx s) = 2 ^ dx s := IntWalk.wrap64_in _ (by omega)
    have e3 : wrap64 (((db s : Nat) : Int) + 2 ^ dx s) = ((db s : Nat) : Int) + 2 ^ dx s := IntWalk.wrap64_in _ (by omega)
    by_cases hlt : v < db s + 2 ^ dx s
    · have q3 : (v : Int) < ((db s : Nat) : Int) + 2 ^ dx s := by omega
      obtain ⟨u, hu'⟩ : ∃ u, u = v - db s := ⟨_, rfl⟩
      have q4 : (v : Int) - ((db s : Nat) : Int) = u := by omega
      have HF : Hid (s < 30 ∧ u < 2 ^ dx s ∧ db s + u = v) := ⟨by omega, by omega, by omega⟩
      clear hpc hlt hge hu' hp hp0
      go_wp2_with (go_at_call 13; refine hxd.mono ?_; rintro e w1 ⟨rfl, b1⟩)
      go_ret3
      exact ⟨s, u, by first | rfl | (rw [q4]), HF.out.1, HF.out.2.1, HF.out.2.2, HB.out.trans (b1.mono HB.out.size)⟩
    · have q3 : decide ((v : Int) < ((db s : Nat) : Int) + 2 ^ dx s) = false := by simp; omega
      have hs28 : s < 29 := by
        rcases Nat.lt_or_ge s 29 with h | h
        · exact h
        · obtain rfl : s = 29 := by omega
          have := db_last
          omega
      have hnx : db (s + 1) ≤ v := by rw [db_next s hs28]; omega
      have HN : Hid (db (s + 1) ≤ v) := hnx
      clear hpc hlt hge hp hp0 hnx
      go_wp2_with (go_at_call 13; refine hxd.mono ?_; rintro e w1 ⟨rfl, b1⟩)
      go_roundw
      case rel => exact ⟨s + 1, by omega, by go_num, HN.out, HB.out.trans (b1.mono HB.out.size)⟩
      case measure => simp [intOf]; omega

end Go.Proofs.YtjkfmnahmbnbnaaDoor
