/- InflateMade. -/
import Derived.Test.YtjkfmnahmbnbnaaDoorXMade
namespace Go.Proofs.YtjkfmnahmbnbnaaDoor
open Go.RowKit

theorem fhd_end (its : List It) : fhd its ++ [sf 256] = (1, 1) :: (1, 2) :: (encs its ++ [sf 256]) := by simp [fhd]

theorem fhd_inf {its : List It} (hok : ∀ i ∈ its, i.ok) (hft : Ft (fhd its ++ [sf 256])) (m : Nat) (g : Int) (os : List Int) (h : play m its [] = (g, os)) :
    Inf (fv (fhd its ++ [sf 256])) ((fb (fhd its ++ [sf 256]) + 7) / 8) m 1 0 [] g os (fb (fhd its ++ [sf 256])) := by
  have h1 := Lay.of (n := (fb (fhd its ++ [sf 256]) + 7) / 8) hft (by omega)
  have e : 0 + 3 + fb (encs its) + 7 = fb (fhd its ++ [sf 256]) := by
    rw [fb_app, fhd_fb]
    have : fb [sf 256] = 7 := by decide
    omega
  have h2 : Lay (fv (fhd its ++ [sf 256])) ((fb (fhd its ++ [sf 256]) + 7) / 8) 0 ((1, 1) :: (1, 2) :: (encs its ++ [sf 256])) := by
    rw [← fhd_end]
    exact h1
  exact .fixed 0 0 [] its g os _ h2 hok (by simp) h e

theorem made_skip (a0 : Option Addr) (L cap : Nat) (w : World) (h : 100 < L) :
    Calls Tryd.prog 4 #[.slice a0 L cap] w fun e w' => e = .returned (.bool true) ∧ Below w.heap.size w w' := by
  have h1 : (100 : Int) < L := by omega
  go_enter Tryd.func4, Tryd.ntmps4
  go_wp2_with (go_at_call 7; refine (known_any _).mono ?_; rintro e w1 ⟨rfl, hb⟩)
  go_ret
  exact ⟨rfl, hb⟩

theorem IsParts.keep {w w' : World} {a : Option Addr} {len : Nat} {O N D : Nat → Int} (h : IsParts w a len O N D) (hb : Below w.heap.size w w') : IsParts w' a len O N D := fun j hj => by
  obtain ⟨b, off, rfl, p0, p1, p2, o0, o1⟩ := h j hj
  exact ⟨b, off, rfl, (hb.cell (World.block_lt_of_cell? w _ p0)).trans p0, (hb.cell (World.block_lt_of_cell? w _ p1)).trans p1, (hb.cell (World.block_lt_of_cell? w _ p2)).trans p2, o0, o1⟩

set_option maxRecDepth 100000 in
set_option maxHeartbeats 2000000 in
theorem made_go (a0 : Option Addr) (L cap : Nat) (O N D : Nat → Int) (w : World) (hL : L ≤ 100) (hp : IsParts w a0 L O N D) :
    Calls Tryd.prog 4 #[.slice a0 L cap] w fun e w' => e = .returned (.bool true) ∧ Below w.heap.size w w' := by
  have d1 : decide ((100 : Int) < L) = false := by simp; omega
  go_enter Tryd.func4, Tryd.ntmps4
  go_wp2_with (go_at_call 7; refine (known_any _).mono ?_; rintro e w1 ⟨rfl, b1⟩)
  refine (fixw_any a0 L cap O N D w1 hL (hp.keep b1)).mono ?_
  rintro e w2 (⟨rfl, b2⟩ | ⟨its, os, ao, c, oo, oc, rfl, hok, hil, hmk, hol, hft, rb, ro, b2⟩)
  · have B2 : Hid (Below w.heap.size w w2) := b1.trans (b2.mono b1.size)
    clear hp b1 b2
    go_wp2
    go_ret
    exact ⟨rfl, B2.out⟩
  · have B2 := b1.trans (b2.mono b1.size)
    have hfb : fb (fhd its ++ [sf 256]) ≤ 4000 := by
      rw [fb_app]
      have h1 := fhd_le hok
      have h2 : fb [sf 256] = 7 := by decide
      omega
    have hI := fhd_inf hok hft os.length 0 os ((hmk os.length).1 (Nat.le_refl _))
    have hI2 : 0 < os.length → ∃ o2, Inf (fv (fhd its ++ [sf 256])) ((fb (fhd its ++ [sf 256]) + 7) / 8) (os.length - 1) 1 0 [] 5 o2 (fb (fhd its ++ [sf 256])) := fun h => by
      have h5 := (hmk (os.length - 1)).2 (by omega)
      exact ⟨(play (os.length - 1) its []).2, fhd_inf hok hft (os.length - 1) 5 _ (by rw [← h5])⟩
    obtain ⟨F, hF⟩ : ∃ F, F = fb (fhd its ++ [sf 256]) := ⟨_, rfl⟩
    obtain ⟨X, hX⟩ : ∃ X, X = fv (fhd its ++ [sf 256]) := ⟨_, rfl⟩
    rw [← hF, ← hX] at hI hI2 rb
    rw [← hF] at hfb ⊢
    obtain ⟨nb, hnb⟩ : ∃ nb, nb = (F + 7) / 8 := ⟨_, rfl⟩
    rw [← hnb] at hI hI2 rb ⊢
    have hnb9 : nb ≤ 10000 := by omega
    obtain ⟨lo, hlo⟩ : ∃ lo, lo = os.length := ⟨_, rfl⟩
    have HLO : Hid (lo = os.length) := hlo
    have HNB : Hid (nb = (F + 7) / 8) := hnb
    rw [← hlo] at hI hI2 hol ⊢
    have HI : Hid (Inf X nb lo 1 0 [] 0 os F) := hI
    have HI2 : Hid (0 < lo → ∃ o2, Inf X nb (lo - 1) 1 0 [] 5 o2 F) := hI2
    have HRO : Hid (Rd w2 oo os.length oc os) := ro
    have HB2 : Hid (Below w.heap.size w w2) := B2
    have HRB : Hid (Rd w2 ao nb c (by8 X nb)) := rb
    clear hF hX hnb hlo hI hI2 hft hmk hok hil b1 b2 B2 ro rb hp hfb
    go_wp2_with fail
    refine (inflate_any ao nb c X lo 1 0 os F os nb w2 HRB.out (by omega) (by omega) HI.out (.inl ⟨rfl, rfl, HNB.out⟩)).mono ?_
    rintro e w3 ⟨xo, xc, rfl, r3, b3⟩
    have s1 := r3.str
    have s2 := (HRO.out.keep b3).str
    rw [← HLO.out] at s1 s2 ⊢
    have HB3 : Hid (Below w.heap.size w w3) := HB2.out.trans (b3.mono HB2.out.size)
    have HRB3 : Hid (Rd w3 ao nb c (by8 X nb)) := HRB.out.keep b3
    clear r3 b3 HB2 HRB HRO HI
    by_cases hz : lo = 0
    · have z1 : ((lo : Int) == 0) = true := by simp [hz]
      have HZ : Hid (lo = 0) := hz
      clear hz
      go_wp2
      go_ret
      exact ⟨rfl, HB3.out⟩
    · have z1 : ((lo : Int) == 0) = false := by simp; omega
      obtain ⟨o2, hI2⟩ := HI2.out (by omega)
      have z2 : (lo : Int) - 1 = ((lo - 1 : Nat) : Int) := by omega
      obtain ⟨l1, hl1⟩ : ∃ l1, l1 = lo - 1 := ⟨_, rfl⟩
      rw [← hl1] at z2 hI2
      have hl9 : l1 ≤ 262144 := by omega
      have z3 : IntKind.i64.wrap (l1 : Int) = l1 := wraps_i64 _ (by omega) (by omega)
      clear hl1 hz HI2
      go_wp2_with fail
      refine (inflate_any ao nb c X l1 1 5 o2 F [] 0 w3 HRB3.out (by omega) hl9 hI2 (.inr ⟨by omega, rfl, rfl⟩)).mono ?_
      rintro e w4 ⟨yo, yc, rfl, r4, b4⟩
      have HB4 : Hid (Below w.heap.size w w4) := HB3.out.trans (b4.mono HB3.out.size)
      clear r4 b4 HB3 HRB3 s1 s2 hI2
      go_wp2
      go_ret
      exact ⟨rfl, HB4.out⟩

end Go.Proofs.YtjkfmnahmbnbnaaDoor
