/- Stored blocks, one behind the other, as fields. -/
import Derived.Test.YtjkfmnahmbnbnaaDoorXFld
namespace Go.Proofs.YtjkfmnahmbnbnaaDoor
open Go.RowKit

/-- Whether block k of L is the last. -/
def lastB (L k : Nat) : Int := if k + 1 = L then 1 else 0

/-- A length's other half; at the bad one a bit of it turned. -/
def turnB (bad : Int) (k n : Nat) : Int := if (k : Int) = bad then (((65535 - n) ^^^ 1 : Nat) : Int) else 65535 - (n : Int)

/-- A block's fields. -/
def stf (L : Nat) (bad : Int) (zs : Nat → List Int) (k : Nat) : List Fd := (lastB L k, 1) :: (0, 2) :: (0, 5) :: (((zs k).length : Int), 16) :: (turnB bad k (zs k).length, 16) :: bfs (zs k)

/-- Those of the first k. -/
def sts (L : Nat) (bad : Int) (zs : Nat → List Int) : Nat → List Fd
  | 0 => []
  | k + 1 => sts L bad zs k ++ stf L bad zs k

/-- Those of j from k on. -/
def rs (L : Nat) (bad : Int) (zs : Nat → List Int) : Nat → Nat → List Fd
  | _, 0 => []
  | k, j + 1 => stf L bad zs k ++ rs L bad zs (k + 1) j

/-- All bytes of the first k. -/
def cat (zs : Nat → List Int) : Nat → List Int
  | 0 => []
  | k + 1 => cat zs k ++ zs k

theorem sts_rs (L : Nat) (bad : Int) (zs : Nat → List Int) : ∀ j k, sts L bad zs (k + j) = sts L bad zs k ++ rs L bad zs k j := by
  intro j
  induction j with
  | zero => intro k; simp [rs]
  | succ j ih =>
    intro k
    rw [show k + (j + 1) = (k + 1) + j by omega, ih (k + 1)]
    simp only [sts, rs, List.append_assoc]

theorem stf_fb (L : Nat) (bad : Int) (zs : Nat → List Int) (k : Nat) : fb (stf L bad zs k) = 40 + 8 * (zs k).length := by
  simp only [stf, fb, bfs_fb]
  omega

theorem sts_fb (L : Nat) (bad : Int) (zs : Nat → List Int) (k : Nat) : fb (sts L bad zs k) = 40 * k + 8 * (cat zs k).length := by
  induction k with
  | zero => rfl
  | succ k ih => simp only [sts, fb_app, ih, stf_fb, cat, List.length_append]; omega

theorem cat_le (zs : Nat → List Int) (k : Nat) (h : ∀ j, j < k → (zs j).length ≤ 200) : (cat zs k).length ≤ 200 * k := by
  induction k with
  | zero => simp [cat]
  | succ k ih =>
    have h1 := ih (fun j hj => h j (by omega))
    have h2 := h k (by omega)
    simp only [cat, List.length_append]
    omega

theorem xor1_ne (a : Nat) : a ^^^ 1 ≠ a := by
  intro h
  have := congrArg (fun x => a ^^^ x) h
  simp [← Nat.xor_assoc] at this

theorem xor1_lt (a : Nat) (h : a < 65536) : a ^^^ 1 < 65536 := Nat.xor_lt_two_pow (n := 16) h (by omega)

theorem turn_good (bad : Int) (k n : Nat) (h : (k : Int) ≠ bad) : turnB bad k n = 65535 - (n : Int) := by rw [turnB, if_neg h]

theorem turn_bad (bad : Int) (k n : Nat) (h : (k : Int) = bad) (hn : n ≤ 65535) : turnB bad k n ≠ 65535 - (n : Int) := by
  rw [turnB, if_pos h]
  have := xor1_ne (65535 - n)
  omega

theorem sto_good (X : Int) (nb m L : Nat) (bad : Int) (zs : Nat → List Int) (hb : ∀ j, j < L → ∀ x ∈ zs j, 0 ≤ x ∧ x < 256) (hl : ∀ j, j < L → (zs j).length ≤ 200) (hm : 200 * L ≤ m) (hbad : ∀ j, j < L → (j : Int) ≠ bad) :
    ∀ j k, k + (j + 1) = L → Lay X nb (fb (sts L bad zs k)) (rs L bad zs k (j + 1)) → Inf X nb m (j + 1) (fb (sts L bad zs k)) (cat zs k) 0 (cat zs L) (fb (sts L bad zs L)) := by
  intro j
  induction j with
  | zero =>
    intro k hk hlay
    have hkl : k < L := by omega
    have h1 := hlay.front
    simp only [stf] at h1
    rw [turn_good bad k _ (hbad k hkl), lastB, if_pos (by omega)] at h1
    have hc := cat_le zs k (fun j hj => hl j (by omega))
    have h2 := hl k hkl
    have h3 : 200 * k + 200 ≤ m := by
      have : 200 * (k + 1) ≤ 200 * L := Nat.mul_le_mul_left 200 (by omega)
      omega
    have := Inf.last (X := X) (n := nb) (m := m) 0 (fb (sts L bad zs k)) (cat zs k) (zs k) h1 (by rw [sts_fb]; omega) (hb k hkl) (by omega) (by omega)
    rw [show cat zs L = cat zs k ++ zs k by rw [show L = k + 1 by omega]; rfl, show fb (sts L bad zs L) = fb (sts L bad zs k) + 40 + 8 * (zs k).length by
      rw [sts_fb, sts_fb, show cat zs L = cat zs k ++ zs k by rw [show L = k + 1 by omega]; rfl, List.length_append]; omega]
    exact this
  | succ j ih =>
    intro k hk hlay
    have hkl : k < L := by omega
    have h1 := hlay.front
    have h4 := hlay.tail
    rw [stf_fb, ← Nat.add_assoc] at h4
    simp only [stf] at h1
    rw [turn_good bad k _ (hbad k hkl), lastB, if_neg (by omega)] at h1
    have hc := cat_le zs k (fun j hj => hl j (by omega))
    have h2 := hl k hkl
    have h3 : 200 * k + 200 ≤ m := by
      have : 200 * (k + 1) ≤ 200 * L := Nat.mul_le_mul_left 200 (by omega)
      omega
    have e : fb (sts L bad zs (k + 1)) = fb (sts L bad zs k) + 40 + 8 * (zs k).length := by
      simp only [sts, fb_app, stf_fb]; omega
    rw [← e] at h4
    have h5 := ih (k + 1) (by omega) h4
    rw [e] at h5
    exact Inf.more (j + 1) _ (cat zs k) (zs k) 0 _ _ h1 (by rw [sts_fb]; omega) (hb k hkl) (by omega) (by omega) h5

theorem sto_bad (X : Int) (nb m L b : Nat) (zs : Nat → List Int) (hb : ∀ j, j < L → ∀ x ∈ zs j, 0 ≤ x ∧ x < 256) (hl : ∀ j, j < L → (zs j).length ≤ 200) (hm : 200 * L ≤ m) (hbL : b < L) :
    ∀ j k, k + (j + 1) = L → k ≤ b → Lay X nb (fb (sts L b zs k)) (rs L b zs k (j + 1)) → Inf X nb m (j + 1) (fb (sts L b zs k)) (cat zs k) 2 [] 0 := by
  intro j
  induction j with
  | zero =>
    intro k hk hkb hlay
    obtain rfl : k = b := by omega
    have h2 := hl k hbL
    have hc := cat_le zs k (fun j hj => hl j (by omega))
    have h3 : 200 * k + 200 ≤ m := by
      have : 200 * (k + 1) ≤ 200 * L := Nat.mul_le_mul_left 200 (by omega)
      omega
    have h1 : Lay X nb (fb (sts L k zs k)) ((lastB L k, 1) :: (0, 2) :: [(0, 5), (((zs k).length : Int), 16), (turnB k k (zs k).length, 16)]) := Lay.front (b := bfs (zs k)) (by simpa [stf] using hlay.front)
    exact Inf.wrong 0 _ _ _ _ (zs k).length [] 0 h1 (by rw [sts_fb]; omega) (by omega) (by omega) (turn_bad _ k _ rfl (by omega))
  | succ j ih =>
    intro k hk hkb hlay
    have hkl : k < L := by omega
    have h2 := hl k hkl
    have hc := cat_le zs k (fun j hj => hl j (by omega))
    have h3 : 200 * k + 200 ≤ m := by
      have : 200 * (k + 1) ≤ 200 * L := Nat.mul_le_mul_left 200 (by omega)
      omega
    by_cases hkb' : k = b
    · subst hkb'
      have h1 : Lay X nb (fb (sts L k zs k)) ((lastB L k, 1) :: (0, 2) :: [(0, 5), (((zs k).length : Int), 16), (turnB k k (zs k).length, 16)]) := Lay.front (b := bfs (zs k)) (by simpa [stf] using hlay.front)
      exact Inf.wrong (j + 1) _ _ _ _ (zs k).length [] 0 h1 (by rw [sts_fb]; omega) (by omega) (by omega) (turn_bad _ k _ rfl (by omega))
    · have h1 := hlay.front
      have h4 := hlay.tail
      rw [stf_fb, ← Nat.add_assoc] at h4
      simp only [stf] at h1
      rw [turn_good b k _ (by omega), lastB, if_neg (by omega)] at h1
      have e : fb (sts L b zs (k + 1)) = fb (sts L b zs k) + 40 + 8 * (zs k).length := by
        simp only [sts, fb_app, stf_fb]; omega
      rw [← e] at h4
      have h5 := ih (k + 1) (by omega) (by omega) h4
      rw [e] at h5
      exact Inf.more (j + 1) _ (cat zs k) (zs k) 2 _ _ h1 (by rw [sts_fb]; omega) (hb k hkl) (by omega) (by omega) h5

end Go.Proofs.YtjkfmnahmbnbnaaDoor
