/- The statement's own cost and whole. -/
import Derived.Test.YtkclaikofdolmaaXLeast
namespace Go.Proofs.Ytkclaikofdolmaa
open Go.RowKit

set_option maxRecDepth 100000 in
set_option maxHeartbeats 4000000 in
theorem xcost_any (L D : Nat → Int) (n : Nat) (ao co : Option Addr) (ac cc : Nat) (w : World) (hl : Ri w ao n ac L) (hr : Ri w co n cc D) (h288 : n ≤ 288) (hL : ∀ j, j < n → Lm (L j)) (hD : ∀ j, j < n → 0 ≤ D j ∧ D j ≤ 16777216) :
    Calls Try.prog 13 #[.slice ao n ac, .slice co n cc] w fun e w' => e = .returned (.int .i64 (CS L D n)) ∧ ∃ m, w' = w.drewN m := by
  have HLm : Hid (∀ j, j < n → Lm (L j)) := hL
  have HDm : Hid (∀ j, j < n → 0 ≤ D j ∧ D j ≤ 16777216) := hD
  clear hL hD
  go_enter Try.func13, Try.ntmps13
  go_wp2
  go_loopw [5, 6] (fun cv i wr => ∃ k : Nat, k ≤ n ∧ i = .int .i64 k ∧ cv = .int .i64 (CS L D k) ∧ (∃ m, wr = w.drewN m)) (fun _ i _ => n - (intOf i).toNat)
  case atStart => exact ⟨0, by omega, rfl, rfl, 0, rfl⟩
  case round =>
    obtain ⟨k, hk, rfl, rfl, m, hm⟩ := hrel
    have HM : Hid (wr = w.drewN m) := hm
    by_cases hlt : k < n
    · obtain ⟨b, off, rfl, hc1⟩ := hl.plain (by omega)
      obtain ⟨b', off', rfl, hc2⟩ := hr.plain (by omega)
      have c1 : wr.cell? ⟨b, off + k, none⟩ = some (.int .i64 (L k)) := by rw [hm]; exact hc1 k hlt
      have c2 : wr.cell? ⟨b', off' + k, none⟩ = some (.int .i64 (D k)) := by rw [hm]; exact hc2 k hlt
      have hb := CS_bound L D k (fun j hj => HLm.out j (by omega)) (fun j hj => HDm.out j (by omega))
      have h4 : 0 ≤ L k * D k := Int.mul_nonneg (HLm.out k hlt).1 (HDm.out k hlt).1
      have h5 : L k * D k ≤ 15 * 16777216 := Int.mul_le_mul (HLm.out k hlt).2 (HDm.out k hlt).2 (HDm.out k hlt).1 (by omega)
      have HS : Hid (CS L D (k + 1) = CS L D k + L k * D k) := rfl
      clear hl hr hc1 hc2 hm
      go_wp2_with fail
      go_region
      go_wp2_with fail
      go_roundw
      case rel => exact ⟨k + 1, by omega, by go_num, by rw [HS.out], m + 1, by rw [HM.out]; rfl⟩
      case measure => simp [intOf]; omega
    · obtain rfl : k = n := by omega
      clear hl hr hm
      go_wp2
      go_ret
      exact ⟨rfl, m, HM.out⟩

theorem sy_count (D : Nat → Int) (k : Nat) : (sy D (k + 1)).length = if 0 < D k then (sy D k).length + 1 else (sy D k).length := by
  simp only [sy]
  split
  · rw [List.length_append]; rfl
  · rfl

theorem G40_bound (L : Nat → Int) (k : Nat) : 0 ≤ G L 40 k ∧ G L 40 k ≤ 1099511627776 * k := by
  refine ⟨G_nn _ _ _, ?_⟩
  induction k with
  | zero => simp [G]
  | succ k ih =>
    simp only [G]
    have h1 := p2_le (40 - (L k).toNat) 40 (by omega)
    have h2 : (2 : Int) ^ 40 = 1099511627776 := rfl
    split <;> omega

theorem Gd.few40 {D L : Nat → Int} {n m : Nat} (h : Gd D n m L) (h2 : (sy D n).length < 2) : G L 40 n = (sy D n).length * 549755813888 := by
  rw [G_sy D L 40 n (fun j hj hp => by have := h.one h2 j hj hp; omega) h.zer]
  have hg : ∀ l : List Nat, (∀ s ∈ l, s ∈ sy D n) → sm (fun s => (2 : Int) ^ (40 - (L s).toNat)) l = l.length * 549755813888 := by
    intro l hl
    induction l with
    | nil => simp [sm]
    | cons s l ih =>
      have hs := (sy_mem D n s).1 (hl s (by simp))
      have h1 := h.one h2 s hs.1 hs.2
      simp only [sm, List.length_cons]
      rw [ih (fun x hx => hl x (by simp [hx])), h1]
      have : (2 : Int) ^ (40 - (1 : Int).toNat) = 549755813888 := by decide
      rw [this]
      omega
  exact hg _ (fun s h => h)

theorem drewN_add (w : World) (a b : Nat) : (w.drewN a).drewN b = w.drewN (a + b) := by
  simp [World.drewN, Nat.add_assoc]

set_option maxRecDepth 100000 in
set_option maxHeartbeats 8000000 in
theorem whole_any (D L : Nat → Int) (n m : Nat) (ao co : Option Addr) (ac cc : Nat) (w : World) (hl : Ri w ao n ac L) (hr : Ri w co n cc D) (h288 : n ≤ 288) (hm : m ≤ 15) (gd : Gd D n m L) :
    Calls Try.prog 12 #[.slice ao n ac, .slice co n cc, .int .i64 m] w fun e w' => e = .returned (.bool true) ∧ ∃ q, w' = w.drewN q := by
  have GD := hid gd
  have HL := hid hl
  have HR := hid hr
  clear gd hl hr
  go_enter Try.func12, Try.ntmps12
  go_wp2
  go_loopw [7, 8, 9] (fun nv fv i wr => ∃ k N : Nat, k ≤ n ∧ i = .int .i64 k ∧ nv = .int .i64 N ∧ N ≤ k ∧ Hid (N = (sy D k).length) ∧ fv = .int .i64 (G L 40 k) ∧ (∃ q, wr = w.drewN q)) (fun _ _ i _ => n - (intOf i).toNat)
  case atStart => exact ⟨0, 0, by omega, rfl, rfl, by omega, rfl, rfl, 0, rfl⟩
  case round =>
    obtain ⟨k, N, hk, rfl, rfl, hN, HN, rfl, q, hq⟩ := hrel
    have HQ := hid hq
    have hg := G40_bound L k
    by_cases hlt : k < n
    · obtain ⟨b, off, hao, hc1⟩ := HL.out.plain (by omega)
      obtain ⟨b', off', hco, hc2⟩ := HR.out.plain (by omega)
      have c1 : wr.cell? ⟨b, off + k, none⟩ = some (.int .i64 (L k)) := by rw [hq]; exact hc1 k hlt
      have c2 : wr.cell? ⟨b', off' + k, none⟩ = some (.int .i64 (D k)) := by rw [hq]; exact hc2 k hlt
      subst hao hco
      have hle1 := HL.out.le
      have hle2 := HR.out.le
      by_cases hp : 0 < D k
      · have hL := GD.out.pos k hlt hp
        obtain ⟨x, hx⟩ := Int.eq_ofNat_of_zero_le (show 0 ≤ L k by omega)
        have HS : Hid (G L 40 (k + 1) = G L 40 k + 2 ^ (40 - x)) := by
          show _ = _
          simp only [G]
          rw [if_pos (by omega), hx, Int.toNat_natCast]
        have HN1 : Hid (N + 1 = (sy D (k + 1)).length) := by show _ = _; rw [sy_count, if_pos hp, ← HN.out]
        rw [hx] at c1 hL
        have t1 : decide ((0 : Int) < (x : Int)) = true := by simp; omega
        have t2 : decide (0 < D k) = true := by simp [hp]
        have t3 : decide ((x : Int) < 0) = false := by simp
        have t4 : decide ((m : Int) < (x : Int)) = false := by simp; omega
        have t5 : decide ((40 : Int) < (x : Int)) = false := by simp; omega
        have s1 : decide (0 < x) = true := by simp; omega
        have s4 : decide (m < x) = false := by simp; omega
        have s5 : decide (40 < x) = false := by simp; omega
        obtain ⟨y, hy⟩ : ∃ y : Nat, y = 40 - x := ⟨_, rfl⟩
        have ey : (40 : Int) - (x : Int) = (y : Int) := by omega
        have hy40 : y ≤ 40 := by omega
        rw [← hy] at HS
        have e4 := p2 y
        have e3 := p2_le y 40 hy40
        have e5 : (2 : Int) ^ 40 = 1099511627776 := rfl
        have e6 : (2 : Int) ^ y ≤ 1099511627776 := by omega
        have hkk : (k : Int) ≤ 288 := by omega
        clear hc1 hc2 hx hp hq HN hy e3 e5
        generalize G L 40 k = Gk at *
        generalize D k = dk at *
        go_wp2_with fail
        go_quiet (fail)
        have HQ5 : Hid (wr.drewN nq = w.drewN (q + nq)) := by rw [HQ.out]; exact drewN_add w q nq
        clear HQ
        go_wp2_with fail
        go_roundw
        case rel => exact ⟨k + 1, N + 1, by omega, by go_num, by go_num, by omega, HN1, by rw [HS.out], q + nq, HQ5.out⟩
        case measure => simp [intOf]; omega
      · have hL := GD.out.zer k hlt hp
        have HS : Hid (G L 40 (k + 1) = G L 40 k) := by
          show _ = _
          simp only [G]
          rw [if_neg (by omega), Int.add_zero]
        have HN1 : Hid (N = (sy D (k + 1)).length) := by show _ = _; rw [sy_count, if_neg hp, ← HN.out]
        rw [hL] at c1
        have t2 : decide (0 < D k) = false := by simp; omega
        have t4 : decide ((m : Int) < 0) = false := by simp
        clear hc1 hc2 hp hq HN
        generalize G L 40 k = Gk at *
        generalize D k = dk at *
        go_wp2_with fail
        go_quiet (fail)
        have HQ5 : Hid (wr.drewN nq = w.drewN (q + nq)) := by rw [HQ.out]; exact drewN_add w q nq
        clear HQ
        go_wp2_with fail
        go_roundw
        case rel => exact ⟨k + 1, N, by omega, by go_num, rfl, by omega, HN1, by rw [HS.out], q + nq, HQ5.out⟩
        case measure => simp [intOf]; omega
    · obtain rfl : k = n := by omega
      have hNo := HN.out
      by_cases h0 : N = 0
      · subst h0
        clear hg
        generalize G L 40 k = Gk at *
        go_wp2
        go_ret
        exact ⟨rfl, q, rfl⟩
      · by_cases h1 : N = 1
        · have hG : G L 40 k = 549755813888 := by
            have := (GD.out.few40 (by omega))
            rw [this, ← hNo, h1]
            rfl
          rw [hG]
          subst h1
          go_wp2
          go_ret
          exact ⟨rfl, q, rfl⟩
        · have hG : G L 40 k = 1099511627776 := GD.out.full (by omega) 40 (by omega)
          rw [hG]
          have r0 : ((N : Int) == 0) = false := by simp; omega
          have r1 : ((N : Int) == 1) = false := by simp; omega
          go_wp2
          go_ret
          exact ⟨rfl, q, rfl⟩

end Go.Proofs.Ytkclaikofdolmaa
