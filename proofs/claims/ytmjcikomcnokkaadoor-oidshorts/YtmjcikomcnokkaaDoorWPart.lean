/- sort.partition, sort.partitionEqual. -/
import Derived.Test.YtmjcikomcnokkaaDoorWHeap
import Derived.Deep.CutBlock
namespace Go.Proofs.YtmjcikomcnokkaaDoor
open Go.RowKit

theorem su_go (p : List Int → Bool) (d : Array (List Int)) (j i : Nat) (h : i ≤ j) (hp : p d[i]! = true) : Sort.scanUp p d j i = Sort.scanUp p d j (i + 1) := by rw [Sort.scanUp, if_pos (by simp [h, hp])]

theorem su_end (p : List Int → Bool) (d : Array (List Int)) (j i : Nat) (h : ¬ i ≤ j ∨ p d[i]! = false) : Sort.scanUp p d j i = i := by
  rw [Sort.scanUp, if_neg]
  rintro hh
  simp only [Bool.and_eq_true, decide_eq_true_eq] at hh
  rcases h with h | h
  · exact h hh.1
  · rw [h] at hh; cases hh.2

theorem sn_go (p : List Int → Bool) (d : Array (List Int)) (i j : Nat) (h : i ≤ j) (h0 : 0 < j) (hp : p d[j]! = true) : Sort.scanDown p d i j = Sort.scanDown p d i (j - 1) := by
  cases j with
  | zero => omega
  | succ j => rw [Sort.scanDown, if_pos (by simp [h, hp])]; rfl

theorem sn_end (p : List Int → Bool) (d : Array (List Int)) (i j : Nat) (h : ¬ i ≤ j ∨ p d[j]! = false) : Sort.scanDown p d i j = j := by
  cases j with
  | zero => rfl
  | succ j =>
    rw [Sort.scanDown, if_neg]
    rintro hh
    simp only [Bool.and_eq_true, decide_eq_true_eq] at hh
    rcases h with h | h
    · exact h hh.1
    · rw [h] at hh; cases hh.2

set_option maxHeartbeats 4000000 in
set_option maxRecDepth 100000 in
theorem parteq_any (b N c n a e pv : Nat) (d : Array (List Int)) (w : World) (h : Rw w b N d) (hn : d.size = n) (hae : a < e) (he : e ≤ n) (hp2 : pv < e) (hsz : n < 100000) :
    Calls Tryd.prog 70 #[iv b n c, .int .i64 a, .int .i64 e, .int .i64 pv] w fun ee w' => ee = .returned (.int .i64 (Sort.partitionEqual ltl d a e pv).1) ∧ To b N w (Sort.partitionEqual ltl d a e pv).2 w' := by
  have m1 := mLess b n c
  have m2 := mSwap b n c
  have hsw0 := (To.refl h).swap c a pv (by omega) (by omega)
  rw [hn] at hsw0
  have HZ0 : Hid ((Sort.swp d a pv).size = n) := by rw [swp_size]; exact hn
  have hE : Sort.partitionEqual ltl d a e pv = Sort.partEqLoop ltl a (a + 1) (e - 1) (Sort.swp d a pv) := rfl
  rw [hE]
  generalize Sort.swp d a pv = d0 at *
  clear h hE hn
  go_enter Tryd.func70, Tryd.ntmps70
  go_wp2_with fail
  refine hsw0.mono ?_
  rintro ee w0 ⟨rfl, hT0⟩
  have HT0 : Hid (To b N w d0 w0) := hT0
  clear hT0 hsw0
  go_wp2_with fail
  go_loopw [9, 10] (fun vi vj wr => ∃ (i j : Nat) (dk : Array (List Int)), vi = .int .i64 i ∧ vj = .int .i64 j ∧ a < i ∧ i ≤ j + 1 ∧ j < n ∧ Hid (dk.size = n) ∧ Hid (To b N w dk wr) ∧ Hid (Sort.partEqLoop ltl a i j dk = Sort.partEqLoop ltl a (a + 1) (e - 1) d0)) (fun vi vj _ => ((intOf vj) + 1 - (intOf vi)).toNat)
  case atStart => exact ⟨a + 1, e - 1, d0, by go_num, by congr 1; omega, by omega, by omega, by omega, HZ0, HT0, rfl⟩
  case round =>
    obtain ⟨i, j, dk, rfl, rfl, hai, hij, hjn, HS, HT, HE⟩ := hrel
    clear HT0 HZ0
    obtain ⟨i2, hi2⟩ : ∃ i2, Sort.scanUp (fun x => !ltl dk[a]! x) dk j i = i2 := ⟨_, rfl⟩
    obtain ⟨j2, hj2⟩ : ∃ j2, Sort.scanDown (fun x => ltl dk[a]! x) dk i2 j = j2 := ⟨_, rfl⟩
    have HI2 : Hid (Sort.scanUp (fun x => !ltl dk[a]! x) dk j i = i2) := hi2
    have HJ2 : Hid (Sort.scanDown (fun x => ltl dk[a]! x) dk i2 j = j2) := hj2
    have hstep := Sort.partEqLoop_eq (lt := ltl) a i j dk
    rw [hi2, hj2] at hstep
    have HST : Hid _ := hstep
    have L1 := fun W (hW : To b N w dk W) (p q : Nat) (hp : p < n) (hq : q < n) => by
      have := hW.less c p q (by rw [HS.out]; exact hp) (by rw [HS.out]; exact hq)
      rw [HS.out] at this
      exact this
    have b1 := Sort.scanUp_spec (fun x => !ltl dk[a]! x) dk j _ i rfl
    rw [hi2] at b1
    have b2 := Sort.scanDown_spec (fun x => ltl dk[a]! x) dk i2 j
    rw [hj2] at b2
    have x1 : i ≤ i2 := b1.1
    have x2 : i2 ≤ j + 1 := b1.2.1 hij
    have x3 : j2 ≤ j := b2.1
    have x4 : i2 ≤ j2 + 1 := b2.2.1 x2
    have x5 : i2 ≤ j2 → i2 + 1 ≤ j2 := fun hle => by
      rcases Nat.lt_or_ge i2 j2 with h | h
      · exact h
      · have e : i2 = j2 := by omega
        have y1 := b1.2.2.2 (by omega)
        have y2 := b2.2.2.2 hle (by omega)
        rw [e] at y1
        have y3 : ltl dk[a]! dk[j2]! = false := y2
        have y4 : (!ltl dk[a]! dk[j2]!) = false := y1
        rw [y3] at y4
        cases y4
    clear hi2 hj2 hstep b1 b2
    go_upto_block 2 with fail
    go_cut [9] from 19 to 30 (fun v W => v = .int .i64 i2 ∧ To b N w dk W)
    case first =>
      go_wp2_with fail
      go_loopw [9] (fun vi wr => ∃ (k : Nat), vi = .int .i64 k ∧ i ≤ k ∧ k ≤ j + 1 ∧ Hid (Sort.scanUp (fun x => !ltl dk[a]! x) dk j k = i2) ∧ Hid (To b N w dk wr)) (fun vi _ => (j + 1 - (intOf vi).toNat))
      case atStart => exact ⟨i, rfl, by omega, by omega, HI2, HT⟩
      case round =>
        obtain ⟨k, rfl, hik, hkj, HU, HT1⟩ := hrel
        clear HT
        by_cases hkj2 : k ≤ j
        · have hz : (k : Int) ≤ (j : Int) := by omega
          have hl := L1 _ HT1.out a k (by omega) (by omega)
          cases hlv : ltl dk[a]! dk[k]! with
          | true =>
            rw [hlv] at hl
            have e : k = i2 := by rw [← HU.out, su_end _ dk j k (.inr (by simp [hlv]))]
            have HEk : Hid (k = i2) := e
            clear e hlv HU
            go_wp2_with fail
            refine hl.mono ?_
            rintro ee w2 ⟨rfl, hT2⟩
            have HT2 : Hid (To b N w dk w2) := hT2
            clear hT2 hl
            go_wp2_with fail
            go_meet
            exact ⟨by rw [HEk.out], HT2.out⟩
          | false =>
            rw [hlv] at hl
            have HU2 : Hid (Sort.scanUp (fun x => !ltl dk[a]! x) dk j (k + 1) = i2) := by rw [← HU.out, su_go _ dk j k hkj2 (by simp [hlv])]; exact rfl
            clear hlv HU
            go_wp2_with fail
            refine hl.mono ?_
            rintro ee w2 ⟨rfl, hT2⟩
            have HT2 : Hid (To b N w dk w2) := hT2
            clear hT2 hl
            go_wp2_with fail
            go_roundw
            case rel => exact ⟨k + 1, by go_num, by omega, by omega, HU2, HT2⟩
            case measure => simp [intOf]; omega
        · have hz : ¬ (k : Int) ≤ (j : Int) := by omega
          have e : k = i2 := by rw [← HU.out, su_end _ dk j k (.inl hkj2)]
          have HEk : Hid (k = i2) := e
          clear e HU
          go_wp2_with fail
          go_meet
          exact ⟨by rw [HEk.out], HT1.out⟩
    obtain ⟨rfl, hTc⟩ := hcut
    have HTc : Hid (To b N w dk wc) := hTc
    clear hTc HT HI2
    go_upto_block 4 with fail
    go_cut [10] from 31 to 41 (fun v W => v = .int .i64 j2 ∧ To b N w dk W)
    case first =>
      go_wp2_with fail
      go_loopw [10] (fun vi wr => ∃ (k : Nat), vi = .int .i64 k ∧ k ≤ j ∧ i2 ≤ k + 1 ∧ Hid (Sort.scanDown (fun x => ltl dk[a]! x) dk i2 k = j2) ∧ Hid (To b N w dk wr)) (fun vi _ => (intOf vi).toNat)
      case atStart => exact ⟨j, rfl, by omega, by omega, HJ2, HTc⟩
      case round =>
        obtain ⟨k, rfl, hkj, hik, HU, HT1⟩ := hrel
        clear HTc
        by_cases hkj2 : i2 ≤ k
        · have hz : (i2 : Int) ≤ (k : Int) := by omega
          have hl := L1 _ HT1.out a k (by omega) (by omega)
          cases hlv : ltl dk[a]! dk[k]! with
          | false =>
            rw [hlv] at hl
            have e : k = j2 := by rw [← HU.out, sn_end _ dk i2 k (.inr hlv)]
            have HEk : Hid (k = j2) := e
            clear e hlv HU
            go_wp2_with fail
            refine hl.mono ?_
            rintro ee w2 ⟨rfl, hT2⟩
            have HT2 : Hid (To b N w dk w2) := hT2
            clear hT2 hl
            go_wp2_with fail
            go_meet
            exact ⟨by rw [HEk.out], HT2.out⟩
          | true =>
            rw [hlv] at hl
            have HU2 : Hid (Sort.scanDown (fun x => ltl dk[a]! x) dk i2 (k - 1) = j2) := by rw [← HU.out, sn_go _ dk i2 k hkj2 (by omega) hlv]; exact rfl
            clear hlv HU
            go_wp2_with fail
            refine hl.mono ?_
            rintro ee w2 ⟨rfl, hT2⟩
            have HT2 : Hid (To b N w dk w2) := hT2
            clear hT2 hl
            go_wp2_with fail
            go_roundw
            case rel => exact ⟨k - 1, by congr 1; omega, by omega, by omega, HU2, HT2⟩
            case measure => simp [intOf]; omega
        · have hz : ¬ (i2 : Int) ≤ (k : Int) := by omega
          have e : k = j2 := by rw [← HU.out, sn_end _ dk i2 k (.inl hkj2)]
          have HEk : Hid (k = j2) := e
          clear e HU
          go_wp2_with fail
          go_meet
          exact ⟨by rw [HEk.out], HT1.out⟩
    obtain ⟨rfl, hTd⟩ := hcut
    have HTd : Hid (To b N w dk wc) := hTd
    clear hTd HTc HJ2
    by_cases hgt : j2 < i2
    · have hz : (j2 : Int) < (i2 : Int) := by omega
      have HF : Hid (Sort.partEqLoop ltl a (a + 1) (e - 1) d0 = (i2, dk)) := by rw [← HE.out, HST.out, if_pos hgt]; exact rfl
      clear HST HE L1
      go_wp2_with fail
      go_ret
      exact ⟨by rw [HF.out]; rfl, by rw [HF.out]; exact HTd.out⟩
    · have hz : ¬ (j2 : Int) < (i2 : Int) := by omega
      have x6 : i2 + 1 ≤ j2 := x5 (by omega)
      have hsw := HTd.out.swap c i2 j2 (by rw [HS.out]; omega) (by rw [HS.out]; omega)
      rw [HS.out] at hsw
      have HZ : Hid ((Sort.swp dk i2 j2).size = n) := by rw [swp_size]; exact HS
      have HE2 : Hid (Sort.partEqLoop ltl a (i2 + 1) (j2 - 1) (Sort.swp dk i2 j2) = Sort.partEqLoop ltl a (a + 1) (e - 1) d0) := by rw [← HE.out, HST.out, if_neg hgt]; exact rfl
      generalize Sort.swp dk i2 j2 = d2 at *
      clear HST HE L1
      go_wp2_with fail
      refine hsw.mono ?_
      rintro ee w4 ⟨rfl, hT4⟩
      have HT4 : Hid (To b N w d2 w4) := hT4
      clear hT4 hsw
      go_wp2_with fail
      go_roundw
      case rel => exact ⟨i2 + 1, j2 - 1, d2, by go_num, by congr 1; omega, by omega, by omega, by omega, HZ, HT4, HE2⟩
      case measure => simp [intOf]; omega

set_option maxHeartbeats 4000000 in
set_option maxRecDepth 100000 in
theorem part_any (b N c n a e pv : Nat) (d : Array (List Int)) (w : World) (h : Rw w b N d) (hn : d.size = n) (hae : a < e) (he : e ≤ n) (hp2 : pv < e) (hsz : n < 100000) :
    Calls Tryd.prog 71 #[iv b n c, .int .i64 a, .int .i64 e, .int .i64 pv] w fun ee w' => ee = .returned (.tuple #[.int .i64 (Sort.partition ltl d a e pv).1, .bool (Sort.partition ltl d a e pv).2.1]) ∧ To b N w (Sort.partition ltl d a e pv).2.2 w' := by
  have m1 := mLess b n c
  have m2 := mSwap b n c
  have hsw0 := (To.refl h).swap c a pv (by omega) (by omega)
  rw [hn] at hsw0
  have HS : Hid ((Sort.swp d a pv).size = n) := by rw [swp_size]; exact hn
  obtain ⟨d0, hd0⟩ : ∃ d0, Sort.swp d a pv = d0 := ⟨_, rfl⟩
  have hE : Sort.partition ltl d a e pv = if Sort.scanUp (fun x => ltl x d0[a]!) d0 (e - 1) (a + 1) > Sort.scanDown (fun x => !ltl x d0[a]!) d0 (Sort.scanUp (fun x => ltl x d0[a]!) d0 (e - 1) (a + 1)) (e - 1) then (Sort.scanDown (fun x => !ltl x d0[a]!) d0 (Sort.scanUp (fun x => ltl x d0[a]!) d0 (e - 1) (a + 1)) (e - 1), true, Sort.swp d0 (Sort.scanDown (fun x => !ltl x d0[a]!) d0 (Sort.scanUp (fun x => ltl x d0[a]!) d0 (e - 1) (a + 1)) (e - 1)) a) else ((Sort.partLoop ltl a (Sort.scanUp (fun x => ltl x d0[a]!) d0 (e - 1) (a + 1) + 1) (Sort.scanDown (fun x => !ltl x d0[a]!) d0 (Sort.scanUp (fun x => ltl x d0[a]!) d0 (e - 1) (a + 1)) (e - 1) - 1) (Sort.swp d0 (Sort.scanUp (fun x => ltl x d0[a]!) d0 (e - 1) (a + 1)) (Sort.scanDown (fun x => !ltl x d0[a]!) d0 (Sort.scanUp (fun x => ltl x d0[a]!) d0 (e - 1) (a + 1)) (e - 1)))).1, false, Sort.swp (Sort.partLoop ltl a (Sort.scanUp (fun x => ltl x d0[a]!) d0 (e - 1) (a + 1) + 1) (Sort.scanDown (fun x => !ltl x d0[a]!) d0 (Sort.scanUp (fun x => ltl x d0[a]!) d0 (e - 1) (a + 1)) (e - 1) - 1) (Sort.swp d0 (Sort.scanUp (fun x => ltl x d0[a]!) d0 (e - 1) (a + 1)) (Sort.scanDown (fun x => !ltl x d0[a]!) d0 (Sort.scanUp (fun x => ltl x d0[a]!) d0 (e - 1) (a + 1)) (e - 1)))).2 (Sort.partLoop ltl a (Sort.scanUp (fun x => ltl x d0[a]!) d0 (e - 1) (a + 1) + 1) (Sort.scanDown (fun x => !ltl x d0[a]!) d0 (Sort.scanUp (fun x => ltl x d0[a]!) d0 (e - 1) (a + 1)) (e - 1) - 1) (Sort.swp d0 (Sort.scanUp (fun x => ltl x d0[a]!) d0 (e - 1) (a + 1)) (Sort.scanDown (fun x => !ltl x d0[a]!) d0 (Sort.scanUp (fun x => ltl x d0[a]!) d0 (e - 1) (a + 1)) (e - 1)))).1 a) := by rw [← hd0]; rfl
  rw [hd0] at hsw0 HS
  clear h hn hd0
  obtain ⟨i2, hi2⟩ : ∃ i2, Sort.scanUp (fun x => ltl x d0[a]!) d0 (e - 1) (a + 1) = i2 := ⟨_, rfl⟩
  obtain ⟨j2, hj2⟩ : ∃ j2, Sort.scanDown (fun x => !ltl x d0[a]!) d0 i2 (e - 1) = j2 := ⟨_, rfl⟩
  have HI2 : Hid (Sort.scanUp (fun x => ltl x d0[a]!) d0 (e - 1) (a + 1) = i2) := hi2
  have HJ2 : Hid (Sort.scanDown (fun x => !ltl x d0[a]!) d0 i2 (e - 1) = j2) := hj2
  have b1 := Sort.scanUp_spec (fun x => ltl x d0[a]!) d0 (e - 1) _ (a + 1) rfl
  rw [hi2] at b1
  have b2 := Sort.scanDown_spec (fun x => !ltl x d0[a]!) d0 i2 (e - 1)
  rw [hj2] at b2
  have x1 : a + 1 ≤ i2 := b1.1
  have x2 : i2 ≤ e - 1 + 1 := b1.2.1 (by omega)
  have x3 : j2 ≤ e - 1 := b2.1
  have x4 : i2 ≤ j2 + 1 := b2.2.1 x2
  have x5 : i2 ≤ j2 → i2 + 1 ≤ j2 := fun hle => by
    rcases Nat.lt_or_ge i2 j2 with h | h
    · exact h
    · have e : i2 = j2 := by omega
      have y1 := b1.2.2.2 (by omega)
      have y2 := b2.2.2.2 hle (by omega)
      rw [e] at y1
      have y3 : ltl d0[j2]! d0[a]! = false := y1
      have y4 : (!ltl d0[j2]! d0[a]!) = false := y2
      rw [y3] at y4
      cases y4
  have L1 := fun W (hW : To b N w d0 W) (p q : Nat) (hp : p < n) (hq : q < n) => by
    have := hW.less c p q (by rw [HS.out]; exact hp) (by rw [HS.out]; exact hq)
    rw [HS.out] at this
    exact this
  rw [hi2, hj2] at hE
  clear hi2 hj2 b1 b2
  obtain ⟨P, hP⟩ : ∃ P, Sort.partition ltl d a e pv = P := ⟨_, rfl⟩
  rw [hP] at hE ⊢
  have HP : Hid (P = _) := hE
  clear hE hP
  go_enter Tryd.func71, Tryd.ntmps71
  go_wp2_with fail
  refine hsw0.mono ?_
  rintro ee w0 ⟨rfl, hT0⟩
  have HT0 : Hid (To b N w d0 w0) := hT0
  clear hT0 hsw0
  go_upto_block 0 with fail
  go_cut [10] from 20 to 30 (fun v W => v = .int .i64 i2 ∧ To b N w d0 W)
  case first =>
    go_wp2_with fail
    go_loopw [10] (fun vi wr => ∃ (k : Nat), vi = .int .i64 k ∧ a + 1 ≤ k ∧ k ≤ e - 1 + 1 ∧ Hid (Sort.scanUp (fun x => ltl x d0[a]!) d0 (e - 1) k = i2) ∧ Hid (To b N w d0 wr)) (fun vi _ => (e - 1 + 1 - (intOf vi).toNat))
    case atStart => exact ⟨a + 1, by go_num, by omega, by omega, HI2, HT0⟩
    case round =>
      obtain ⟨k, rfl, hik, hkj, HU, HT1⟩ := hrel
      clear HT0
      by_cases hkj2 : k ≤ e - 1
      · have hz : (k : Int) ≤ (e : Int) - 1 := by omega
        have hl := L1 _ HT1.out k a (by omega) (by omega)
        cases hlv : ltl d0[k]! d0[a]! with
        | false =>
          rw [hlv] at hl
          have e : k = i2 := by rw [← HU.out, su_end _ d0 (e - 1) k (.inr hlv)]
          have HEk : Hid (k = i2) := e
          clear e hlv HU
          go_wp2_with fail
          refine hl.mono ?_
          rintro ee w2 ⟨rfl, hT2⟩
          have HT2 : Hid (To b N w d0 w2) := hT2
          clear hT2 hl
          go_wp2_with fail
          go_meet
          exact ⟨by rw [HEk.out], HT2.out⟩
        | true =>
          rw [hlv] at hl
          have HU2 : Hid (Sort.scanUp (fun x => ltl x d0[a]!) d0 (e - 1) (k + 1) = i2) := by rw [← HU.out, su_go _ d0 (e - 1) k hkj2 hlv]; exact rfl
          clear hlv HU
          go_wp2_with fail
          refine hl.mono ?_
          rintro ee w2 ⟨rfl, hT2⟩
          have HT2 : Hid (To b N w d0 w2) := hT2
          clear hT2 hl
          go_wp2_with fail
          go_roundw
          case rel => exact ⟨k + 1, by go_num, by omega, by omega, HU2, HT2⟩
          case measure => simp [intOf]; omega
      · have hz : ¬ (k : Int) ≤ (e : Int) - 1 := by omega
        have e : k = i2 := by rw [← HU.out, su_end _ d0 (e - 1) k (.inl hkj2)]
        have HEk : Hid (k = i2) := e
        clear e HU
        go_wp2_with fail
        go_meet
        exact ⟨by rw [HEk.out], HT1.out⟩
  obtain ⟨rfl, hTc⟩ := hcut
  have HTc : Hid (To b N w d0 wc) := hTc
  clear hTc HT0 HI2
  go_upto_block 2 with fail
  go_cut [11] from 31 to 42 (fun v W => v = .int .i64 j2 ∧ To b N w d0 W)
  case first =>
    go_wp2_with fail
    go_loopw [11] (fun vi wr => ∃ (k : Nat), vi = .int .i64 k ∧ k ≤ e - 1 ∧ i2 ≤ k + 1 ∧ Hid (Sort.scanDown (fun x => !ltl x d0[a]!) d0 i2 k = j2) ∧ Hid (To b N w d0 wr)) (fun vi _ => (intOf vi).toNat)
    case atStart => exact ⟨e - 1, by congr 1; omega, by omega, by omega, HJ2, HTc⟩
    case round =>
      obtain ⟨k, rfl, hkj, hik, HU, HT1⟩ := hrel
      clear HTc
      by_cases hkj2 : i2 ≤ k
      · have hz : (i2 : Int) ≤ (k : Int) := by omega
        have hl := L1 _ HT1.out k a (by omega) (by omega)
        cases hlv : ltl d0[k]! d0[a]! with
        | true =>
          rw [hlv] at hl
          have e : k = j2 := by rw [← HU.out, sn_end _ d0 i2 k (.inr (by simp [hlv]))]
          have HEk : Hid (k = j2) := e
          clear e hlv HU
          go_wp2_with fail
          refine hl.mono ?_
          rintro ee w2 ⟨rfl, hT2⟩
          have HT2 : Hid (To b N w d0 w2) := hT2
          clear hT2 hl
          go_wp2_with fail
          go_meet
          exact ⟨by rw [HEk.out], HT2.out⟩
        | false =>
          rw [hlv] at hl
          have HU2 : Hid (Sort.scanDown (fun x => !ltl x d0[a]!) d0 i2 (k - 1) = j2) := by rw [← HU.out, sn_go _ d0 i2 k hkj2 (by omega) (by simp [hlv])]; exact rfl
          clear hlv HU
          go_wp2_with fail
          refine hl.mono ?_
          rintro ee w2 ⟨rfl, hT2⟩
          have HT2 : Hid (To b N w d0 w2) := hT2
          clear hT2 hl
          go_wp2_with fail
          go_roundw
          case rel => exact ⟨k - 1, by congr 1; omega, by omega, by omega, HU2, HT2⟩
          case measure => simp [intOf]; omega
      · have hz : ¬ (i2 : Int) ≤ (k : Int) := by omega
        have e : k = j2 := by rw [← HU.out, sn_end _ d0 i2 k (.inl hkj2)]
        have HEk : Hid (k = j2) := e
        clear e HU
        go_wp2_with fail
        go_meet
        exact ⟨by rw [HEk.out], HT1.out⟩
  obtain ⟨rfl, hTd⟩ := hcut
  have HTd : Hid (To b N w d0 wc) := hTd
  clear hTd HTc HJ2
  by_cases hgt : j2 < i2
  · have hz : (j2 : Int) < (i2 : Int) := by omega
    have HQ : Hid (P = (j2, true, Sort.swp d0 j2 a)) := by rw [HP.out, if_pos hgt]; exact rfl
    clear HP
    have hsw := HTd.out.swap c j2 a (by rw [HS.out]; omega) (by rw [HS.out]; omega)
    rw [HS.out] at hsw
    generalize Sort.swp d0 j2 a = d2 at *
    clear L1 HS x5
    go_wp2_with fail
    refine hsw.mono ?_
    rintro ee w4 ⟨rfl, hT4⟩
    have HT4 : Hid (To b N w d2 w4) := hT4
    clear hT4 hsw
    go_wp2_with fail
    go_ret2
    exact ⟨by rw [HQ.out]; rfl, by rw [HQ.out]; exact HT4.out⟩
  · have hz : ¬ (j2 : Int) < (i2 : Int) := by omega
    have HQ : Hid (P = ((Sort.partLoop ltl a (i2 + 1) (j2 - 1) (Sort.swp d0 i2 j2)).1, false, Sort.swp (Sort.partLoop ltl a (i2 + 1) (j2 - 1) (Sort.swp d0 i2 j2)).2 (Sort.partLoop ltl a (i2 + 1) (j2 - 1) (Sort.swp d0 i2 j2)).1 a)) := by rw [HP.out, if_neg hgt]; exact rfl
    clear HP
    have x6 : i2 + 1 ≤ j2 := x5 (by omega)
    have hsw := HTd.out.swap c i2 j2 (by rw [HS.out]; omega) (by rw [HS.out]; omega)
    rw [HS.out] at hsw
    have HZ : Hid ((Sort.swp d0 i2 j2).size = n) := by rw [swp_size]; exact HS
    generalize Sort.swp d0 i2 j2 = d2 at *
    obtain ⟨R, hR⟩ : ∃ R, Sort.partLoop ltl a (i2 + 1) (j2 - 1) d2 = R := ⟨_, rfl⟩
    rw [hR] at HQ
    have HR : Hid (Sort.partLoop ltl a (i2 + 1) (j2 - 1) d2 = R) := hR
    clear hR L1 HS x5 HTd
    go_wp2_with fail
    refine hsw.mono ?_
    rintro ee w4 ⟨rfl, hT4⟩
    have HT4 : Hid (To b N w d2 w4) := hT4
    clear hT4 hsw
    go_wp2_with fail
    go_loopw [10, 11] (fun vi vj wr => ∃ (i j : Nat) (dk : Array (List Int)), vi = .int .i64 i ∧ vj = .int .i64 j ∧ a < i ∧ i ≤ j + 1 ∧ j < n ∧ Hid (dk.size = n) ∧ Hid (To b N w dk wr) ∧ Hid (Sort.partLoop ltl a i j dk = R)) (fun vi vj _ => ((intOf vj) + 1 - (intOf vi)).toNat)
    case atStart => exact ⟨i2 + 1, j2 - 1, d2, by go_num, by congr 1; omega, by omega, by omega, by omega, HZ, HT4, HR⟩
    case round =>
      obtain ⟨i, j, dk, rfl, rfl, hai, hij, hjn, HS, HT, HE⟩ := hrel
      clear HT4 HZ HR x1 x2 x3 x4 x6 hgt hz
      obtain ⟨i3, hi2⟩ : ∃ i2, Sort.scanUp (fun x => ltl x dk[a]!) dk (j) (i) = i2 := ⟨_, rfl⟩
      obtain ⟨j3, hj2⟩ : ∃ j2, Sort.scanDown (fun x => !ltl x dk[a]!) dk i3 (j) = j2 := ⟨_, rfl⟩
      have HI2 : Hid (Sort.scanUp (fun x => ltl x dk[a]!) dk (j) (i) = i3) := hi2
      have HJ2 : Hid (Sort.scanDown (fun x => !ltl x dk[a]!) dk i3 (j) = j3) := hj2
      have b1 := Sort.scanUp_spec (fun x => ltl x dk[a]!) dk (j) _ (i) rfl
      rw [hi2] at b1
      have b2 := Sort.scanDown_spec (fun x => !ltl x dk[a]!) dk i3 (j)
      rw [hj2] at b2
      have x1 : i ≤ i3 := b1.1
      have x2 : i3 ≤ j + 1 := b1.2.1 hij
      have x3 : j3 ≤ j := b2.1
      have x4 : i3 ≤ j3 + 1 := b2.2.1 x2
      have x5 : i3 ≤ j3 → i3 + 1 ≤ j3 := fun hle => by
        rcases Nat.lt_or_ge i3 j3 with h | h
        · exact h
        · have e : i3 = j3 := by omega
          have y1 := b1.2.2.2 (by omega)
          have y2 := b2.2.2.2 hle (by omega)
          rw [e] at y1
          have y3 : ltl dk[j3]! dk[a]! = false := y1
          have y4 : (!ltl dk[j3]! dk[a]!) = false := y2
          rw [y3] at y4
          cases y4
      have L1 := fun W (hW : To b N w dk W) (p q : Nat) (hp : p < n) (hq : q < n) => by
        have := hW.less c p q (by rw [HS.out]; exact hp) (by rw [HS.out]; exact hq)
        rw [HS.out] at this
        exact this
      have hstep := Sort.partLoop_eq (lt := ltl) a i j dk
      rw [hi2, hj2] at hstep
      have HST : Hid _ := hstep
      clear hi2 hj2 b1 b2 hstep
      go_upto_block 6 with fail
      go_cut [10] from 59 to 69 (fun v W => v = .int .i64 i3 ∧ To b N w dk W)
      case first =>
        go_wp2_with fail
        go_loopw [10] (fun vi wr => ∃ (k : Nat), vi = .int .i64 k ∧ i ≤ k ∧ k ≤ j + 1 ∧ Hid (Sort.scanUp (fun x => ltl x dk[a]!) dk (j) k = i3) ∧ Hid (To b N w dk wr)) (fun vi _ => (j + 1 - (intOf vi).toNat))
        case atStart => exact ⟨i, rfl, by omega, by omega, HI2, HT⟩
        case round =>
          obtain ⟨k, rfl, hik, hkj, HU, HT1⟩ := hrel
          clear HT
          by_cases hkj2 : k ≤ j
          · have hz : (k : Int) ≤ (j : Int) := by omega
            have hl := L1 _ HT1.out k a (by omega) (by omega)
            cases hlv : ltl dk[k]! dk[a]! with
            | false =>
              rw [hlv] at hl
              have e : k = i3 := by rw [← HU.out, su_end _ dk (j) k (.inr hlv)]
              have HEk : Hid (k = i3) := e
              clear e hlv HU
              go_wp2_with fail
              refine hl.mono ?_
              rintro ee w2 ⟨rfl, hT2⟩
              have HT2 : Hid (To b N w dk w2) := hT2
              clear hT2 hl
              go_wp2_with fail
              go_meet
              exact ⟨by rw [HEk.out], HT2.out⟩
            | true =>
              rw [hlv] at hl
              have HU2 : Hid (Sort.scanUp (fun x => ltl x dk[a]!) dk (j) (k + 1) = i3) := by rw [← HU.out, su_go _ dk (j) k hkj2 hlv]; exact rfl
              clear hlv HU
              go_wp2_with fail
              refine hl.mono ?_
              rintro ee w2 ⟨rfl, hT2⟩
              have HT2 : Hid (To b N w dk w2) := hT2
              clear hT2 hl
              go_wp2_with fail
              go_roundw
              case rel => exact ⟨k + 1, by go_num, by omega, by omega, HU2, HT2⟩
              case measure => simp [intOf]; omega
          · have hz : ¬ (k : Int) ≤ (j : Int) := by omega
            have e : k = i3 := by rw [← HU.out, su_end _ dk (j) k (.inl hkj2)]
            have HEk : Hid (k = i3) := e
            clear e HU
            go_wp2_with fail
            go_meet
            exact ⟨by rw [HEk.out], HT1.out⟩
      obtain ⟨rfl, hTc⟩ := hcut
      have HTc : Hid (To b N w dk wc) := hTc
      clear hTc HT HI2
      go_upto_block 8 with fail
      go_cut [11] from 70 to 81 (fun v W => v = .int .i64 j3 ∧ To b N w dk W)
      case first =>
        go_wp2_with fail
        go_loopw [11] (fun vi wr => ∃ (k : Nat), vi = .int .i64 k ∧ k ≤ j ∧ i3 ≤ k + 1 ∧ Hid (Sort.scanDown (fun x => !ltl x dk[a]!) dk i3 k = j3) ∧ Hid (To b N w dk wr)) (fun vi _ => (intOf vi).toNat)
        case atStart => exact ⟨j, rfl, by omega, by omega, HJ2, HTc⟩
        case round =>
          obtain ⟨k, rfl, hkj, hik, HU, HT1⟩ := hrel
          clear HTc
          by_cases hkj2 : i3 ≤ k
          · have hz : (i3 : Int) ≤ (k : Int) := by omega
            have hl := L1 _ HT1.out k a (by omega) (by omega)
            cases hlv : ltl dk[k]! dk[a]! with
            | true =>
              rw [hlv] at hl
              have e : k = j3 := by rw [← HU.out, sn_end _ dk i3 k (.inr (by simp [hlv]))]
              have HEk : Hid (k = j3) := e
              clear e hlv HU
              go_wp2_with fail
              refine hl.mono ?_
              rintro ee w2 ⟨rfl, hT2⟩
              have HT2 : Hid (To b N w dk w2) := hT2
              clear hT2 hl
              go_wp2_with fail
              go_meet
              exact ⟨by rw [HEk.out], HT2.out⟩
            | false =>
              rw [hlv] at hl
              have HU2 : Hid (Sort.scanDown (fun x => !ltl x dk[a]!) dk i3 (k - 1) = j3) := by rw [← HU.out, sn_go _ dk i3 k hkj2 (by omega) (by simp [hlv])]; exact rfl
              clear hlv HU
              go_wp2_with fail
              refine hl.mono ?_
              rintro ee w2 ⟨rfl, hT2⟩
              have HT2 : Hid (To b N w dk w2) := hT2
              clear hT2 hl
              go_wp2_with fail
              go_roundw
              case rel => exact ⟨k - 1, by congr 1; omega, by omega, by omega, HU2, HT2⟩
              case measure => simp [intOf]; omega
          · have hz : ¬ (i3 : Int) ≤ (k : Int) := by omega
            have e : k = j3 := by rw [← HU.out, sn_end _ dk i3 k (.inl hkj2)]
            have HEk : Hid (k = j3) := e
            clear e HU
            go_wp2_with fail
            go_meet
            exact ⟨by rw [HEk.out], HT1.out⟩
      obtain ⟨rfl, hTd⟩ := hcut
      have HTd : Hid (To b N w dk wc) := hTd
      clear hTd HTc HJ2
      by_cases hgt : j3 < i3
      · have hz : (j3 : Int) < (i3 : Int) := by omega
        have HF : Hid (R = (j3, dk)) := by rw [← HE.out, HST.out, if_pos hgt]; exact rfl
        have hsw := HTd.out.swap c j3 a (by rw [HS.out]; omega) (by rw [HS.out]; omega)
        rw [HS.out] at hsw
        clear HST HE L1 x5
        go_wp2_with fail
        refine hsw.mono ?_
        rintro ee w4 ⟨rfl, hT4⟩
        have HT4 : Hid (To b N w (Sort.swp dk j3 a) w4) := hT4
        clear hT4 hsw
        go_wp2_with fail
        go_ret2
        exact ⟨by rw [HQ.out, HF.out]; rfl, by rw [HQ.out, HF.out]; exact HT4.out⟩
      · have hz : ¬ (j3 : Int) < (i3 : Int) := by omega
        have x6 : i3 + 1 ≤ j3 := x5 (by omega)
        have hsw := HTd.out.swap c i3 j3 (by rw [HS.out]; omega) (by rw [HS.out]; omega)
        rw [HS.out] at hsw
        have HZ : Hid ((Sort.swp dk i3 j3).size = n) := by rw [swp_size]; exact HS
        have HE2 : Hid (Sort.partLoop ltl a (i3 + 1) (j3 - 1) (Sort.swp dk i3 j3) = R) := by rw [← HE.out, HST.out, if_neg hgt]; exact rfl
        generalize Sort.swp dk i3 j3 = d3 at *
        clear HST HE L1 x5
        go_wp2_with fail
        refine hsw.mono ?_
        rintro ee w4 ⟨rfl, hT4⟩
        have HT4 : Hid (To b N w d3 w4) := hT4
        clear hT4 hsw
        go_wp2_with fail
        go_roundw
        case rel => exact ⟨i3 + 1, j3 - 1, d3, by go_num, by congr 1; omega, by omega, by omega, by omega, HZ, HT4, HE2⟩
        case measure => simp [intOf]; omega

end Go.Proofs.YtmjcikomcnokkaaDoor
