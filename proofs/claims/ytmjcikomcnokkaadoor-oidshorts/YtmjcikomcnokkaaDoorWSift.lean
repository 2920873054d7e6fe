/- sort.siftDown, sort.heapSort, sort.reverseRange. -/
import Derived.Test.YtmjcikomcnokkaaDoorSrt
namespace Go.Proofs.YtmjcikomcnokkaaDoor
open Go.RowKit

theorem sd_end (hi F r : Nat) (d : Array (List Int)) (h : ¬ 2 * r + 1 < hi) : Sort.siftDown ltl hi F r d = d := by
  rw [Sort.siftDown, dif_pos (by omega)]

theorem sd_left (hi F r : Nat) (d : Array (List Int)) (h : 2 * r + 1 < hi) (hc : ¬ 2 * r + 2 < hi ∨ ltl d[F + (2 * r + 1)]! d[F + (2 * r + 2)]! = false) :
    Sort.siftDown ltl hi F r d = if ltl d[F + r]! d[F + (2 * r + 1)]! = true then Sort.siftDown ltl hi F (2 * r + 1) (Sort.swp d (F + r) (F + (2 * r + 1))) else d := by
  have hn : ¬ ((decide (2 * r + 1 + 1 < hi) && ltl d[F + (2 * r + 1)]! d[F + (2 * r + 1) + 1]!) = true) := by
    rw [Bool.and_eq_true, decide_eq_true_eq]
    rintro ⟨h1, h2⟩
    rcases hc with hc | hc
    · omega
    · rw [show F + (2 * r + 2) = F + (2 * r + 1) + 1 by omega] at hc
      rw [hc] at h2
      cases h2
  rw [Sort.siftDown, dif_neg (by omega), if_neg hn]
  cases ltl d[F + r]! d[F + (2 * r + 1)]! <;> rfl

theorem sd_right (hi F r : Nat) (d : Array (List Int)) (h : 2 * r + 2 < hi) (hc : ltl d[F + (2 * r + 1)]! d[F + (2 * r + 2)]! = true) :
    Sort.siftDown ltl hi F r d = if ltl d[F + r]! d[F + (2 * r + 2)]! = true then Sort.siftDown ltl hi F (2 * r + 2) (Sort.swp d (F + r) (F + (2 * r + 2))) else d := by
  have hn : (decide (2 * r + 1 + 1 < hi) && ltl d[F + (2 * r + 1)]! d[F + (2 * r + 1) + 1]!) = true := by
    rw [Bool.and_eq_true, decide_eq_true_eq]
    refine ⟨by omega, ?_⟩
    rw [show F + (2 * r + 1) + 1 = F + (2 * r + 2) by omega]
    exact hc
  rw [Sort.siftDown, dif_neg (by omega), if_pos hn, dif_pos h]
  cases ltl d[F + r]! d[F + (2 * r + 2)]! <;> rfl

set_option maxHeartbeats 4000000 in
set_option maxRecDepth 100000 in
theorem sift_any (b N c n lo hi F : Nat) (d : Array (List Int)) (w : World) (h : Rw w b N d) (hn : d.size = n) (hb : F + hi ≤ n) (hlo : lo ≤ n) (hsz : n < 100000) :
    Calls Tryd.prog 75 #[iv b n c, .int .i64 lo, .int .i64 hi, .int .i64 F] w fun ee w' => ee = .returned (.tuple #[]) ∧ To b N w (Sort.siftDown ltl hi F lo d) w' := by
  have m1 := mLess b n c
  have m2 := mSwap b n c
  have HH : Hid (To b N w d w) := To.refl h
  have HN : Hid (d.size = n) := hn
  clear h hn
  go_enter Tryd.func75, Tryd.ntmps75
  go_wp2_with fail
  go_loopw [8] (fun vr wr => ∃ (r : Nat) (dk : Array (List Int)), vr = .int .i64 r ∧ r ≤ n ∧ Hid (dk.size = n) ∧ Hid (To b N w dk wr) ∧ Hid (Sort.siftDown ltl hi F r dk = Sort.siftDown ltl hi F lo d)) (fun vr _ => n - (intOf vr).toNat)
  case atStart => exact ⟨lo, d, rfl, hlo, HN, HH, rfl⟩
  case round =>
    obtain ⟨r, dk, rfl, hr, HS, HT, HE⟩ := hrel
    clear HH HN
    by_cases h1 : 2 * r + 1 < hi
    · have h1z : ¬ (hi : Int) ≤ 2 * (r : Int) + 1 := by omega
      have L1 := fun W (hW : To b N w dk W) (i j : Nat) (hi : i < n) (hj : j < n) => by
        have := hW.less c i j (by rw [HS.out]; exact hi) (by rw [HS.out]; exact hj)
        rw [HS.out] at this
        exact this
      have S1 := fun W (hW : To b N w dk W) (i j : Nat) (hi : i < n) (hj : j < n) => by
        have := hW.swap c i j (by rw [HS.out]; exact hi) (by rw [HS.out]; exact hj)
        rw [HS.out] at this
        exact this
      by_cases h2 : 2 * r + 2 < hi
      · have h2z : 2 * (r : Int) + 1 + 1 < (hi : Int) := by omega
        have hl1 := L1 wr HT.out (F + (2 * r + 1)) (F + (2 * r + 2)) (by omega) (by omega)
        rw [show ((F + (2 * r + 1) : Nat) : Int) = (F : Int) + (2 * (r : Int) + 1) by omega, show ((F + (2 * r + 2) : Nat) : Int) = (F : Int) + (2 * (r : Int) + 1) + 1 by omega] at hl1
        cases hcv : ltl dk[F + (2 * r + 1)]! dk[F + (2 * r + 2)]! with
        | true =>
          rw [hcv] at hl1
          have hl2 := fun W (hW : To b N w dk W) => L1 W hW (F + r) (F + (2 * r + 2)) (by omega) (by omega)
          have hsw := fun W (hW : To b N w dk W) => S1 W hW (F + r) (F + (2 * r + 2)) (by omega) (by omega)
          rw [show ((F + r : Nat) : Int) = (F : Int) + (r : Int) by omega, show ((F + (2 * r + 2) : Nat) : Int) = (F : Int) + (2 * (r : Int) + 1 + 1) by omega] at hl2 hsw
          have HE2 := sd_right hi F r dk h2 hcv
          rw [HE.out] at HE2
          have HZ : Hid ((Sort.swp dk (F + r) (F + (2 * r + 2))).size = n) := by rw [swp_size]; exact HS
          generalize Sort.swp dk (F + r) (F + (2 * r + 2)) = d2 at *
          cases hlv : ltl dk[F + r]! dk[F + (2 * r + 2)]! with
          | true =>
            rw [hlv, if_pos rfl] at HE2
            rw [hlv] at hl2
            have HE3 : Hid (Sort.siftDown ltl hi F (2 * r + 2) d2 = Sort.siftDown ltl hi F lo d) := HE2.symm
            clear hlv HE2 HE L1 S1
            go_wp2_with fail
            refine hl1.mono ?_
            rintro ee w2 ⟨rfl, hT2⟩
            have HT2 : Hid (To b N w dk w2) := hT2
            clear hT2 hl1
            go_wp2_with fail
            refine (hl2 _ HT2.out).mono ?_
            rintro ee w3 ⟨rfl, hT3⟩
            have HT3 : Hid (To b N w dk w3) := hT3
            clear hT3 hl2
            go_wp2_with fail
            refine (hsw _ HT3.out).mono ?_
            rintro ee w4 ⟨rfl, hT4⟩
            have HT4 : Hid (To b N w d2 w4) := hT4
            clear hT4 hsw
            go_wp2_with fail
            go_roundw
            case rel => exact ⟨2 * r + 2, d2, by congr 1 <;> omega, by omega, HZ, HT4, HE3⟩
            case measure => simp [intOf]; omega
          | false =>
            rw [hlv, if_neg (by simp)] at HE2
            rw [hlv] at hl2
            have E2 : Hid (Sort.siftDown ltl hi F lo d = dk) := HE2
            clear hlv HE2 HE L1 S1 hsw
            go_wp2_with fail
            refine hl1.mono ?_
            rintro ee w2 ⟨rfl, hT2⟩
            have HT2 : Hid (To b N w dk w2) := hT2
            clear hT2 hl1
            go_wp2_with fail
            refine (hl2 _ HT2.out).mono ?_
            rintro ee w3 ⟨rfl, hT3⟩
            have HT3 : Hid (To b N w dk w3) := hT3
            clear hT3 hl2
            go_wp2_with fail
            exact bodyPost_ret (results_none (by kernel_rfl) _ _ _) rfl ⟨rfl, by rw [E2.out]; exact HT3.out⟩
        | false =>
          rw [hcv] at hl1
          have hl2 := fun W (hW : To b N w dk W) => L1 W hW (F + r) (F + (2 * r + 1)) (by omega) (by omega)
          have hsw := fun W (hW : To b N w dk W) => S1 W hW (F + r) (F + (2 * r + 1)) (by omega) (by omega)
          rw [show ((F + r : Nat) : Int) = (F : Int) + (r : Int) by omega, show ((F + (2 * r + 1) : Nat) : Int) = (F : Int) + (2 * (r : Int) + 1) by omega] at hl2 hsw
          have HE2 := sd_left hi F r dk h1 (.inr hcv)
          rw [HE.out] at HE2
          have HZ : Hid ((Sort.swp dk (F + r) (F + (2 * r + 1))).size = n) := by rw [swp_size]; exact HS
          generalize Sort.swp dk (F + r) (F + (2 * r + 1)) = d2 at *
          cases hlv : ltl dk[F + r]! dk[F + (2 * r + 1)]! with
          | true =>
            rw [hlv, if_pos rfl] at HE2
            rw [hlv] at hl2
            have HE3 : Hid (Sort.siftDown ltl hi F (2 * r + 1) d2 = Sort.siftDown ltl hi F lo d) := HE2.symm
            clear hlv HE2 HE L1 S1
            go_wp2_with fail
            refine hl1.mono ?_
            rintro ee w2 ⟨rfl, hT2⟩
            have HT2 : Hid (To b N w dk w2) := hT2
            clear hT2 hl1
            go_wp2_with fail
            refine (hl2 _ HT2.out).mono ?_
            rintro ee w3 ⟨rfl, hT3⟩
            have HT3 : Hid (To b N w dk w3) := hT3
            clear hT3 hl2
            go_wp2_with fail
            refine (hsw _ HT3.out).mono ?_
            rintro ee w4 ⟨rfl, hT4⟩
            have HT4 : Hid (To b N w d2 w4) := hT4
            clear hT4 hsw
            go_wp2_with fail
            go_roundw
            case rel => exact ⟨2 * r + 1, d2, by congr 1 <;> omega, by omega, HZ, HT4, HE3⟩
            case measure => simp [intOf]; omega
          | false =>
            rw [hlv, if_neg (by simp)] at HE2
            rw [hlv] at hl2
            have E2 : Hid (Sort.siftDown ltl hi F lo d = dk) := HE2
            clear hlv HE2 HE L1 S1 hsw
            go_wp2_with fail
            refine hl1.mono ?_
            rintro ee w2 ⟨rfl, hT2⟩
            have HT2 : Hid (To b N w dk w2) := hT2
            clear hT2 hl1
            go_wp2_with fail
            refine (hl2 _ HT2.out).mono ?_
            rintro ee w3 ⟨rfl, hT3⟩
            have HT3 : Hid (To b N w dk w3) := hT3
            clear hT3 hl2
            go_wp2_with fail
            exact bodyPost_ret (results_none (by kernel_rfl) _ _ _) rfl ⟨rfl, by rw [E2.out]; exact HT3.out⟩
      · have h2z : ¬ 2 * (r : Int) + 1 + 1 < (hi : Int) := by omega
        have hl2 := fun W (hW : To b N w dk W) => L1 W hW (F + r) (F + (2 * r + 1)) (by omega) (by omega)
        have hsw := fun W (hW : To b N w dk W) => S1 W hW (F + r) (F + (2 * r + 1)) (by omega) (by omega)
        rw [show ((F + r : Nat) : Int) = (F : Int) + (r : Int) by omega, show ((F + (2 * r + 1) : Nat) : Int) = (F : Int) + (2 * (r : Int) + 1) by omega] at hl2 hsw
        have HE2 := sd_left hi F r dk h1 (.inl h2)
        rw [HE.out] at HE2
        have HZ : Hid ((Sort.swp dk (F + r) (F + (2 * r + 1))).size = n) := by rw [swp_size]; exact HS
        generalize Sort.swp dk (F + r) (F + (2 * r + 1)) = d2 at *
        cases hlv : ltl dk[F + r]! dk[F + (2 * r + 1)]! with
        | true =>
          rw [hlv, if_pos rfl] at HE2
          rw [hlv] at hl2
          have HE3 : Hid (Sort.siftDown ltl hi F (2 * r + 1) d2 = Sort.siftDown ltl hi F lo d) := HE2.symm
          clear hlv HE2 HE L1 S1
          go_wp2_with fail
          refine (hl2 _ HT.out).mono ?_
          rintro ee w3 ⟨rfl, hT3⟩
          have HT3 : Hid (To b N w dk w3) := hT3
          clear hT3 hl2
          go_wp2_with fail
          refine (hsw _ HT3.out).mono ?_
          rintro ee w4 ⟨rfl, hT4⟩
          have HT4 : Hid (To b N w d2 w4) := hT4
          clear hT4 hsw
          go_wp2_with fail
          go_roundw
          case rel => exact ⟨2 * r + 1, d2, by congr 1 <;> omega, by omega, HZ, HT4, HE3⟩
          case measure => simp [intOf]; omega
        | false =>
          rw [hlv, if_neg (by simp)] at HE2
          rw [hlv] at hl2
          have E2 : Hid (Sort.siftDown ltl hi F lo d = dk) := HE2
          clear hlv HE2 HE L1 S1 hsw
          go_wp2_with fail
          refine (hl2 _ HT.out).mono ?_
          rintro ee w3 ⟨rfl, hT3⟩
          have HT3 : Hid (To b N w dk w3) := hT3
          clear hT3 hl2
          go_wp2_with fail
          exact bodyPost_ret (results_none (by kernel_rfl) _ _ _) rfl ⟨rfl, by rw [E2.out]; exact HT3.out⟩
    · have hz : (hi : Int) ≤ 2 * (r : Int) + 1 := by omega
      have E2 : Hid (Sort.siftDown ltl hi F lo d = dk) := by rw [← HE.out, sd_end hi F r dk h1]; exact rfl
      clear HE
      go_wp2_with fail
      go_end0
      exact ⟨rfl, by rw [E2.out]; exact HT.out⟩

end Go.Proofs.YtmjcikomcnokkaaDoor
