/- WSift, WHeap, WPivot. -/
import Derived.Test.YtojgablpjdlegaaGreatDoorM08
import Derived.Test.YtojgablpjdlegaaGreatDoorM04
/- sort.siftDown, sort.heapSort, sort.reverseRange. -/
namespace Go.Proofs.YtojgablpjdlegaaGreatDoor
open Go.RowKit

theorem sd_end (hi F r : Nat) (d : Array (List Int)) (h : ¬ 2 * r + 1 < hi) : Sort.siftDown ltl hi F r d = d := by
  rw [Sort.siftDown, dif_pos (by omega)]

theorem sd_left (hi F r : Nat) (d : Array (List Int)) (h : 2 * r + 1 < hi) (hc : ¬ 2 * r + 2 < hi ∨ ltl d[F + (2 * r + 1)]! d[F + (2 * r + 2)]! = false) :
    Sort.siftDown ltl hi F r d = if ltl d[F + r]! d[F + (2 * r + 1)]! = true then Sort.siftDown ltl hi F (2 * r + 1) (Sort.swp d (F + r) (F + (2 * r + 1))) else d := by
  have hn : ¬ ((decide (2 * r + 1 + 1 < hi) && ltl d[F + (2 * r + 1)]! d[F + (2 * r + 1) + 1]!) = true) := by
    rw [Bool.and_eq_true, decide_eq_true_eq]
    rintro ⟨h1, h2⟩
    rcases hc with hc | hc
    · omega
    · rw [show F + (2 * r + 2) = F + (2 * r + 1) + 1 by omega] at hc
      rw [hc] at h2
      cases h2
  rw [Sort.siftDown, dif_neg (by omega), if_neg hn]
  cases ltl d[F + r]! d[F + (2 * r + 1)]! <;> rfl

theorem sd_right (hi F r : Nat) (d : Array (List Int)) (h : 2 * r + 2 < hi) (hc : ltl d[F + (2 * r + 1)]! d[F + (2 * r + 2)]! = true) :
    Sort.siftDown ltl hi F r d = if ltl d[F + r]! d[F + (2 * r + 2)]! = true then Sort.siftDown ltl hi F (2 * r + 2) (Sort.swp d (F + r) (F + (2 * r + 2))) else d := by
  have hn : (decide (2 * r + 1 + 1 < hi) && ltl d[F + (2 * r + 1)]! d[F + (2 * r + 1) + 1]!) = true := by
    rw [Bool.and_eq_true, decide_eq_true_eq]
    refine ⟨by omega, ?_⟩
    rw [show F + (2 * r + 1) + 1 = F + (2 * r + 2) by omega]
    exact hc
  rw [Sort.siftDown, dif_neg (by omega), if_pos hn, dif_pos h]
  cases ltl d[F + r]! d[F + (2 * r + 2)]! <;> rfl

set_option maxHeartbeats 4000000 in
set_option maxRecDepth 100000 in
theorem sift_any (b N c n lo hi F : Nat) (d : Array (List Int)) (w : World) (h : Rw w b N d) (hn : d.size = n) (hb : F + hi ≤ n) (hlo : lo ≤ n) (hsz : n < 100000) :
    Calls Tryz.prog 206 #[iv b n c, .int .i64 lo, .int .i64 hi, .int .i64 F] w fun ee w' => ee = .returned (.tuple #[]) ∧ To b N w (Sort.siftDown ltl hi F lo d) w' := by
  have m1 := mLess b n c
  have m2 := mSwap b n c
  have HH : Hid (To b N w d w) := To.refl h
  have HN : Hid (d.size = n) := hn
  clear h hn
  go_enter Tryz.func206, Tryz.ntmps206
  go_wp2_with fail
  go_loopw [8] (fun vr wr => ∃ (r : Nat) (dk : Array (List Int)), vr = .int .i64 r ∧ r ≤ n ∧ Hid (dk.size = n) ∧ Hid (To b N w dk wr) ∧ Hid (Sort.siftDown ltl hi F r dk = Sort.siftDown ltl hi F lo d)) (fun vr _ => n - (intOf vr).toNat)
  case atStart => exact ⟨lo, d, rfl, hlo, HN, HH, rfl⟩
  case round =>
    obtain ⟨r, dk, rfl, hr, HS, HT, HE⟩ := hrel
    clear HH HN
    by_cases h1 : 2 * r + 1 < hi
    · have h1z : ¬ (hi : Int) ≤ 2 * (r : Int) + 1 := by omega
      have L1 := fun W (hW : To b N w dk W) (i j : Nat) (hi : i < n) (hj : j < n) => by
        have := hW.less c i j (by rw [HS.out]; exact hi) (by rw [HS.out]; exact hj)
        rw [HS.out] at this
        exact this
      have S1 := fun W (hW : To b N w dk W) (i j : Nat) (hi : i < n) (hj : j < n) => by
        have := hW.swap c i j (by rw [HS.out]; exact hi) (by rw [HS.out]; exact hj)
        rw [HS.out] at this
        exact this
      by_cases h2 : 2 * r + 2 < hi
      · have h2z : 2 * (r : Int) + 1 + 1 < (hi : Int) := by omega
        have hl1 := L1 wr HT.out (F + (2 * r + 1)) (F + (2 * r + 2)) (by omega) (by omega)
        rw [show ((F + (2 * r + 1) : Nat) : Int) = (F : Int) + (2 * (r : Int) + 1) by omega, show ((F + (2 * r + 2) : Nat) : Int) = (F : Int) + (2 * (r : Int) + 1) + 1 by omega] at hl1
        cases hcv : ltl dk[F + (2 * r + 1)]! dk[F + (2 * r + 2)]! with
        | true =>
          rw [hcv] at hl1
          have hl2 := fun W (hW : To b N w dk W) => L1 W hW (F + r) (F + (2 * r + 2)) (by omega) (by omega)
          have hsw := fun W (hW : To b N w dk W) => S1 W hW (F + r) (F + (2 * r + 2)) (by omega) (by omega)
          rw [show ((F + r : Nat) : Int) = (F : Int) + (r : Int) by omega, show ((F + (2 * r + 2) : Nat) : Int) = (F : Int) + (2 * (r : Int) + 1 + 1) by omega] at hl2 hsw
          have HE2 := sd_right hi F r dk h2 hcv
          rw [HE.out] at HE2
          have HZ : Hid ((Sort.swp dk (F + r) (F + (2 * r + 2))).size = n) := by rw [swp_size]; exact HS
          generalize Sort.swp dk (F + r) (F + (2 * r + 2)) = d2 at *
          cases hlv : ltl dk[F + r]! dk[F + (2 * r + 2)]! with
          | true =>
            rw [hlv, if_pos rfl] at HE2
            rw [hlv] at hl2
            have HE3 : Hid (Sort.siftDown ltl hi F (2 * r + 2) d2 = Sort.siftDown ltl hi F lo d) := HE2.symm
            clear hlv HE2 HE L1 S1
            go_wp2_with fail
            refine hl1.mono ?_
            rintro ee w2 ⟨rfl, hT2⟩
            have HT2 : Hid (To b N w dk w2) := hT2
            clear hT2 hl1
            go_wp2_with fail
            refine (hl2 _ HT2.out).mono ?_
            rintro ee w3 ⟨rfl, hT3⟩
            have HT3 : Hid (To b N w dk w3) := hT3
            clear hT3 hl2
            go_wp2_with fail
            refine (hsw _ HT3.out).mono ?_
            rintro ee w4 ⟨rfl, hT4⟩
            have HT4 : Hid (To b N w d2 w4) := hT4
            clear hT4 hsw
            go_wp2_with fail
            go_roundw
            case rel => exact ⟨2 * r + 2, d2, by congr 1 <;> omega, by omega, HZ, HT4, HE3⟩
            case measure => simp [intOf]; omega
          | false =>
            rw [hlv, if_neg (by simp)] at HE2
            rw [hlv] at hl2
            have E2 : Hid (Sort.siftDown ltl hi F lo d = dk) := HE2
            clear hlv HE2 HE L1 S1 hsw
            go_wp2_with fail
            refine hl1.mono ?_
            rintro ee w2 ⟨rfl, hT2⟩
            have HT2 : Hid (To b N w dk w2) := hT2
            clear hT2 hl1
            go_wp2_with fail
            refine (hl2 _ HT2.out).mono ?_
            rintro ee w3 ⟨rfl, hT3⟩
            have HT3 : Hid (To b N w dk w3) := hT3
            clear hT3 hl2
            go_wp2_with fail
            exact bodyPost_ret (results_none (by kernel_rfl) _ _ _) rfl ⟨rfl, by rw [E2.out]; exact HT3.out⟩
        | false =>
          rw [hcv] at hl1
          have hl2 := fun W (hW : To b N w dk W) => L1 W hW (F + r) (F + (2 * r + 1)) (by omega) (by omega)
          have hsw := fun W (hW : To b N w dk W) => S1 W hW (F + r) (F + (2 * r + 1)) (by omega) (by omega)
          rw [show ((F + r : Nat) : Int) = (F : Int) + (r : Int) by omega, show ((F + (2 * r + 1) : Nat) : Int) = (F : Int) + (2 * (r : Int) + 1) by omega] at hl2 hsw
          have HE2 := sd_left hi F r dk h1 (.inr hcv)
          rw [HE.out] at HE2
          have HZ : Hid ((Sort.swp dk (F + r) (F + (2 * r + 1))).size = n) := by rw [swp_size]; exact HS
          generalize Sort.swp dk (F + r) (F + (2 * r + 1)) = d2 at *
          cases hlv : ltl dk[F + r]! dk[F + (2 * r + 1)]! with
          | true =>
            rw [hlv, if_pos rfl] at HE2
            rw [hlv] at hl2
            have HE3 : Hid (Sort.siftDown ltl hi F (2 * r + 1) d2 = Sort.siftDown ltl hi F lo d) := HE2.symm
            clear hlv HE2 HE L1 S1
            go_wp2_with fail
            refine hl1.mono ?_
            rintro ee w2 ⟨rfl, hT2⟩
            have HT2 : Hid (To b N w dk w2) := hT2
            clear hT2 hl1
            go_wp2_with fail
            refine (hl2 _ HT2.out).mono ?_
            rintro ee w3 ⟨rfl, hT3⟩
            have HT3 : Hid (To b N w dk w3) := hT3
            clear hT3 hl2
            go_wp2_with fail
            refine (hsw _ HT3.out).mono ?_
            rintro ee w4 ⟨rfl, hT4⟩
            have HT4 : Hid (To b N w d2 w4) := hT4
            clear hT4 hsw
            go_wp2_with fail
            go_roundw
            case rel => exact ⟨2 * r + 1, d2, by congr 1 <;> omega, by omega, HZ, HT4, HE3⟩
            case measure => simp [intOf]; omega
          | false =>
            rw [hlv, if_neg (by simp)] at HE2
            rw [hlv] at hl2
            have E2 : Hid (Sort.siftDown ltl hi F lo d = dk) := HE2
            clear hlv HE2 HE L1 S1 hsw
            go_wp2_with fail
            refine hl1.mono ?_
            rintro ee w2 ⟨rfl, hT2⟩
            have HT2 : Hid (To b N w dk w2) := hT2
            clear hT2 hl1
            go_wp2_with fail
            refine (hl2 _ HT2.out).mono ?_
            rintro ee w3 ⟨rfl, hT3⟩
            have HT3 : Hid (To b N w dk w3) := hT3
            clear hT3 hl2
            go_wp2_with fail
            exact bodyPost_ret (results_none (by kernel_rfl) _ _ _) rfl ⟨rfl, by rw [E2.out]; exact HT3.out⟩
      · have h2z : ¬ 2 * (r : Int) + 1 + 1 < (hi : Int) := by omega
        have hl2 := fun W (hW : To b N w dk W) => L1 W hW (F + r) (F + (2 * r + 1)) (by omega) (by omega)
        have hsw := fun W (hW : To b N w dk W) => S1 W hW (F + r) (F + (2 * r + 1)) (by omega) (by omega)
        rw [show ((F + r : Nat) : Int) = (F : Int) + (r : Int) by omega, show ((F + (2 * r + 1) : Nat) : Int) = (F : Int) + (2 * (r : Int) + 1) by omega] at hl2 hsw
        have HE2 := sd_left hi F r dk h1 (.inl h2)
        rw [HE.out] at HE2
        have HZ : Hid ((Sort.swp dk (F + r) (F + (2 * r + 1))).size = n) := by rw [swp_size]; exact HS
        generalize Sort.swp dk (F + r) (F + (2 * r + 1)) = d2 at *
        cases hlv : ltl dk[F + r]! dk[F + (2 * r + 1)]! with
        | true =>
          rw [hlv, if_pos rfl] at HE2
          rw [hlv] at hl2
          have HE3 : Hid (Sort.siftDown ltl hi F (2 * r + 1) d2 = Sort.siftDown ltl hi F lo d) := HE2.symm
          clear hlv HE2 HE L1 S1
          go_wp2_with fail
          refine (hl2 _ HT.out).mono ?_
          rintro ee w3 ⟨rfl, hT3⟩
          have HT3 : Hid (To b N w dk w3) := hT3
          clear hT3 hl2
          go_wp2_with fail
          refine (hsw _ HT3.out).mono ?_
          rintro ee w4 ⟨rfl, hT4⟩
          have HT4 : Hid (To b N w d2 w4) := hT4
          clear hT4 hsw
          go_wp2_with fail
          go_roundw
          case rel => exact ⟨2 * r + 1, d2, by congr 1 <;> omega, by omega, HZ, HT4, HE3⟩
          case measure => simp [intOf]; omega
        | false =>
          rw [hlv, if_neg (by simp)] at HE2
          rw [hlv] at hl2
          have E2 : Hid (Sort.siftDown ltl hi F lo d = dk) := HE2
          clear hlv HE2 HE L1 S1 hsw
          go_wp2_with fail
          refine (hl2 _ HT.out).mono ?_
          rintro ee w3 ⟨rfl, hT3⟩
          have HT3 : Hid (To b N w dk w3) := hT3
          clear hT3 hl2
          go_wp2_with fail
          exact bodyPost_ret (results_none (by kernel_rfl) _ _ _) rfl ⟨rfl, by rw [E2.out]; exact HT3.out⟩
    · have hz : (hi : Int) ≤ 2 * (r : Int) + 1 := by omega
      have E2 : Hid (Sort.siftDown ltl hi F lo d = dk) := by rw [← HE.out, sd_end hi F r dk h1]; exact rfl
      clear HE
      go_wp2_with fail
      go_end0
      exact ⟨rfl, by rw [E2.out]; exact HT.out⟩

end Go.Proofs.YtojgablpjdlegaaGreatDoor

/- sort.heapSort, sort.reverseRange. -/
namespace Go.Proofs.YtojgablpjdlegaaGreatDoor
open Go.RowKit

theorem sd_size (hi F : Nat) : ∀ (m r : Nat) (d : Array (List Int)), hi - r ≤ m → (Sort.siftDown ltl hi F r d).size = d.size := by
  intro m
  induction m with
  | zero => intro r d h; rw [sd_end hi F r d (by omega)]
  | succ m ih =>
    intro r d h
    by_cases h1 : 2 * r + 1 < hi
    · by_cases h2 : 2 * r + 2 < hi
      · cases hc : ltl d[F + (2 * r + 1)]! d[F + (2 * r + 2)]! with
        | true =>
          rw [sd_right hi F r d h2 hc]
          split
          · rw [ih _ _ (by omega), swp_size]
          · rfl
        | false =>
          rw [sd_left hi F r d h1 (.inr hc)]
          split
          · rw [ih _ _ (by omega), swp_size]
          · rfl
      · rw [sd_left hi F r d h1 (.inl h2)]
        split
        · rw [ih _ _ (by omega), swp_size]
        · rfl
    · rw [sd_end hi F r d h1]

set_option maxHeartbeats 4000000 in
set_option maxRecDepth 100000 in
theorem heap_any (b N c n a e : Nat) (d : Array (List Int)) (w : World) (h : Rw w b N d) (hn : d.size = n) (hae : a < e) (he : e ≤ n) (hsz : n < 100000) :
    Calls Tryz.prog 184 #[iv b n c, .int .i64 a, .int .i64 e] w fun ee w' => ee = .returned (.tuple #[]) ∧ To b N w (Sort.heapSort ltl d a e) w' := by
  have m2 := mSwap b n c
  obtain ⟨H, hHe⟩ : ∃ H, H = e - a := ⟨_, rfl⟩
  have HH : Hid (To b N w d w) := To.refl h
  have HN : Hid (d.size = n) := hn
  have hq : Int.tdiv ((H : Int) - 1) 2 = (((H - 1) / 2 : Nat) : Int) := by rw [Int.tdiv_eq_ediv_of_nonneg (by omega)]; omega
  have hH : ((e : Int) - (a : Int)) = (H : Int) := by omega
  obtain ⟨q, hq2⟩ : ∃ q, q = (H - 1) / 2 := ⟨_, rfl⟩
  rw [← hq2] at hq
  have HQ : Hid (q = (H - 1) / 2 ∧ H = e - a) := ⟨hq2, hHe⟩
  have hqb : q < H := by omega
  have hHn : a + H ≤ n := by omega
  have hHn2 : H ≤ n := by omega
  have hq1 : IntKind.i64.wrap (q : Int) = q := wraps_i64 _ (by omega) (by omega)
  clear h hn hq2 hHe
  go_enter Tryz.func184, Tryz.ntmps184
  go_wp2_with fail
  go_loopw [9] (fun vi wr => ∃ (k : Nat) (z : Int) (dk : Array (List Int)), vi = .int .i64 z ∧ Hid (z = (k : Int) - 1) ∧ k ≤ q + 1 ∧ Hid (dk.size = n) ∧ Hid (To b N w dk wr) ∧ Hid (Sort.heapBuild ltl H a k dk = Sort.heapBuild ltl H a (q + 1) d)) (fun vi _ => ((intOf vi) + 1).toNat)
  case atStart => exact ⟨q + 1, (q : Int), d, rfl, (by have : (q : Int) = ((q + 1 : Nat) : Int) - 1 := by omega
                                                       exact this), by omega, HN, HH, rfl⟩
  case round =>
    obtain ⟨k, z, dk, rfl, HZZ, hk, HS, HT, HE⟩ := hrel
    clear HH HN
    cases k with
    | zero =>
      have HE2 : Hid (dk = Sort.heapBuild ltl H a (q + 1) d) := HE
      have hz0 : ¬ (0 : Int) ≤ z := by have := HZZ.out; omega
      clear HE HZZ
      go_wp2_with fail
      go_loopw [10] (fun vi wr => ∃ (k : Nat) (y : Int) (dj : Array (List Int)), vi = .int .i64 y ∧ Hid (y = (k : Int) - 1) ∧ k ≤ H ∧ Hid (dj.size = n) ∧ Hid (To b N w dj wr) ∧ Hid (Sort.heapPop ltl a k dj = Sort.heapPop ltl a H dk)) (fun vi _ => ((intOf vi) + 1).toNat)
      case atStart => exact ⟨H, (H : Int) - 1, dk, rfl, rfl, by omega, HS, HT, rfl⟩
      case round =>
        obtain ⟨k, y, dj, rfl, HYY, hk, HS2, HT2, HP⟩ := hrel
        clear HT HS
        cases k with
        | zero =>
          have HF : Hid (Sort.heapSort ltl d a e = dj) := by
            unfold Sort.heapSort
            rw [← HQ.out.2, ← HQ.out.1, ← HE2.out, ← HP.out]
            exact rfl
          have hy0 : ¬ (0 : Int) ≤ y := by have := HYY.out; omega
          clear HP HE2 HYY
          go_wp2_with fail
          go_end0
          exact ⟨rfl, by rw [HF.out]; exact HT2.out⟩
        | succ k =>
          have hy : y = (k : Int) := by have := HYY.out; omega
          have hy0 : (0 : Int) ≤ y := by omega
          have hyn : y < 100000 := by omega
          have hsw := HT2.out.swap c a (a + k) (by rw [HS2.out]; omega) (by rw [HS2.out]; omega)
          rw [HS2.out, show ((a + k : Nat) : Int) = (a : Int) + y by omega] at hsw
          have HZ : Hid ((Sort.swp dj a (a + k)).size = n) := by rw [swp_size]; exact HS2
          have HP2 : Hid (Sort.heapPop ltl a k (Sort.siftDown ltl k a 0 (Sort.swp dj a (a + k))) = Sort.heapPop ltl a H dk) := HP
          generalize Sort.swp dj a (a + k) = d2 at *
          have hsi := fun W (hW : To b N w d2 W) => sift_any b N c n 0 k a d2 W hW.rw HZ.out (by omega) (by omega) hsz
          rw [← hy] at hsi
          have HZ3 : Hid ((Sort.siftDown ltl k a 0 d2).size = n) := by rw [sd_size k a _ 0 d2 (Nat.le_refl _)]; exact HZ
          generalize Sort.siftDown ltl k a 0 d2 = d3 at *
          have HY : Hid (y = (k : Int)) := hy
          clear HP HT2 HE2 hy HYY
          go_wp2_with fail
          refine hsw.mono ?_
          rintro ee w4 ⟨rfl, hT4⟩
          have HT4 : Hid (To b N w d2 w4) := hT4
          clear hT4 hsw
          go_wp2_with fail
          refine (hsi _ HT4.out).mono ?_
          rintro ee w5 ⟨rfl, hT5⟩
          have HT5 : Hid (To b N w d3 w5) := HT4.out.then hT5
          clear hT5 hsi
          go_wp2_with fail
          go_roundw
          case rel => exact ⟨k, y - 1, d3, rfl, (by have := HY.out; have h : y - 1 = (k : Int) - 1 := by omega
                                                    exact h), by omega, HZ3, HT5, HP2⟩
          case measure => simp [intOf]; omega
    | succ k =>
      have hz : z = (k : Int) := by have := HZZ.out; omega
      have hz0 : (0 : Int) ≤ z := by omega
      have hzn : z < 100000 := by omega
      have hsi := sift_any b N c n k H a dk wr HT.out.rw HS.out (by omega) (by omega) hsz
      rw [← hz] at hsi
      have HE2 : Hid (Sort.heapBuild ltl H a k (Sort.siftDown ltl H a k dk) = Sort.heapBuild ltl H a (q + 1) d) := HE
      have HZ3 : Hid ((Sort.siftDown ltl H a k dk).size = n) := by rw [sd_size H a _ k dk (Nat.le_refl _)]; exact HS
      generalize Sort.siftDown ltl H a k dk = d3 at *
      have HZ : Hid (z = (k : Int)) := hz
      clear HE hz HZZ
      go_wp2_with fail
      refine hsi.mono ?_
      rintro ee w5 ⟨rfl, hT5⟩
      have HT5 : Hid (To b N w d3 w5) := HT.out.then hT5
      clear hT5 hsi HT
      go_wp2_with fail
      go_roundw
      case rel => exact ⟨k, z - 1, d3, rfl, (by have := HZ.out; have h : z - 1 = (k : Int) - 1 := by omega
                                                exact h), by omega, HZ3, HT5, HE2⟩
      case measure => simp [intOf]; omega

theorem rl_go (i j : Nat) (d : Array (List Int)) (h : i < j) : Sort.reverseLoop i j d = Sort.reverseLoop (i + 1) (j - 1) (Sort.swp d i j) := by rw [Sort.reverseLoop, if_pos h]

theorem rl_stop (i j : Nat) (d : Array (List Int)) (h : ¬ i < j) : Sort.reverseLoop i j d = d := by rw [Sort.reverseLoop, if_neg h]

set_option maxHeartbeats 4000000 in
set_option maxRecDepth 100000 in
theorem rev_any (b N c n a e : Nat) (d : Array (List Int)) (w : World) (h : Rw w b N d) (hn : d.size = n) (hae : a < e) (he : e ≤ n) (hsz : n < 100000) :
    Calls Tryz.prog 187 #[iv b n c, .int .i64 a, .int .i64 e] w fun ee w' => ee = .returned (.tuple #[]) ∧ To b N w (Sort.reverseRange d a e) w' := by
  have m2 := mSwap b n c
  have HH : Hid (To b N w d w) := To.refl h
  have HN : Hid (d.size = n) := hn
  clear h hn
  go_enter Tryz.func187, Tryz.ntmps187
  go_wp2_with fail
  go_loopw [6, 7] (fun vi vj wr => ∃ (i j : Nat) (dk : Array (List Int)), vi = .int .i64 i ∧ vj = .int .i64 j ∧ i ≤ n ∧ j < n ∧ Hid (dk.size = n) ∧ Hid (To b N w dk wr) ∧ Hid (Sort.reverseLoop i j dk = Sort.reverseLoop a (e - 1) d)) (fun _ vj _ => (intOf vj).toNat)
  case atStart => exact ⟨a, e - 1, d, rfl, by congr 1; omega, by omega, by omega, HN, HH, rfl⟩
  case round =>
    obtain ⟨i, j, dk, rfl, rfl, hi, hj, HS, HT, HE⟩ := hrel
    clear HH HN
    by_cases hij : i < j
    · have hz : (i : Int) < (j : Int) := by omega
      have hsw := HT.out.swap c i j (by rw [HS.out]; omega) (by rw [HS.out]; omega)
      rw [HS.out] at hsw
      have HZ : Hid ((Sort.swp dk i j).size = n) := by rw [swp_size]; exact HS
      have HE2 : Hid (Sort.reverseLoop (i + 1) (j - 1) (Sort.swp dk i j) = Sort.reverseLoop a (e - 1) d) := by rw [← HE.out, rl_go i j dk hij]; exact rfl
      generalize Sort.swp dk i j = d2 at *
      clear HE HT
      go_wp2_with fail
      refine hsw.mono ?_
      rintro ee w4 ⟨rfl, hT4⟩
      have HT4 : Hid (To b N w d2 w4) := hT4
      clear hT4 hsw
      go_wp2_with fail
      go_roundw
      case rel => exact ⟨i + 1, j - 1, d2, by go_num, by congr 1; omega, by omega, by omega, HZ, HT4, HE2⟩
      case measure => simp [intOf]; omega
    · have hz : ¬ (i : Int) < (j : Int) := by omega
      have HF : Hid (Sort.reverseRange d a e = dk) := by unfold Sort.reverseRange; rw [← HE.out, rl_stop i j dk hij]; exact rfl
      clear HE
      go_wp2_with fail
      go_end0
      exact ⟨rfl, by rw [HF.out]; exact HT.out⟩

end Go.Proofs.YtojgablpjdlegaaGreatDoor

/- sort.order2, sort.median, sort.medianAdjacent, sort.choosePivot. -/
namespace Go.Proofs.YtojgablpjdlegaaGreatDoor
open Go.RowKit

/-- The names d, and a number of swaps in a block of its own. -/
structure Sp (b N S : Nat) (w : World) (d : Array (List Int)) (s : Nat) (W : World) : Prop where
  tt : To b N w d W
  cell : W.rowIs S 3 1 (fun _ => .int .i64 s)
  new : w.heap.size ≤ S
  old : b < w.heap.size

theorem Sp.less {b N S : Nat} {w W : World} {d : Array (List Int)} {s : Nat} (h : Sp b N S w d s W) (c n i j : Nat) (hn : d.size = n) (hi : i < n) (hj : j < n) :
    Calls Tryz.prog 235 #[sl b n c, .int .i64 i, .int .i64 j] W fun e W' => e = .returned (.bool (ltl d[i]! d[j]!)) ∧ Sp b N S w d s W' := by
  have := rless_any b N c d W h.tt.rw i j (by omega) (by omega)
  rw [hn] at this
  exact this.mono fun _ _ ⟨h1, h2⟩ => ⟨h1, h.tt.keep h2, rowIs_fr (P := fun _ => False) h.cell (Fr.ofBelow h2) (fun h => h), h.new, h.old⟩

theorem Sp.set {b N S : Nat} {w W : World} {d : Array (List Int)} {s : Nat} (h : Sp b N S w d s W) (t : Nat) : Sp b N S w d t (W.setCell ⟨S, 0, none⟩ (.int .i64 t)) := by
  have f := set_fr W S 0 (.int .i64 t)
  have h1 := h.new
  have h2 := h.old
  refine ⟨⟨h.tt.rw.fr f (by omega), ?_⟩, set_row h.cell 0 _ (fun j hj => by rw [if_pos (by omega)]), h1, h2⟩
  exact h.tt.fr.trans (P' := fun k => k = S) f (fun i hi e => by omega)

set_option maxHeartbeats 2000000 in
set_option maxRecDepth 100000 in
theorem order2_any (b N c n S i j s : Nat) (d : Array (List Int)) (w W : World) (h : Sp b N S w d s W) (hn : d.size = n) (hi : i < n) (hj : j < n) (hs : s < 1000) :
    Calls Tryz.prog 215 #[iv b n c, .int .i64 i, .int .i64 j, .pointer (some ⟨S, 0, none⟩)] W fun e W' => e = .returned (.tuple #[.int .i64 (Sort.order2 ltl d i j s).1, .int .i64 (Sort.order2 ltl d i j s).2.1]) ∧ Sp b N S w d (Sort.order2 ltl d i j s).2.2 W' := by
  have m1 := mLess b n c
  have hl := h.less c n j i hn hj hi
  cases hlv : ltl d[j]! d[i]! with
  | true =>
    rw [hlv] at hl
    have e : Sort.order2 ltl d i j s = (j, i, s + 1) := by unfold Sort.order2; rw [hlv]; rfl
    rw [e]
    clear e h
    go_enter Tryz.func215, Tryz.ntmps215
    go_wp2_with fail
    refine hl.mono ?_
    rintro ee W2 ⟨rfl, hS2⟩
    have hc := hS2.cell.cell (i := 0) (by omega)
    have hf := hS2.cell.frozen 0
    have HS3 := hS2.set (s + 1)
    rw [show (((s + 1 : Nat)) : Int) = (s : Int) + 1 by omega] at HS3
    have HS : Hid _ := HS3
    clear hl hS2 HS3
    go_wp2_with fail
    go_ret2
    exact ⟨rfl, HS.out⟩
  | false =>
    rw [hlv] at hl
    have e : Sort.order2 ltl d i j s = (i, j, s) := by unfold Sort.order2; rw [hlv]; rfl
    rw [e]
    clear e h
    go_enter Tryz.func215, Tryz.ntmps215
    go_wp2_with fail
    refine hl.mono ?_
    rintro ee W2 ⟨rfl, hS2⟩
    have HS : Hid _ := hS2
    clear hl hS2
    go_wp2_with fail
    go_ret2
    exact ⟨rfl, HS.out⟩

theorem o2_lt (d : Array (List Int)) (i j s n : Nat) (hi : i < n) (hj : j < n) : (Sort.order2 ltl d i j s).1 < n ∧ (Sort.order2 ltl d i j s).2.1 < n ∧ (Sort.order2 ltl d i j s).2.2 ≤ s + 1 := by
  unfold Sort.order2
  split
  · exact ⟨hj, hi, Nat.le_refl _⟩
  · exact ⟨hi, hj, Nat.le_succ _⟩

set_option maxHeartbeats 2000000 in
set_option maxRecDepth 100000 in
theorem median_any (b N c n S i j k s : Nat) (d : Array (List Int)) (w W : World) (h : Sp b N S w d s W) (hn : d.size = n) (hi : i < n) (hj : j < n) (hk : k < n) (hs : s < 900) :
    Calls Tryz.prog 210 #[iv b n c, .int .i64 i, .int .i64 j, .int .i64 k, .pointer (some ⟨S, 0, none⟩)] W fun e W' => e = .returned (.int .i64 (Sort.median ltl d i j k s).1) ∧ Sp b N S w d (Sort.median ltl d i j k s).2 W' := by
  have h1 := order2_any b N c n S i j s d w W h hn hi hj (by omega)
  obtain ⟨a1, a2, a3⟩ := o2_lt d i j s n hi hj
  have hm : Sort.median ltl d i j k s = ((Sort.order2 ltl d (Sort.order2 ltl d i j s).1 (Sort.order2 ltl d (Sort.order2 ltl d i j s).2.1 k (Sort.order2 ltl d i j s).2.2).1 (Sort.order2 ltl d (Sort.order2 ltl d i j s).2.1 k (Sort.order2 ltl d i j s).2.2).2.2).2.1, (Sort.order2 ltl d (Sort.order2 ltl d i j s).1 (Sort.order2 ltl d (Sort.order2 ltl d i j s).2.1 k (Sort.order2 ltl d i j s).2.2).1 (Sort.order2 ltl d (Sort.order2 ltl d i j s).2.1 k (Sort.order2 ltl d i j s).2.2).2.2).2.2) := rfl
  rw [hm]
  clear hm
  generalize Sort.order2 ltl d i j s = r1 at *
  obtain ⟨p1, p2, s1⟩ := r1
  simp only [] at a1 a2 a3 h1 ⊢
  have h2 := fun W' (hW : Sp b N S w d s1 W') => order2_any b N c n S p2 k s1 d w W' hW hn a2 hk (by omega)
  obtain ⟨b1, b2, b3⟩ := o2_lt d p2 k s1 n a2 hk
  generalize Sort.order2 ltl d p2 k s1 = r2 at *
  obtain ⟨q1, q2, s2⟩ := r2
  simp only [] at b1 b2 b3 h2 ⊢
  have h3 := fun W' (hW : Sp b N S w d s2 W') => order2_any b N c n S p1 q1 s2 d w W' hW hn a1 b1 (by omega)
  generalize Sort.order2 ltl d p1 q1 s2 = r3 at *
  obtain ⟨u1, u2, s3⟩ := r3
  simp only [] at h3 ⊢
  clear h
  go_enter Tryz.func210, Tryz.ntmps210
  go_wp2_with fail
  refine h1.mono ?_
  rintro ee W2 ⟨rfl, hS2⟩
  have HS2 : Hid _ := hS2
  clear h1 hS2
  go_wp2_with fail
  refine (h2 _ HS2.out).mono ?_
  rintro ee W3 ⟨rfl, hS3⟩
  have HS3 : Hid _ := hS3
  clear h2 hS3
  go_wp2_with fail
  refine (h3 _ HS3.out).mono ?_
  rintro ee W4 ⟨rfl, hS4⟩
  have HS4 : Hid _ := hS4
  clear h3 hS4
  go_wp2_with fail
  go_ret
  exact ⟨rfl, HS4.out⟩

theorem med_lt (d : Array (List Int)) (i j k s n : Nat) (hi : i < n) (hj : j < n) (hk : k < n) : (Sort.median ltl d i j k s).1 < n ∧ (Sort.median ltl d i j k s).2 ≤ s + 3 := by
  obtain ⟨a1, a2, a3⟩ := o2_lt d i j s n hi hj
  obtain ⟨b1, b2, b3⟩ := o2_lt d (Sort.order2 ltl d i j s).2.1 k (Sort.order2 ltl d i j s).2.2 n a2 hk
  obtain ⟨c1, c2, c3⟩ := o2_lt d (Sort.order2 ltl d i j s).1 (Sort.order2 ltl d (Sort.order2 ltl d i j s).2.1 k (Sort.order2 ltl d i j s).2.2).1 (Sort.order2 ltl d (Sort.order2 ltl d i j s).2.1 k (Sort.order2 ltl d i j s).2.2).2.2 n a1 b1
  exact ⟨c2, by show (Sort.order2 ltl d _ _ _).2.2 ≤ s + 3; omega⟩

set_option maxHeartbeats 2000000 in
set_option maxRecDepth 100000 in
theorem adj_any (b N c n S i s : Nat) (d : Array (List Int)) (w W : World) (h : Sp b N S w d s W) (hn : d.size = n) (h1 : 1 ≤ i) (hi : i + 1 < n) (hs : s < 900) (hsz : n < 100000) :
    Calls Tryz.prog 209 #[iv b n c, .int .i64 i, .pointer (some ⟨S, 0, none⟩)] W fun e W' => e = .returned (.int .i64 (Sort.medianAdjacent ltl d i s).1) ∧ Sp b N S w d (Sort.medianAdjacent ltl d i s).2 W' := by
  have hm := median_any b N c n S (i - 1) i (i + 1) s d w W h hn (by omega) (by omega) (by omega) hs
  rw [show ((i - 1 : Nat) : Int) = (i : Int) - 1 by omega, show ((i + 1 : Nat) : Int) = (i : Int) + 1 by omega] at hm
  have e : Sort.medianAdjacent ltl d i s = Sort.median ltl d (i - 1) i (i + 1) s := rfl
  rw [e]
  clear e h
  generalize Sort.median ltl d (i - 1) i (i + 1) s = r at *
  obtain ⟨r1, r2⟩ := r
  go_enter Tryz.func209, Tryz.ntmps209
  go_wp2_with fail
  refine hm.mono ?_
  rintro ee W2 ⟨rfl, hS2⟩
  have HS2 : Hid _ := hS2
  clear hm hS2
  go_wp2_with fail
  go_ret
  exact ⟨rfl, HS2.out⟩

/-- A hint's number. -/
def hn (h : Sort.Hint) : Int := match h with
  | .unknown => 0
  | .increasing => 1
  | .decreasing => 2

theorem cp_mid (d : Array (List Int)) (a e : Nat) (h8 : 8 ≤ e - a) (h50 : ¬ 50 ≤ e - a) : Sort.choosePivot ltl d a e = ((Sort.median ltl d (a + (e - a) / 4) (a + (e - a) / 4 * 2) (a + (e - a) / 4 * 3) 0).1, if (Sort.median ltl d (a + (e - a) / 4) (a + (e - a) / 4 * 2) (a + (e - a) / 4 * 3) 0).2 = 0 then .increasing else if (Sort.median ltl d (a + (e - a) / 4) (a + (e - a) / 4 * 2) (a + (e - a) / 4 * 3) 0).2 = 12 then .decreasing else .unknown) := by
  unfold Sort.choosePivot
  simp only [if_pos (show e - a ≥ 8 from h8), if_neg (show ¬ e - a ≥ 50 from h50), Nat.mul_one]

theorem cp_big (d : Array (List Int)) (a e i j k s1 s2 s3 m s4 : Nat) (h50 : 50 ≤ e - a) (h1 : Sort.medianAdjacent ltl d (a + (e - a) / 4) 0 = (i, s1)) (h2 : Sort.medianAdjacent ltl d (a + (e - a) / 4 * 2) s1 = (j, s2)) (h3 : Sort.medianAdjacent ltl d (a + (e - a) / 4 * 3) s2 = (k, s3))
    (h4 : Sort.median ltl d i j k s3 = (m, s4)) : Sort.choosePivot ltl d a e = (m, if s4 = 0 then .increasing else if s4 = 12 then .decreasing else .unknown) := by
  unfold Sort.choosePivot
  simp only [if_pos (show e - a ≥ 8 by omega), if_pos (show e - a ≥ 50 from h50), Nat.mul_one, h1, h2, h3, h4]

theorem Sp.start {b N : Nat} {w : World} {d : Array (List Int)} (h : Rw w b N d) : Sp b N w.heap.size w d 0 (w.alloc (.cells #[.int .i64 0] 3)) :=
  ⟨⟨h.keep (new_below w _), (Fr.refl _ w).alloc _⟩, World.rowIs_alloc w #[.int .i64 0] 3 (fun _ => .int .i64 ((0 : Nat) : Int)) (fun i hi => by simp at hi; subst hi; rfl), Nat.le_refl _, h.lt⟩

theorem Sp.ld {b N S : Nat} {w W : World} {d : Array (List Int)} {s : Nat} (h : Sp b N S w d s W) : W.cell? ⟨S, 0, none⟩ = some (.int .i64 s) := h.cell.cell (i := 0) (by omega)

set_option maxHeartbeats 4000000 in
set_option maxRecDepth 100000 in
theorem pivot_big (b N c n : Nat) (a e L Q I1 I2 I3 : Int) (d : Array (List Int)) (w : World) (HS0 : Hid (Sp b N w.heap.size w d 0 (w.alloc (.cells #[.int .i64 0] 3)))) (hz1 : IntKind.i64.wrap (e - a) = L) (hz2 : IntKind.i64.wrap (Int.tdiv L 4) = Q) (hz3 : 8 ≤ L)
    (q1 : IntKind.i64.wrap Q = Q) (p1 : IntKind.i64.wrap (a + Q) = I1) (p2 : IntKind.i64.wrap (Q * 2) = Q * 2) (p3 : IntKind.i64.wrap (a + Q * 2) = I2) (p4 : IntKind.i64.wrap (Q * 3) = Q * 3) (p5 : IntKind.i64.wrap (a + Q * 3) = I3) (hz4 : 50 ≤ L) (i j k m s1 s2 s3 s4 : Nat)
    (c1 : ∀ W, Sp b N w.heap.size w d 0 W → Calls Tryz.prog 209 #[iv b n c, .int .i64 I1, .pointer (some ⟨w.heap.size, 0, none⟩)] W fun e W' => e = .returned (.int .i64 i) ∧ Sp b N w.heap.size w d s1 W')
    (c2 : ∀ W, Sp b N w.heap.size w d s1 W → Calls Tryz.prog 209 #[iv b n c, .int .i64 I2, .pointer (some ⟨w.heap.size, 0, none⟩)] W fun e W' => e = .returned (.int .i64 j) ∧ Sp b N w.heap.size w d s2 W')
    (c3 : ∀ W, Sp b N w.heap.size w d s2 W → Calls Tryz.prog 209 #[iv b n c, .int .i64 I3, .pointer (some ⟨w.heap.size, 0, none⟩)] W fun e W' => e = .returned (.int .i64 k) ∧ Sp b N w.heap.size w d s3 W')
    (c4 : ∀ W, Sp b N w.heap.size w d s3 W → Calls Tryz.prog 210 #[iv b n c, .int .i64 i, .int .i64 j, .int .i64 k, .pointer (some ⟨w.heap.size, 0, none⟩)] W fun e W' => e = .returned (.int .i64 m) ∧ Sp b N w.heap.size w d s4 W') :
    Calls Tryz.prog 186 #[iv b n c, .int .i64 a, .int .i64 e] w fun ee w' => ee = .returned (.tuple #[.int .i64 m, .int .i64 (hn (if s4 = 0 then .increasing else if s4 = 12 then .decreasing else .unknown))]) ∧ To b N w d w' := by
  go_enter Tryz.func186, Tryz.ntmps186
  go_wp2_with fail
  refine (c1 _ HS0.out).mono ?_
  rintro ee W1 ⟨rfl, hS1⟩
  have HS1 : Hid _ := hS1
  clear c1 hS1
  go_wp2_with fail
  refine (c2 _ HS1.out).mono ?_
  rintro ee W2 ⟨rfl, hS2⟩
  have HS2 : Hid _ := hS2
  clear c2 hS2
  go_wp2_with fail
  refine (c3 _ HS2.out).mono ?_
  rintro ee W3 ⟨rfl, hS3⟩
  have HS3 : Hid _ := hS3
  clear c3 hS3
  go_wp2_with fail
  refine (c4 _ HS3.out).mono ?_
  rintro ee W4 ⟨rfl, hS4⟩
  have HS4 : Hid _ := hS4
  clear c4 hS4
  have hld := HS4.out.ld
  have HT : Hid _ := HS4.out.tt
  clear HS4
  by_cases g0 : s4 = 0
  · subst g0
    go_wp2_with fail
    go_ret2
    exact ⟨rfl, HT.out⟩
  · have gz : ((s4 : Int) == 0) = false := by simp; omega
    by_cases g1 : s4 = 12
    · subst g1
      go_wp2_with fail
      go_ret2
      exact ⟨rfl, HT.out⟩
    · have gy : ((s4 : Int) == 12) = false := by simp; omega
      go_wp2_with fail
      go_ret2
      refine ⟨?_, HT.out⟩
      simp [hn]

set_option maxHeartbeats 4000000 in
set_option maxRecDepth 100000 in
theorem pivot_mid (b N c n : Nat) (a e L Q I1 I2 I3 : Int) (d : Array (List Int)) (w : World) (HS0 : Hid (Sp b N w.heap.size w d 0 (w.alloc (.cells #[.int .i64 0] 3)))) (hz1 : IntKind.i64.wrap (e - a) = L) (hz2 : IntKind.i64.wrap (Int.tdiv L 4) = Q) (hz3 : 8 ≤ L)
    (q1 : IntKind.i64.wrap Q = Q) (p1 : IntKind.i64.wrap (a + Q) = I1) (p2 : IntKind.i64.wrap (Q * 2) = Q * 2) (p3 : IntKind.i64.wrap (a + Q * 2) = I2) (p4 : IntKind.i64.wrap (Q * 3) = Q * 3) (p5 : IntKind.i64.wrap (a + Q * 3) = I3) (hz4 : ¬ 50 ≤ L) (m s4 : Nat)
    (c4 : ∀ W, Sp b N w.heap.size w d 0 W → Calls Tryz.prog 210 #[iv b n c, .int .i64 I1, .int .i64 I2, .int .i64 I3, .pointer (some ⟨w.heap.size, 0, none⟩)] W fun e W' => e = .returned (.int .i64 m) ∧ Sp b N w.heap.size w d s4 W') :
    Calls Tryz.prog 186 #[iv b n c, .int .i64 a, .int .i64 e] w fun ee w' => ee = .returned (.tuple #[.int .i64 m, .int .i64 (hn (if s4 = 0 then .increasing else if s4 = 12 then .decreasing else .unknown))]) ∧ To b N w d w' := by
  go_enter Tryz.func186, Tryz.ntmps186
  go_wp2_with fail
  refine (c4 _ HS0.out).mono ?_
  rintro ee W4 ⟨rfl, hS4⟩
  have HS4 : Hid _ := hS4
  clear c4 hS4
  have hld := HS4.out.ld
  have HT : Hid _ := HS4.out.tt
  clear HS4
  by_cases g0 : s4 = 0
  · subst g0
    go_wp2_with fail
    go_ret2
    exact ⟨rfl, HT.out⟩
  · have gz : ((s4 : Int) == 0) = false := by simp; omega
    by_cases g1 : s4 = 12
    · subst g1
      go_wp2_with fail
      go_ret2
      exact ⟨rfl, HT.out⟩
    · have gy : ((s4 : Int) == 12) = false := by simp; omega
      go_wp2_with fail
      go_ret2
      refine ⟨?_, HT.out⟩
      simp [hn]

theorem w64 (x : Int) (h0 : 0 ≤ x) (h1 : x < 1000000) : IntKind.i64.wrap x = x := wraps_i64 x h0 (by omega)

theorem pivot_any (b N c n a e : Nat) (d : Array (List Int)) (w : World) (h : Rw w b N d) (hn' : d.size = n) (h8 : 8 ≤ e - a) (he : e ≤ n) (hsz : n < 100000) :
    Calls Tryz.prog 186 #[iv b n c, .int .i64 a, .int .i64 e] w fun ee w' => ee = .returned (.tuple #[.int .i64 (Sort.choosePivot ltl d a e).1, .int .i64 (hn (Sort.choosePivot ltl d a e).2)]) ∧ To b N w d w' := by
  have HS0 : Hid _ := Sp.start h
  obtain ⟨L, hL⟩ : ∃ L, L = e - a := ⟨_, rfl⟩
  obtain ⟨Q, hQ⟩ : ∃ Q, Q = L / 4 := ⟨_, rfl⟩
  have hb3 : a + Q * 3 + 1 < n := by omega
  have hQ1 : 1 ≤ Q := by omega
  have hz1 : IntKind.i64.wrap ((e : Int) - (a : Int)) = (L : Int) := by rw [w64 _ (by omega) (by omega)]; omega
  have hz2 : IntKind.i64.wrap (Int.tdiv (L : Int) 4) = (Q : Int) := by
    rw [Int.tdiv_eq_ediv_of_nonneg (by omega), w64 _ (by omega) (by omega)]
    omega
  have q1 := w64 (Q : Int) (by omega) (by omega)
  have p1 : IntKind.i64.wrap ((a : Int) + (Q : Int)) = ((a + Q : Nat) : Int) := by rw [w64 _ (by omega) (by omega)]; omega
  have p2 := w64 ((Q : Int) * 2) (by omega) (by omega)
  have p3 : IntKind.i64.wrap ((a : Int) + (Q : Int) * 2) = ((a + Q * 2 : Nat) : Int) := by rw [w64 _ (by omega) (by omega)]; omega
  have p4 := w64 ((Q : Int) * 3) (by omega) (by omega)
  have p5 : IntKind.i64.wrap ((a : Int) + (Q : Int) * 3) = ((a + Q * 3 : Nat) : Int) := by rw [w64 _ (by omega) (by omega)]; omega
  by_cases h50 : 50 ≤ L
  · obtain ⟨⟨i, s1⟩, hr1⟩ : ∃ r, Sort.medianAdjacent ltl d (a + Q) 0 = r := ⟨_, rfl⟩
    have b1 := med_lt d (a + Q - 1) (a + Q) (a + Q + 1) 0 n (by omega) (by omega) (by omega)
    have e1 : Sort.median ltl d (a + Q - 1) (a + Q) (a + Q + 1) 0 = (i, s1) := hr1
    rw [e1] at b1
    obtain ⟨⟨j, s2⟩, hr2⟩ : ∃ r, Sort.medianAdjacent ltl d (a + Q * 2) s1 = r := ⟨_, rfl⟩
    have b2 := med_lt d (a + Q * 2 - 1) (a + Q * 2) (a + Q * 2 + 1) s1 n (by omega) (by omega) (by omega)
    have e2 : Sort.median ltl d (a + Q * 2 - 1) (a + Q * 2) (a + Q * 2 + 1) s1 = (j, s2) := hr2
    rw [e2] at b2
    obtain ⟨⟨k, s3⟩, hr3⟩ : ∃ r, Sort.medianAdjacent ltl d (a + Q * 3) s2 = r := ⟨_, rfl⟩
    have b3 := med_lt d (a + Q * 3 - 1) (a + Q * 3) (a + Q * 3 + 1) s2 n (by omega) (by omega) (by omega)
    have e3 : Sort.median ltl d (a + Q * 3 - 1) (a + Q * 3) (a + Q * 3 + 1) s2 = (k, s3) := hr3
    rw [e3] at b3
    simp only [] at b1 b2 b3
    obtain ⟨⟨m, s4⟩, hr4⟩ : ∃ r, Sort.median ltl d i j k s3 = r := ⟨_, rfl⟩
    have E := cp_big d a e i j k s1 s2 s3 m s4 (by omega) (by rw [← hL, ← hQ]; exact hr1) (by rw [← hL, ← hQ]; exact hr2) (by rw [← hL, ← hQ]; exact hr3) hr4
    rw [E]
    have c1 := fun W (hW : Sp b N w.heap.size w d 0 W) => adj_any b N c n w.heap.size (a + Q) 0 d w W hW hn' (by omega) (by omega) (by omega) hsz
    have c2 := fun W (hW : Sp b N w.heap.size w d s1 W) => adj_any b N c n w.heap.size (a + Q * 2) s1 d w W hW hn' (by omega) (by omega) (by omega) hsz
    have c3 := fun W (hW : Sp b N w.heap.size w d s2 W) => adj_any b N c n w.heap.size (a + Q * 3) s2 d w W hW hn' (by omega) (by omega) (by omega) hsz
    have c4 := fun W (hW : Sp b N w.heap.size w d s3 W) => median_any b N c n w.heap.size i j k s3 d w W hW hn' b1.1 b2.1 b3.1 (by omega)
    rw [hr1] at c1
    rw [hr2] at c2
    rw [hr3] at c3
    rw [hr4] at c4
    exact pivot_big b N c n a e L Q _ _ _ d w HS0 hz1 hz2 (by omega) q1 p1 p2 p3 p4 p5 (by omega) i j k m s1 s2 s3 s4 c1 c2 c3 c4
  · obtain ⟨⟨m, s4⟩, hr4⟩ : ∃ r, Sort.median ltl d (a + Q) (a + Q * 2) (a + Q * 3) 0 = r := ⟨_, rfl⟩
    have E := cp_mid d a e (by omega) (by omega)
    rw [← hL, ← hQ, hr4] at E
    simp only [] at E
    rw [E]
    have c4 := fun W (hW : Sp b N w.heap.size w d 0 W) => median_any b N c n w.heap.size (a + Q) (a + Q * 2) (a + Q * 3) 0 d w W hW hn' (by omega) (by omega) (by omega) (by omega)
    rw [hr4] at c4
    exact pivot_mid b N c n a e L Q _ _ _ d w HS0 hz1 hz2 (by omega) q1 p1 p2 p3 p4 p5 (by omega) m s4 c4

end Go.Proofs.YtojgablpjdlegaaGreatDoor
