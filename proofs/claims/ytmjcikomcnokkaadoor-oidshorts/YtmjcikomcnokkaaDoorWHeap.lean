/- sort.heapSort, sort.reverseRange. -/
import Derived.Test.YtmjcikomcnokkaaDoorWSift
namespace Go.Proofs.YtmjcikomcnokkaaDoor
open Go.RowKit

theorem sd_size (hi F : Nat) : ∀ (m r : Nat) (d : Array (List Int)), hi - r ≤ m → (Sort.siftDown ltl hi F r d).size = d.size := by
  intro m
  induction m with
  | zero => intro r d h; rw [sd_end hi F r d (by omega)]
  | succ m ih =>
    intro r d h
    by_cases h1 : 2 * r + 1 < hi
    · by_cases h2 : 2 * r + 2 < hi
      · cases hc : ltl d[F + (2 * r + 1)]! d[F + (2 * r + 2)]! with
        | true =>
          rw [sd_right hi F r d h2 hc]
          split
          · rw [ih _ _ (by omega), swp_size]
          · rfl
        | false =>
          rw [sd_left hi F r d h1 (.inr hc)]
          split
          · rw [ih _ _ (by omega), swp_size]
          · rfl
      · rw [sd_left hi F r d h1 (.inl h2)]
        split
        · rw [ih _ _ (by omega), swp_size]
        · rfl
    · rw [sd_end hi F r d h1]

set_option maxHeartbeats 4000000 in
set_option maxRecDepth 100000 in
theorem heap_any (b N c n a e : Nat) (d : Array (List Int)) (w : World) (h : Rw w b N d) (hn : d.size = n) (hae : a < e) (he : e ≤ n) (hsz : n < 100000) :
    Calls Tryd.prog 65 #[iv b n c, .int .i64 a, .int .i64 e] w fun ee w' => ee = .returned (.tuple #[]) ∧ To b N w (Sort.heapSort ltl d a e) w' := by
  have m2 := mSwap b n c
  obtain ⟨H, hHe⟩ : ∃ H, H = e - a := ⟨_, rfl⟩
  have HH : Hid (To b N w d w) := To.refl h
  have HN : Hid (d.size = n) := hn
  have hq : Int.tdiv ((H : Int) - 1) 2 = (((H - 1) / 2 : Nat) : Int) := by rw [Int.tdiv_eq_ediv_of_nonneg (by omega)]; omega
  have hH : ((e : Int) - (a : Int)) = (H : Int) := by omega
  obtain ⟨q, hq2⟩ : ∃ q, q = (H - 1) / 2 := ⟨_, rfl⟩
  rw [← hq2] at hq
  have HQ : Hid (q = (H - 1) / 2 ∧ H = e - a) := ⟨hq2, hHe⟩
  have hqb : q < H := by omega
  have hHn : a + H ≤ n := by omega
  have hHn2 : H ≤ n := by omega
  have hq1 : IntKind.i64.wrap (q : Int) = q := wraps_i64 _ (by omega) (by omega)
  clear h hn hq2 hHe
  go_enter Tryd.func65, Tryd.ntmps65
  go_wp2_with fail
  go_loopw [9] (fun vi wr => ∃ (k : Nat) (z : Int) (dk : Array (List Int)), vi = .int .i64 z ∧ Hid (z = (k : Int) - 1) ∧ k ≤ q + 1 ∧ Hid (dk.size = n) ∧ Hid (To b N w dk wr) ∧ Hid (Sort.heapBuild ltl H a k dk = Sort.heapBuild ltl H a (q + 1) d)) (fun vi _ => ((intOf vi) + 1).toNat)
  case atStart => exact ⟨q + 1, (q : Int), d, rfl, (by have : (q : Int) = ((q + 1 : Nat) : Int) - 1 := by omega
                                                       exact this), by omega, HN, HH, rfl⟩
  case round =>
    obtain ⟨k, z, dk, rfl, HZZ, hk, HS, HT, HE⟩ := hrel
    clear HH HN
    cases k with
    | zero =>
      have HE2 : Hid (dk = Sort.heapBuild ltl H a (q + 1) d) := HE
      have hz0 : ¬ (0 : Int) ≤ z := by have := HZZ.out; omega
      clear HE HZZ
      go_wp2_with fail
      go_loopw [10] (fun vi wr => ∃ (k : Nat) (y : Int) (dj : Array (List Int)), vi = .int .i64 y ∧ Hid (y = (k : Int) - 1) ∧ k ≤ H ∧ Hid (dj.size = n) ∧ Hid (To b N w dj wr) ∧ Hid (Sort.heapPop ltl a k dj = Sort.heapPop ltl a H dk)) (fun vi _ => ((intOf vi) + 1).toNat)
      case atStart => exact ⟨H, (H : Int) - 1, dk, rfl, rfl, by omega, HS, HT, rfl⟩
      case round =>
        obtain ⟨k, y, dj, rfl, HYY, hk, HS2, HT2, HP⟩ := hrel
        clear HT HS
        cases k with
        | zero =>
          have HF : Hid (Sort.heapSort ltl d a e = dj) := by
            unfold Sort.heapSort
            rw [← HQ.out.2, ← HQ.out.1, ← HE2.out, ← HP.out]
            exact rfl
          have hy0 : ¬ (0 : Int) ≤ y := by have := HYY.out; omega
          clear HP HE2 HYY
          go_wp2_with fail
          go_end0
          exact ⟨rfl, by rw [HF.out]; exact HT2.out⟩
        | succ k =>
          have hy : y = (k : Int) := by have := HYY.out; omega
          have hy0 : (0 : Int) ≤ y := by omega
          have hyn : y < 100000 := by omega
          have hsw := HT2.out.swap c a (a + k) (by rw [HS2.out]; omega) (by rw [HS2.out]; omega)
          rw [HS2.out, show ((a + k : Nat) : Int) = (a : Int) + y by omega] at hsw
          have HZ : Hid ((Sort.swp dj a (a + k)).size = n) := by rw [swp_size]; exact HS2
          have HP2 : Hid (Sort.heapPop ltl a k (Sort.siftDown ltl k a 0 (Sort.swp dj a (a + k))) = Sort.heapPop ltl a H dk) := HP
          generalize Sort.swp dj a (a + k) = d2 at *
          have hsi := fun W (hW : To b N w d2 W) => sift_any b N c n 0 k a d2 W hW.rw HZ.out (by omega) (by omega) hsz
          rw [← hy] at hsi
          have HZ3 : Hid ((Sort.siftDown ltl k a 0 d2).size = n) := by rw [sd_size k a _ 0 d2 (Nat.le_refl _)]; exact HZ
          generalize Sort.siftDown ltl k a 0 d2 = d3 at *
          have HY : Hid (y = (k : Int)) := hy
          clear HP HT2 HE2 hy HYY
          go_wp2_with fail
          refine hsw.mono ?_
          rintro ee w4 ⟨rfl, hT4⟩
          have HT4 : Hid (To b N w d2 w4) := hT4
          clear hT4 hsw
          go_wp2_with fail
          refine (hsi _ HT4.out).mono ?_
          rintro ee w5 ⟨rfl, hT5⟩
          have HT5 : Hid (To b N w d3 w5) := HT4.out.then hT5
          clear hT5 hsi
          go_wp2_with fail
          go_roundw
          case rel => exact ⟨k, y - 1, d3, rfl, (by have := HY.out; have h : y - 1 = (k : Int) - 1 := by omega
                                                    exact h), by omega, HZ3, HT5, HP2⟩
          case measure => simp [intOf]; omega
    | succ k =>
      have hz : z = (k : Int) := by have := HZZ.out; omega
      have hz0 : (0 : Int) ≤ z := by omega
      have hzn : z < 100000 := by omega
      have hsi := sift_any b N c n k H a dk wr HT.out.rw HS.out (by omega) (by omega) hsz
      rw [← hz] at hsi
      have HE2 : Hid (Sort.heapBuild ltl H a k (Sort.siftDown ltl H a k dk) = Sort.heapBuild ltl H a (q + 1) d) := HE
      have HZ3 : Hid ((Sort.siftDown ltl H a k dk).size = n) := by rw [sd_size H a _ k dk (Nat.le_refl _)]; exact HS
      generalize Sort.siftDown ltl H a k dk = d3 at *
      have HZ : Hid (z = (k : Int)) := hz
      clear HE hz HZZ
      go_wp2_with fail
      refine hsi.mono ?_
      rintro ee w5 ⟨rfl, hT5⟩
      have HT5 : Hid (To b N w d3 w5) := HT.out.then hT5
      clear hT5 hsi HT
      go_wp2_with fail
      go_roundw
      case rel => exact ⟨k, z - 1, d3, rfl, (by have := HZ.out; have h : z - 1 = (k : Int) - 1 := by omega
                                                exact h), by omega, HZ3, HT5, HE2⟩
      case measure => simp [intOf]; omega

theorem rl_go (i j : Nat) (d : Array (List Int)) (h : i < j) : Sort.reverseLoop i j d = Sort.reverseLoop (i + 1) (j - 1) (Sort.swp d i j) := by rw [Sort.reverseLoop, if_pos h]

theorem rl_stop (i j : Nat) (d : Array (List Int)) (h : ¬ i < j) : Sort.reverseLoop i j d = d := by rw [Sort.reverseLoop, if_neg h]

set_option maxHeartbeats 4000000 in
set_option maxRecDepth 100000 in
theorem rev_any (b N c n a e : Nat) (d : Array (List Int)) (w : World) (h : Rw w b N d) (hn : d.size = n) (hae : a < e) (he : e ≤ n) (hsz : n < 100000) :
    Calls Tryd.prog 68 #[iv b n c, .int .i64 a, .int .i64 e] w fun ee w' => ee = .returned (.tuple #[]) ∧ To b N w (Sort.reverseRange d a e) w' := by
  have m2 := mSwap b n c
  have HH : Hid (To b N w d w) := To.refl h
  have HN : Hid (d.size = n) := hn
  clear h hn
  go_enter Tryd.func68, Tryd.ntmps68
  go_wp2_with fail
  go_loopw [6, 7] (fun vi vj wr => ∃ (i j : Nat) (dk : Array (List Int)), vi = .int .i64 i ∧ vj = .int .i64 j ∧ i ≤ n ∧ j < n ∧ Hid (dk.size = n) ∧ Hid (To b N w dk wr) ∧ Hid (Sort.reverseLoop i j dk = Sort.reverseLoop a (e - 1) d)) (fun _ vj _ => (intOf vj).toNat)
  case atStart => exact ⟨a, e - 1, d, rfl, by congr 1; omega, by omega, by omega, HN, HH, rfl⟩
  case round =>
    obtain ⟨i, j, dk, rfl, rfl, hi, hj, HS, HT, HE⟩ := hrel
    clear HH HN
    by_cases hij : i < j
    · have hz : (i : Int) < (j : Int) := by omega
      have hsw := HT.out.swap c i j (by rw [HS.out]; omega) (by rw [HS.out]; omega)
      rw [HS.out] at hsw
      have HZ : Hid ((Sort.swp dk i j).size = n) := by rw [swp_size]; exact HS
      have HE2 : Hid (Sort.reverseLoop (i + 1) (j - 1) (Sort.swp dk i j) = Sort.reverseLoop a (e - 1) d) := by rw [← HE.out, rl_go i j dk hij]; exact rfl
      generalize Sort.swp dk i j = d2 at *
      clear HE HT
      go_wp2_with fail
      refine hsw.mono ?_
      rintro ee w4 ⟨rfl, hT4⟩
      have HT4 : Hid (To b N w d2 w4) := hT4
      clear hT4 hsw
      go_wp2_with fail
      go_roundw
      case rel => exact ⟨i + 1, j - 1, d2, by go_num, by congr 1; omega, by omega, by omega, HZ, HT4, HE2⟩
      case measure => simp [intOf]; omega
    · have hz : ¬ (i : Int) < (j : Int) := by omega
      have HF : Hid (Sort.reverseRange d a e = dk) := by unfold Sort.reverseRange; rw [← HE.out, rl_stop i j dk hij]; exact rfl
      clear HE
      go_wp2_with fail
      go_end0
      exact ⟨rfl, by rw [HF.out]; exact HT.out⟩

end Go.Proofs.YtmjcikomcnokkaaDoor
