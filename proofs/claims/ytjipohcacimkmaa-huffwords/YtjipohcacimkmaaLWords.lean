/- The walk of HuffWords. -/
import Derived.Test.YtjipohcacimkmaaWKnown
namespace Go.Proofs.Ytjipohcacimkmaa
open Go.RowKit

theorem of_nil {R B : Nat} (h : B ≤ R) : ∀ k, Of R (.slice none 0 0) k → B ≤ k := by
  rintro k (rfl | hk)
  · exact h
  · cases hk

theorem step_of {R : Nat} {v v' : Value} {w w' : World} {N : Int} {q : Nat} {hv : Int} (s : Step R v v' w w') (B : Nat) (r : Raw w R v N q hv) (hB : ∀ k, Of R v k → B ≤ k) : Below B w w' ∧ ∀ k, Of R v' k → B ≤ k := by
  have hlt := r.row.lt
  have hR := hB R (.inl rfl)
  exact ⟨s.below B (by omega) hB, s.from B (by omega) hB⟩

/-- One symbol alone, of one bit. -/
def ones (s : Nat) : Nat → Int := fun j => if j = s then 1 else 0

theorem ones_lm (s j : Nat) : Lm (ones s j) := by
  simp only [ones, Lm]
  split <;> omega

theorem ones_G (s k : Nat) : G (ones s) 15 k = if s < k then 16384 else 0 := by
  induction k with
  | zero => simp [G]
  | succ k ih =>
    by_cases e : k = s
    · subst e
      rw [G_put (ones k) k 1 (by simp [ones]) (by omega) (by omega), ih, if_neg (by omega), if_pos (by omega)]
      rfl
    · rw [G_same (ones s) k (by simp [ones, e]), ih]
      by_cases h : s < k
      · rw [if_pos h, if_pos (by omega)]
      · rw [if_neg h, if_neg (by omega)]

theorem ones_SM (s k : Nat) : SM (ones s) k = if s < k then 1 else 0 := by
  induction k with
  | zero => simp [SM]
  | succ k ih =>
    rw [show SM (ones s) (k + 1) = SM (ones s) k + ones s k from rfl, ih]
    by_cases e : k = s
    · subst e
      simp [ones]
    · simp only [ones, if_neg e]
      by_cases h : s < k
      · rw [if_pos h, if_pos (by omega)]; rfl
      · rw [if_neg h, if_neg (by omega)]; rfl

theorem ones_nw (s : Nat) (h : s ≤ 280) : nw (ones s) (s + 1) true = 0 := by
  have hg := ones_G s (s + 1)
  rw [if_pos (by omega)] at hg
  have := er_fits (ones s) (s + 1) (by omega) (fun j _ => ones_lm s j) (by omega)
  unfold nw
  rw [if_pos this.2, if_pos]
  right
  refine ⟨rfl, ?_⟩
  rw [ones_SM, if_pos (by omega)]
  omega

theorem ones_cn (s k : Nat) (h : k ≤ s) : cn (ones s) 1 k = 0 := by
  induction k with
  | zero => rfl
  | succ k ih =>
    simp only [cn]
    rw [ih (by omega), if_neg (by simp [ones]; omega)]
    rfl

theorem ones_cd (s : Nat) : cd (ones s) (s + 1) s = 0 := by
  rw [cd_low (ones s) (s + 1) s 1 (by simp [ones]) (by omega)]
  have h1 := ones_cn s s (Nat.le_refl _)
  have h2 : F (ones s) (s + 1) 1 = 0 := by simp [F, G_zero]
  rw [h2, show ((1 : Nat) : Int) = 1 from rfl, h1]
  rfl

theorem ones_read (s n nb p : Nat) (s' g : Int) (q : Nat) (hp : p < n) (hb : n + 1 ≤ 8 * nb) (h : Nx (ones s) (s + 1) (2 ^ n) nb 15 1 0 p s' g q) : s' = s ∧ g = 0 ∧ q = p + 1 := by
  have h2 := Nx.code (L := ones s) (m := s + 1) (X := 2 ^ n) (nb := nb) (i := s) (N := 1) (p := p) (by omega) (by simp [ones]) (by omega) (fun j hj => by
    obtain rfl : j = 0 := by omega
    rw [ones_cd, Nat.add_zero, p2_split p n (by omega), Int.mul_ediv_cancel_left _ (Int.ne_of_gt (p2 p)), show n - p = (n - p - 1) + 1 by omega, Int.pow_succ]
    simp) 0 15 1 rfl (by omega) (by omega)
  rw [ones_cd] at h2
  exact Nx.one (by omega) h h2

theorem ones_end (s n nb : Nat) (s' g : Int) (q : Nat) (hb : n + 1 ≤ 8 * nb) (h : Nx (ones s) (s + 1) (2 ^ n) nb 15 1 0 n s' g q) : g = 2 := by
  have h2 : Nx (ones s) (s + 1) (2 ^ n) nb 15 1 0 n 0 2 (n + 1) := by
    simp only [Nx]
    have hx : (2 : Int) ^ n / 2 ^ n = 1 := Int.ediv_self (Int.ne_of_gt (p2 n))
    refine Or.inr (Or.inr (Or.inl ⟨hb, ?_, ?_, trivial, trivial, trivial⟩))
    · rintro i ⟨hi, hl, hc⟩
      have : i = s := by
        simp only [ones] at hl
        by_cases e : i = s
        · exact e
        · rw [if_neg e] at hl; omega
      subst this
      rw [ones_cd, hx] at hc
      omega
    · intro i _
      simp only [ones]
      split <;> omega
  exact (Nx.one (by omega) h h2).2.1

theorem words_skip (n s : Int) (w : World) (h : n < 1 ∨ 200 < n ∨ s < 0 ∨ 280 < s) :
    Calls Try.prog 8 #[.int .i64 n, .int .i64 s] w fun e w' => e = .returned (.bool true) ∧ Below w.heap.size w w' := by
  by_cases h1 : n < 1
  · have d1 : decide (n < 1) = true := by simp; omega
    clear h h1
    go_enter Try.func8, Try.ntmps8
    go_wp2_with (go_at_call 9; refine (known_any _).mono ?_; rintro e w1 ⟨rfl, hb⟩)
    go_ret
    exact ⟨rfl, hb⟩
  by_cases h2 : 200 < n
  · have d1 : decide (n < 1) = false := by simp; omega
    have d2 : decide (200 < n) = true := by simp; omega
    clear h h1 h2
    go_enter Try.func8, Try.ntmps8
    go_wp2_with (go_at_call 9; refine (known_any _).mono ?_; rintro e w1 ⟨rfl, hb⟩)
    go_ret
    exact ⟨rfl, hb⟩
  by_cases h3 : s < 0
  · have d1 : decide (n < 1) = false := by simp; omega
    have d2 : decide (200 < n) = false := by simp; omega
    have d3 : decide (s < 0) = true := by simp; omega
    clear h h1 h2 h3
    go_enter Try.func8, Try.ntmps8
    go_wp2_with (go_at_call 9; refine (known_any _).mono ?_; rintro e w1 ⟨rfl, hb⟩)
    go_ret
    exact ⟨rfl, hb⟩
  · have d1 : decide (n < 1) = false := by simp; omega
    have d2 : decide (200 < n) = false := by simp; omega
    have d3 : decide (s < 0) = false := by simp; omega
    have d4 : decide (280 < s) = true := by simp; omega
    clear h h1 h2 h3
    go_enter Try.func8, Try.ntmps8
    go_wp2_with (go_at_call 9; refine (known_any _).mono ?_; rintro e w1 ⟨rfl, hb⟩)
    go_ret
    exact ⟨rfl, hb⟩

theorem ones_row (w : World) (s : Nat) : (w.alloc (.cells ((madeCells #[Value.int .i64 0] (s + 1)).setIfInBounds s (.int .i64 1)) 3)).rowIs w.heap.size 3 (s + 1) (fun j => .int .i64 (ones s j)) := by
  have e : ((madeCells #[Value.int .i64 0] (s + 1)).setIfInBounds s (.int .i64 1)).size = s + 1 := by simp [madeCells]
  have h := World.rowIs_alloc w ((madeCells #[Value.int .i64 0] (s + 1)).setIfInBounds s (.int .i64 1)) 3 (fun j => .int .i64 (ones s j)) (fun i hi => by
    rw [e] at hi
    rw [Array.getElem?_setIfInBounds]
    by_cases hs : s = i
    · subst hs
      rw [if_pos rfl, if_pos (by simp [madeCells])]
      simp [ones]
    · rw [if_neg hs, made_get _ _ _ hi]
      simp only [ones]
      rw [if_neg (fun h => hs h.symm)])
  rwa [e] at h

set_option maxRecDepth 100000 in
set_option maxHeartbeats 4000000 in
theorem words_go (n s : Nat) (w : World) (h1 : 1 ≤ n) (h200 : n ≤ 200) (h280 : s ≤ 280) :
    Calls Try.prog 8 #[.int .i64 n, .int .i64 s] w fun e w' => e = .returned (.bool true) ∧ Below w.heap.size w w' := by
  obtain ⟨i0, hi, hz0, hz1, hz2⟩ := info_parts Try.info3
  have d1 : decide ((n : Int) < 1) = false := by simp; omega
  have d2 : decide ((200 : Int) < n) = false := by simp; omega
  have d3 : decide ((s : Int) < 0) = false := by simp
  have d4 : decide ((280 : Int) < s) = false := by simp; omega
  go_enter Try.func8, Try.ntmps8
  go_wp2_with (first
    | (go_at_call 9; refine (known_any _).mono ?_; rintro e w1 ⟨rfl, b1⟩; have c0 := (made_row w1 (s + 1)).cell (i := s) (by omega); have f0 := (made_row w1 (s + 1)).frozen s)
    | (at_make; refine wpList_make_row _ rfl _ _ 22 rfl 3 i0 (.int .i64 0) Try.underlying22 hi hz0 hz1 rfl .i64 .i64 (s + 1) rfl rfl (by rw [hz2]; omega) (by omega) ?_))
  have r2 := Ri.row (ones_row w1 s)
  have b2 : Below w.heap.size w (w1.alloc (.cells ((madeCells #[Value.int .i64 0] (s + 1)).setIfInBounds s (.int .i64 1)) 3)) := b1.alloc b1.size _
  refine (new_yes _ (s + 1) (s + 1) (ones s) true _ r2 (ones_nw s h280)).mono ?_
  rintro e w3 ⟨R, K, rfl, hC, b3⟩
  have B3 := b2.trans (b3.mono b2.size)
  clear hi hz0 hz1 hz2 c0 f0 r2 b2 b3 b1
  go_wp2_with fail
  refine (newW_any w3).mono ?_
  rintro e w4 ⟨Q, rfl, hW, hQ, b4⟩
  have B4 := B3.trans (b4.mono B3.size)
  have hC4 := hC.keep (b4.mono hC.kw)
  obtain ⟨D, hD⟩ : ∃ D, D = w3.heap.size := ⟨_, rfl⟩
  have hKD : K ≤ D := by rw [hD]; exact hC.kw
  have hwD : w.heap.size ≤ D := by rw [hD]; exact B3.size
  have ho := of_nil (R := Q) (B := D) (by omega)
  clear hC b4 B3 hQ hD
  go_wp2_with fail
  go_loopw [9] (fun iv wr => ∃ (t : Nat) (v : Value), t ≤ n ∧ iv = .int .i64 t ∧ IsW wr Q v 0 t ∧ (∀ k, Of Q v k → D ≤ k) ∧ Cod wr R K (ones s) (s + 1) ∧ Below w.heap.size w wr) (fun iv _ => n - (intOf iv).toNat)
  case atStart => exact ⟨0, _, by omega, rfl, hW, ho, hC4, B4⟩
  case round =>
    obtain ⟨t, v, ht, rfl, hw, ho5, hC5, B5⟩ := hrel
    clear hW ho hC4 B4
    by_cases htn : t < n
    · go_wp2_with fail
      refine (cput_yes R K (ones s) (s + 1) Q v 0 t s 1 wr hC5 hw (fun k hk => Nat.le_trans hKD (ho5 k hk)) (by omega) (by simp [ones]) (by omega) (by omega)).mono ?_
      rintro e w6 ⟨rfl, v6, hw6, s6⟩
      rw [ones_cd, show T 0 1 = 0 from rfl, Int.mul_zero, Int.add_zero] at hw6
      obtain ⟨sb6, so6⟩ := step_of s6 D hw.raw ho5
      have hC6 := hC5.keep (sb6.mono hKD)
      have B6 := B5.trans (sb6.mono hwD)
      clear hw ho5 hC5 B5 s6 sb6
      have hno := cput_no R K (ones s) (s + 1) (.pointer (some ⟨Q, 0, none⟩)) ((s : Int) + 1) w6 hC6 (.inr (.inl (by omega)))
      go_wp2_with (go_at_call 23; refine hno.mono ?_; rintro e w7 ⟨rfl, hw⟩; subst w7)
      go_roundw
      case rel => exact ⟨t + 1, v6, by omega, by go_num, hw6, so6, hC6, B6⟩
      case measure => simp [intOf]; omega
    · obtain rfl : t = n := by omega
      clear htn
      go_wp2_with fail
      refine (put_yes Q v 0 1 t 1 wr hw (by omega) (by omega)).mono ?_
      rintro e w6 ⟨rfl, v6, hw6, s6⟩
      rw [show (1 : Int) % 2 ^ 1 = 1 from rfl, Int.mul_one, Int.zero_add] at hw6
      obtain ⟨sb6, so6⟩ := step_of s6 D hw.raw ho5
      have hC6 := hC5.keep (sb6.mono hKD)
      have B6 := B5.trans (sb6.mono hwD)
      clear hw ho5 hC5 B5 s6 sb6
      obtain ⟨mb, hmb⟩ : ∃ mb, mb = (t + 1 + 7) / 8 := ⟨_, rfl⟩
      have hml : t + 1 ≤ 8 * mb := by omega
      have hm200 : mb ≤ 200 := by omega
      go_wp2_with fail
      refine (done_any Q v6 (2 ^ t) (t + 1) w6 hw6 (by omega)).mono ?_
      rintro e w7 ⟨v7, rfl, o7, b7⟩
      obtain ⟨ao, c, rfl, r7, _⟩ := own_rd o7 (by8_byt _ _)
      have B7 := B6.trans (b7.mono B6.size)
      have hC7 := hC6.keep (b7.mono hC6.kw)
      rw [← hmb] at r7
      simp only [← hmb]
      clear o7 b7 hw6 so6 hmb B6 hC6
      go_wp2_with fail
      refine (newR_any ao mb c (2 ^ t) w7 r7 (by omega)).mono ?_
      rintro e w8 ⟨P, ro, rc, rfl, hR8, hP, _, b8⟩
      have B8 := B7.trans (b8.mono B7.size)
      have hC8 := hC7.keep (b8.mono hC7.kw)
      have hKP : K ≤ P := by have := hC7.kw; omega
      have hwP : w.heap.size ≤ P := by have := B7.size; omega
      clear r7 b8 hP B7 hC7
      go_wp2_with fail
      go_loopw [11, 12, 13] (fun iv _ _ wr => ∃ i : Nat, i ≤ t ∧ iv = .int .i64 i ∧ IsR wr P ro mb rc (2 ^ t) i ∧ Cod wr R K (ones s) (s + 1) ∧ Below w.heap.size w wr) (fun iv _ _ _ => t - (intOf iv).toNat)
      case atStart => exact ⟨0, by omega, rfl, hR8, hC8, B8⟩
      case round =>
        obtain ⟨i, hi, rfl, hR9, hC9, B9⟩ := hrel
        clear hR8 hC8 B8
        by_cases hit : i < t
        · go_wp2_with fail
          refine (next_any R K (ones s) (s + 1) P ro mb rc (2 ^ t) i _ hC9 hR9 hKP).mono ?_
          rintro e w10 ⟨s', g', q, rfl, hN, hR10, f10⟩
          obtain ⟨rfl, rfl, rfl⟩ := ones_read s t mb i s' g' q hit hml hN
          have hC10 := hC9.keep (f10.below K hC9.kw (fun i hi e => by omega))
          have B10 := B9.trans (f10.below _ B9.size (fun i hi e => by omega))
          clear hN hR9 hC9 B9 f10
          go_wp2_with fail
          go_roundw
          case rel => exact ⟨i + 1, by omega, by go_num, hR10, hC10, B10⟩
          case measure => simp [intOf]; omega
        · obtain rfl : i = t := by omega
          go_wp2_with fail
          refine (next_any R K (ones s) (s + 1) P ro mb rc (2 ^ i) i _ hC9 hR9 hKP).mono ?_
          rintro e w10 ⟨s', g', q, rfl, hN, hR10, f10⟩
          obtain rfl := ones_end s i mb s' g' q hml hN
          have B10 := B9.trans (f10.below _ B9.size (fun i hi e => by omega))
          clear hN hR9 hC9 B9 f10 hR10
          go_wp2_with fail
          go_ret
          exact ⟨rfl, B10⟩

end Go.Proofs.Ytjipohcacimkmaa
