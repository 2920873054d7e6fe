/- The walk of BitsSplit. -/
import Derived.Test.YtnpgeiflfpjniaaHelp
import Derived.Deep.RegionWith
import Derived.Deep.DeepCutAuto
namespace Go.Proofs.Ytnpgeiflfpjniaa
open Go.RowKit

set_option maxRecDepth 100000 in
set_option maxHeartbeats 1000000 in
theorem split_skip (a v n cut : Int) (w : World) (h : a < 0 ∨ 24 < a ∨ n < 0 ∨ 24 < n ∨ cut < 0 ∨ n < cut) :
    Calls Try.prog 6 #[.int .i64 a, .int .i64 v, .int .i64 n, .int .i64 cut] w fun e w' => e = .returned (.bool true) ∧ Below w.heap.size w w' := by
  by_cases h1 : a < 0
  · clear h
    go_enter Try.func6, Try.ntmps6
    go_wp2_with (go_at_call 7; refine (known_any _).mono ?_; rintro e w1 ⟨rfl, hb⟩)
    go_ret
    exact ⟨rfl, hb⟩
  by_cases h2 : 24 < a
  · clear h
    go_enter Try.func6, Try.ntmps6
    go_wp2_with (go_at_call 7; refine (known_any _).mono ?_; rintro e w1 ⟨rfl, hb⟩)
    go_ret
    exact ⟨rfl, hb⟩
  by_cases h3 : n < 0
  · clear h
    go_enter Try.func6, Try.ntmps6
    go_wp2_with (go_at_call 7; refine (known_any _).mono ?_; rintro e w1 ⟨rfl, hb⟩)
    go_ret
    exact ⟨rfl, hb⟩
  by_cases h4 : 24 < n
  · clear h
    go_enter Try.func6, Try.ntmps6
    go_wp2_with (go_at_call 7; refine (known_any _).mono ?_; rintro e w1 ⟨rfl, hb⟩)
    go_ret
    exact ⟨rfl, hb⟩
  by_cases h5 : cut < 0
  · clear h
    go_enter Try.func6, Try.ntmps6
    go_wp2_with (go_at_call 7; refine (known_any _).mono ?_; rintro e w1 ⟨rfl, hb⟩)
    go_ret
    exact ⟨rfl, hb⟩
  · have h6 : n < cut := by omega
    clear h
    go_enter Try.func6, Try.ntmps6
    go_wp2_with (go_at_call 7; refine (known_any _).mono ?_; rintro e w1 ⟨rfl, hb⟩)
    go_ret
    exact ⟨rfl, hb⟩

theorem of_step {R Q : Nat} {v v' u : Value} {w w' : World} {N M : Int} {len m : Nat} (s : Step R v v' w w') (hu : IsW w Q u M m) (hv : IsW w R v N len) (B : Nat) (hB : ∀ k, Of R v k → B ≤ k) (ap : ∀ k, Of R v k → ¬ Of Q u k) :
    IsW w' Q u M m ∧ Below B w w' ∧ (∀ k, Of R v' k → B ≤ k) ∧ (∀ k, Of R v' k → ¬ Of Q u k) := by
  obtain ⟨b, o⟩ := step_of s B hv.raw hB
  exact ⟨hu.fr s.fr (fun k h1 h2 => ap k h2 h1), b, o, s.apart _ hu.raw.lt ap⟩

theorem wrap_pow (n : Nat) (hn : n ≤ 24) : wrap64 (2 ^ n) = 2 ^ n := by
  have hp := p2 n
  have hle := p2_le n 24 hn
  exact IntWalk.wrap64_in _ (by omega)

theorem wrap_mask (n : Nat) (hn : n ≤ 24) : wrap64 (2 ^ n - 1) = 2 ^ n - 1 := by
  have hp := p2 n
  have hle := p2_le n 24 hn
  exact IntWalk.wrap64_in _ (by omega)

theorem apart_symm {P Q : Nat → Prop} (h : ∀ k, P k → ¬ Q k) : ∀ k, Q k → ¬ P k := fun k hq hp => h k hp hq

set_option maxRecDepth 100000 in
set_option maxHeartbeats 16000000 in
theorem split_go (a n cut : Nat) (v : Int) (w : World) (ha : a ≤ 24) (hn : n ≤ 24) (hc : cut ≤ n) :
    Calls Try.prog 6 #[.int .i64 a, .int .i64 v, .int .i64 n, .int .i64 cut] w fun e w' => e = .returned (.bool true) ∧ Below w.heap.size w w' := by
  obtain ⟨m, hm⟩ : ∃ m, n = cut + m := ⟨n - cut, by omega⟩
  have hnm : (n : Int) - cut = m := by omega
  have HM : Hid (n = cut + m) := hm
  clear hm
  go_enter Try.func6, Try.ntmps6
  go_wp2_with (go_at_call 7; refine (known_any _).mono ?_; rintro e w1 ⟨rfl, hb⟩)
  refine (newW_any w1).mono ?_
  rintro e w2 ⟨A, rfl, hA, hAe, b2⟩
  have B2 := hb.trans (b2.mono hb.size)
  have oA := of_nil (B := w.heap.size) (by have := hb.size; omega : w.heap.size ≤ A)
  have ltA := hA.raw.row.lt
  clear hb b2 hAe
  go_wp2_with fail
  refine (newW_any w2).mono ?_
  rintro e w3 ⟨B, rfl, hB, hBe, b3⟩
  have B3 := B2.trans (b3.mono B2.size)
  have oB := of_nil (B := w.heap.size) (by have := B2.size; omega : w.heap.size ≤ B)
  have hA := hA.keep b3
  have ap : ∀ k, Of A (.slice none 0 0) k → ¬ Of B (.slice none 0 0) k := by
    rintro k (rfl | hk) (h2 | h2)
    · omega
    · cases h2
    · cases hk
    · cases h2
  clear b3 hBe ltA B2
  go_wp2_with fail
  refine (put_yes A _ 0 (-1) 0 a w3 hA ha (by omega)).mono ?_
  rintro e w4 ⟨rfl, va, hA4, s4⟩
  obtain ⟨hB4, b4, oA4, ap4⟩ := of_step s4 hB hA w.heap.size oA ap
  have B4 := B3.trans b4
  clear b4 s4 oA ap hA hB B3
  go_wp2_with fail
  refine (put_yes B _ 0 (-1) 0 a w4 hB4 ha (by omega)).mono ?_
  rintro e w5 ⟨rfl, vb, hB5, s5⟩
  obtain ⟨hA5, b5, oB5, ap5⟩ := of_step s5 hA4 hB4 w.heap.size oB (apart_symm ap4)
  have B5 := B4.trans b5
  clear b5 s5 oB ap4 hA4 hB4 B4
  obtain ⟨P, hP⟩ : ∃ P : Int, P = 0 + 2 ^ 0 * (-1 % 2 ^ a) := ⟨_, rfl⟩
  rw [← hP, Nat.zero_add] at hA5 hB5
  clear hP
  go_wp2_with fail
  refine (put_yes A va P v a n w5 hA5 hn (by omega)).mono ?_
  rintro e w6 ⟨rfl, va6, hA6, s6⟩
  have P0 := hA5.nn
  have P1 := hA5.lt
  obtain ⟨hB6, b6, oA6, ap6⟩ := of_step s6 hB5 hA5 w.heap.size oA4 (apart_symm ap5)
  have B6 := B5.trans b6
  clear b6 s6 oA4 ap5 hA5 hB5 B5
  go_wp2_with fail
  refine (put_yes B vb P v a cut w6 hB6 (by omega) (by omega)).mono ?_
  rintro e w7 ⟨rfl, vb7, hB7, s7⟩
  obtain ⟨hA7, b7, oB7, ap7⟩ := of_step s7 hA6 hB6 w.heap.size oB5 (apart_symm ap6)
  have B7 := B6.trans b7
  clear b7 s7 oB5 ap6 hA6 hB6 B6
  go_wp2_with fail
  refine (put_yes B vb7 _ (v / 2 ^ cut) (a + cut) m w7 hB7 (by omega) (by omega)).mono ?_
  rintro e w8 ⟨rfl, vb8, hB8, s8⟩
  obtain ⟨hA8, b8, oB8, ap8⟩ := of_step s8 hA7 hB7 w.heap.size oB7 ap7
  have B8 := B7.trans b8
  clear b8 s8 oB7 ap7 hA7 hB7 B7
  have eN : P + 2 ^ a * (v % 2 ^ cut) + 2 ^ (a + cut) * (v / 2 ^ cut % 2 ^ m) = P + 2 ^ a * (v % 2 ^ n) := by
    rw [HM.out, mod_add, Int.mul_add, Int.pow_add, Int.mul_assoc, Int.add_assoc]
  rw [eN, Nat.add_assoc, ← HM.out] at hB8
  clear eN
  obtain ⟨NA, hNA⟩ : ∃ NA : Int, NA = P + 2 ^ a * (v % 2 ^ n) := ⟨_, rfl⟩
  rw [← hNA] at hA8 hB8
  have HN : Hid (NA = P + 2 ^ a * (v % 2 ^ n)) := hNA
  have HP0 : Hid (0 ≤ P) := P0
  have HP1 : Hid (P < 2 ^ a) := P1
  have dA := hA8.drew
  obtain ⟨S, hS⟩ : ∃ S, S = strOfNums (by8 NA ((a + n + 7) / 8)) := ⟨_, rfl⟩
  have HS : Hid (S = strOfNums (by8 NA ((a + n + 7) / 8))) := hS
  have hwan : IntKind.i64.wrap ((a : Int) + n) = (a : Int) + n := wraps_i64 _ (by omega) (by omega)
  clear hS hNA oB8 ap8 P0 P1
  go_upto_region 12 with fail
  go_cut [87] (fun b wx => b = .bool false ∧ IsW wx A va6 NA (a + n) ∧ Below w.heap.size w wx)
  case first =>
    go_region_with (first
      | (go_at_call 17; refine (len_any A va6 NA (a + n) w10.drew.drew m2 (by omega)).mono ?_; rintro e w11 ⟨rfl, hw⟩; subst w11)
      | (go_at_call 17; refine (len_any B vb8 NA (a + n) w10.drew m1 (by omega)).mono ?_; rintro e w11 ⟨rfl, hw⟩; subst w11; have m2 := hA10.drew.drew)
      | (go_at_call 17; refine (len_any A va6 NA (a + n) w10 hA10 (by omega)).mono ?_; rintro e w11 ⟨rfl, hw⟩; subst w11; have m1 := hB10.drew)
      | (go_at_call 18; refine (done_any B vb8 NA (a + n) w9 hB9 (by omega)).mono ?_; rintro e w10 ⟨v10, rfl, o10, b10⟩; obtain ⟨ao10, c10, rfl, r10, _⟩ := own_rd o10 (by8_byt _ _); have hA10 := hA9.keep b10; have hB10 := hB9.keep b10; have B10 := B9.trans (b10.mono B9.size); have s10 := r10.str; have s9' := (r9.keep b10).str; rw [← HS.out] at s10 s9'; clear o10)
      | (go_at_call 18; refine (done_any A va6 NA (a + n) w8.drew dA (by omega)).mono ?_; rintro e w9 ⟨v9, rfl, o9, b9⟩; obtain ⟨ao9, c9, rfl, r9, _⟩ := own_rd o9 (by8_byt _ _); have hA9 := dA.keep b9; have hB9 := hB8.drew.keep b9; have B9 := B8.drew.trans (b9.mono B8.size); have s9 := r9.str; rw [← HS.out] at s9; clear o9))
    all_goals
      go_wp2_with fail
      go_meet
      exact ⟨rfl, hA10.drew.drew.drew, B10.drew.drew.drew⟩
  case rest =>
    obtain ⟨rfl, hAc, Bc⟩ := hcut
    clear dA hB8 hA8 B8 hwan
    go_wp2_with fail
    refine (done_any A va6 NA (a + n) wc hAc (by omega)).mono ?_
    rintro e w9 ⟨v9, rfl, o9, b9⟩
    obtain ⟨ao9, c9, rfl, r9, _⟩ := own_rd o9 (by8_byt _ _)
    have B9 := Bc.trans (b9.mono Bc.size)
    obtain ⟨mb, hmb⟩ : ∃ mb, mb = (a + n + 7) / 8 := ⟨_, rfl⟩
    rw [← hmb] at r9
    simp only [← hmb]
    have hm8 : a + n ≤ 8 * mb := by omega
    have hmi : ((a : Int) + n + 7) / 8 = mb := by omega
    have hml : mb ≤ 7 := by omega
    have HMB : Hid (mb = (a + n + 7) / 8) := hmb
    clear o9 b9 hAc Bc hmb HS
    go_wp2_with fail
    refine (newR_any ao9 mb c9 NA w9 r9 (by omega)).mono ?_
    rintro e w10 ⟨R, ro, rc, rfl, hR, hRl, _, b10⟩
    have B10 := B9.trans (b10.mono B9.size)
    have hRw : w.heap.size ≤ R := Nat.le_trans B9.size hRl
    clear b10 hRl r9 B9
    go_wp2_with fail
    refine (get_yes R ro mb rc NA 0 a w10 hR ha (by omega)).mono ?_
    rintro e w11 ⟨rfl, hR11, f11⟩
    have B11 := B10.trans (f11.below w.heap.size B10.size (fun i hi e => by omega))
    rw [Nat.zero_add] at hR11
    clear f11 B10 hR
    go_wp2_with fail
    refine (get_yes R ro mb rc NA a cut w11 hR11 (by omega) (by omega)).mono ?_
    rintro e w12 ⟨rfl, hR12, f12⟩
    have B12 := B11.trans (f12.below w.heap.size B11.size (fun i hi e => by omega))
    clear f12 B11 hR11
    have hlo : NA / 2 ^ a % 2 ^ cut = v % 2 ^ cut := by
      rw [HN.out, put_high _ _ _ HP0.out HP1.out, mod_mod _ _ _ hc]
    rw [hlo]
    clear hlo
    have hmn : m ≤ 24 := by omega
    have hsum : a + cut + m ≤ 8 * mb := by have := HM.out; omega
    go_wp2_with fail
    refine (get_yes R ro mb rc NA (a + cut) m w12 hR12 hmn hsum).mono ?_
    rintro e w13 ⟨rfl, hR13, f13⟩
    have B13 := B12.trans (f13.below w.heap.size B12.size (fun i hi e => by omega))
    clear f13 B12 hR12
    have hhi : NA / 2 ^ (a + cut) % 2 ^ m = v / 2 ^ cut % 2 ^ m := by
      have h1 := mod_add v cut m
      rw [← div_div, HN.out, put_high _ _ _ HP0.out HP1.out, HM.out, h1, put_high _ _ _ (mod_nn _ _) (mod_lt _ _), mod_mod _ _ _ (Nat.le_refl _)]
    rw [hhi]
    have hor : bits .or .i64 (v % 2 ^ cut) (wrap64 (v / 2 ^ cut % 2 ^ m * 2 ^ cut)) = v % 2 ^ n := by
      rw [i64_put cut m _ _ (mod_nn _ _) (mod_lt _ _) (mod_nn _ _) (mod_lt _ _) (by omega), HM.out, mod_add]
    have hw1 := wrap_pow n hn
    have hw2 := wrap_mask n hn
    have hand := i64_mask v n hn
    have hpast : a + cut + m = a + n := by have := HM.out; omega
    rw [hpast] at hR13
    have hq := past_any R ro mb rc NA (a + n) w13 hR13
    rw [← HMB.out] at hq
    obtain ⟨z, hz⟩ : ∃ z, z = v % 2 ^ n := ⟨_, rfl⟩
    rw [← hz] at hor hand
    clear hhi hz hpast hsum
    go_wp2_with (go_at_call 27; refine hq.mono ?_; rintro e w14 ⟨rfl, hw⟩; subst w14)
    go_ret
    exact ⟨rfl, B13⟩

end Go.Proofs.Ytnpgeiflfpjniaa
