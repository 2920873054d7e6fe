/- The walk of BitsBack. -/
import Derived.Test.YtnpgeiflfpjniaaHelp
import Derived.Test.YtnpgeiflfpjniaaXReader
import Derived.Test.YtnpgeiflfpjniaaMath2
import Derived.Deep.QuietTactic
import Derived.BigQuiet
import Derived.Deep.RegionWith
import Derived.Deep.DeepCutAuto
namespace Go.Proofs.Ytnpgeiflfpjniaa
open Go.RowKit

theorem drewN_below (w : World) (q : Nat) : Below w.heap.size w (w.drewN q) := ⟨rfl, rfl, rfl, Nat.le_refl _, fun _ _ => rfl⟩

theorem turn_q (v : Int) (n : Nat) (w : World) (h : n ≤ 24) (q : Nat) : Calls Try.prog 29 #[.int .i64 v, .int .i64 n] (w.drewN q) fun e w' => e = .returned (.int .i64 (T v n)) ∧ ∃ m, w' = w.drewN m :=
  (turn_yes v n _ h).mono fun _ _ ⟨h1, h2⟩ => ⟨h1, q, h2⟩

theorem xturn_q (v : Int) (n : Nat) (w : World) (h : n ≤ 24) (q : Nat) : Calls Try.prog 30 #[.int .i64 v, .int .i64 n] (w.drewN q) fun e w' => e = .returned (.int .i64 (T v n)) ∧ ∃ m, w' = w.drewN m :=
  (xturn_yes v n _ h).mono fun _ _ ⟨h1, h2⟩ => ⟨h1, q, h2⟩

theorem pow_wrap (n : Nat) (hn : n ≤ 24) : wrap64 (2 ^ n) = 2 ^ n ∧ wrap64 (2 ^ n - 1) = 2 ^ n - 1 := by
  have hp := p2 n
  have hle := p2_le n 24 hn
  exact ⟨IntWalk.wrap64_in _ (by omega), IntWalk.wrap64_in _ (by omega)⟩

theorem back_skip (lo : Option Addr) (k d : Nat) (w : World) (h : 400 < k) :
    Calls Try.prog 5 #[.slice lo k d] w fun e w' => e = .returned (.bool true) ∧ Below w.heap.size w w' := by
  go_enter Try.func5, Try.ntmps5
  go_wp2_with (go_at_call 7; refine (known_any _).mono ?_; rintro e w1 ⟨rfl, hb⟩)
  go_ret
  exact ⟨rfl, hb⟩

set_option maxRecDepth 100000 in
set_option maxHeartbeats 4000000 in
theorem back_go (lo : Option Addr) (k d : Nat) (V M : Nat → Int) (w : World) (hk : k ≤ 400)
    (hcell : ∀ j, j < k → ∃ b off, lo = some ⟨b, off, none⟩ ∧ w.cell? ⟨b, off + j * 3 + 1, none⟩ = some (.int .i64 (V j)) ∧ w.cell? ⟨b, off + j * 3 + 2, none⟩ = some (.int .i64 (M j))) :
    Calls Try.prog 5 #[.slice lo k d] w fun e w' => e = .returned (.bool true) ∧ Below w.heap.size w w' := by
  have hd2 : decide ((400 : Int) < (k : Int)) = false := by simp; omega
  go_enter Try.func5, Try.ntmps5
  go_wp2_with (go_at_call 7; refine (known_any _).mono ?_; rintro e w1 ⟨rfl, hb⟩)
  refine (newW_any w1).mono ?_
  rintro e w2 ⟨R, rfl, hW, hRe, b2⟩
  have B2 := hb.trans (b2.mono hb.size)
  have hRw : w.heap.size ≤ R := by have := hb.size; omega
  clear hb b2 hRe
  go_wp2_with fail
  go_loopw [4] (fun i wr => ∃ (t : Nat) (v : Value), t ≤ k ∧ i = .int .i64 t ∧ IsW wr R v (SN V M t) (SL M t) ∧ (∀ j, Of R v j → w.heap.size ≤ j) ∧ Below w.heap.size w wr)
    (fun i _ => k - (intOf i).toNat)
  case atStart => exact ⟨0, _, by omega, rfl, hW, of_nil hRw, B2⟩
  case round =>
    obtain ⟨t, v, ht, rfl, hw, ho, hb⟩ := hrel
    clear hW B2
    have hSL := SL_le M t
    by_cases htk : t < k
    · obtain ⟨b, off, rfl, hc1, hc2⟩ := hcell t htk
      have HC : Hid (∀ w' : World, Below w.heap.size w w' → w'.cell? ⟨b, off + t * 3 + 1, none⟩ = some (.int .i64 (V t)) ∧ w'.cell? ⟨b, off + t * 3 + 2, none⟩ = some (.int .i64 (M t))) := fun w' h' =>
        ⟨by rw [h'.cell (World.block_lt_of_cell? w _ hc1)]; exact hc1, by rw [h'.cell (World.block_lt_of_cell? w _ hc2)]; exact hc2⟩
      have hV := (HC.out wr hb).1
      have hM := (HC.out wr hb).2
      have hL2 := ptL (SL M t) (M t)
      have hl2 : ptL (SL M t) (M t) ≤ SL M t + 24 := by unfold ptL; split <;> omega
      have HN : Hid (SN V M (t + 1) = cdN (ptN (SN V M t) (SL M t) (V t) (M t)) (ptL (SL M t) (M t)) (V t) (M t)) := rfl
      have HL : Hid (SL M (t + 1) = ptL (ptL (SL M t) (M t)) (M t)) := rfl
      have dw := hw.drew
      clear hcell hc1 hc2 hL2
      go_wp2_with fail
      go_region_held3 (fun w' => w'.cell? ⟨b, off + t * 3 + 1, none⟩ = some (.int .i64 (V t)) ∧ w'.cell? ⟨b, off + t * 3 + 2, none⟩ = some (.int .i64 (M t))) (go_keep)
        ((go_at_call 9; refine (put_any R v (SN V M t) (V t) (M t) (SL M t) wr.drew dw (by omega)).mono ?_; rintro e w3 ⟨rfl, v3, h3, s3⟩; have st3 := step_of s3 w.heap.size dw.raw ho; have B3 := hb.drew.trans st3.1; have k1 := (HC.out w3 B3).1; have k2 := (HC.out w3 B3).2))
      have dw3 := h3.drew
      clear hV hM hw dw s3
      go_wp2_with fail
      go_region_held3 (fun w' => w'.cell? ⟨b, off + t * 3 + 1, none⟩ = some (.int .i64 (V t)) ∧ w'.cell? ⟨b, off + t * 3 + 2, none⟩ = some (.int .i64 (M t))) (go_keep)
        ((go_at_call 11; refine (code_any R v3 (ptN (SN V M t) (SL M t) (V t) (M t)) (V t) (M t) (ptL (SL M t) (M t)) w3.drew dw3 (by omega)).mono ?_; rintro e w4 ⟨rfl, v4, h4, s4⟩; have st4 := step_of s4 w.heap.size dw3.raw st3.2; have B4 := B3.drew.trans st4.1; have k3 := (HC.out w4 B4).1; have k4 := (HC.out w4 B4).2))
      rw [← HN.out, ← HL.out] at h4
      have o4 := st4.2
      clear k1 k2 k3 k4 h3 dw3 s4 st3 st4 B3 hb ho
      go_wp2
      go_roundw
      case rel => exact ⟨t + 1, v4, by omega, by go_num, h4, o4, B4⟩
      case measure => simp [intOf]; omega
    · have etk : t = k := by omega
      subst t
      obtain ⟨mb, hmb⟩ : ∃ mb, mb = (SL M k + 7) / 8 := ⟨_, rfl⟩
      have hSLb : SL M k ≤ 1000000000 := by omega
      have HML : Hid (SL M k ≤ 8 * mb ∧ 8 * mb < SL M k + 8 ∧ mb ≤ 3000) := by
        have : SL M k ≤ 8 * mb ∧ 8 * mb < SL M k + 8 ∧ mb ≤ 3000 := by omega
        exact this
      have hmb3 : mb ≤ 3000 := by omega
      clear htk
      go_wp2_with fail
      refine (done_any R v (SN V M k) (SL M k) wr hw hSLb).mono ?_
      rintro e w3 ⟨v3, rfl, o3, b3⟩
      obtain ⟨ao, c, rfl, r3, _⟩ := own_rd o3 (by8_byt _ _)
      have B3 := hb.trans (b3.mono hb.size)
      rw [← hmb] at r3
      simp only [← hmb]
      clear o3 b3 hw ho hmb hb hSL
      go_wp2_with fail
      refine (newR_any ao mb c (SN V M k) w3 r3 (by omega)).mono ?_
      rintro e w4 ⟨Q, ro, rc, rfl, hR, hRl, _, b4⟩
      have B4 := B3.trans (b4.mono B3.size)
      have hQw : w.heap.size ≤ Q := Nat.le_trans B3.size hRl
      clear b4 hRl r3 B3
      go_wp2_with fail
      go_loopw [6, 7, 8, 9, 10, 11, 12] (fun i _ _ _ _ _ _ wr => ∃ t : Nat, t ≤ k ∧ i = .int .i64 t ∧ IsR wr Q ro mb rc (SN V M k) (SL M t) ∧ Below w.heap.size w wr)
        (fun i _ _ _ _ _ _ _ => k - (intOf i).toNat)
      case atStart => exact ⟨0, by omega, rfl, hR, B4⟩
      case round =>
        obtain ⟨t, ht, rfl, hr, hb⟩ := hrel
        clear hR B4
        by_cases htk : t < k
        · obtain ⟨b, off, rfl, hc1, hc2⟩ := hcell t htk
          have HC : Hid (∀ w' : World, Below w.heap.size w w' → w'.cell? ⟨b, off + t * 3 + 1, none⟩ = some (.int .i64 (V t)) ∧ w'.cell? ⟨b, off + t * 3 + 2, none⟩ = some (.int .i64 (M t))) := fun w' h' =>
            ⟨by rw [h'.cell (World.block_lt_of_cell? w _ hc1)]; exact hc1, by rw [h'.cell (World.block_lt_of_cell? w _ hc2)]; exact hc2⟩
          have hM := (HC.out _ hb).2
          have hV := (HC.out _ hb).1
          clear hcell hc1 hc2
          by_cases h0 : M t < 0
          · have e1 := SL_no M t (by omega)
            rw [← e1] at hr
            clear e1
            go_wp2
            go_roundw
            case rel => exact ⟨t + 1, by omega, by go_num, hr, hb⟩
            case measure => simp [intOf]; omega
          by_cases h24 : 24 < M t
          · have e1 := SL_no M t (by omega)
            rw [← e1] at hr
            clear e1
            go_wp2
            go_roundw
            case rel => exact ⟨t + 1, by omega, by go_num, hr, hb⟩
            case measure => simp [intOf]; omega
          · obtain ⟨n, hn⟩ := Int.eq_ofNat_of_zero_le (show 0 ≤ M t by omega)
            have hn24 : n ≤ 24 := by omega
            have hfull : SL M t + n + n ≤ 8 * mb := by
              have h1 := SL_yes M t n hn hn24
              have h2 := SL_mono' M (t + 1) k (by omega)
              have h3 := HML.out
              omega
            have T1 : Hid (SN V M k / 2 ^ SL M t % 2 ^ n = V t % 2 ^ n) := take_put V M t k n htk hn hn24
            have T2 : Hid (SN V M k / 2 ^ (SL M t + n) % 2 ^ n = T (V t) n) := take_code V M t k n htk hn hn24
            have HSL : Hid (SL M (t + 1) = SL M t + n + n) := SL_yes M t n hn hn24
            rw [hn] at hM
            have hand := i64_mask (V t) n hn24
            have hp1 := (pow_wrap n hn24).1
            have hp2 := (pow_wrap n hn24).2
            obtain ⟨low, hlow⟩ : ∃ low, low = V t % 2 ^ n := ⟨_, rfl⟩
            rw [← hlow] at hand
            have HLow : Hid (low = V t % 2 ^ n) := hlow
            have hd0 : decide ((n : Int) < 0) = false := by simp
            have hd1 : decide ((24 : Int) < n) = false := by simp; omega
            clear h0 h24 hn hlow
            go_wp2_with fail
            refine (get_yes Q ro mb rc (SN V M k) (SL M t) n _ hr hn24 (by omega)).mono ?_
            rintro e w5 ⟨rfl, hr5, f5⟩
            have B5 := hb.trans (f5.below w.heap.size hb.size (fun i hi e => by omega))
            rw [T1.out, ← HLow.out]
            clear hr hb f5 hM hV
            go_wp2_with fail
            refine (get_yes Q ro mb rc (SN V M k) (SL M t + n) n _ hr5 hn24 hfull).mono ?_
            rintro e w6 ⟨rfl, hr6, f6⟩
            have B6 := B5.trans (f6.below w.heap.size B5.size (fun i hi e => by omega))
            obtain ⟨cc, hcc⟩ : ∃ cc, cc = T (V t) n := ⟨_, rfl⟩
            rw [T2.out, ← hcc]
            rw [← HSL.out] at hr6
            have hT1 : T cc n = low := by rw [hcc, T_T, HLow.out]
            have hT2 : T (T low n) n = low := by rw [T_T, HLow.out, mod_mod _ _ _ (Nat.le_refl _)]
            have hV6 := (HC.out w6 B6).1
            clear hr5 B5 f6 hcc hand hp1 hp2
            go_wp2_with fail
            go_quiet (first | (go_at_call 29; exact turn_q _ n w6 hn24 _) | (go_at_call 30; exact xturn_q _ n w6 hn24 _))
            have r7 := hr6.keep (drewN_below w6 nq)
            have B7 := B6.trans ((drewN_below w6 nq).mono B6.size)
            clear hr6 B6 hV6 hT1 hT2
            go_wp2
            go_roundw
            case rel => exact ⟨t + 1, by omega, by go_num, r7, B7⟩
            case measure => simp [intOf]; omega
        · have etk : t = k := by omega
          subst t
          have hdl : decide (8 * (mb : Int) - (SL M k : Int) < 8) = true := by
            have := HML.out
            simp
            omega
          have HD : Hid (decide (8 * (mb : Int) - (SL M k : Int) < 8) = true) := hdl
          clear htk
          go_wp2_with (go_at_call 25; refine (left_any Q ro mb rc (SN V M k) (SL M k) _ hr).mono ?_; rintro e w9 ⟨rfl, hw⟩; subst w9)
          go_ret
          exact ⟨rfl, hb.drew⟩

end Go.Proofs.Ytnpgeiflfpjniaa
