/- DiskArms. -/
import Derived.Test.YtmpfbemdljfamaaArs
namespace Go.Proofs.Ytmpfbemdljfamaa
open Go.RowKit Go.Maps Go.Sort

theorem lit1_rd (w w' : World) (x : Int) (hx : 0 ≤ x ∧ x < 256) (hc : ∀ p, w'.cell? p = (w.alloc (.cells #[.int .u8 x] 5)).cell? p) : Rd w' (some ⟨w.heap.size, 0, none⟩) 1 1 [x] :=
  lit_rd w w' [x] (fun y hy => by rw [List.mem_singleton.1 hy]; exact hx) hc

set_option maxRecDepth 100000 in
set_option maxHeartbeats 3000000 in
/-- The law, where it has something to say. -/
theorem arms_main (n : Int) (ao : Option Addr) (m c : Nat) (ks : List Int) (w : World) (hr : Rd w ao m c ks) (h1 : 1 ≤ n) (h2 : n ≤ 30) (h3 : m ≤ 40) :
    Calls Try.prog 6 #[.int .i64 n, .slice ao m c] w fun e w' => e = .returned (.bool true) ∧ RowKit.Below w.heap.size w w' := by
  have HR : Hid (Rd w ao m c ks) := hr
  have q1 : decide (n < 1) = false := by simp; omega
  have q2 : decide ((30 : Int) < n) = false := by simp; omega
  have q3 : decide ((40 : Int) < (m : Int)) = false := by simp; omega
  have q3' : ¬ 40 < m := by omega
  clear hr
  go_enter Try.func6, Try.ntmps6
  go_wp2_with fail
  refine (known_yes w).mono ?_
  rintro e w0 ⟨rfl, b0⟩
  go_wp2_with fail
  refine (new_any 1048576 w0 (by omega) (by omega)).mono ?_
  rintro e w1 ⟨d, rfl, D1, b1⟩
  have lo1 : ∀ b, (w0.heap.size ≤ b ∧ b < w1.heap.size) → w.heap.size ≤ b := fun b hb => Nat.le_trans b0.size hb.1
  have V1 := vw_fresh 1048576 w0.heap.size
  have L1 : LenB (fresh 1048576 w0.heap.size) 100000 := fun f x e => by cases e
  have U1 := used_nil V1.now
  have T1 := fits_nil V1.now
  obtain ⟨S0, hS0⟩ : ∃ S, S = fresh 1048576 w0.heap.size := ⟨_, rfl⟩
  obtain ⟨O1, hO1⟩ : ∃ O : Nat → Prop, O = fun b => w0.heap.size ≤ b ∧ b < w1.heap.size := ⟨_, rfl⟩
  rw [← hS0] at D1 V1 L1 U1 T1
  rw [← hO1] at D1
  have lo : ∀ b, O1 b → w.heap.size ≤ b := by rw [hO1]; exact lo1
  have B1 : RowKit.Below w.heap.size w w1 := b0.trans (b1.mono b0.size)
  clear hS0 hO1 lo1 b1 b0
  go_wp2_with (refine wpList_conv rfl _ rfl ⟨w1.heap.size, 0, none⟩ 1 1 rfl ?_; intro w2 fc2 cc2)
  have hA := appV_new V1 (D1.keep (new_fr fc2)) (lit1_rd w1 w2 49 (by decide) cc2) (lit_na D1.lim) nmAX (by unfold Okn; omega) rfl T1 (by decide) (by rw [U1]; decide) (by rw [U1]; decide) (by decide) (by decide) (fun r e => by cases e)
  have B2 : RowKit.Below w.heap.size w w2 := B1.trans ((new_fr fc2).mono B1.size)
  refine hA.mono ?_
  rintro e w3 ⟨rfl, r, f, x1, SA, hff, hx1, -, hvw, N3, D3, F3⟩
  have V3 := hvw [(nm tAX, pd f)] [(nm tA, pd r)] rfl (fun _ => rfl) (fun h => absurd rfl h)
  have hx1' := hx1 rfl
  have L3 := lenB_new L1 N3 (by decide)
  have B3 := fr_lo B2 F3 lo B2.size
  have lo3 := ow_lo (w := w2) (w' := w3) lo B2.size
  obtain ⟨O3, hO3⟩ : ∃ O, O = Ow O1 w2 w3 := ⟨_, rfl⟩
  rw [← hO3] at D3 lo3
  have hcl := calls_any d SA w3 D3.row
  rw [V3.calls] at hcl
  have harm := arm_yes d O3 SA n none 0 0 [] w3 D3 h1 (Ri.nil _ _) rfl (by decide)
  have hst : ∀ v, Ar (armed SA n v []) f 0 n := fun v => ar_start (v := v) (n := n) V3 hx1' N3 L3
  clear hA hvw N3 hO3 D1 V1 L1 U1 T1 fc2 cc2 F3 lo hff hx1 hx1' L3 V3
  go_wp2_with fail
  refine hcl.mono ?_
  rintro e w4 ⟨rfl, hw4⟩
  subst w4
  go_wp2_with fail
  refine harm.mono ?_
  rintro e w5 ⟨rfl, v5, D5, F5, hv5⟩
  have A5 := hst v5
  have B5 := fr_lo B3 (F5.weak (P' := O3) (fun i e => by subst e; exact D3.own.1)) lo3 B3.size
  have lo5 : ∀ b, (O3 b ∨ v5.ownBlock = some b) → w.heap.size ≤ b := fun b hb => hb.elim (lo3 b) fun e => Nat.le_trans B3.size (hv5 b e)
  clear hcl harm hst D3 F5 hv5 lo3
  go_wp2_with fail
  go_loopw [8, 9] (fun s8 s9 wr => ∃ (i k : Nat) (S : St) (O : Nat → Prop), s8 = .int .i64 k ∧ s9 = .int .i64 i ∧ i ≤ m ∧ k ≤ i ∧ (k : Int) < n ∧ Ar S f k (n - k) ∧ Dk wr O d S ∧ (∀ b, O b → w.heap.size ≤ b) ∧ RowKit.Below w.heap.size w wr)
    (fun _ s9 _ => m - (Lib.intOf s9).toNat)
  case atStart => exact ⟨0, 0, _, _, rfl, rfl, Nat.zero_le _, Nat.le_refl _, by omega, by simpa using A5, D5, lo5, B5⟩
  case round =>
    obtain ⟨i, k, S, O, rfl, rfl, him, hki, hkn, hA, hD, hlo, hB⟩ := hrel
    by_cases hlt : i < m
    · have R6 := HR.out.keep hB
      have hbt := R6.byt
      obtain ⟨bb, off, rfl, hcell⟩ := R6.plain (by omega)
      have hci := hcell i hlt
      have hx : 0 ≤ ks.getD i 0 ∧ ks.getD i 0 < 256 := getD_byt ks hbt i
      obtain ⟨x, hxe⟩ : ∃ x, x = ks.getD i 0 := ⟨_, rfl⟩
      rw [← hxe] at hci hx
      have qi : decide ((i : Int) < (m : Int)) = true := by simp; omega
      have hk1 : 0 ≤ (k : Int) ∧ (k : Int) ≤ 1000 := by omega
      clear hxe hcell hbt R6
      have qd : IntKind.i64.wrap ((k : Int) + 1) = (k : Int) + 1 := by rw [IntKind.wrap_i64]; omega
      have qd' : wrap64 ((k : Int) + 1) = (k : Int) + 1 := IntWalk.wrap64_in _ (by omega)
      have qj : IntKind.i64.wrap ((i : Int) + 1) = (i : Int) + 1 := by rw [IntKind.wrap_i64]; omega
      have qj' : wrap64 ((i : Int) + 1) = (i : Int) + 1 := IntWalk.wrap64_in _ (by omega)
      have qn : wrap64 (1 + n) = 1 + n := IntWalk.wrap64_in _ (by omega)
      have qn' : IntKind.i64.wrap (1 + n) = 1 + n := by rw [IntKind.wrap_i64]; omega
      have qm : wrap64 (1 + n - 1) = n := by rw [IntWalk.wrap64_in _ (by omega)]; omega
      have qm' : IntKind.i64.wrap (1 + n - 1) = n := by rw [IntKind.wrap_i64]; omega
      go_wp2_with (refine wpList_conv rfl _ rfl ⟨wr.heap.size, 0, none⟩ 1 1 rfl ?_; intro w6 fc6 cc6)
      · have b6 := new_fr fc6
        have hR6 := lit1_rd wr w6 50 (by decide) cc6
        have hna6 := lit_na (n := 1) hD.lim
        have hD6 := hD.keep b6
        have hB6 : RowKit.Below w.heap.size w w6 := hB.trans (b6.mono hB.size)
        clear hD fc6 cc6 b6
        by_cases hl1 : n - (k : Int) = 1
        · rw [hl1] at hA
          have qe : ((k : Int) + 1 == n) = true := by simp; omega
          have qe1 : (((k + 1 : Nat) : Int) == n) = true := by simp; omega
          have qe2 : (1 + (k : Int) == n) = true := by simp; omega
          have hcal : S.calls = 1 + k := by obtain ⟨_, _, V, _⟩ := hA.vw; exact V.calls
          refine (ar_app_down hA hk1 hD6).mono ?_
          rintro e w7 ⟨rfl, S2, O2, hg, D2, hO2, F2⟩
          have hof := off_any d S2 w7 D2.row
          rw [hg.off] at hof
          have hca := calls_any d S2 w7 D2.row
          rw [hg.calls, hcal] at hca
          have B7 := fr_lo hB6 F2 hlo hB6.size
          clear hA hD6 hR6 hna6 D2 F2 hO2 hg
          go_wp2_with (first
            | (go_at_call 21; refine hof.mono ?_; rintro e w8 ⟨rfl, hw8⟩; subst w8)
            | (go_at_call 19; refine hca.mono ?_; rintro e w9 ⟨rfl, hw9⟩; subst w9))
          go_ret
          exact ⟨by simp, B7⟩
        · have l2 : 2 ≤ n - (k : Int) ∧ n - (k : Int) ≤ 1000 := by omega
          have qe : ((k : Int) + 1 == n) = false := by simp; omega
          have qe1 : (((k + 1 : Nat) : Int) == n) = false := by simp; omega
          refine (ar_app hA hk1 l2 hD6 hR6 hna6).mono ?_
          rintro e w7 ⟨rfl, S', O', A', D', hO', F'⟩
          have hoff : S'.off = false := by obtain ⟨_, _, V, _⟩ := A'.vw; exact V.off
          have hof := off_any d S' w7 D'.row
          rw [hoff] at hof
          have B7 := fr_lo hB6 F' hlo hB6.size
          have lo7 : ∀ b, O' b → w.heap.size ≤ b := fun b hb => (hO' b hb).elim (hlo b) fun e => Nat.le_trans hB6.size e
          have A'' : Ar S' f ((k + 1 : Nat) : Int) (n - ((k + 1 : Nat) : Int)) := by
            have e1 : n - ((k + 1 : Nat) : Int) = n - k - 1 := by omega
            rw [e1]
            exact A'
          clear hA hD6 hR6 hna6 F' hO' A' hoff
          go_wp2_with (go_at_call 21; refine hof.mono ?_; rintro e w8 ⟨rfl, hw8⟩; subst w8)
          go_roundw
          case rel => exact ⟨i + 1, k + 1, S', O', by simp, by simp, hlt, Nat.succ_le_succ hki, by omega, A'', D', lo7, B7⟩
          case measure => simpa [Lib.intOf] using meas hlt
      · by_cases hl1 : n - (k : Int) = 1
        · rw [hl1] at hA
          have qe : ((k : Int) + 1 == n) = true := by simp; omega
          have qe1 : (((k + 1 : Nat) : Int) == n) = true := by simp; omega
          have qe2 : (1 + (k : Int) == n) = true := by simp; omega
          have hcal : S.calls = 1 + k := by obtain ⟨_, _, V, _⟩ := hA.vw; exact V.calls
          refine (ar_sync_down hA hD).mono ?_
          rintro e w7 ⟨rfl, S2, O2, hg, D2, hO2, F2⟩
          have hof := off_any d S2 w7 D2.row
          rw [hg.off] at hof
          have hca := calls_any d S2 w7 D2.row
          rw [hg.calls, hcal] at hca
          have B7 := fr_lo hB F2 hlo hB.size
          clear hA hD D2 F2 hO2 hg
          go_wp2_with (first
            | (go_at_call 21; refine hof.mono ?_; rintro e w8 ⟨rfl, hw8⟩; subst w8)
            | (go_at_call 19; refine hca.mono ?_; rintro e w9 ⟨rfl, hw9⟩; subst w9))
          go_ret
          exact ⟨by simp, B7⟩
        · have l2 : 2 ≤ n - (k : Int) ∧ n - (k : Int) ≤ 1000 := by omega
          have qe : ((k : Int) + 1 == n) = false := by simp; omega
          have qe1 : (((k + 1 : Nat) : Int) == n) = false := by simp; omega
          refine (ar_sync hA hk1 l2 hD).mono ?_
          rintro e w7 ⟨rfl, S', O', A', D', hO', F'⟩
          have hoff : S'.off = false := by obtain ⟨_, _, V, _⟩ := A'.vw; exact V.off
          have hof := off_any d S' w7 D'.row
          rw [hoff] at hof
          have B7 := fr_lo hB F' hlo hB.size
          have lo7 : ∀ b, O' b → w.heap.size ≤ b := fun b hb => (hO' b hb).elim (hlo b) fun e => Nat.le_trans hB.size e
          have A'' : Ar S' f ((k + 1 : Nat) : Int) (n - ((k + 1 : Nat) : Int)) := by
            have e1 : n - ((k + 1 : Nat) : Int) = n - k - 1 := by omega
            rw [e1]
            exact A'
          clear hA hD F' hO' A' hoff
          go_wp2_with (go_at_call 21; refine hof.mono ?_; rintro e w8 ⟨rfl, hw8⟩; subst w8)
          go_roundw
          case rel => exact ⟨i + 1, k + 1, S', O', by simp, by simp, hlt, Nat.succ_le_succ hki, by omega, A'', D', lo7, B7⟩
          case measure => simpa [Lib.intOf] using meas hlt
      · by_cases hl1 : n - (k : Int) = 1
        · rw [hl1] at hA
          have qe : ((k : Int) + 1 == n) = true := by simp; omega
          have qe1 : (((k + 1 : Nat) : Int) == n) = true := by simp; omega
          have qe2 : (1 + (k : Int) == n) = true := by simp; omega
          have hcal : S.calls = 1 + k := by obtain ⟨_, _, V, _⟩ := hA.vw; exact V.calls
          refine (ar_dir_down hA hD).mono ?_
          rintro e w7 ⟨rfl, S2, O2, hg, D2, hO2, F2⟩
          have hof := off_any d S2 w7 D2.row
          rw [hg.off] at hof
          have hca := calls_any d S2 w7 D2.row
          rw [hg.calls, hcal] at hca
          have B7 := fr_lo hB F2 hlo hB.size
          clear hA hD D2 F2 hO2 hg
          go_wp2_with (first
            | (go_at_call 21; refine hof.mono ?_; rintro e w8 ⟨rfl, hw8⟩; subst w8)
            | (go_at_call 19; refine hca.mono ?_; rintro e w9 ⟨rfl, hw9⟩; subst w9))
          go_ret
          exact ⟨by simp, B7⟩
        · have l2 : 2 ≤ n - (k : Int) ∧ n - (k : Int) ≤ 1000 := by omega
          have qe : ((k : Int) + 1 == n) = false := by simp; omega
          have qe1 : (((k + 1 : Nat) : Int) == n) = false := by simp; omega
          refine (ar_dir hA hk1 l2 hD).mono ?_
          rintro e w7 ⟨rfl, S', O', A', D', hO', F'⟩
          have hoff : S'.off = false := by obtain ⟨_, _, V, _⟩ := A'.vw; exact V.off
          have hof := off_any d S' w7 D'.row
          rw [hoff] at hof
          have B7 := fr_lo hB F' hlo hB.size
          have lo7 : ∀ b, O' b → w.heap.size ≤ b := fun b hb => (hO' b hb).elim (hlo b) fun e => Nat.le_trans hB.size e
          have A'' : Ar S' f ((k + 1 : Nat) : Int) (n - ((k + 1 : Nat) : Int)) := by
            have e1 : n - ((k + 1 : Nat) : Int) = n - k - 1 := by omega
            rw [e1]
            exact A'
          clear hA hD F' hO' A' hoff
          go_wp2_with (go_at_call 21; refine hof.mono ?_; rintro e w8 ⟨rfl, hw8⟩; subst w8)
          go_roundw
          case rel => exact ⟨i + 1, k + 1, S', O', by simp, by simp, hlt, Nat.succ_le_succ hki, by omega, A'', D', lo7, B7⟩
          case measure => simpa [Lib.intOf] using meas hlt
      · by_cases hl1 : n - (k : Int) = 1
        · rw [hl1] at hA
          have qe : ((k : Int) + 1 == n) = true := by simp; omega
          have qe1 : (((k + 1 : Nat) : Int) == n) = true := by simp; omega
          have qe2 : (1 + (k : Int) == n) = true := by simp; omega
          have hcal : S.calls = 1 + k := by obtain ⟨_, _, V, _⟩ := hA.vw; exact V.calls
          refine (ar_ren_down hA hD).mono ?_
          rintro e w7 ⟨rfl, S2, O2, hg, D2, hO2, F2⟩
          have hof := off_any d S2 w7 D2.row
          rw [hg.off] at hof
          have hca := calls_any d S2 w7 D2.row
          rw [hg.calls, hcal] at hca
          have B7 := fr_lo hB F2 hlo hB.size
          clear hA hD D2 F2 hO2 hg
          go_wp2_with (first
            | (go_at_call 21; refine hof.mono ?_; rintro e w8 ⟨rfl, hw8⟩; subst w8)
            | (go_at_call 19; refine hca.mono ?_; rintro e w9 ⟨rfl, hw9⟩; subst w9))
          go_ret
          exact ⟨by simp, B7⟩
        · have l2 : 2 ≤ n - (k : Int) ∧ n - (k : Int) ≤ 1000 := by omega
          have qe : ((k : Int) + 1 == n) = false := by simp; omega
          have qe1 : (((k + 1 : Nat) : Int) == n) = false := by simp; omega
          refine (ar_ren hA hk1 l2 hD).mono ?_
          rintro e w7 ⟨rfl, S', O', A', D', hO', F'⟩
          have hoff : S'.off = false := by obtain ⟨_, _, V, _⟩ := A'.vw; exact V.off
          have hof := off_any d S' w7 D'.row
          rw [hoff] at hof
          have B7 := fr_lo hB F' hlo hB.size
          have lo7 : ∀ b, O' b → w.heap.size ≤ b := fun b hb => (hO' b hb).elim (hlo b) fun e => Nat.le_trans hB.size e
          have A'' : Ar S' f ((k + 1 : Nat) : Int) (n - ((k + 1 : Nat) : Int)) := by
            have e1 : n - ((k + 1 : Nat) : Int) = n - k - 1 := by omega
            rw [e1]
            exact A'
          clear hA hD F' hO' A' hoff
          go_wp2_with (go_at_call 21; refine hof.mono ?_; rintro e w8 ⟨rfl, hw8⟩; subst w8)
          go_roundw
          case rel => exact ⟨i + 1, k + 1, S', O', by simp, by simp, hlt, Nat.succ_le_succ hki, by omega, A'', D', lo7, B7⟩
          case measure => simpa [Lib.intOf] using meas hlt
      · have qe : ((k : Int) == n) = false := by simp; omega
        have hoff : S.off = false := by obtain ⟨_, _, V, _⟩ := hA.vw; exact V.off
        refine (ar_none hA hD).mono ?_
        rintro e w7 ⟨rfl, b7⟩
        have D7 := hD.keep b7
        have hof := off_any d S w7 D7.row
        rw [hoff] at hof
        have B7 : RowKit.Below w.heap.size w w7 := hB.trans (b7.mono hB.size)
        clear hD b7 hoff
        go_wp2_with (go_at_call 21; refine hof.mono ?_; rintro e w8 ⟨rfl, hw8⟩; subst w8)
        go_roundw
        case rel => exact ⟨i + 1, k, S, O, by simp, by simp, hlt, Nat.le_succ_of_le hki, hkn, hA, D7, hlo, B7⟩
        case measure => simpa [Lib.intOf] using meas hlt
    · obtain rfl : i = m := by omega
      have qi : decide ((i : Int) < (i : Int)) = false := by simp
      obtain ⟨last, rws, V, _⟩ := hA.vw
      have hca := calls_any d S wr hD.row
      rw [V.calls] at hca
      have qa : IntKind.i64.wrap (1 + (k : Int)) = 1 + k := by rw [IntKind.wrap_i64]; omega
      have qa' : wrap64 (1 + (k : Int)) = 1 + k := IntWalk.wrap64_in _ (by omega)
      clear hA hD V
      go_wp2_with (go_at_call 19; refine hca.mono ?_; rintro e w9 ⟨rfl, hw9⟩; subst w9)
      go_ret
      exact ⟨by simp, hB⟩

set_option maxRecDepth 100000 in
theorem arms_small (n : Int) (ao : Option Addr) (m c : Nat) (w : World) (h : n < 1 ∨ 30 < n ∨ 40 < m) :
    Calls Try.prog 6 #[.int .i64 n, .slice ao m c] w fun e w' => e = .returned (.bool true) ∧ RowKit.Below w.heap.size w w' := by
  by_cases h1 : n < 1
  · have q1 : decide (n < 1) = true := by simpa using h1
    clear h
    go_enter Try.func6, Try.ntmps6
    go_wp2_with (go_at_call 7; refine (known_yes w).mono ?_; rintro e w0 ⟨rfl, b0⟩)
    go_ret
    exact ⟨rfl, b0⟩
  · have q1 : decide (n < 1) = false := by simpa using h1
    by_cases h2 : 30 < n
    · have q2 : decide ((30 : Int) < n) = true := by simpa using h2
      clear h
      go_enter Try.func6, Try.ntmps6
      go_wp2_with (go_at_call 7; refine (known_yes w).mono ?_; rintro e w0 ⟨rfl, b0⟩)
      go_ret
      exact ⟨rfl, b0⟩
    · have q2 : decide ((30 : Int) < n) = false := by simpa using h2
      have h3 : 40 < m := by omega
      have q3 : decide ((40 : Int) < (m : Int)) = true := by simp; omega
      clear h
      go_enter Try.func6, Try.ntmps6
      go_wp2_with (go_at_call 7; refine (known_yes w).mono ?_; rintro e w0 ⟨rfl, b0⟩)
      go_ret
      exact ⟨rfl, b0⟩

/-- DiskArms at every number and every bytes. -/
theorem arms_any (n : Int) (ao : Option Addr) (m c : Nat) (ks : List Int) (w : World) (hr : Rd w ao m c ks) :
    Calls Try.prog 6 #[.int .i64 n, .slice ao m c] w fun e w' => e = .returned (.bool true) ∧ RowKit.Below w.heap.size w w' := by
  by_cases h : n < 1 ∨ 30 < n ∨ 40 < m
  · exact arms_small n ao m c w h
  · exact arms_main n ao m c ks w hr (by omega) (by omega) (by omega)

end Go.Proofs.Ytmpfbemdljfamaa
