/- WPins, WPdq. -/
import Derived.Test.YtojgablpjdlegaaGreatDoorMC03
import Derived.Sort.Walk13a
import Derived.Deep.Cut
import Derived.Deep.LoopGhost
/- sort.partialInsertionSort. -/
namespace Go.Proofs.YtojgablpjdlegaaGreatDoor
open Go.RowKit

theorem ss_go (d : Array (List Int)) (e i : Nat) (h : i < e) (hl : ltl d[i]! d[i - 1]! = false) : Sort.scanSorted ltl d e i = Sort.scanSorted ltl d e (i + 1) := by rw [Sort.scanSorted, if_pos (by simp [h, hl])]

theorem ss_end (d : Array (List Int)) (e i : Nat) (h : ¬ i < e ∨ ltl d[i]! d[i - 1]! = true) : Sort.scanSorted ltl d e i = i := by
  rw [Sort.scanSorted, if_neg]
  rintro hh
  simp only [Bool.and_eq_true, decide_eq_true_eq] at hh
  rcases h with h | h
  · exact h hh.1
  · rw [h] at hh; cases hh.2

theorem ss_spec (d : Array (List Int)) (e : Nat) : ∀ (m i : Nat), e - i ≤ m → i ≤ e → i ≤ Sort.scanSorted ltl d e i ∧ Sort.scanSorted ltl d e i ≤ e := by
  intro m
  induction m with
  | zero => intro i h hi; rw [ss_end d e i (.inl (by omega))]; omega
  | succ m ih =>
    intro i h hi
    by_cases h1 : i < e
    · cases hl : ltl d[i]! d[i - 1]! with
      | true => rw [ss_end d e i (.inr hl)]; omega
      | false =>
        have := ih (i + 1) (by omega) (by omega)
        rw [ss_go d e i h1 hl]
        omega
    · rw [ss_end d e i (.inl h1)]; omega

theorem dn_go (q : Nat) (d : Array (List Int)) (hq : 1 ≤ q) (hl : ltl d[q]! d[q - 1]! = true) : Sort.shiftDown ltl q d = Sort.shiftDown ltl (q - 1) (Sort.swp d q (q - 1)) := by
  cases q with
  | zero => omega
  | succ q => rw [Sort.shiftDown, if_neg (by simpa using hl)]; rfl

theorem dn_end (q : Nat) (d : Array (List Int)) (h : ¬ 1 ≤ q ∨ ltl d[q]! d[q - 1]! = false) : Sort.shiftDown ltl q d = d := by
  cases q with
  | zero => rfl
  | succ q =>
    rcases h with h | h
    · omega
    · rw [Sort.shiftDown, if_pos (by simpa using h)]

theorem up_go (e q : Nat) (d : Array (List Int)) (hq : q < e) (hl : ltl d[q]! d[q - 1]! = true) : Sort.shiftUp ltl e q d = Sort.shiftUp ltl e (q + 1) (Sort.swp d q (q - 1)) := by rw [Sort.shiftUp, if_pos hq, if_neg (by simp [hl])]

theorem up_end (e q : Nat) (d : Array (List Int)) (h : ¬ q < e ∨ ltl d[q]! d[q - 1]! = false) : Sort.shiftUp ltl e q d = d := by
  rw [Sort.shiftUp]
  by_cases hq : q < e
  · rcases h with h | h
    · exact absurd hq h
    · rw [if_pos hq, if_pos (by simp [h])]
  · rw [if_neg hq]

theorem pi_all (a e s i i2 : Nat) (d : Array (List Int)) (h : Sort.scanSorted ltl d e i = i2) : Sort.partialIns ltl a e (s + 1) i d = if i2 = e then (d, true) else if e - a < 50 then (d, false) else Sort.partialIns ltl a e s i2 (if e - i2 ≥ 2 then Sort.shiftUp ltl e (i2 + 1) (if i2 - a ≥ 2 then Sort.shiftDown ltl (i2 - 1) (Sort.swp d i2 (i2 - 1)) else Sort.swp d i2 (i2 - 1)) else (if i2 - a ≥ 2 then Sort.shiftDown ltl (i2 - 1) (Sort.swp d i2 (i2 - 1)) else Sort.swp d i2 (i2 - 1))) := by
  rw [← h]
  rfl

set_option maxHeartbeats 4000000 in
set_option maxRecDepth 100000 in
theorem pins_any (b N c n a e : Nat) (d : Array (List Int)) (w : World) (h : Rw w b N d) (hn : d.size = n) (hae : a < e) (he : e ≤ n) (hsz : n < 100000) :
    Calls Tryz.prog 188 #[iv b n c, .int .i64 a, .int .i64 e] w fun ee w' => ee = .returned (.bool (Sort.partialInsertionSort ltl d a e).2) ∧ To b N w (Sort.partialInsertionSort ltl d a e).1 w' := by
  have m1 := mLess b n c
  have m2 := mSwap b n c
  obtain ⟨R, hR⟩ : ∃ R, Sort.partialInsertionSort ltl d a e = R := ⟨_, rfl⟩
  rw [hR]
  have HR : Hid (Sort.partialIns ltl a e 5 (a + 1) d = R) := hR
  have HN : Hid (d.size = n) := hn
  have HH : Hid (To b N w d w) := To.refl h
  clear h hn hR
  go_enter Tryz.func188, Tryz.ntmps188
  go_wp2_with fail
  go_loopw [7, 8] (fun vi vj wr => ∃ (i k s : Nat) (dk : Array (List Int)), vi = .int .i64 i ∧ vj = .int .i64 k ∧ k + s = 5 ∧ a < i ∧ i ≤ e ∧ Hid (dk.size = n) ∧ Hid (To b N w dk wr) ∧ Hid (Sort.partialIns ltl a e s i dk = R)) (fun _ vj _ => 5 - (intOf vj).toNat)
  case atStart => exact ⟨a + 1, 0, 5, d, by go_num, rfl, rfl, by omega, by omega, HN, HH, HR⟩
  case round =>
    obtain ⟨i, k, s, dk, rfl, rfl, hks, hai, hie, HSdk, HTdk, HE⟩ := hrel
    clear HH HN HR
    cases s with
    | zero =>
      have hz : ¬ (k : Int) < 5 := by omega
      have HF : Hid (R = (dk, false)) := by rw [← HE.out]; exact rfl
      clear HE
      go_wp2_with fail
      go_ret
      exact ⟨by rw [HF.out]; rfl, by rw [HF.out]; exact HTdk.out⟩
    | succ s =>
      have hz : (k : Int) < 5 := by omega
      obtain ⟨i2, hi2⟩ : ∃ i2, Sort.scanSorted ltl dk e i = i2 := ⟨_, rfl⟩
      have HI2 : Hid (Sort.scanSorted ltl dk e i = i2) := hi2
      have hb := ss_spec dk e (e - i) i (Nat.le_refl _) hie
      rw [hi2] at hb
      have x1 : i ≤ i2 := hb.1
      have x2 : i2 ≤ e := hb.2
      have HST : Hid _ := pi_all a e s i i2 dk hi2
      clear hb hi2
      go_upto_block 2 with fail
      go_cut [7] from 17 to 29 (fun v W => v = .int .i64 i2 ∧ To b N w dk W)
      case first =>
        go_wp2_with fail
        go_loopw [7] (fun vi wr => ∃ (q : Nat), vi = .int .i64 q ∧ i ≤ q ∧ q ≤ e ∧ Hid (Sort.scanSorted ltl dk e q = i2) ∧ Hid (To b N w dk wr)) (fun vi _ => e - (intOf vi).toNat)
        case atStart => exact ⟨i, rfl, by omega, by omega, HI2, HTdk⟩
        case round =>
          obtain ⟨q, rfl, hiq, hqe, HU, HTq⟩ := hrel
          clear HTdk
          by_cases hc : q < e
          · have hz9 : (q : Int) < e := by omega
            have hl := HTq.out.less c q (q - 1) (by rw [HSdk.out]; omega) (by rw [HSdk.out]; omega)
            rw [HSdk.out, show (((q - 1 : Nat) : Int)) = (q : Int) - 1 by omega] at hl
            cases hlv : ltl dk[q]! dk[q - 1]! with
            | false =>
              rw [hlv] at hl
              have HU2 : Hid (Sort.scanSorted ltl dk e (q + 1) = i2) := by rw [← HU.out, ss_go dk e q hc hlv]; exact rfl
              clear hlv HU HTq
              go_wp2_with fail
              refine hl.mono ?_
              rintro ee w2 ⟨rfl, hT2⟩
              have HT2 : Hid (To b N w dk w2) := hT2
              clear hT2 hl
              go_wp2_with fail
              go_roundw
              case rel => exact ⟨q + 1, by go_num, by omega, by omega, HU2, HT2⟩
              case measure => simp [intOf]; omega
            | true =>
              rw [hlv] at hl
              have HEk : Hid (q = i2) := by
                have : q = i2 := by rw [← HU.out, ss_end dk e q (.inr hlv)]
                exact this
              clear hlv HU HTq
              go_wp2_with fail
              refine hl.mono ?_
              rintro ee w2 ⟨rfl, hT2⟩
              have HT2 : Hid (To b N w dk w2) := hT2
              clear hT2 hl
              go_wp2_with fail
              go_meet
              exact ⟨by rw [HEk.out], HT2.out⟩
          · have hz9 : ¬ (q : Int) < e := by omega
            have HEk : Hid (q = i2) := by
              have : q = i2 := by rw [← HU.out, ss_end dk e q (.inl hc)]
              exact this
            clear HU
            go_wp2_with fail
            go_meet
            exact ⟨by rw [HEk.out], HTq.out⟩
      obtain ⟨rfl, hTc⟩ := hcut
      have HTc : Hid (To b N w dk wc) := hTc
      clear hTc HTdk HI2
      by_cases he2 : i2 = e
      · have hz2 : ((i2 : Int) == (e : Int)) = true := by simp [he2]
        have HF : Hid (R = (dk, true)) := by rw [← HE.out, HST.out, if_pos he2]; exact rfl
        clear HE HST he2
        go_wp2_with fail
        go_ret
        exact ⟨by rw [HF.out]; rfl, by rw [HF.out]; exact HTc.out⟩
      · have hz2 : ((i2 : Int) == (e : Int)) = false := by simp; omega
        by_cases h50 : e - a < 50
        · have hz3 : (e : Int) - a < 50 := by omega
          have HF : Hid (R = (dk, false)) := by rw [← HE.out, HST.out, if_neg he2, if_pos h50]; exact rfl
          clear HE HST
          go_wp2_with fail
          go_ret
          exact ⟨by rw [HF.out]; rfl, by rw [HF.out]; exact HTc.out⟩
        · have hz3 : ¬ (e : Int) - a < 50 := by omega
          have HG0 : Hid (Sort.partialIns ltl a e s i2 (if e - i2 ≥ 2 then Sort.shiftUp ltl e (i2 + 1) (if i2 - a ≥ 2 then Sort.shiftDown ltl (i2 - 1) (Sort.swp dk i2 (i2 - 1)) else Sort.swp dk i2 (i2 - 1)) else (if i2 - a ≥ 2 then Sort.shiftDown ltl (i2 - 1) (Sort.swp dk i2 (i2 - 1)) else Sort.swp dk i2 (i2 - 1))) = R) := by
            have h0 := HE.out
            rw [HST.out, if_neg he2, if_neg h50] at h0
            exact h0
          clear HE HST
          have hsw := HTc.out.swap c i2 (i2 - 1) (by rw [HSdk.out]; omega) (by rw [HSdk.out]; omega)
          rw [HSdk.out, show (((i2 - 1 : Nat) : Int)) = (i2 : Int) - 1 by omega] at hsw
          have HSd3 : Hid ((Sort.swp dk i2 (i2 - 1)).size = n) := by rw [swp_size]; exact HSdk
          generalize Sort.swp dk i2 (i2 - 1) = d3 at *
          clear HTc
          go_wp2_with fail
          refine hsw.mono ?_
          rintro ee w3 ⟨rfl, hTd3⟩
          have HTd3 : Hid (To b N w d3 w3) := hTd3
          clear hTd3 hsw
          by_cases hd : 2 ≤ i2 - a
          · have hzd : (2 : Int) ≤ (i2 : Int) - a := by omega
            go_upto_block 4 with fail
            go_cut [9] from 48 to 62 (fun _ W => ∃ dz : Array (List Int), Hid (dz.size = n) ∧ Hid (Sort.shiftDown ltl (i2 - 1) d3 = dz) ∧ Hid (To b N w dz W))
            case first =>
              go_wp2_with fail
              go_loopw [9] (fun vi wr => ∃ (q : Nat) (dq : Array (List Int)), vi = .int .i64 q ∧ q < n ∧ Hid (dq.size = n) ∧ Hid (Sort.shiftDown ltl q dq = Sort.shiftDown ltl (i2 - 1) d3) ∧ Hid (To b N w dq wr)) (fun vi _ => (intOf vi).toNat)
              case atStart => exact ⟨i2 - 1, d3, by congr 1; omega, by omega, HSd3, rfl, HTd3⟩
              case round =>
                obtain ⟨q, dq, rfl, hqn, HSq, HU, HTq⟩ := hrel
                clear HTd3
                by_cases hc : 1 ≤ q
                · have hz9 : (1 : Int) ≤ q := by omega
                  have hl := HTq.out.less c q (q - 1) (by rw [HSq.out]; omega) (by rw [HSq.out]; omega)
                  rw [HSq.out, show (((q - 1 : Nat) : Int)) = (q : Int) - 1 by omega] at hl
                  cases hlv : ltl dq[q]! dq[q - 1]! with
                  | true =>
                    rw [hlv] at hl
                    have hsw := fun W (hW : To b N w dq W) => hW.swap c q (q - 1) (by rw [HSq.out]; omega) (by rw [HSq.out]; omega)
                    rw [HSq.out, show (((q - 1 : Nat) : Int)) = (q : Int) - 1 by omega] at hsw
                    have HU2 : Hid (Sort.shiftDown ltl (q - 1) (Sort.swp dq q (q - 1)) = Sort.shiftDown ltl (i2 - 1) d3) := by rw [← HU.out, dn_go q dq hc hlv]; exact rfl
                    have HS2 : Hid ((Sort.swp dq q (q - 1)).size = n) := by rw [swp_size]; exact HSq
                    generalize Sort.swp dq q (q - 1) = d2 at *
                    clear hlv HU HTq
                    go_wp2_with fail
                    refine hl.mono ?_
                    rintro ee w2 ⟨rfl, hT2⟩
                    have HT2 : Hid (To b N w dq w2) := hT2
                    clear hT2 hl
                    have hsw2 := hsw _ HT2.out
                    clear hsw
                    go_wp2_with fail
                    refine hsw2.mono ?_
                    rintro ee w3 ⟨rfl, hT3⟩
                    have HT3 : Hid (To b N w d2 w3) := hT3
                    clear hT3 hsw2
                    go_wp2_with fail
                    go_roundw
                    case rel => exact ⟨q - 1, d2, by congr 1; omega, by omega, HS2, HU2, HT3⟩
                    case measure => simp [intOf]; omega
                  | false =>
                    rw [hlv] at hl
                    have HF : Hid (Sort.shiftDown ltl (i2 - 1) d3 = dq) := by rw [← HU.out, dn_end q dq (.inr hlv)]; exact rfl
                    clear hlv HU HTq
                    go_wp2_with fail
                    refine hl.mono ?_
                    rintro ee w2 ⟨rfl, hT2⟩
                    have HT2 : Hid (To b N w dq w2) := hT2
                    clear hT2 hl
                    go_wp2_with fail
                    go_meet
                    exact ⟨dq, HSq, HF, HT2⟩
                · have hz9 : ¬ (1 : Int) ≤ q := by omega
                  have HF : Hid (Sort.shiftDown ltl (i2 - 1) d3 = dq) := by rw [← HU.out, dn_end q dq (.inl hc)]; exact rfl
                  clear HU
                  go_wp2_with fail
                  go_meet
                  exact ⟨dq, HSq, HF, HTq⟩
            obtain ⟨d4, HSd4, HFd4, HTd4⟩ := hcut
            clear HTd3
            have HG : Hid (Sort.partialIns ltl a e s i2 (if e - i2 ≥ 2 then Sort.shiftUp ltl e (i2 + 1) d4 else d4) = R) := by
              have h0 := HG0.out
              rw [if_pos hd, HFd4.out] at h0
              exact h0
            clear HG0 HFd4
            by_cases hu : 2 ≤ e - i2
            · have hzu : (2 : Int) ≤ (e : Int) - i2 := by omega
              go_wp2_with fail
              go_loopw [10] (fun vi wr => ∃ (q : Nat) (dq : Array (List Int)), vi = .int .i64 q ∧ 0 < q ∧ q ≤ e + 1 ∧ Hid (dq.size = n) ∧ Hid (Sort.shiftUp ltl e q dq = Sort.shiftUp ltl e (i2 + 1) d4) ∧ Hid (To b N w dq wr)) (fun vi _ => e + 1 - (intOf vi).toNat)
              case atStart => exact ⟨i2 + 1, d4, by go_num, by omega, by omega, HSd4, rfl, HTd4⟩
              case round =>
                obtain ⟨q, dq, rfl, hq0, hqn, HSq, HU, HTq⟩ := hrel
                clear HTd4
                by_cases hc : q < e
                · have hz9 : (q : Int) < e := by omega
                  have hl := HTq.out.less c q (q - 1) (by rw [HSq.out]; omega) (by rw [HSq.out]; omega)
                  rw [HSq.out, show (((q - 1 : Nat) : Int)) = (q : Int) - 1 by omega] at hl
                  cases hlv : ltl dq[q]! dq[q - 1]! with
                  | true =>
                    rw [hlv] at hl
                    have hsw := fun W (hW : To b N w dq W) => hW.swap c q (q - 1) (by rw [HSq.out]; omega) (by rw [HSq.out]; omega)
                    rw [HSq.out, show (((q - 1 : Nat) : Int)) = (q : Int) - 1 by omega] at hsw
                    have HU2 : Hid (Sort.shiftUp ltl e (q + 1) (Sort.swp dq q (q - 1)) = Sort.shiftUp ltl e (i2 + 1) d4) := by rw [← HU.out, up_go e q dq hc hlv]; exact rfl
                    have HS2 : Hid ((Sort.swp dq q (q - 1)).size = n) := by rw [swp_size]; exact HSq
                    generalize Sort.swp dq q (q - 1) = d2 at *
                    clear hlv HU HTq
                    go_wp2_with fail
                    refine hl.mono ?_
                    rintro ee w2 ⟨rfl, hT2⟩
                    have HT2 : Hid (To b N w dq w2) := hT2
                    clear hT2 hl
                    have hsw2 := hsw _ HT2.out
                    clear hsw
                    go_wp2_with fail
                    refine hsw2.mono ?_
                    rintro ee w3 ⟨rfl, hT3⟩
                    have HT3 : Hid (To b N w d2 w3) := hT3
                    clear hT3 hsw2
                    go_wp2_with fail
                    go_roundw
                    case rel => exact ⟨q + 1, d2, by go_num, by omega, by omega, HS2, HU2, HT3⟩
                    case measure => simp [intOf]; omega
                  | false =>
                    rw [hlv] at hl
                    have HGO : Hid (Sort.partialIns ltl a e s i2 dq = R) := by rw [← HG.out, if_pos hu, ← HU.out, up_end e q dq (.inr hlv)]; exact rfl
                    clear hlv HU HTq HG
                    go_wp2_with fail
                    refine hl.mono ?_
                    rintro ee w2 ⟨rfl, hT2⟩
                    have HT2 : Hid (To b N w dq w2) := hT2
                    clear hT2 hl
                    go_wp2_with fail
                    go_roundw
                    case rel => exact ⟨i2, k + 1, s, dq, rfl, by go_num, by omega, by omega, by omega, HSq, HT2, HGO⟩
                    case measure => simp [intOf]; omega
                · have hz9 : ¬ (q : Int) < e := by omega
                  have HGO : Hid (Sort.partialIns ltl a e s i2 dq = R) := by rw [← HG.out, if_pos hu, ← HU.out, up_end e q dq (.inl hc)]; exact rfl
                  clear HU HG
                  go_wp2_with fail
                  go_roundw
                  case rel => exact ⟨i2, k + 1, s, dq, rfl, by go_num, by omega, by omega, by omega, HSq, HTq, HGO⟩
                  case measure => simp [intOf]; omega
            · have hzu : ¬ (2 : Int) ≤ (e : Int) - i2 := by omega
              have HGO : Hid (Sort.partialIns ltl a e s i2 d4 = R) := by rw [← HG.out, if_neg hu]; exact rfl
              clear HG
              go_wp2_with fail
              go_roundw
              case rel => exact ⟨i2, k + 1, s, d4, rfl, by go_num, by omega, by omega, by omega, HSd4, HTd4, HGO⟩
              case measure => simp [intOf]; omega
          · have hzd : ¬ (2 : Int) ≤ (i2 : Int) - a := by omega
            have HG : Hid (Sort.partialIns ltl a e s i2 (if e - i2 ≥ 2 then Sort.shiftUp ltl e (i2 + 1) d3 else d3) = R) := by
              have h0 := HG0.out
              rw [if_neg hd] at h0
              exact h0
            clear HG0
            by_cases hu : 2 ≤ e - i2
            · have hzu : (2 : Int) ≤ (e : Int) - i2 := by omega
              go_wp2_with fail
              go_loopw [10] (fun vi wr => ∃ (q : Nat) (dq : Array (List Int)), vi = .int .i64 q ∧ 0 < q ∧ q ≤ e + 1 ∧ Hid (dq.size = n) ∧ Hid (Sort.shiftUp ltl e q dq = Sort.shiftUp ltl e (i2 + 1) d3) ∧ Hid (To b N w dq wr)) (fun vi _ => e + 1 - (intOf vi).toNat)
              case atStart => exact ⟨i2 + 1, d3, by go_num, by omega, by omega, HSd3, rfl, HTd3⟩
              case round =>
                obtain ⟨q, dq, rfl, hq0, hqn, HSq, HU, HTq⟩ := hrel
                clear HTd3
                by_cases hc : q < e
                · have hz9 : (q : Int) < e := by omega
                  have hl := HTq.out.less c q (q - 1) (by rw [HSq.out]; omega) (by rw [HSq.out]; omega)
                  rw [HSq.out, show (((q - 1 : Nat) : Int)) = (q : Int) - 1 by omega] at hl
                  cases hlv : ltl dq[q]! dq[q - 1]! with
                  | true =>
                    rw [hlv] at hl
                    have hsw := fun W (hW : To b N w dq W) => hW.swap c q (q - 1) (by rw [HSq.out]; omega) (by rw [HSq.out]; omega)
                    rw [HSq.out, show (((q - 1 : Nat) : Int)) = (q : Int) - 1 by omega] at hsw
                    have HU2 : Hid (Sort.shiftUp ltl e (q + 1) (Sort.swp dq q (q - 1)) = Sort.shiftUp ltl e (i2 + 1) d3) := by rw [← HU.out, up_go e q dq hc hlv]; exact rfl
                    have HS2 : Hid ((Sort.swp dq q (q - 1)).size = n) := by rw [swp_size]; exact HSq
                    generalize Sort.swp dq q (q - 1) = d2 at *
                    clear hlv HU HTq
                    go_wp2_with fail
                    refine hl.mono ?_
                    rintro ee w2 ⟨rfl, hT2⟩
                    have HT2 : Hid (To b N w dq w2) := hT2
                    clear hT2 hl
                    have hsw2 := hsw _ HT2.out
                    clear hsw
                    go_wp2_with fail
                    refine hsw2.mono ?_
                    rintro ee w3 ⟨rfl, hT3⟩
                    have HT3 : Hid (To b N w d2 w3) := hT3
                    clear hT3 hsw2
                    go_wp2_with fail
                    go_roundw
                    case rel => exact ⟨q + 1, d2, by go_num, by omega, by omega, HS2, HU2, HT3⟩
                    case measure => simp [intOf]; omega
                  | false =>
                    rw [hlv] at hl
                    have HGO : Hid (Sort.partialIns ltl a e s i2 dq = R) := by rw [← HG.out, if_pos hu, ← HU.out, up_end e q dq (.inr hlv)]; exact rfl
                    clear hlv HU HTq HG
                    go_wp2_with fail
                    refine hl.mono ?_
                    rintro ee w2 ⟨rfl, hT2⟩
                    have HT2 : Hid (To b N w dq w2) := hT2
                    clear hT2 hl
                    go_wp2_with fail
                    go_roundw
                    case rel => exact ⟨i2, k + 1, s, dq, rfl, by go_num, by omega, by omega, by omega, HSq, HT2, HGO⟩
                    case measure => simp [intOf]; omega
                · have hz9 : ¬ (q : Int) < e := by omega
                  have HGO : Hid (Sort.partialIns ltl a e s i2 dq = R) := by rw [← HG.out, if_pos hu, ← HU.out, up_end e q dq (.inl hc)]; exact rfl
                  clear HU HG
                  go_wp2_with fail
                  go_roundw
                  case rel => exact ⟨i2, k + 1, s, dq, rfl, by go_num, by omega, by omega, by omega, HSq, HTq, HGO⟩
                  case measure => simp [intOf]; omega
            · exact False.elim (by omega)

end Go.Proofs.YtojgablpjdlegaaGreatDoor

/- sort.pdqsort, whole. -/
namespace Go.Proofs.YtojgablpjdlegaaGreatDoor
open Go.RowKit

theorem brk_any (b N c n a e : Nat) (d : Array (List Int)) (w : World) (h : Rw w b N d) (hn : d.size = n) (h8 : 8 ≤ e - a) (he : e ≤ n) (hsz : n < 100000) :
    Calls Tryz.prog 185 #[iv b n c, .int .i64 a, .int .i64 e] w fun ee w' => ee = .returned (.tuple #[]) ∧ To b N w (Sort.breakPatterns d a e) w' := by
  obtain ⟨L, rfl⟩ : ∃ L, e = a + L := ⟨e - a, by omega⟩
  have h8' : 8 ≤ L := by omega
  have hu : (UInt64.ofNat L).toNat = L := by simp; omega
  have hs := Sq.start h L
  exact brk_big b N c n a L (1 <<< Sort.bitsLen L) (a + L / 4 * 2) (a : Int) ((a + L : Nat) : Int) d (Sort.breakPatterns d a (a + L)) w (by rw [hu]; exact hs) hn
    (by rw [wraps_i64 _ (by omega) (by omega)]; omega) (by rw [wraps_i64 _ (by omega) (by omega)]; omega) (wraps_u64 _ (by omega) (by omega)) (by omega) rfl he hsz (by omega) (by omega)
    (by rw [Nat.one_shiftLeft]; exact Nat.two_pow_pos _) (by rw [Nat.one_shiftLeft]; exact Sort.two_pow_bitsLen_le (by omega)) (npow_any L (by omega)) (bq_all d a L h8').symm

theorem hn_two {h : Sort.Hint} (e : hn h = 2) : h = .decreasing := by cases h <;> simp [hn] at e ⊢

theorem eight_le {x y p q : Nat} (h1 : q ≤ p) (h2 : y ≤ x) : decide (((x : Int) - (y : Int)) / 8 ≤ (p : Int) - (q : Int)) = decide (p - q ≥ (x - y) / 8) :=
  decide_eq_decide.2 ⟨fun h => by omega, fun h => by omega⟩

set_option maxHeartbeats 8000000 in
set_option maxRecDepth 100000 in
theorem pdq_any (n : Nat) (hsz : n < 100000) : ∀ (K b N c a e limit : Nat) (d : Array (List Int)) (w : World), e - a < K → Rw w b N d → d.size = n → a ≤ e → e ≤ n → limit ≤ 100 → Sort.Below ltl a e d →
    Calls Tryz.prog 157 #[iv b n c, .int .i64 a, .int .i64 e, .int .i64 limit] w fun ee w' => ee = .returned (.tuple #[]) ∧ To b N w (Sort.pdq ltl d a e limit true true) w' := by
  intro K
  induction K with
  | zero => intro _ _ _ _ _ _ _ _ h; exact absurd h (Nat.not_lt_zero _)
  | succ K ih =>
    intro b N c a e limit d w hK hR hdn hae he hlimit hBel
    have m1 := mLess b n c
    obtain ⟨RES, hRES⟩ : ∃ RES, Sort.pdq ltl d a e limit true true = RES := ⟨_, rfl⟩
    rw [hRES]
    have H0 : Hid (d.size = n ∧ Sort.Below ltl a e d ∧ To b N w d w ∧ Sort.pdq ltl d a e limit true true = RES) := ⟨hdn, hBel, To.refl hR, hRES⟩
    have IH : Hid _ := ih
    clear hR hdn hBel hRES ih
    go_enter Tryz.func157, Tryz.ntmps157
    go_wp2_with fail
    go_loopg [1, 2, 3, 8, 9] (e - a) (fun k s1 s2 s3 s8 s9 wr => ∃ (a' e' lim : Nat) (wb wp : Bool) (dk : Array (List Int)), s1 = .int .i64 a' ∧ s2 = .int .i64 e' ∧ s3 = .int .i64 lim ∧ s8 = .bool wb ∧ s9 = .bool wp ∧
      a' ≤ e' ∧ e' ≤ n ∧ e' - a' ≤ k ∧ k ≤ e - a ∧ lim ≤ limit ∧ Hid (dk.size = n ∧ Sort.Below ltl a' e' dk ∧ To b N w dk wr ∧ Sort.pdq ltl dk a' e' lim wb wp = RES))
    case atStart => exact ⟨a, e, limit, true, true, d, rfl, rfl, rfl, rfl, rfl, hae, he, Nat.le_refl _, Nat.le_refl _, Nat.le_refl _, H0⟩
    case round =>
      obtain ⟨a', e', lim, wb, wp, dk, rfl, rfl, rfl, rfl, rfl, hae', he', hk, hkN, hlim, HD⟩ := hrel
      clear H0
      by_cases h12 : e' - a' ≤ 12
      · have h12z : (e' : Int) - (a' : Int) ≤ 12 := by omega
        have hc := ins_any b N c a' e' dk wr HD.out.2.2.1.rw hae' (by rw [HD.out.1]; exact he') (by rw [HD.out.1]; omega)
        rw [HD.out.1] at hc
        have HF : Hid (RES = Sort.insertionSort ltl dk a' e') := by rw [← HD.out.2.2.2, Sort.pdq_small h12]; exact rfl
        go_wp2_with fail
        refine hc.mono ?_
        rintro ee w1 ⟨rfl, h1⟩
        have HX : Hid (To b N w RES w1) := by rw [HF.out]; exact HD.out.2.2.1.then h1
        clear h1 hc
        go_wp2_with fail
        exact bodyPost_ret (results_none (by kernel_rfl) _ _ _) rfl ⟨rfl, HX.out⟩
      · have h12z : ¬ (e' : Int) - (a' : Int) ≤ 12 := by omega
        by_cases hl0 : lim = 0
        · subst hl0
          have hc := heap_any b N c n a' e' dk wr HD.out.2.2.1.rw HD.out.1 (by omega) he' hsz
          have HF : Hid (RES = Sort.heapSort ltl dk a' e') := by rw [← HD.out.2.2.2, Sort.pdq_heap h12 rfl]; exact rfl
          go_wp2_with fail
          refine hc.mono ?_
          rintro ee w1 ⟨rfl, h1⟩
          have HX : Hid (To b N w RES w1) := by rw [HF.out]; exact HD.out.2.2.1.then h1
          clear h1 hc
          go_wp2_with fail
          exact bodyPost_ret (results_none (by kernel_rfl) _ _ _) rfl ⟨rfl, HX.out⟩
        · have hl0z : ((lim : Int) == 0) = false := by simp; omega
          have FA := Sort.rd_facts (lt := ltl) (limit := lim) (wb := wb) (wp := wp) ltl_swo Sort.partialInsertionSort_holds Sort.reverseRange_holds (show a' < e' by omega) (show e' ≤ dk.size by rw [HD.out.1]; exact he') HD.out.2.1
          have hll : (Sort.rd ltl dk a' e' lim wb wp).lim ≤ lim := Sort.rd_lim_le
          obtain ⟨q, hq⟩ : ∃ q, Sort.rd ltl dk a' e' lim wb wp = q := ⟨_, rfl⟩
          have HQ : Hid (Sort.rd ltl dk a' e' lim wb wp = q) := hq
          rw [hq, HD.out.1] at FA
          rw [hq] at hll
          obtain ⟨s1, B1, ⟨hc1, hc2⟩, s2, B2, ⟨hp1, hp2⟩, s3, B3⟩ := FA
          have S1 : Hid (q.d1.size = n ∧ q.d2.size = n ∧ q.pi.1.size = n ∧ Sort.Below ltl a' e' q.pi.1) := ⟨s1, s2, s3, B3⟩
          clear hq s1 s2 s3 B1 B2 B3
          go_upto_if 35 with fail
          go_cut [3] from 19 (fun s3 wc => s3 = .int .i64 q.lim ∧ To b N w q.d1 wc)
          case first =>
            cases wb with
            | false =>
              have hc := brk_any b N c n a' e' dk wr HD.out.2.2.1.rw HD.out.1 (by omega) he' hsz
              have HV : Hid (q.lim = lim - 1 ∧ q.d1 = Sort.breakPatterns dk a' e') := by rw [← HQ.out]; exact ⟨rfl, rfl⟩
              go_wp2_with fail
              refine hc.mono ?_
              rintro ee w1 ⟨rfl, h1⟩
              have HX : Hid (To b N w q.d1 w1) := by rw [HV.out.2]; exact HD.out.2.2.1.then h1
              clear h1 hc
              go_wp2_with fail
              go_meet
              case rel => exact ⟨by rw [HV.out.1]; congr 1; omega, HX.out⟩
            | true =>
              have HV : Hid (q.lim = lim ∧ q.d1 = dk) := by rw [← HQ.out]; exact ⟨rfl, rfl⟩
              go_wp2_with fail
              go_meet
              case rel => exact ⟨by rw [HV.out.1], by rw [HV.out.2]; exact HD.out.2.2.1⟩
          case rest =>
            obtain ⟨rfl, hT1⟩ := hcut
            have HT1 : Hid (To b N w q.d1 wc) := hT1
            clear hT1
            have hc17 := pivot_any b N c n a' e' q.d1 wc HT1.out.rw S1.out.1 (by omega) he' hsz
            rw [show Sort.choosePivot ltl q.d1 a' e' = q.c by rw [← HQ.out]; exact Sort.rd_c.symm] at hc17
            go_upto_if 50 with (go_at_call 186; refine hc17.mono ?_; rintro ee w2 ⟨rfl, h2⟩)
            have HT2 : Hid (To b N w q.d1 w2) := HT1.out.then h2
            clear h2 hc17 HT1
            go_cut [11, 12] from 19 (fun s11 s12 wc => s11 = .int .i64 q.pivot ∧ s12 = .int .i64 (hn q.hint) ∧ To b N w q.d2 wc)
            case first =>
              by_cases hh : q.c.2 = .decreasing
              · have hcode : hn q.c.2 = 2 := by rw [hh]; rfl
                have HV : Hid (q.d2 = Sort.reverseRange q.d1 a' e' ∧ q.pivot = (e' - 1) - (q.c.1 - a') ∧ q.hint = .increasing) := by
                  have h0 := hh
                  rw [← HQ.out] at h0 ⊢
                  exact Sort.rd_dec h0
                have hc18 := rev_any b N c n a' e' q.d1 w2 HT2.out.rw S1.out.1 (by omega) he' hsz
                clear hh
                go_wp2_with fail
                refine hc18.mono ?_
                rintro ee w3 ⟨rfl, h3⟩
                have HX : Hid (To b N w q.d2 w3) := by rw [HV.out.1]; exact HT2.out.then h3
                clear h3 hc18
                go_wp2_with fail
                go_meet
                case rel =>
                  refine ⟨?_, by rw [HV.out.2.2]; rfl, HX.out⟩
                  rw [HV.out.2.1]
                  congr 1
                  omega
              · have hcode : ¬ (hn q.c.2 = 2) := fun h => hh (hn_two h)
                have HV : Hid (q.d2 = q.d1 ∧ q.pivot = q.c.1 ∧ q.hint = q.c.2) := by
                  have h0 := hh
                  rw [← HQ.out] at h0 ⊢
                  exact Sort.rd_not h0
                clear hh
                go_wp2_with fail
                go_meet
                case rel => exact ⟨by rw [HV.out.2.1], by rw [HV.out.2.2], by rw [HV.out.1]; exact HT2.out⟩
            case rest =>
              obtain ⟨rfl, rfl, hT3⟩ := hcut
              have HT3 : Hid (To b N w q.d2 wc) := hT3
              clear hT3 HT2
              go_upto_region 15 with fail
              go_cut [12, 68] from 19 (fun s12 s68 wx => s12 = .int .i64 (hn q.hint) ∧ s68 = .bool (wb && wp && decide (q.hint = .increasing)) ∧ wx = wc)
              case first =>
                clear HQ HD HT3 S1 IH
                cases wb <;> cases wp <;> cases hh3 : q.hint <;>
                  (have hcode3 := congrArg hn hh3
                   simp only [hn] at hcode3
                   go_wp2_with fail
                   go_meet
                   exact ⟨by simp [hh3, hn], by simp [hh3, hn], rfl⟩)
              case rest =>
                obtain ⟨rfl, rfl, rfl⟩ := hcut
                go_upto_if 68 with fail
                go_cut [] from 19 (fun wx => q.pi.2 = false ∧ To b N w q.pi.1 wx)
                case first =>
                  cases h68 : (wb && wp && decide (q.hint = .increasing)) with
                  | false =>
                    have HV : Hid (q.pi = (q.d2, false)) := by
                      have h0 := h68
                      rw [← HQ.out] at h0 ⊢
                      exact Sort.rd_pi_no h0
                    clear h68
                    go_wp2_with fail
                    go_meet
                    case rel => exact ⟨by rw [HV.out], by rw [HV.out]; exact HT3.out⟩
                  | true =>
                    have epi : q.pi = Sort.partialInsertionSort ltl q.d2 a' e' := by
                      have h0 := h68
                      rw [← HQ.out] at h0 ⊢
                      exact Sort.rd_pi_yes h0
                    have hc19 := pins_any b N c n a' e' q.d2 wc HT3.out.rw S1.out.2.1 (by omega) he' hsz
                    rw [← epi] at hc19
                    clear h68 epi
                    cases hp2v : q.pi.2 with
                    | false =>
                      rw [hp2v] at hc19
                      have HP2 : Hid (q.pi.2 = false) := hp2v
                      clear hp2v
                      go_wp2_with fail
                      refine hc19.mono ?_
                      rintro ee w4 ⟨rfl, h4⟩
                      have HX : Hid (To b N w q.pi.1 w4) := HT3.out.then h4
                      clear h4 hc19
                      go_wp2_with fail
                      go_meet
                      exact ⟨HP2.out, HX.out⟩
                    | true =>
                      rw [hp2v] at hc19
                      have HF : Hid (RES = q.pi.1) := by
                        have h0 := Sort.pdq_done (lt := ltl) (d := dk) (a := a') (b := e') (limit := lim) (wb := wb) (wp := wp) h12 hl0 (by rw [HQ.out]; exact hp2v)
                        rw [HD.out.2.2.2, HQ.out] at h0
                        exact h0
                      clear hp2v
                      go_wp2_with fail
                      refine hc19.mono ?_
                      rintro ee w4 ⟨rfl, h4⟩
                      have HX : Hid (To b N w RES w4) := by rw [HF.out]; exact HT3.out.then h4
                      clear h4 hc19
                      go_wp2_with fail
                      exact bodyPost_ret (results_none (by kernel_rfl) _ _ _) rfl ⟨rfl, HX.out⟩
                case rest =>
                  obtain ⟨hp2v, hT5⟩ := hcut
                  have HP2 : Hid (q.pi.2 = false) := hp2v
                  have HT5 : Hid (To b N w q.pi.1 wc) := hT5
                  clear hp2v hT5 HT3
                  go_upto_region 17 with fail
                  go_cut [82] from 19 (fun s82 wx => s82 = .bool (decide (a' > 0) && !ltl q.pi.1[a' - 1]! q.pi.1[q.pivot]!) ∧ To b N w q.pi.1 wx)
                  case first =>
                    rcases Nat.eq_zero_or_pos a' with ha0 | ha0
                    · have ha0z : decide ((a' : Int) > 0) = false := decide_eq_false (by omega)
                      go_wp2_with fail
                      go_meet
                      case rel => exact ⟨by simp [ha0], HT5.out⟩
                    · have ha0z : (a' : Int) > 0 := by omega
                      have hl := HT5.out.less c (a' - 1) q.pivot (by rw [S1.out.2.2.1]; omega) (by rw [S1.out.2.2.1]; omega)
                      rw [S1.out.2.2.1, show ((a' - 1 : Nat) : Int) = (a' : Int) - 1 by omega] at hl
                      cases hlv : ltl q.pi.1[a' - 1]! q.pi.1[q.pivot]! with
                      | false =>
                        rw [hlv] at hl
                        have HB : Hid ((decide (a' > 0) && !ltl q.pi.1[a' - 1]! q.pi.1[q.pivot]!) = true) := by show _ = _; rw [hlv]; simp [ha0]
                        clear hlv
                        go_wp2_with fail
                        refine hl.mono ?_
                        rintro ee w' ⟨rfl, hT⟩
                        have HX : Hid (To b N w q.pi.1 w') := hT
                        clear hT hl
                        go_wp2_with fail
                        go_meet
                        exact ⟨by rw [HB.out], HX.out⟩
                      | true =>
                        rw [hlv] at hl
                        have HB : Hid ((decide (a' > 0) && !ltl q.pi.1[a' - 1]! q.pi.1[q.pivot]!) = false) := by show _ = _; rw [hlv]; simp
                        clear hlv
                        go_wp2_with fail
                        refine hl.mono ?_
                        rintro ee w' ⟨rfl, hT⟩
                        have HX : Hid (To b N w q.pi.1 w') := hT
                        clear hT hl
                        go_wp2_with fail
                        go_meet
                        exact ⟨by rw [HB.out], HX.out⟩
                  case rest =>
                    obtain ⟨rfl, hT6⟩ := hcut
                    have HT6 : Hid (To b N w q.pi.1 wc) := hT6
                    clear hT6 HT5
                    cases h87 : (decide (a' > 0) && !ltl q.pi.1[a' - 1]! q.pi.1[q.pivot]!) with
                    | false =>
                      obtain ⟨mid, ap, d4, hx⟩ : ∃ mid ap d4, Sort.partition ltl q.pi.1 a' e' q.pivot = (mid, ap, d4) := ⟨_, _, _, rfl⟩
                      obtain ⟨r1, r2, r3, r4, r5, r6, r7⟩ := Sort.round_part ltl_swo (Sort.partition_holds ltl) hp1 hp2 (show e' ≤ q.pi.1.size by rw [S1.out.2.2.1]; exact he') S1.out.2.2.2 hx
                      have hc22 := part_any b N c n a' e' q.pivot q.pi.1 wc HT6.out.rw S1.out.2.2.1 (by omega) he' hp2 hsz
                      rw [hx] at hc22
                      simp only [] at hc22
                      have hs4 : d4.size = n := r3.trans S1.out.2.2.1
                      have HL : Hid (mid - a' < e' - mid → RES = Sort.pdq ltl (Sort.pdq ltl d4 a' mid q.lim true true) (mid + 1) e' q.lim (decide (mid - a' ≥ (e' - a') / 8)) ap) := fun h4 => by
                        have h0 := Sort.pdq_left (lt := ltl) (d := dk) (a := a') (b := e') (limit := lim) (wb := wb) (wp := wp) h12 hl0 (by rw [HQ.out]; exact HP2.out) (by rw [HQ.out]; exact h87) (by rw [HQ.out, hx]; exact ⟨r1, r2⟩) (by rw [HQ.out, hx]; exact h4)
                        rw [HD.out.2.2.2, HQ.out, hx] at h0
                        exact h0
                      have HRR : Hid (¬ mid - a' < e' - mid → RES = Sort.pdq ltl (Sort.pdq ltl d4 (mid + 1) e' q.lim true true) a' mid q.lim (decide (e' - mid ≥ (e' - a') / 8)) ap) := fun h4 => by
                        have h0 := Sort.pdq_right (lt := ltl) (d := dk) (a := a') (b := e') (limit := lim) (wb := wb) (wp := wp) h12 hl0 (by rw [HQ.out]; exact HP2.out) (by rw [HQ.out]; exact h87) (by rw [HQ.out, hx]; exact ⟨r1, r2⟩) (by rw [HQ.out, hx]; exact h4)
                        rw [HD.out.2.2.2, HQ.out, hx] at h0
                        exact h0
                      have HB : Hid _ := And.intro r4 (And.intro r5 (And.intro r6 (And.intro r7 hs4)))
                      clear hx r3 r4 r5 r6 r7 hs4 h87 HD HQ
                      go_upto_if 108 with (go_at_call 190; refine hc22.mono ?_; rintro ee w7 ⟨rfl, h7⟩)
                      have HT7 : Hid (To b N w d4 w7) := HT6.out.then h7
                      clear h7 hc22 HT6
                      by_cases h4 : mid - a' < e' - mid
                      · have h4z : (mid : Int) - (a' : Int) < (e' : Int) - (mid : Int) := by omega
                        have hih := IH.out b N c a' mid q.lim d4 w7 (by omega) HT7.out.rw HB.out.2.2.2.2 (by omega) (by omega) (by omega) HB.out.1
                        have HPS : Hid _ := Sort.pdq_sorts ltl ltl_swo d4 a' mid q.lim true true (by omega) (by rw [HB.out.2.2.2.2]; omega) HB.out.1
                        go_wp2_with fail
                        refine hih.mono ?_
                        rintro ee w8 ⟨rfl, h8⟩
                        have HT8 : Hid (To b N w (Sort.pdq ltl d4 a' mid q.lim true true) w8) := HT7.out.then h8
                        clear h8 hih
                        go_wp2_with fail
                        go_roundg (e' - (mid + 1))
                        case measure => omega
                        case rel =>
                          refine ⟨mid + 1, e', q.lim, decide (mid - a' ≥ (e' - a') / 8), ap, Sort.pdq ltl d4 a' mid q.lim true true, by simp, rfl, rfl, ?_, rfl, by omega, by omega, Nat.le_refl _, by omega, by omega, ?_⟩
                          · exact congrArg Value.bool (eight_le (by omega) (by omega))
                          · exact ⟨by rw [HPS.out.1.1, HB.out.2.2.2.2], (HB.out.2.2.1 _ HPS.out.1 HPS.out.2).1, HT8.out, (HL.out h4).symm⟩
                      · have h4z : ¬ (mid : Int) - (a' : Int) < (e' : Int) - (mid : Int) := by omega
                        have hih := IH.out b N c (mid + 1) e' q.lim d4 w7 (by omega) HT7.out.rw HB.out.2.2.2.2 (by omega) (by omega) (by omega) HB.out.2.1
                        rw [show ((mid + 1 : Nat) : Int) = (mid : Int) + 1 by omega] at hih
                        have HPS : Hid _ := Sort.pdq_sorts ltl ltl_swo d4 (mid + 1) e' q.lim true true (by omega) (by rw [HB.out.2.2.2.2]; omega) HB.out.2.1
                        go_wp2_with fail
                        refine hih.mono ?_
                        rintro ee w8 ⟨rfl, h8⟩
                        have HT8 : Hid (To b N w (Sort.pdq ltl d4 (mid + 1) e' q.lim true true) w8) := HT7.out.then h8
                        clear h8 hih
                        go_wp2_with fail
                        go_roundg (mid - a')
                        case measure => omega
                        case rel =>
                          refine ⟨a', mid, q.lim, decide (e' - mid ≥ (e' - a') / 8), ap, Sort.pdq ltl d4 (mid + 1) e' q.lim true true, rfl, rfl, rfl, ?_, rfl, by omega, by omega, Nat.le_refl _, by omega, by omega, ?_⟩
                          · exact congrArg Value.bool (eight_le (by omega) (by omega))
                          · exact ⟨by rw [HPS.out.1.1, HB.out.2.2.2.2], (HB.out.2.2.2.1 _ HPS.out.1 HPS.out.2).1, HT8.out, (HRR.out h4).symm⟩
                    | true =>
                      have h87' := h87
                      simp only [Bool.and_eq_true, decide_eq_true_eq, Bool.not_eq_true'] at h87'
                      obtain ⟨mid, d4, hx⟩ : ∃ mid d4, Sort.partitionEqual ltl q.pi.1 a' e' q.pivot = (mid, d4) := ⟨_, _, rfl⟩
                      obtain ⟨r1, r2, r3, r4, _⟩ := Sort.round_eq ltl_swo (Sort.partitionEqual_holds ltl) h87'.1 hp1 hp2 (show e' ≤ q.pi.1.size by rw [S1.out.2.2.1]; exact he') S1.out.2.2.2 h87'.2 hx
                      have hc21 := parteq_any b N c n a' e' q.pivot q.pi.1 wc HT6.out.rw S1.out.2.2.1 (by omega) he' hp2 hsz
                      rw [hx] at hc21
                      simp only [] at hc21
                      have HL : Hid (RES = Sort.pdq ltl d4 mid e' q.lim wb wp) := by
                        have h0 := Sort.pdq_eq (lt := ltl) (d := dk) (a := a') (b := e') (limit := lim) (wb := wb) (wp := wp) h12 hl0 (by rw [HQ.out]; exact HP2.out) (by rw [HQ.out]; exact h87) (by rw [HQ.out, hx]; exact ⟨r1, r2⟩)
                        rw [HD.out.2.2.2, HQ.out, hx] at h0
                        exact h0
                      have HB : Hid (Sort.Below ltl mid e' d4 ∧ d4.size = n) := ⟨r4, r3.trans S1.out.2.2.1⟩
                      clear hx r3 r4 h87 h87' HD HQ
                      go_wp2_with fail
                      refine hc21.mono ?_
                      rintro ee w7 ⟨rfl, h7⟩
                      have HT7 : Hid (To b N w d4 w7) := HT6.out.then h7
                      clear h7 hc21
                      go_wp2_with fail
                      go_roundg (e' - mid)
                      case measure => omega
                      case rel =>
                        exact ⟨mid, e', q.lim, wb, wp, d4, rfl, rfl, rfl, rfl, rfl, r2, he', Nat.le_refl _, by omega, by omega, ⟨HB.out.2, HB.out.1, HT7.out, HL.out.symm⟩⟩

/-- pdqsort sorts. -/
theorem pdq_is (n : Nat) (hsz : n < 100000) : Pdq n := by
  intro b N c d w lim hr hn hl
  have hb : Sort.Below ltl 0 n d := Or.inl rfl
  have hs := Sort.pdq_sorts ltl ltl_swo d 0 n lim true true (Nat.zero_le _) (by omega) hb
  have := pdq_any n hsz (n + 1) b N c 0 n lim d w (by omega) hr hn (Nat.zero_le _) (Nat.le_refl _) hl hb
  exact this.mono fun e w' ⟨h1, h2⟩ => ⟨h1, _, hs.1, hs.2, h2⟩

end Go.Proofs.YtojgablpjdlegaaGreatDoor
