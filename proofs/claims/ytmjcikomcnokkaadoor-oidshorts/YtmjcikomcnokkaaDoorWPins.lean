/- sort.partialInsertionSort. -/
import Derived.Test.YtmjcikomcnokkaaDoorWPart
namespace Go.Proofs.YtmjcikomcnokkaaDoor
open Go.RowKit

theorem ss_go (d : Array (List Int)) (e i : Nat) (h : i < e) (hl : ltl d[i]! d[i - 1]! = false) : Sort.scanSorted ltl d e i = Sort.scanSorted ltl d e (i + 1) := by rw [Sort.scanSorted, if_pos (by simp [h, hl])]

theorem ss_end (d : Array (List Int)) (e i : Nat) (h : ¬ i < e ∨ ltl d[i]! d[i - 1]! = true) : Sort.scanSorted ltl d e i = i := by
  rw [Sort.scanSorted, if_neg]
  rintro hh
  simp only [Bool.and_eq_true, decide_eq_true_eq] at hh
  rcases h with h | h
  · exact h hh.1
  · rw [h] at hh; cases hh.2

theorem ss_spec (d : Array (List Int)) (e : Nat) : ∀ (m i : Nat), e - i ≤ m → i ≤ e → i ≤ Sort.scanSorted ltl d e i ∧ Sort.scanSorted ltl d e i ≤ e := by
  intro m
  induction m with
  | zero => intro i h hi; rw [ss_end d e i (.inl (by omega))]; omega
  | succ m ih =>
    intro i h hi
    by_cases h1 : i < e
    · cases hl : ltl d[i]! d[i - 1]! with
      | true => rw [ss_end d e i (.inr hl)]; omega
      | false =>
        have := ih (i + 1) (by omega) (by omega)
        rw [ss_go d e i h1 hl]
        omega
    · rw [ss_end d e i (.inl h1)]; omega

theorem dn_go (q : Nat) (d : Array (List Int)) (hq : 1 ≤ q) (hl : ltl d[q]! d[q - 1]! = true) : Sort.shiftDown ltl q d = Sort.shiftDown ltl (q - 1) (Sort.swp d q (q - 1)) := by
  cases q with
  | zero => omega
  | succ q => rw [Sort.shiftDown, if_neg (by simpa using hl)]; rfl

theorem dn_end (q : Nat) (d : Array (List Int)) (h : ¬ 1 ≤ q ∨ ltl d[q]! d[q - 1]! = false) : Sort.shiftDown ltl q d = d := by
  cases q with
  | zero => rfl
  | succ q =>
    rcases h with h | h
    · omega
    · rw [Sort.shiftDown, if_pos (by simpa using h)]

theorem up_go (e q : Nat) (d : Array (List Int)) (hq : q < e) (hl : ltl d[q]! d[q - 1]! = true) : Sort.shiftUp ltl e q d = Sort.shiftUp ltl e (q + 1) (Sort.swp d q (q - 1)) := by rw [Sort.shiftUp, if_pos hq, if_neg (by simp [hl])]

theorem up_end (e q : Nat) (d : Array (List Int)) (h : ¬ q < e ∨ ltl d[q]! d[q - 1]! = false) : Sort.shiftUp ltl e q d = d := by
  rw [Sort.shiftUp]
  by_cases hq : q < e
  · rcases h with h | h
    · exact absurd hq h
    · rw [if_pos hq, if_pos (by simp [h])]
  · rw [if_neg hq]

theorem pi_all (a e s i i2 : Nat) (d : Array (List Int)) (h : Sort.scanSorted ltl d e i = i2) : Sort.partialIns ltl a e (s + 1) i d = if i2 = e then (d, true) else if e - a < 50 then (d, false) else Sort.partialIns ltl a e s i2 (if e - i2 ≥ 2 then Sort.shiftUp ltl e (i2 + 1) (if i2 - a ≥ 2 then Sort.shiftDown ltl (i2 - 1) (Sort.swp d i2 (i2 - 1)) else Sort.swp d i2 (i2 - 1)) else (if i2 - a ≥ 2 then Sort.shiftDown ltl (i2 - 1) (Sort.swp d i2 (i2 - 1)) else Sort.swp d i2 (i2 - 1))) := by
  rw [← h]
  rfl

set_option maxHeartbeats 4000000 in
set_option maxRecDepth 100000 in
theorem pins_any (b N c n a e : Nat) (d : Array (List Int)) (w : World) (h : Rw w b N d) (hn : d.size = n) (hae : a < e) (he : e ≤ n) (hsz : n < 100000) :
    Calls Tryd.prog 69 #[iv b n c, .int .i64 a, .int .i64 e] w fun ee w' => ee = .returned (.bool (Sort.partialInsertionSort ltl d a e).2) ∧ To b N w (Sort.partialInsertionSort ltl d a e).1 w' := by
  have m1 := mLess b n c
  have m2 := mSwap b n c
  obtain ⟨R, hR⟩ : ∃ R, Sort.partialInsertionSort ltl d a e = R := ⟨_, rfl⟩
  rw [hR]
  have HR : Hid (Sort.partialIns ltl a e 5 (a + 1) d = R) := hR
  have HN : Hid (d.size = n) := hn
  have HH : Hid (To b N w d w) := To.refl h
  clear h hn hR
  go_enter Tryd.func69, Tryd.ntmps69
  go_wp2_with fail
  go_loopw [7, 8] (fun vi vj wr => ∃ (i k s : Nat) (dk : Array (List Int)), vi = .int .i64 i ∧ vj = .int .i64 k ∧ k + s = 5 ∧ a < i ∧ i ≤ e ∧ Hid (dk.size = n) ∧ Hid (To b N w dk wr) ∧ Hid (Sort.partialIns ltl a e s i dk = R)) (fun _ vj _ => 5 - (intOf vj).toNat)
  case atStart => exact ⟨a + 1, 0, 5, d, by go_num, rfl, rfl, by omega, by omega, HN, HH, HR⟩
  case round =>
    obtain ⟨i, k, s, dk, rfl, rfl, hks, hai, hie, HSdk, HTdk, HE⟩ := hrel
    clear HH HN HR
    cases s with
    | zero =>
      have hz : ¬ (k : Int) < 5 := by omega
      have HF : Hid (R = (dk, false)) := by rw [← HE.out]; exact rfl
      clear HE
      go_wp2_with fail
      go_ret
      exact ⟨by rw [HF.out]; rfl, by rw [HF.out]; exact HTdk.out⟩
    | succ s =>
      have hz : (k : Int) < 5 := by omega
      obtain ⟨i2, hi2⟩ : ∃ i2, Sort.scanSorted ltl dk e i = i2 := ⟨_, rfl⟩
      have HI2 : Hid (Sort.scanSorted ltl dk e i = i2) := hi2
      have hb := ss_spec dk e (e - i) i (Nat.le_refl _) hie
      rw [hi2] at hb
      have x1 : i ≤ i2 := hb.1
      have x2 : i2 ≤ e := hb.2
      have HST : Hid _ := pi_all a e s i i2 dk hi2
      clear hb hi2
      go_upto_block 2 with fail
      go_cut [7] from 17 to 29 (fun v W => v = .int .i64 i2 ∧ To b N w dk W)
      case first =>
        go_wp2_with fail
        go_loopw [7] (fun vi wr => ∃ (q : Nat), vi = .int .i64 q ∧ i ≤ q ∧ q ≤ e ∧ Hid (Sort.scanSorted ltl dk e q = i2) ∧ Hid (To b N w dk wr)) (fun vi _ => e - (intOf vi).toNat)
        case atStart => exact ⟨i, rfl, by omega, by omega, HI2, HTdk⟩
        case round =>
          obtain ⟨q, rfl, hiq, hqe, HU, HTq⟩ := hrel
          clear HTdk
          by_cases hc : q < e
          · have hz9 : (q : Int) < e := by omega
            have hl := HTq.out.less c q (q - 1) (by rw [HSdk.out]; omega) (by rw [HSdk.out]; omega)
            rw [HSdk.out, show (((q - 1 : Nat) : Int)) = (q : Int) - 1 by omega] at hl
            cases hlv : ltl dk[q]! dk[q - 1]! with
            | false =>
              rw [hlv] at hl
              have HU2 : Hid (Sort.scanSorted ltl dk e (q + 1) = i2) := by rw [← HU.out, ss_go dk e q hc hlv]; exact rfl
              clear hlv HU HTq
              go_wp2_with fail
              refine hl.mono ?_
              rintro ee w2 ⟨rfl, hT2⟩
              have HT2 : Hid (To b N w dk w2) := hT2
              clear hT2 hl
              go_wp2_with fail
              go_roundw
              case rel => exact ⟨q + 1, by go_num, by omega, by omega, HU2, HT2⟩
              case measure => simp [intOf]; omega
            | true =>
              rw [hlv] at hl
              have HEk : Hid (q = i2) := by
                have : q = i2 := by rw [← HU.out, ss_end dk e q (.inr hlv)]
                exact this
              clear hlv HU HTq
              go_wp2_with fail
              refine hl.mono ?_
              rintro ee w2 ⟨rfl, hT2⟩
              have HT2 : Hid (To b N w dk w2) := hT2
              clear hT2 hl
              go_wp2_with fail
              go_meet
              exact ⟨by rw [HEk.out], HT2.out⟩
          · have hz9 : ¬ (q : Int) < e := by omega
            have HEk : Hid (q = i2) := by
              have : q = i2 := by rw [← HU.out, ss_end dk e q (.inl hc)]
              exact this
            clear HU
            go_wp2_with fail
            go_meet
            exact ⟨by rw [HEk.out], HTq.out⟩
      obtain ⟨rfl, hTc⟩ := hcut
      have HTc : Hid (To b N w dk wc) := hTc
      clear hTc HTdk HI2
      by_cases he2 : i2 = e
      · have hz2 : ((i2 : Int) == (e : Int)) = true := by simp [he2]
        have HF : Hid (R = (dk, true)) := by rw [← HE.out, HST.out, if_pos he2]; exact rfl
        clear HE HST he2
        go_wp2_with fail
        go_ret
        exact ⟨by rw [HF.out]; rfl, by rw [HF.out]; exact HTc.out⟩
      · have hz2 : ((i2 : Int) == (e : Int)) = false := by simp; omega
        by_cases h50 : e - a < 50
        · have hz3 : (e : Int) - a < 50 := by omega
          have HF : Hid (R = (dk, false)) := by rw [← HE.out, HST.out, if_neg he2, if_pos h50]; exact rfl
          clear HE HST
          go_wp2_with fail
          go_ret
          exact ⟨by rw [HF.out]; rfl, by rw [HF.out]; exact HTc.out⟩
        · have hz3 : ¬ (e : Int) - a < 50 := by omega
          have HG0 : Hid (Sort.partialIns ltl a e s i2 (if e - i2 ≥ 2 then Sort.shiftUp ltl e (i2 + 1) (if i2 - a ≥ 2 then Sort.shiftDown ltl (i2 - 1) (Sort.swp dk i2 (i2 - 1)) else Sort.swp dk i2 (i2 - 1)) else (if i2 - a ≥ 2 then Sort.shiftDown ltl (i2 - 1) (Sort.swp dk i2 (i2 - 1)) else Sort.swp dk i2 (i2 - 1))) = R) := by
            have h0 := HE.out
            rw [HST.out, if_neg he2, if_neg h50] at h0
            exact h0
          clear HE HST
          have hsw := HTc.out.swap c i2 (i2 - 1) (by rw [HSdk.out]; omega) (by rw [HSdk.out]; omega)
          rw [HSdk.out, show (((i2 - 1 : Nat) : Int)) = (i2 : Int) - 1 by omega] at hsw
          have HSd3 : Hid ((Sort.swp dk i2 (i2 - 1)).size = n) := by rw [swp_size]; exact HSdk
          generalize Sort.swp dk i2 (i2 - 1) = d3 at *
          clear HTc
          go_wp2_with fail
          refine hsw.mono ?_
          rintro ee w3 ⟨rfl, hTd3⟩
          have HTd3 : Hid (To b N w d3 w3) := hTd3
          clear hTd3 hsw
          by_cases hd : 2 ≤ i2 - a
          · have hzd : (2 : Int) ≤ (i2 : Int) - a := by omega
            go_upto_block 4 with fail
            go_cut [9] from 48 to 62 (fun _ W => ∃ dz : Array (List Int), Hid (dz.size = n) ∧ Hid (Sort.shiftDown ltl (i2 - 1) d3 = dz) ∧ Hid (To b N w dz W))
            case first =>
              go_wp2_with fail
              go_loopw [9] (fun vi wr => ∃ (q : Nat) (dq : Array (List Int)), vi = .int .i64 q ∧ q < n ∧ Hid (dq.size = n) ∧ Hid (Sort.shiftDown ltl q dq = Sort.shiftDown ltl (i2 - 1) d3) ∧ Hid (To b N w dq wr)) (fun vi _ => (intOf vi).toNat)
              case atStart => exact ⟨i2 - 1, d3, by congr 1; omega, by omega, HSd3, rfl, HTd3⟩
              case round =>
                obtain ⟨q, dq, rfl, hqn, HSq, HU, HTq⟩ := hrel
                clear HTd3
                by_cases hc : 1 ≤ q
                · have hz9 : (1 : Int) ≤ q := by omega
                  have hl := HTq.out.less c q (q - 1) (by rw [HSq.out]; omega) (by rw [HSq.out]; omega)
                  rw [HSq.out, show (((q - 1 : Nat) : Int)) = (q : Int) - 1 by omega] at hl
                  cases hlv : ltl dq[q]! dq[q - 1]! with
                  | true =>
                    rw [hlv] at hl
                    have hsw := fun W (hW : To b N w dq W) => hW.swap c q (q - 1) (by rw [HSq.out]; omega) (by rw [HSq.out]; omega)
                    rw [HSq.out, show (((q - 1 : Nat) : Int)) = (q : Int) - 1 by omega] at hsw
                    have HU2 : Hid (Sort.shiftDown ltl (q - 1) (Sort.swp dq q (q - 1)) = Sort.shiftDown ltl (i2 - 1) d3) := by rw [← HU.out, dn_go q dq hc hlv]; exact rfl
                    have HS2 : Hid ((Sort.swp dq q (q - 1)).size = n) := by rw [swp_size]; exact HSq
                    generalize Sort.swp dq q (q - 1) = d2 at *
                    clear hlv HU HTq
                    go_wp2_with fail
                    refine hl.mono ?_
                    rintro ee w2 ⟨rfl, hT2⟩
                    have HT2 : Hid (To b N w dq w2) := hT2
                    clear hT2 hl
                    have hsw2 := hsw _ HT2.out
                    clear hsw
                    go_wp2_with fail
                    refine hsw2.mono ?_
                    rintro ee w3 ⟨rfl, hT3⟩
                    have HT3 : Hid (To b N w d2 w3) := hT3
                    clear hT3 hsw2
                    go_wp2_with fail
                    go_roundw
                    case rel => exact ⟨q - 1, d2, by congr 1; omega, by omega, HS2, HU2, HT3⟩
                    case measure => simp [intOf]; omega
                  | false =>
                    rw [hlv] at hl
                    have HF : Hid (Sort.shiftDown ltl (i2 - 1) d3 = dq) := by rw [← HU.out, dn_end q dq (.inr hlv)]; exact rfl
                    clear hlv HU HTq
                    go_wp2_with fail
                    refine hl.mono ?_
                    rintro ee w2 ⟨rfl, hT2⟩
                    have HT2 : Hid (To b N w dq w2) := hT2
                    clear hT2 hl
                    go_wp2_with fail
                    go_meet
                    exact ⟨dq, HSq, HF, HT2⟩
                · have hz9 : ¬ (1 : Int) ≤ q := by omega
                  have HF : Hid (Sort.shiftDown ltl (i2 - 1) d3 = dq) := by rw [← HU.out, dn_end q dq (.inl hc)]; exact rfl
                  clear HU
                  go_wp2_with fail
                  go_meet
                  exact ⟨dq, HSq, HF, HTq⟩
            obtain ⟨d4, HSd4, HFd4, HTd4⟩ := hcut
            clear HTd3
            have HG : Hid (Sort.partialIns ltl a e s i2 (if e - i2 ≥ 2 then Sort.shiftUp ltl e (i2 + 1) d4 else d4) = R) := by
              have h0 := HG0.out
              rw [if_pos hd, HFd4.out] at h0
              exact h0
            clear HG0 HFd4
            by_cases hu : 2 ≤ e - i2
            · have hzu : (2 : Int) ≤ (e : Int) - i2 := by omega
              go_wp2_with fail
              go_loopw [10] (fun vi wr => ∃ (q : Nat) (dq : Array (List Int)), vi = .int .i64 q ∧ 0 < q ∧ q ≤ e + 1 ∧ Hid (dq.size = n) ∧ Hid (Sort.shiftUp ltl e q dq = Sort.shiftUp ltl e (i2 + 1) d4) ∧ Hid (To b N w dq wr)) (fun vi _ => e + 1 - (intOf vi).toNat)
              case atStart => exact ⟨i2 + 1, d4, by go_num, by omega, by omega, HSd4, rfl, HTd4⟩
              case round =>
                obtain ⟨q, dq, rfl, hq0, hqn, HSq, HU, HTq⟩ := hrel
                clear HTd4
                by_cases hc : q < e
                · have hz9 : (q : Int) < e := by omega
                  have hl := HTq.out.less c q (q - 1) (by rw [HSq.out]; omega) (by rw [HSq.out]; omega)
                  rw [HSq.out, show (((q - 1 : Nat) : Int)) = (q : Int) - 1 by omega] at hl
                  cases hlv : ltl dq[q]! dq[q - 1]! with
                  | true =>
                    rw [hlv] at hl
                    have hsw := fun W (hW : To b N w dq W) => hW.swap c q (q - 1) (by rw [HSq.out]; omega) (by rw [HSq.out]; omega)
                    rw [HSq.out, show (((q - 1 : Nat) : Int)) = (q : Int) - 1 by omega] at hsw
                    have HU2 : Hid (Sort.shiftUp ltl e (q + 1) (Sort.swp dq q (q - 1)) = Sort.shiftUp ltl e (i2 + 1) d4) := by rw [← HU.out, up_go e q dq hc hlv]; exact rfl
                    have HS2 : Hid ((Sort.swp dq q (q - 1)).size = n) := by rw [swp_size]; exact HSq
                    generalize Sort.swp dq q (q - 1) = d2 at *
                    clear hlv HU HTq
                    go_wp2_with fail
                    refine hl.mono ?_
                    rintro ee w2 ⟨rfl, hT2⟩
                    have HT2 : Hid (To b N w dq w2) := hT2
                    clear hT2 hl
                    have hsw2 := hsw _ HT2.out
                    clear hsw
                    go_wp2_with fail
                    refine hsw2.mono ?_
                    rintro ee w3 ⟨rfl, hT3⟩
                    have HT3 : Hid (To b N w d2 w3) := hT3
                    clear hT3 hsw2
                    go_wp2_with fail
                    go_roundw
                    case rel => exact ⟨q + 1, d2, by go_num, by omega, by omega, HS2, HU2, HT3⟩
                    case measure => simp [intOf]; omega
                  | false =>
                    rw [hlv] at hl
                    have HGO : Hid (Sort.partialIns ltl a e s i2 dq = R) := by rw [← HG.out, if_pos hu, ← HU.out, up_end e q dq (.inr hlv)]; exact rfl
                    clear hlv HU HTq HG
                    go_wp2_with fail
                    refine hl.mono ?_
                    rintro ee w2 ⟨rfl, hT2⟩
                    have HT2 : Hid (To b N w dq w2) := hT2
                    clear hT2 hl
                    go_wp2_with fail
                    go_roundw
                    case rel => exact ⟨i2, k + 1, s, dq, rfl, by go_num, by omega, by omega, by omega, HSq, HT2, HGO⟩
                    case measure => simp [intOf]; omega
                · have hz9 : ¬ (q : Int) < e := by omega
                  have HGO : Hid (Sort.partialIns ltl a e s i2 dq = R) := by rw [← HG.out, if_pos hu, ← HU.out, up_end e q dq (.inl hc)]; exact rfl
                  clear HU HG
                  go_wp2_with fail
                  go_roundw
                  case rel => exact ⟨i2, k + 1, s, dq, rfl, by go_num, by omega, by omega, by omega, HSq, HTq, HGO⟩
                  case measure => simp [intOf]; omega
            · have hzu : ¬ (2 : Int) ≤ (e : Int) - i2 := by omega
              have HGO : Hid (Sort.partialIns ltl a e s i2 d4 = R) := by rw [← HG.out, if_neg hu]; exact rfl
              clear HG
              go_wp2_with fail
              go_roundw
              case rel => exact ⟨i2, k + 1, s, d4, rfl, by go_num, by omega, by omega, by omega, HSd4, HTd4, HGO⟩
              case measure => simp [intOf]; omega
          · have hzd : ¬ (2 : Int) ≤ (i2 : Int) - a := by omega
            have HG : Hid (Sort.partialIns ltl a e s i2 (if e - i2 ≥ 2 then Sort.shiftUp ltl e (i2 + 1) d3 else d3) = R) := by
              have h0 := HG0.out
              rw [if_neg hd] at h0
              exact h0
            clear HG0
            by_cases hu : 2 ≤ e - i2
            · have hzu : (2 : Int) ≤ (e : Int) - i2 := by omega
              go_wp2_with fail
              go_loopw [10] (fun vi wr => ∃ (q : Nat) (dq : Array (List Int)), vi = .int .i64 q ∧ 0 < q ∧ q ≤ e + 1 ∧ Hid (dq.size = n) ∧ Hid (Sort.shiftUp ltl e q dq = Sort.shiftUp ltl e (i2 + 1) d3) ∧ Hid (To b N w dq wr)) (fun vi _ => e + 1 - (intOf vi).toNat)
              case atStart => exact ⟨i2 + 1, d3, by go_num, by omega, by omega, HSd3, rfl, HTd3⟩
              case round =>
                obtain ⟨q, dq, rfl, hq0, hqn, HSq, HU, HTq⟩ := hrel
                clear HTd3
                by_cases hc : q < e
                · have hz9 : (q : Int) < e := by omega
                  have hl := HTq.out.less c q (q - 1) (by rw [HSq.out]; omega) (by rw [HSq.out]; omega)
                  rw [HSq.out, show (((q - 1 : Nat) : Int)) = (q : Int) - 1 by omega] at hl
                  cases hlv : ltl dq[q]! dq[q - 1]! with
                  | true =>
                    rw [hlv] at hl
                    have hsw := fun W (hW : To b N w dq W) => hW.swap c q (q - 1) (by rw [HSq.out]; omega) (by rw [HSq.out]; omega)
                    rw [HSq.out, show (((q - 1 : Nat) : Int)) = (q : Int) - 1 by omega] at hsw
                    have HU2 : Hid (Sort.shiftUp ltl e (q + 1) (Sort.swp dq q (q - 1)) = Sort.shiftUp ltl e (i2 + 1) d3) := by rw [← HU.out, up_go e q dq hc hlv]; exact rfl
                    have HS2 : Hid ((Sort.swp dq q (q - 1)).size = n) := by rw [swp_size]; exact HSq
                    generalize Sort.swp dq q (q - 1) = d2 at *
                    clear hlv HU HTq
                    go_wp2_with fail
                    refine hl.mono ?_
                    rintro ee w2 ⟨rfl, hT2⟩
                    have HT2 : Hid (To b N w dq w2) := hT2
                    clear hT2 hl
                    have hsw2 := hsw _ HT2.out
                    clear hsw
                    go_wp2_with fail
                    refine hsw2.mono ?_
                    rintro ee w3 ⟨rfl, hT3⟩
                    have HT3 : Hid (To b N w d2 w3) := hT3
                    clear hT3 hsw2
                    go_wp2_with fail
                    go_roundw
                    case rel => exact ⟨q + 1, d2, by go_num, by omega, by omega, HS2, HU2, HT3⟩
                    case measure => simp [intOf]; omega
                  | false =>
                    rw [hlv] at hl
                    have HGO : Hid (Sort.partialIns ltl a e s i2 dq = R) := by rw [← HG.out, if_pos hu, ← HU.out, up_end e q dq (.inr hlv)]; exact rfl
                    clear hlv HU HTq HG
                    go_wp2_with fail
                    refine hl.mono ?_
                    rintro ee w2 ⟨rfl, hT2⟩
                    have HT2 : Hid (To b N w dq w2) := hT2
                    clear hT2 hl
                    go_wp2_with fail
                    go_roundw
                    case rel => exact ⟨i2, k + 1, s, dq, rfl, by go_num, by omega, by omega, by omega, HSq, HT2, HGO⟩
                    case measure => simp [intOf]; omega
                · have hz9 : ¬ (q : Int) < e := by omega
                  have HGO : Hid (Sort.partialIns ltl a e s i2 dq = R) := by rw [← HG.out, if_pos hu, ← HU.out, up_end e q dq (.inl hc)]; exact rfl
                  clear HU HG
                  go_wp2_with fail
                  go_roundw
                  case rel => exact ⟨i2, k + 1, s, dq, rfl, by go_num, by omega, by omega, by omega, HSq, HTq, HGO⟩
                  case measure => simp [intOf]; omega
            · exact False.elim (by omega)

end Go.Proofs.YtmjcikomcnokkaaDoor
