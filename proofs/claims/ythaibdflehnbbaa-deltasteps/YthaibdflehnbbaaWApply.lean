/- Apply. -/
import Derived.Test.YthaibdflehnbbaaWParse
import Derived.Test.YthaibdflehnbbaaWApp
namespace Go.Proofs.Ythaibdflehnbbaa
open Go.RowKit

theorem nil_own (w : World) (B : Nat) : w.ownsRow B 5 1 (.slice none 0 0) 0 (([] : List Int).map (Value.int .u8)) := World.ownsRow_nil _ _ _ _

theorem apy_bad (b d : List Int) (most : Int) (h : (prs d).2.2.2 ≠ 0) : apy b d most = ([], (prs d).2.2.2) := by unfold apy; rw [if_pos h]
theorem apy_len (b d : List Int) (most : Int) (h : (prs d).2.2.2 = 0) (h2 : (prs d).1 ≠ b.length) : apy b d most = ([], 2) := by unfold apy; rw [if_neg (by simp [h]), if_pos h2]
theorem apy_long (b d : List Int) (most : Int) (h : (prs d).2.2.2 = 0) (h2 : (prs d).1 = b.length) (h3 : most < (prs d).2.1) : apy b d most = ([], 5) := by unfold apy; rw [if_neg (by simp [h]), if_neg (by simp [h2]), if_pos h3]
theorem apy_no (b d : List Int) (most : Int) (h : (prs d).2.2.2 = 0) (h2 : (prs d).1 = b.length) (h3 : ¬ most < (prs d).2.1) (h4 : ¬ (wins b.length (prs d).2.2.1 ∧ tot (prs d).2.2.1 = (prs d).2.1)) : apy b d most = ([], 2) := by
  unfold apy; rw [if_neg (by simp [h]), if_neg (by simp [h2]), if_neg h3, if_neg h4]
theorem apy_yes (b d : List Int) (most : Int) (h : (prs d).2.2.2 = 0) (h2 : (prs d).1 = b.length) (h3 : ¬ most < (prs d).2.1) (h4 : wins b.length (prs d).2.2.1) (h5 : tot (prs d).2.2.1 = (prs d).2.1) : apy b d most = (mks b (prs d).2.2.1, 0) := by
  unfold apy; rw [if_neg (by simp [h]), if_neg (by simp [h2]), if_neg h3, if_pos ⟨h4, h5⟩]

set_option maxRecDepth 100000 in
set_option maxHeartbeats 1000000 in
theorem Apply_any (bo : Option Addr) (N C : Nat) (bs : List Int) (ao : Option Addr) (n c : Nat) (d : List Int) (most : Int) (w : World) (hb : Rd w bo N C bs) (h : Rd w ao n c d) (hN : N ≤ 1000000) (hn : n ≤ 1000000) (hm : most ≤ 1000000000) :
    Calls Try.prog 14 #[.slice bo N C, .slice ao n c, .int .i64 most] w fun e w' => ∃ v, e = .returned (.tuple #[v, .int .i64 (apy bs d most).2]) ∧ w'.ownsRow w.heap.size 5 1 v (apy bs d most).1.length ((apy bs d most).1.map (Value.int .u8)) ∧ Below w.heap.size w w' := by
  have h1 := parse_any ao n c d w h hn
  have hbl := hb.len
  have hok := prs_ok d h.byt
  have hdl := h.len
  have a1 := apy_bad bs d most
  have a2 := apy_len bs d most
  have a3 := apy_long bs d most
  have a4 := apy_no bs d most
  have a5 := apy_yes bs d most
  have HB : Hid (Rd w bo N C bs) := hb
  clear hb h
  generalize apy bs d most = A at *
  generalize prs d = s at *
  obtain ⟨v1, v2, l, er⟩ := s
  simp only at h1 hok a1 a2 a3 a4 a5
  rw [hbl] at a2 a3 a4 a5
  have HK : Hid (∀ o ∈ l, okr o) := hok.1
  have HL : Hid (l.length ≤ n) := by rw [← hdl]; exact hok.2
  clear hok
  by_cases he : er = 0
  · subst he
    by_cases hv : v1 = N
    · subst hv
      by_cases hmo : most < v2
      · have HA : Hid (A = ([], 5)) := a3 rfl rfl hmo
        clear a1 a2 a3 a4 a5
        go_enter Try.func14, Try.ntmps14
        go_wp2_with (first
          | (go_at_call 23; refine h1.mono ?_; rintro e w1 ⟨v, m, ms, rfl, hO, hB⟩))
        go_ret2
        rw [HA.out]
        exact ⟨_, rfl, nil_own _ _, hB⟩
      · by_cases hw : wins N l
        · have hwd : decide (wins N l) = true := decide_eq_true hw
          by_cases ht : tot l = v2
          · have HA : Hid (A = (mks bs l, 0)) := a5 rfl rfl hmo hw ht
            clear a1 a2 a3 a4 a5
            subst ht
            obtain ⟨S, hS⟩ : ∃ S : Nat, tot l = S := ⟨(tot l).toNat, by have := (tot_pos l HK.out).1; omega⟩
            have HS : Hid (tot l = S) := hS
            have HM : Hid ((mks bs l).length = S) := by
              have := mks_len bs l HK.out (by rw [hbl]; exact hw)
              show _ = _
              omega
            rw [hS] at h1 hmo
            have HW : Hid (wins N l) := hw
            have HWD : Hid (decide (wins N l) = true) := hwd
            clear hS hw hwd
            go_enter Try.func14, Try.ntmps14
            go_wp2_with (first
              | (go_at_call 23; refine h1.mono ?_; rintro e w1 ⟨v, m, ms, rfl, hO, hB⟩; obtain ⟨la, lc, rfl, hlc, hOs, _⟩ := hO.os; have hml : m ≤ 1000000 := by have := hOs.len; have := HL.out; omega)
              | (go_at_call 24; refine (within_any la m lc N ms l w1 hOs (by omega) (by omega) HK.out).mono ?_; rintro e w2 ⟨rfl, hB2⟩; rw [HWD.out])
              | (go_at_call 25; refine (size_ops la m lc ms l w2 (hOs.keep hB2) (by omega) HK.out).mono ?_; rintro e w3 ⟨rfl, hB3⟩; rw [HS.out])
              | (go_at_call 26; refine (apply_ops la m lc ms l bo N C bs S w3 ((hOs.keep hB2).keep hB3) (((HB.out.keep hB).keep hB2).keep hB3) (by omega) (by omega) HK.out HW.out (by omega) HS.out).mono ?_; rintro e w4 ⟨g, cap, rfl, hown, hB4⟩))
            go_ret2
            rw [HA.out]
            have b2 := hB.trans (hB2.mono hB.size)
            have b3 := b2.trans (hB3.mono b2.size)
            refine ⟨_, rfl, ?_, b3.trans (hB4.mono b3.size)⟩
            show World.ownsRow _ _ _ _ _ _ _
            rw [HM.out]
            exact own_low hown b3.size
          · have HA : Hid (A = ([], 2)) := a4 rfl rfl hmo (fun h => ht h.2)
            have HWD : Hid (decide (wins N l) = true) := hwd
            have q1 : (tot l != v2) = true := by simp [ht]
            clear a1 a2 a3 a4 a5 hw hwd
            go_enter Try.func14, Try.ntmps14
            go_wp2_with (first
              | (go_at_call 23; refine h1.mono ?_; rintro e w1 ⟨v, m, ms, rfl, hO, hB⟩; obtain ⟨la, lc, rfl, hlc, hOs, _⟩ := hO.os; have hml : m ≤ 1000000 := by have := hOs.len; have := HL.out; omega)
              | (go_at_call 24; refine (within_any la m lc N ms l w1 hOs (by omega) (by omega) HK.out).mono ?_; rintro e w2 ⟨rfl, hB2⟩; rw [HWD.out])
              | (go_at_call 25; refine (size_ops la m lc ms l w2 (hOs.keep hB2) (by omega) HK.out).mono ?_; rintro e w3 ⟨rfl, hB3⟩))
            go_ret2
            rw [HA.out]
            have b2 := hB.trans (hB2.mono hB.size)
            exact ⟨_, rfl, nil_own _ _, b2.trans (hB3.mono b2.size)⟩
        · have HA : Hid (A = ([], 2)) := a4 rfl rfl hmo (fun h => hw h.1)
          have HWD : Hid (decide (wins N l) = false) := decide_eq_false hw
          clear a1 a2 a3 a4 a5 hw
          go_enter Try.func14, Try.ntmps14
          go_wp2_with (first
            | (go_at_call 23; refine h1.mono ?_; rintro e w1 ⟨v, m, ms, rfl, hO, hB⟩; obtain ⟨la, lc, rfl, hlc, hOs, _⟩ := hO.os; have hml : m ≤ 1000000 := by have := hOs.len; have := HL.out; omega)
            | (go_at_call 24; refine (within_any la m lc N ms l w1 hOs (by omega) (by omega) HK.out).mono ?_; rintro e w2 ⟨rfl, hB2⟩; rw [HWD.out]))
          go_ret2
          rw [HA.out]
          exact ⟨_, rfl, nil_own _ _, hB.trans (hB2.mono hB.size)⟩
    · have HA : Hid (A = ([], 2)) := a2 rfl hv
      have q1 : (v1 != (N : Int)) = true := by simp [hv]
      clear a1 a2 a3 a4 a5
      go_enter Try.func14, Try.ntmps14
      go_wp2_with (first
        | (go_at_call 23; refine h1.mono ?_; rintro e w1 ⟨v, m, ms, rfl, hO, hB⟩))
      go_ret2
      rw [HA.out]
      exact ⟨_, rfl, nil_own _ _, hB⟩
  · have HA : Hid (A = ([], er)) := a1 he
    have q1 : (er != 0) = true := by simp [he]
    clear a1 a2 a3 a4 a5
    go_enter Try.func14, Try.ntmps14
    go_wp2_with (first
      | (go_at_call 23; refine h1.mono ?_; rintro e w1 ⟨v, m, ms, rfl, hO, hB⟩))
    go_ret2
    rw [HA.out]
    exact ⟨_, rfl, nil_own _ _, hB⟩

end Go.Proofs.Ythaibdflehnbbaa
