/- The walk of HuffOrder. -/
import Derived.Test.YtjipohcacimkmaaWKnown
import Derived.Deep.QuietTactic
import Derived.BigQuiet
namespace Go.Proofs.Ytjipohcacimkmaa
open Go.RowKit

theorem order_skip (ao : Option Addr) (n c : Nat) (w : World) (h : 60 < n) :
    Calls Try.prog 7 #[.slice ao n c] w fun e w' => e = .returned (.bool true) ∧ Below w.heap.size w w' := by
  have d1 : decide ((60 : Int) < (n : Int)) = true := by simp; omega
  clear h
  go_enter Try.func7, Try.ntmps7
  go_wp2_with (go_at_call 9; refine (known_any _).mono ?_; rintro e w1 ⟨rfl, hb⟩)
  go_ret
  exact ⟨rfl, hb⟩

theorem order_none (ao : Option Addr) (n c : Nat) (L : Nat → Int) (w : World) (hn : n ≤ 60) (hl : Ri w ao n c L) (he : er L n ≠ 0) :
    Calls Try.prog 7 #[.slice ao n c] w fun e w' => e = .returned (.bool true) ∧ Below w.heap.size w w' := by
  have d1 : decide ((60 : Int) < (n : Int)) = false := by simp; omega
  go_enter Try.func7, Try.ntmps7
  go_wp2_with (go_at_call 9; refine (known_any _).mono ?_; rintro e w1 ⟨rfl, b1⟩)
  refine (codes_no ao n c L w1 (hl.keep b1) he).mono ?_
  rintro e w2 ⟨rfl, b2⟩
  have B2 := b1.trans (b2.mono b1.size)
  clear b1 b2 hl
  generalize er L n = x at *
  go_wp2_with fail
  go_ret
  exact ⟨rfl, B2⟩

theorem dn_below (w : World) (q : Nat) : Below w.heap.size w (w.drewN q) := ⟨rfl, rfl, rfl, Nat.le_refl _, fun _ _ => rfl⟩

/-- The world w, and some draws. -/
def Dr (w wx : World) : Prop := ∃ m, wx = w.drewN m

theorem Dr.more {w wx : World} (h : Dr w wx) (q : Nat) : Dr w (wx.drewN q) := by
  obtain ⟨m, rfl⟩ := h
  exact ⟨m + q, by simp [World.drewN, Nat.add_assoc]⟩

theorem Dr.cell {w wx : World} (h : Dr w wx) (a : Addr) : wx.cell? a = w.cell? a := by
  obtain ⟨m, rfl⟩ := h
  rfl

theorem Dr.below {w wx : World} (h : Dr w wx) : Below w.heap.size w wx := by
  obtain ⟨m, rfl⟩ := h
  exact dn_below w m

set_option maxRecDepth 100000 in
set_option maxHeartbeats 8000000 in
theorem order_go (ao : Option Addr) (n c : Nat) (L : Nat → Int) (w : World) (hn : n ≤ 60) (hl : Ri w ao n c L) (he : er L n = 0) :
    Calls Try.prog 7 #[.slice ao n c] w fun e w' => e = .returned (.bool true) ∧ Below w.heap.size w w' := by
  have d1 : decide ((60 : Int) < (n : Int)) = false := by simp; omega
  obtain ⟨h288, hL, hf⟩ := er_zero L n he
  go_enter Try.func7, Try.ntmps7
  go_wp2_with (go_at_call 9; refine (known_any _).mono ?_; rintro e w1 ⟨rfl, b1⟩)
  refine (codes_yes ao n c L w1 (hl.keep b1) he).mono ?_
  rintro e w2 ⟨g, rfl, hg, _, b2⟩
  have B2 := b1.trans (b2.mono b1.size)
  have HR : Hid (Ri w2 ao n c L) := hl.keep B2
  have HG : Hid (w2.rowIs g 3 n (fun j => .int .i64 (cd L n j))) := hg
  have HB : Hid (Below w.heap.size w w2) := B2
  have HL : Hid (∀ j, j < n → Lm (L j)) := hL
  have HF : Hid (Fits L n) := hf
  clear b1 b2 hl hg B2 hL hf he
  go_wp2_with fail
  go_loopw [5, 6] (fun iv _ wr => ∃ i : Nat, i ≤ n ∧ iv = .int .i64 i ∧ Dr w2 wr) (fun iv _ _ => n - (intOf iv).toNat)
  case atStart => exact ⟨0, by omega, rfl, 0, rfl⟩
  case round =>
    obtain ⟨i, hi, rfl, hm⟩ := hrel
    have HM : Hid (Dr w2 wr) := hm
    by_cases hin : i < n
    · obtain ⟨b, off, rfl, hcell⟩ := HR.out.plain (by omega)
      have cl : wr.cell? ⟨b, off + i, none⟩ = some (.int .i64 (L i)) := by rw [hm.cell]; exact hcell i hin
      have cc : wr.cell? ⟨g, i, none⟩ = some (.int .i64 (cd L n i)) := by rw [hm.cell]; exact HG.out.cell hin
      clear hcell hm
      obtain ⟨x, hx⟩ := Int.eq_ofNat_of_zero_le (HL.out i hin).1
      have hx15 : x ≤ 15 := by have := (HL.out i hin).2; omega
      rw [hx] at cl
      by_cases hx0 : x = 0
      · have e0 : cd L n i = 0 := by rw [cd, if_neg (by omega)]
        rw [e0] at cc
        subst hx0
        clear hx e0
        go_wp2_with fail
        exact ⟨⟨i + 1, by omega, by go_num, HM.out⟩, by simp [intOf]; omega⟩
      · have hlt := cd_lt L n i x HF.out hin hx (by omega) hx15
        have HX : Hid (L i = x) := hx
        have e3 := p2_le x 15 hx15
        have e5 : (2 : Int) ^ 15 = 32768 := rfl
        have hp32 : (2 : Int) ^ x ≤ 32768 := by omega
        obtain ⟨ci, hci⟩ : ∃ ci, ci = cd L n i := ⟨_, rfl⟩
        have HCI : Hid (ci = cd L n i) := hci
        rw [← hci] at cc hlt
        have q1 : decide (ci < 0) = false := by simp; omega
        have q2 : decide ((2 : Int) ^ x ≤ ci) = false := by simp; omega
        have q3 : ((x : Int) == 0) = false := by simp; omega
        clear hx hci e3 e5
        go_wp2_with fail
        go_quiet (fail)
        go_wp2_with fail
        have HM2 : Hid (Dr w2 (wr.drewN nq)) := HM.out.more nq
        clear cl cc HM
        generalize wr.drewN nq = W3 at *
        clear wr
        go_loopw [6] (fun kv wx => ∃ k : Nat, k ≤ n ∧ kv = .int .i64 k ∧ Dr w2 wx) (fun kv _ => n - (intOf kv).toNat)
        case atStart => exact ⟨0, by omega, rfl, HM2.out⟩
        case round =>
          obtain ⟨k, hk, rfl, hm⟩ := hrel
          have HM : Hid (Dr w2 wr) := hm
          by_cases hkn : k < n
          · have cl : wr.cell? ⟨b, off + i, none⟩ = some (.int .i64 x) := by rw [hm.cell, ← HX.out]; have := HR.out.cells _ rfl i hin; rwa [Addr.add_lit] at this
            have cc : wr.cell? ⟨g, i, none⟩ = some (.int .i64 ci) := by rw [hm.cell, HCI.out]; exact HG.out.cell hin
            have ckl : wr.cell? ⟨b, off + k, none⟩ = some (.int .i64 (L k)) := by rw [hm.cell]; have := HR.out.cells _ rfl k hkn; rwa [Addr.add_lit] at this
            have ckc : wr.cell? ⟨g, k, none⟩ = some (.int .i64 (cd L n k)) := by rw [hm.cell]; exact HG.out.cell hkn
            clear hm
            by_cases hki : k = i
            · have q4 : ((k : Int) == (i : Int)) = true := by simp; omega
              subst hki
              clear ckl ckc
              go_wp2_with fail
              go_quiet (fail)
              have HM3 : Hid (Dr w2 (wr.drewN nq)) := HM.out.more nq
              go_wp2_with fail
              exact ⟨⟨k + 1, by omega, by go_num, HM3.out⟩, by simp [intOf]; omega⟩
            · have q4 : ((k : Int) == (i : Int)) = false := by simp; omega
              obtain ⟨y, hy⟩ := Int.eq_ofNat_of_zero_le (HL.out k hkn).1
              have hy15 : y ≤ 15 := by have := (HL.out k hkn).2; omega
              rw [hy] at ckl
              by_cases hyx : y < x
              · have q5 : decide ((y : Int) < (x : Int)) = true := by simp; omega
                clear ckc hy
                go_wp2_with fail
                go_quiet (fail)
                have HM3 : Hid (Dr w2 (wr.drewN nq)) := HM.out.more nq
                go_wp2_with fail
                exact ⟨⟨k + 1, by omega, by go_num, HM3.out⟩, by simp [intOf]; omega⟩
              · have q5 : decide ((y : Int) < (x : Int)) = false := by simp; omega
                have hklt := cd_lt L n k y HF.out hkn hy (by omega) hy15
                obtain ⟨d, hd⟩ : ∃ d : Nat, d = y - x := ⟨_, rfl⟩
                have ed : (y : Int) - (x : Int) = (d : Int) := by omega
                have hd15 : d ≤ 15 := by omega
                have hfr : cd L n k / 2 ^ d ≠ ci := by
                  rw [HCI.out]
                  by_cases hyx' : y = x
                  · intro e
                    rw [show d = 0 by omega, Int.pow_zero, Int.ediv_one] at e
                    exact hki (cd_inj L n i k x HX.out (by omega) (by rw [hy, hyx']) e)
                  · have := cd_front L n i k x (d - 1) hin hkn HX.out (by omega) (by rw [hy]; congr 1; omega)
                    rw [show d - 1 + 1 = d by omega] at this
                    omega
                by_cases hyx' : y = x
                · subst hyx'
                  have hne : cd L n k ≠ ci := by
                    intro e
                    rw [show d = 0 by omega, Int.pow_zero, Int.ediv_one] at hfr
                    exact hfr e
                  obtain ⟨ck, hck⟩ : ∃ ck, ck = cd L n k := ⟨_, rfl⟩
                  have HCK : Hid (ck = cd L n k) := hck
                  rw [← hck] at ckc hklt hne
                  have q6 : (ck == ci) = false := by simp [hne]
                  have q7 : ((y : Int) == (y : Int)) = true := by simp
                  have HY : Hid (L k = y) := hy
                  clear hfr hck hy hyx hklt hd ed hne hd15
                  rcases Nat.lt_or_ge k i with h1 | h1
                  · have q8 : decide ((k : Int) < (i : Int)) = true := by simp; omega
                    have q9 : decide (ck < ci) = true := by
                      have := cd_rise L n i k y HX.out (by omega) HY.out h1
                      rw [HCI.out, HCK.out]
                      exact decide_eq_true this
                    have q10 : decide (k < i) = true := decide_eq_true h1
                    go_wp2_with fail
                    go_quiet (fail)
                    have cl4 : (wr.drewN nq).cell? ⟨b, off + i, none⟩ = some (.int .i64 y) := cl
                    have cc4 : (wr.drewN nq).cell? ⟨g, i, none⟩ = some (.int .i64 ci) := cc
                    have kl4 : (wr.drewN nq).cell? ⟨b, off + k, none⟩ = some (.int .i64 y) := ckl
                    have kc4 : (wr.drewN nq).cell? ⟨g, k, none⟩ = some (.int .i64 ck) := ckc
                    have HM4 : Hid (Dr w2 (wr.drewN nq)) := HM.out.more nq
                    clear cl cc ckl ckc HM
                    generalize wr.drewN nq = W4 at *
                    clear wr
                    go_wp2_with fail
                    go_quiet (fail)
                    have HM3 := HM4.out.more nq
                    have HM3 : Hid (Dr w2 (W4.drewN nq)) := HM3
                    go_wp2_with fail
                    exact ⟨⟨k + 1, by omega, by go_num, HM3.out⟩, by simp [intOf]; omega⟩
                  · have q8 : decide ((k : Int) < (i : Int)) = false := by simp; omega
                    have q9 : decide (ck < ci) = false := by
                      have := cd_rise L n k i y HY.out (by omega) HX.out (by omega)
                      rw [HCI.out, HCK.out]
                      exact decide_eq_false (by omega)
                    have q11 : ¬ k < i := by omega
                    have q10 : decide (k < i) = false := decide_eq_false q11
                    clear h1
                    go_wp2_with fail
                    go_quiet (fail)
                    have cl4 : (wr.drewN nq).cell? ⟨b, off + i, none⟩ = some (.int .i64 y) := cl
                    have cc4 : (wr.drewN nq).cell? ⟨g, i, none⟩ = some (.int .i64 ci) := cc
                    have kl4 : (wr.drewN nq).cell? ⟨b, off + k, none⟩ = some (.int .i64 y) := ckl
                    have kc4 : (wr.drewN nq).cell? ⟨g, k, none⟩ = some (.int .i64 ck) := ckc
                    have HM4 : Hid (Dr w2 (wr.drewN nq)) := HM.out.more nq
                    clear cl cc ckl ckc HM
                    generalize wr.drewN nq = W4 at *
                    clear wr
                    go_wp2_with fail
                    go_quiet (fail)
                    have HM3 := HM4.out.more nq
                    have HM3 : Hid (Dr w2 (W4.drewN nq)) := HM3
                    go_wp2_with fail
                    exact ⟨⟨k + 1, by omega, by go_num, HM3.out⟩, by simp [intOf]; omega⟩
                · obtain ⟨ck, hck⟩ : ∃ ck, ck = cd L n k := ⟨_, rfl⟩
                  rw [← hck] at ckc hfr hklt
                  have q6 : (ck / 2 ^ d == ci) = false := by simp [hfr]
                  have q7 : ((y : Int) == (x : Int)) = false := by simp; omega
                  clear hfr hck hy hyx hklt hd
                  go_wp2_with fail
                  go_quiet (fail)
                  have cl4 : (wr.drewN nq).cell? ⟨b, off + i, none⟩ = some (.int .i64 x) := cl
                  have cc4 : (wr.drewN nq).cell? ⟨g, i, none⟩ = some (.int .i64 ci) := cc
                  have kl4 : (wr.drewN nq).cell? ⟨b, off + k, none⟩ = some (.int .i64 y) := ckl
                  have kc4 : (wr.drewN nq).cell? ⟨g, k, none⟩ = some (.int .i64 ck) := ckc
                  have HM4 : Hid (Dr w2 (wr.drewN nq)) := HM.out.more nq
                  clear cl cc ckl ckc HM
                  generalize wr.drewN nq = W4 at *
                  clear wr
                  go_wp2_with fail
                  go_quiet (fail)
                  have HM3 := HM4.out.more nq
                  have HM3 : Hid (Dr w2 (W4.drewN nq)) := HM3
                  go_wp2_with fail
                  exact ⟨⟨k + 1, by omega, by go_num, HM3.out⟩, by simp [intOf]; omega⟩
          · obtain rfl : k = n := by omega
            clear hm
            go_wp2_with fail
            exact ⟨⟨i + 1, by omega, by go_num, HM.out⟩, by simp [intOf]; omega⟩
    · have hBf : Below w.heap.size w wr := HB.out.trans (hm.below.mono HB.out.size)
      clear hm
      go_wp2_with fail
      go_ret
      exact ⟨rfl, hBf⟩

end Go.Proofs.Ytjipohcacimkmaa
