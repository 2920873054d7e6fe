/- DeltaSteps. -/
import Derived.Test.YthaibdflehnbbaaXPrint
import Derived.Test.YthaibdflehnbbaaXSame
import Derived.Test.YthaibdflehnbbaaWKnown
namespace Go.Proofs.Ythaibdflehnbbaa
open Go.RowKit

set_option maxRecDepth 100000 in
set_option maxHeartbeats 1000000 in
theorem of_any (ao : Option Addr) (n c : Nat) (ms : List MO) (l : List Op) (w : World) (h : Os w ao n ms l) (hn : n ≤ 1000000) :
    Calls Try.prog 19 #[.slice ao n c] w fun e w' => ∃ v, e = .returned v ∧ OwO w' 53 w.heap.size v n ms l ∧ Below w.heap.size w w' := by
  obtain ⟨i0, hi0, hz0, hz1, hz2⟩ := info_parts Try.info53
  have hlen := h.len
  have hlenx := h.lenx
  have HT : Hid (Os w ao n ms l) := h
  have H0 : Hid (OwO w 53 w.heap.size (.slice none 0 0) 0 (ms.take 0) (l.take 0)) := OwO.nil _ _ _
  clear h
  go_enter Try.func19, Try.ntmps19
  go_wp2_with fail
  go_loopw [3, 4] (fun lv iv wr => ∃ k : Nat, k ≤ n ∧ iv = .int .i64 k ∧ Hid (OwO wr 53 w.heap.size lv k (ms.take k) (l.take k)) ∧ Hid (Below w.heap.size w wr)) (fun _ iv _ => n - (intOf iv).toNat)
  case atStart => exact ⟨0, by omega, rfl, H0, Below.refl _ _⟩
  case round =>
    clear H0
    obtain ⟨k, hk, rfl, hO, hB⟩ := hrel
    by_cases hlt : k < n
    · have ho := HT.out.keep hB.out
      obtain ⟨b, off, rfl, h0, h1, h2, h3⟩ := ho.cells k hlt
      have his := HT.out.is k hlt
      have HE : Hid (ms.take (k + 1) = ms.take k ++ [ms.getD k mz] ∧ l.take (k + 1) = l.take k ++ [l.getD k oz]) := ⟨take_snoc ms mz k (by omega), take_snoc l oz k (by omega)⟩
      clear ho
      generalize ms.getD k mz = x at *
      generalize l.getD k oz = o at *
      have HIS : Hid (OpIs w x o) := his
      have hszw : w.heap.size ≤ wr.heap.size := hB.out.size
      clear his
      obtain ⟨xc, xf, xn, xa, xm, xk⟩ := x
      simp only at h0 h1 h2 h3
      go_wp2_with (first
        | (at_builtin; refine wpList_append_lies _ rfl _ _ 32 rfl w.heap.size 53 i0 (.agg #[.bool false, .int .i64 0, .int .i64 0, .slice none 0 0]) 4 48 Try.underlying32 hi0 hz0 hz1 hz2 rfl (by decide) u3 k _ rfl (hO.out.own.alloc _) ⟨wr.heap.size, 0, none⟩ 1 1 (oc ⟨xc, xf, xn, xa, xm, xk⟩) rfl rfl (cell_four_new _ _ _ _ _ _) (oc_oneCell _) (by omega) (by unfold maxLen; omega) (by omega) (by simp; omega) (wr.heap.size + 1) (by simp) ?_; intro g5 c5 w5 o5 gr5 l5 s5))
      have O5 := (hO.out.keep (new_below wr _)).push (x := ⟨xc, xf, xn, xa, xm, xk⟩) (o := o) ((HIS.out.keep hB.out).keep (new_below wr _)) (fun q hq ad e hm e2 => by have := HIS.out.rd.blk ad e hm; have := (hO.out.own.lt q hq).1; omega) o5 gr5 l5 (by simp)
      have B5 : Hid (Below w.heap.size w w5) := (hB.out.alloc hB.out.size _).grown gr5 (by simp; omega) (fun q hq => (hO.out.own.lt q hq).1)
      rw [← HE.out.1, ← HE.out.2] at O5
      have HN : Hid (OwO w5 53 w.heap.size (.slice (some ⟨g5, 0, none⟩) (k + 1) c5) (k + 1) (ms.take (k + 1)) (l.take (k + 1))) := O5
      clear O5 o5 gr5 l5 s5 hO hB
      go_wp2
      go_roundw
      case rel => exact ⟨k + 1, by omega, by go_num, HN, B5⟩
      case measure => simp [intOf]; omega
    · obtain rfl : k = n := by omega
      have e1 : l.take k = l := by rw [← hlen, List.take_length]
      have e2 : ms.take k = ms := by rw [← hlenx, List.take_length]
      rw [e1, e2] at hO
      clear e1 e2
      go_wp2
      go_ret
      exact ⟨_, rfl, hO.out, hB.out⟩

theorem steps_skip (base out : Int) (a : Option Addr) (n c : Nat) (w : World) (h : 60 < n) :
    Calls Try.prog 4 #[.int .i64 base, .int .i64 out, .slice a n c] w fun e w' => e = .returned (.bool true) ∧ Below w.heap.size w w' := by
  have z : (60 : Int) < n := by omega
  go_enter Try.func4, Try.ntmps4
  go_wp2_with (first | (go_at_call 9; refine (known_any w).mono ?_; rintro e w1 ⟨rfl, hB⟩))
  go_ret
  exact ⟨rfl, hB⟩

set_option maxRecDepth 100000 in
set_option maxHeartbeats 2000000 in
theorem steps_go (base out : Int) (a : Option Addr) (n c : Nat) (ms : List MO) (l : List Op) (w : World) (h : Os w a n ms l) (hn : n ≤ 60) (hb1 : base ≤ 9223372036854775807) (ho1 : out ≤ 9223372036854775807) :
    Calls Try.prog 4 #[.int .i64 base, .int .i64 out, .slice a n c] w fun e w' => e = .returned (.bool true) ∧ Below w.heap.size w w' := by
  have z1 : decide ((60 : Int) < (n : Int)) = false := decide_eq_false (by omega)
  have hlen := h.len
  have HT : Hid (Os w a n ms l) := h
  clear h
  go_enter Try.func4, Try.ntmps4
  go_wp2_with fail
  refine (known_any w).mono ?_
  rintro e w1 ⟨rfl, B1⟩
  have HB1 : Hid (Below w.heap.size w w1) := B1
  clear B1
  go_wp2_with fail
  go_loopw [7] (fun iv wr => ∃ k : Nat, k ≤ n ∧ iv = .int .i64 k ∧ wr = w1) (fun iv _ => n - (intOf iv).toNat)
  case atStart => exact ⟨0, by omega, rfl, rfl⟩
  case round =>
    obtain ⟨k, hk, rfl, rfl⟩ := hrel
    by_cases hlt : k < n
    · have ho := HT.out.keep HB1.out
      obtain ⟨b, off, rfl, h0, h1, h2, h3⟩ := ho.cells k hlt
      clear ho h0 h1 h2
      generalize ms.getD k mz = x at *
      obtain ⟨xc, xf, xn, xa, xm, xk⟩ := x
      simp only at h3
      by_cases hm : 300 < xm
      · have z : (300 : Int) < xm := by omega
        go_wp2
        go_ret
        exact ⟨rfl, HB1.out⟩
      · have z : decide ((300 : Int) < (xm : Int)) = false := decide_eq_false (by omega)
        go_wp2
        go_roundw
        case rel => exact ⟨k + 1, by omega, by go_num, by first | rfl | trivial⟩
        case measure => simp [intOf]; omega
    · have zk : decide ((k : Int) < (n : Int)) = false := decide_eq_false (by omega)
      have t1 := HT.out.keep HB1.out
      have i1 := Print_any base out a n c ms l wr t1 (by omega) hb1 ho1
      by_cases hall : 0 ≤ base ∧ 0 ≤ out ∧ ∀ o ∈ l, okp o
      · have hp := pnt_yes hall.1 hall.2.1 hall.2.2
        have hpb : ∀ x ∈ prt base out l, 0 ≤ x ∧ x < 256 := prt_byt base out l hall.1 hall.2.1 hall.2.2 (fun o ho x hx => by
          obtain ⟨j, hj, rfl⟩ := List.getElem_of_mem ho
          have := (HT.out.is j (by omega)).rd.byt x
          simp [List.getD, List.getElem?_eq_getElem hj] at this
          exact this hx)
        have hdl : (prt base out l).length ≤ 1000000 := by
          have h1 := sz_len_le 9 base
          have h2 := sz_len_le 9 out
          have h3 := prn_len l hall.2.2
          unfold prt
          simp only [List.length_append]
          omega
        have hps := prs_prt base out l hall.1 hb1 hall.2.1 ho1 hall.2.2
        rw [hp] at i1
        go_wp2_with fail
        refine i1.mono ?_
        rintro e w2 ⟨v2, rfl, o2, g2⟩
        obtain ⟨da, dc, rfl, rd2, _⟩ := own_rd o2 hpb
        have B2 := HB1.out.trans (g2.mono HB1.out.size)
        have i2 := of_any a n c ms l w2 (HT.out.keep B2) (by omega)
        clear i1 o2 t1
        go_wp2_with fail
        refine i2.mono ?_
        rintro e w3 ⟨v3, rfl, o3, g3⟩
        have B3 := B2.trans (g3.mono B2.size)
        obtain ⟨la, lc, rfl, _, os3, _⟩ := o3.os
        have i3 := rPrint_any base out la n lc ms l w3 os3 (by omega) hb1 ho1
        rw [hp] at i3
        have rd3 := rd2.keep g3
        clear i2 o3 rd2
        go_wp2_with fail
        refine i3.mono ?_
        rintro e w4 ⟨v4, rfl, o4, g4⟩
        have B4 := B3.trans (g4.mono B3.size)
        obtain ⟨ea, ec, rfl, rd4, _⟩ := own_rd o4 hpb
        have rd3' := rd3.keep g4
        have sx := rd3'.str
        have sy := rd4.str
        have i5 := Parse_any da _ dc _ w4 rd3' hdl
        rw [hps] at i5
        obtain ⟨dn, hdn⟩ : ∃ dn, dn = (prt base out l).length := ⟨_, rfl⟩
        simp only [← hdn] at i5 sx sy ⊢
        clear i3 o4 rd3 rd4 rd3' os3 hdl hdn hp
        go_wp2_with fail
        refine i5.mono ?_
        rintro e w5 ⟨v5, m5, ms5, rfl, o5, g5⟩
        have B5 := B4.trans (g5.mono B4.size)
        obtain ⟨pa, pc, rfl, _, os5, _⟩ := o5.os
        obtain rfl : m5 = n := by rw [← os5.len, hlen]
        have i6 := of_any a m5 c ms l w5 (HT.out.keep B5) (by omega)
        clear i5 o5 sx sy
        go_wp2_with (first
          | (go_at_call 19; refine i6.mono ?_; rintro e w6 ⟨v6, rfl, o6, g6⟩; obtain ⟨qa, qc, rfl, _, os6, _⟩ := o6.os; have hsame := same_yes pa m5 pc ms5 qa qc ms _ w6 (os5.keep g6) os6 (by omega); have B6 := B5.trans (g6.mono B5.size))
          | (go_at_call 16; refine hsame.mono ?_; rintro e w7 ⟨rfl, g7⟩))
        go_ret
        exact ⟨rfl, B6.trans (g7.mono B6.size)⟩
      · have hp := pnt_no hall
        rw [hp] at i1
        simp only [List.length_nil] at i1
        go_wp2_with fail
        refine i1.mono ?_
        rintro e w2 ⟨v2, rfl, o2, g2⟩
        obtain ⟨da, dc, rfl, rd2, _⟩ := own_rd o2 (fun x hx => by cases hx)
        have B2 := HB1.out.trans (g2.mono HB1.out.size)
        have i2 := of_any a n c ms l w2 (HT.out.keep B2) (by omega)
        clear i1 o2 t1
        go_wp2_with fail
        refine i2.mono ?_
        rintro e w3 ⟨v3, rfl, o3, g3⟩
        have B3 := B2.trans (g3.mono B2.size)
        obtain ⟨la, lc, rfl, _, os3, _⟩ := o3.os
        have i3 := rPrint_any base out la n lc ms l w3 os3 (by omega) hb1 ho1
        rw [hp] at i3
        simp only [List.length_nil] at i3
        have rd3 := rd2.keep g3
        clear i2 o3 rd2
        go_wp2_with fail
        refine i3.mono ?_
        rintro e w4 ⟨v4, rfl, o4, g4⟩
        have B4 := B3.trans (g4.mono B3.size)
        obtain ⟨ea, ec, rfl, rd4, _⟩ := own_rd o4 (fun x hx => by cases hx)
        have sx := (rd3.keep g4).str
        have sy := rd4.str
        clear i3 o4 rd3 rd4 os3 hp
        go_wp2
        go_ret
        exact ⟨rfl, B4⟩

end Go.Proofs.Ythaibdflehnbbaa
