/- The document's Apply. -/
import Derived.Test.YthaibdflehnbbaaXPars
namespace Go.Proofs.Ythaibdflehnbbaa
open Go.RowKit

theorem wins_not (B : Nat) (l : List Op) (o : Op) (ho : o ∈ l) (h : ¬ win B o) : ¬ wins B l := fun hw => h (hw o ho)

theorem tot_over (l : List Op) (k : Nat) (h : ∀ o ∈ l, okr o) (v : Int) (hv : v < tot (l.take k)) : ¬ tot l = v := by
  have := tot_le l k h
  omega

theorem prs_nn (d : List Int) (hb : ∀ x ∈ d, 0 ≤ x ∧ x < 256) : 0 ≤ (prs d).2.1 ∧ (prs d).2.1 ≤ 9223372036854775807 := by
  have h := szs_ok d hb
  unfold prs
  split
  · simp
  · split
    · simp
    · exact ⟨h.2.2.2.1, h.2.2.2.2⟩

/-- The way of Apply. -/
structure Ra (w1 wr : World) (bs : List Int) (l : List Op) (N : Nat) (v : Value) (m k : Nat) (o : Int) : Prop where
  own : wr.ownsRow w1.heap.size 5 1 v m ((mks bs (l.take k)).map (Value.int .u8))
  bel : Below w1.heap.size w1 wr
  win : wins N (l.take k)
  tot : tot (l.take k) = m
  le : (m : Int) ≤ o

set_option maxRecDepth 100000 in
set_option maxHeartbeats 2000000 in
theorem rApply_any (bo : Option Addr) (N C : Nat) (bs : List Int) (ao : Option Addr) (n c : Nat) (d : List Int) (most : Int) (w : World) (hb : Rd w bo N C bs) (h : Rd w ao n c d) (hN : N ≤ 1000000) (hn : n ≤ 1000000) (hm : most ≤ 1000000000) :
    Calls Try.prog 15 #[.slice bo N C, .slice ao n c, .int .i64 most] w fun e w' => ∃ v, e = .returned (.tuple #[v, .int .i64 (apy bs d most).2]) ∧ w'.ownsRow w.heap.size 5 1 v (apy bs d most).1.length ((apy bs d most).1.map (Value.int .u8)) ∧ Below w.heap.size w w' := by
  have h1 := rparse_any ao n c d w h hn
  have hbl := hb.len
  have hok := prs_ok d h.byt
  have hnn := (prs_nn d h.byt).1
  have hdl := h.len
  have a1 := apy_bad bs d most
  have a2 := apy_len bs d most
  have a3 := apy_long bs d most
  have a4 := apy_no bs d most
  have a5 := apy_yes bs d most
  have HB : Hid (Rd w bo N C bs) := hb
  clear hb h
  generalize apy bs d most = A at *
  generalize prs d = s at *
  obtain ⟨v1, v2, l, er⟩ := s
  simp only at h1 hok a1 a2 a3 a4 a5 hnn
  rw [hbl] at a2 a3 a4 a5
  have HK : Hid (∀ o ∈ l, okr o) := hok.1
  have HL : Hid (l.length ≤ n) := by rw [← hdl]; exact hok.2
  clear hok
  by_cases he : er = 0
  · subst he
    by_cases hv : v1 = N
    · subst hv
      by_cases hmo : most < v2
      · have HA : Hid (A = ([], 5)) := a3 rfl rfl hmo
        clear a1 a2 a3 a4 a5
        go_enter Try.func15, Try.ntmps15
        go_wp2_with (first
          | (go_at_call 13; refine h1.mono ?_; rintro e w1 ⟨v, m, ms, rfl, hO, hB⟩))
        go_ret2
        rw [HA.out]
        exact ⟨_, rfl, nil_own _ _, hB⟩
      · have A4 : Hid (¬ (wins N l ∧ tot l = v2) → A = ([], 2)) := a4 rfl rfl hmo
        have A5 : Hid (wins N l → tot l = v2 → A = (mks bs l, 0)) := a5 rfl rfl hmo
        clear a1 a2 a3 a4 a5
        go_enter Try.func15, Try.ntmps15
        go_wp2_with fail
        refine h1.mono ?_
        rintro e w1 ⟨v, M, ms, rfl, hO, hB⟩
        obtain ⟨la, lc, rfl, hlc, hOs, _⟩ := hO.os
        have hml : M ≤ 1000000 := by have := hOs.len; have := HL.out; omega
        have HOS : Hid (Os w1 la M ms l) := hOs
        have hll := hOs.len
        have HBW : Hid (Below w.heap.size w w1) := hB
        have RB : Hid (Rd w1 bo N C bs) := HB.out.keep hB
        clear h1 hO hOs hB hlc
        go_wp2_with fail
        have H0 : Hid (Ra w1 w1 bs l N (.slice none 0 0) 0 0 v2) := ⟨by simpa [mks] using nil_own w1 w1.heap.size, Below.refl _ _, (fun o ho => by simp at ho), rfl, by omega⟩
        go_loopw [12, 13] (fun ov iv wr => ∃ k m : Nat, k ≤ M ∧ iv = .int .i64 k ∧ Hid (Ra w1 wr bs l N ov m k v2)) (fun _ iv _ => M - (intOf iv).toNat)
        case atStart => exact ⟨0, 0, by omega, rfl, H0⟩
        case round =>
          clear H0
          obtain ⟨k, m, hkM, rfl, HY⟩ := hrel
          have hmo2 := HY.out.le
          have hbytk : ∀ x ∈ mks bs (l.take k), 0 ≤ x ∧ x < 256 := mks_byt bs HB.out.byt _ (fun o ho => HK.out o (List.mem_of_mem_take ho))
          obtain ⟨oa, oc, eo, hro, _⟩ := own_rd HY.out.own hbytk
          subst eo
          clear hbytk hro
          by_cases hlt : k < M
          · have zk : (k : Int) < M := by omega
            have ho := HOS.out.keep HY.out.bel
            have hmem := HK.out _ (HOS.out.at k hlt)
            have HMEM : Hid (l.getD k oz ∈ l) := HOS.out.at k hlt
            obtain ⟨b, off, rfl, h0, h1, h2, h3⟩ := ho.cells k hlt
            have his := ho.is k hlt
            have HE : Hid (mks bs (l.take (k + 1)) = mks bs (l.take k) ++ mk1 bs (l.getD k oz)) := mks_take bs l k (by omega)
            have HT : Hid (tot (l.take (k + 1)) = tot (l.take k) + osz (l.getD k oz)) := tot_take l k (by omega)
            have HW : Hid (wins N (l.take (k + 1)) ↔ wins N (l.take k) ∧ win N (l.getD k oz)) := wins_take N l k (by omega)
            have rb := RB.out.keep HY.out.bel
            clear ho
            generalize ms.getD k mz = x at *
            generalize l.getD k oz = o at *
            obtain ⟨e1, e2, e3, hrd⟩ := his
            have hp := hmem.pos
            have hsz := hmem.size
            obtain ⟨xc, xf, xn, xa, xm, xk⟩ := x
            obtain ⟨oc', of, on, od⟩ := o
            simp only at e1 e2 e3 h0 h1 h2 h3 hp hrd
            subst e1 e2 e3
            have hp0 := hp.1
            have hp1 := hp.2.1
            have hp2 := hp.2.2.1
            have hp3 := hp.2.2.2.1
            obtain ⟨F, rfl⟩ : ∃ F : Nat, xf = F := ⟨xf.toNat, by omega⟩
            obtain ⟨Q, rfl⟩ : ∃ Q : Nat, xn = Q := ⟨xn.toNat, by omega⟩
            cases xc with
            | true =>
              have hosz : osz ⟨true, (F : Int), (Q : Int), od⟩ = Q := by
                have := (hmem.c0 rfl).2.2.2.2
                unfold osz
                simp only at this ⊢
                rw [this]
                simp
              have HMK : Hid (mk1 bs ⟨true, (F : Int), (Q : Int), od⟩ = (bs.drop F).take Q) := by show (bs.drop (F : Int).toNat).take (Q : Int).toNat = _; simp
              have BB : Hid (Below w.heap.size w wr) := HBW.out.trans (HY.out.bel.mono HBW.out.size)
              have BD : Hid (Below w.heap.size w wr.drew) := BB.out.trans ((drew_keep wr).mono BB.out.size)
              have hF32 : F < 4294967296 := by omega
              by_cases hF : N < F
              · have zF : (N : Int) < F := by omega
                have HA : Hid (A = ([], 2)) := A4.out (fun h => wins_not N l _ HMEM.out (fun hw => by have : (F : Int) + Q ≤ N := hw rfl; omega) h.1)
                clear HE HT HW HY hrd rb hmem HMEM
                go_wp2
                go_region
                go_wp2
                go_ret2
                rw [HA.out]
                exact ⟨_, rfl, nil_own _ _, BD.out⟩
              · have zF : (F : Int) ≤ N := by omega
                have zF2 : decide ((N : Int) < (F : Int)) = false := decide_eq_false (by omega)
                by_cases hQ : N - F < Q
                · have zQ : (N : Int) - F < Q := by omega
                  have HA : Hid (A = ([], 2)) := A4.out (fun h => wins_not N l _ HMEM.out (fun hw => by have : (F : Int) + Q ≤ N := hw rfl; omega) h.1)
                  clear HE HT HW HY hrd rb hmem HMEM
                  go_wp2
                  go_region
                  go_wp2
                  go_ret2
                  rw [HA.out]
                  exact ⟨_, rfl, nil_own _ _, BD.out⟩
                · have zQ : (Q : Int) ≤ N - F := by omega
                  have zQ2 : decide ((N : Int) - (F : Int) < (Q : Int)) = false := decide_eq_false (by omega)
                  have hFQ : F + Q ≤ N := by omega
                  have rbd := rb.keep (drew_keep wr)
                  have HRBD : Hid (Rd wr.drew bo N C bs) := rbd
                  have HRBD2 : Hid (Rd wr.drew.drew bo N C bs) := rbd.keep (drew_keep wr.drew)
                  have hQ1 : 1 ≤ Q := by have := (hmem.c0 rfl).2.2.1; simp only at this; omega
                  obtain ⟨bb, bf, ebo, _⟩ := rbd.plain (by omega)
                  have hNC : N ≤ C := rbd.le
                  have hCF : ¬ C = F := by omega
                  have hFC : F ≤ C := by omega
                  have hFQC : F + Q ≤ C := by omega
                  have zFQ : (F : Int) + Q ≤ C := by omega
                  have eFQ : F + Q - F = Q := by omega
                  have hsub := rbd.sub F Q hFQ
                  rw [if_neg hCF, ebo, Option.map_some, Addr.add_lit] at hsub
                  have hsub2 := hsub.keep (drew_keep wr.drew)
                  have BDD : Hid (Below w.heap.size w wr.drew.drew) := BD.out.trans ((drew_keep wr.drew).mono BD.out.size)
                  subst ebo
                  by_cases hov : v2 - m < Q
                  · have HA : Hid (A = ([], 2)) := A4.out (fun h => tot_over l (k + 1) HK.out v2 (by rw [HT.out, HY.out.tot, hosz]; omega) h.2)
                    clear HE HT HW HY hrd rb hmem HMEM rbd hsub hsub2 HRBD HRBD2
                    go_wp2
                    go_region
                    go_wp2
                    go_region
                    go_wp2
                    go_ret2
                    rw [HA.out]
                    exact ⟨_, rfl, nil_own _ _, BDD.out⟩
                  · have hov2 : decide (v2 - (m : Int) < (Q : Int)) = false := decide_eq_false hov
                    have HSZ : w1.heap.size ≤ wr.heap.size := HY.out.bel.size
                    have OW := own_keep (own_keep HY.out.own (drew_keep wr)) (drew_keep wr.drew)
                    have HSUB : Hid (Rd wr.drew.drew (some ⟨bb, bf + F, none⟩) Q (C - F) ((bs.drop F).take Q)) := hsub2
                    have HTK : Hid (tot (l.take (k + 1)) = ((m + Q : Nat) : Int)) := by show _ = _; rw [HT.out, HY.out.tot, hosz]; omega
                    have HWK : Hid (wins N (l.take (k + 1))) := HW.out.2 ⟨HY.out.win, fun _ => by show (F : Int) + Q ≤ N; omega⟩
                    have HOWB : Hid (∀ q, (Value.slice oa m oc).ownBlock = some q → w1.heap.size ≤ q) := fun q hq => (HY.out.own.lt q hq).1
                    have HBB : Hid (Below w1.heap.size w1 wr.drew.drew) := (HY.out.bel.drew).drew
                    clear HT HW HY hrd rb hmem HMEM rbd hsub hsub2 HRBD HRBD2
                    go_wp2
                    go_region
                    go_wp2
                    go_region
                    rw [eFQ]
                    go_wp2_with (first
                      | (at_builtin; refine wpList_append_v rfl _ _ rfl w1.heap.size m (.slice oa m oc) _ rfl OW _ Q (C - F) _ rfl HSUB.out (by omega) HSZ ?_; intro v5 w5 o5 gr5))
                    have B5 : Below w1.heap.size w1 w5 := HBB.out.grown gr5 HBB.out.size HOWB.out
                    have HN : Hid (Ra w1 w5 bs l N v5 (m + Q) (k + 1) v2) := ⟨by rw [HE.out, HMK.out]; exact o5, B5, HWK.out, HTK.out, by omega⟩
                    clear o5 gr5 B5 OW
                    go_roundw
                    case rel => exact ⟨k + 1, m + Q, by omega, by go_num, HN⟩
                    case measure => simp [intOf]; omega
            | false =>
              have hod : od.length = xm := hrd.len
              have hosz : osz ⟨false, (F : Int), (Q : Int), od⟩ = xm := by
                have := (hmem.c1 rfl).2.1
                unfold osz
                simp only at this ⊢
                omega
              have HMK : Hid (mk1 bs ⟨false, (F : Int), (Q : Int), od⟩ = od) := rfl
              have hxm : xm ≤ 127 := by omega
              by_cases hov : v2 - m < xm
              · have HA : Hid (A = ([], 2)) := A4.out (fun h => tot_over l (k + 1) HK.out v2 (by rw [HT.out, HY.out.tot, hosz]; omega) h.2)
                have BB : Hid (Below w.heap.size w wr) := HBW.out.trans (HY.out.bel.mono HBW.out.size)
                clear HE HT HW HY hrd rb hmem
                go_wp2
                go_ret2
                rw [HA.out]
                exact ⟨_, rfl, nil_own _ _, BB.out⟩
              · have hov2 : decide (v2 - (m : Int) < (xm : Int)) = false := decide_eq_false hov
                have OW := HY.out.own
                have HSZ : w1.heap.size ≤ wr.heap.size := HY.out.bel.size
                have HRD : Hid (Rd wr xa xm xk od) := hrd
                have HTK : Hid (tot (l.take (k + 1)) = ((m + xm : Nat) : Int)) := by show _ = _; rw [HT.out, HY.out.tot, hosz]; omega
                have HWK : Hid (wins N (l.take (k + 1))) := HW.out.2 ⟨HY.out.win, fun e => by cases e⟩
                have HOWB : Hid (∀ q, (Value.slice oa m oc).ownBlock = some q → w1.heap.size ≤ q) := fun q hq => (HY.out.own.lt q hq).1
                have HBB : Hid (Below w1.heap.size w1 wr) := HY.out.bel
                clear HT HW HY hrd rb hmem
                go_wp2_with (first
                  | (at_builtin; refine wpList_append_v rfl _ _ rfl w1.heap.size m (.slice oa m oc) _ rfl OW xa xm xk od rfl HRD.out (by omega) HSZ ?_; intro v5 w5 o5 gr5))
                have B5 : Below w1.heap.size w1 w5 := HBB.out.grown gr5 HBB.out.size HOWB.out
                have HN : Hid (Ra w1 w5 bs l N v5 (m + xm) (k + 1) v2) := ⟨by rw [HE.out, HMK.out]; exact o5, B5, HWK.out, HTK.out, by omega⟩
                clear o5 gr5 B5 OW
                go_roundw
                case rel => exact ⟨k + 1, m + xm, by omega, by go_num, HN⟩
                case measure => simp [intOf]; omega
          · obtain rfl : k = M := by omega
            have etk : l.take k = l := by rw [← hll, List.take_length]
            have hmt := HY.out.tot
            have hw := HY.out.win
            have OW := HY.out.own
            rw [etk] at hmt hw OW
            have BB : Hid (Below w.heap.size w wr) := HBW.out.trans (HY.out.bel.mono HBW.out.size)
            have OWW : Hid (wr.ownsRow w.heap.size 5 1 (.slice oa m oc) m ((mks bs l).map (Value.int .u8))) := own_low OW HBW.out.size
            by_cases hme : (m : Int) = v2
            · have HA : Hid (A = (mks bs l, 0)) := A5.out hw (by omega)
              have qm : ((m : Int) != v2) = false := by simp [hme]
              have HLN : Hid ((mks bs l).length = m) := by have := OW.1; show _ = _; simpa using this
              clear HY OW
              go_wp2
              go_ret2
              rw [HA.out]
              refine ⟨_, rfl, ?_, BB.out⟩
              show World.ownsRow _ _ _ _ _ _ _
              rw [HLN.out]
              exact OWW.out
            · have HA : Hid (A = ([], 2)) := A4.out (fun h => hme (by omega))
              have qm : ((m : Int) != v2) = true := by simp [hme]
              clear HY OW
              go_wp2
              go_ret2
              rw [HA.out]
              exact ⟨_, rfl, nil_own _ _, BB.out⟩
    · have HA : Hid (A = ([], 2)) := a2 rfl hv
      have q1 : (v1 != (N : Int)) = true := by simp [hv]
      clear a1 a2 a3 a4 a5
      go_enter Try.func15, Try.ntmps15
      go_wp2_with (first
        | (go_at_call 13; refine h1.mono ?_; rintro e w1 ⟨v, m, ms, rfl, hO, hB⟩))
      go_ret2
      rw [HA.out]
      exact ⟨_, rfl, nil_own _ _, hB⟩
  · have HA : Hid (A = ([], er)) := a1 he
    have q1 : (er != 0) = true := by simp [he]
    clear a1 a2 a3 a4 a5
    go_enter Try.func15, Try.ntmps15
    go_wp2_with (first
      | (go_at_call 13; refine h1.mono ?_; rintro e w1 ⟨v, m, ms, rfl, hO, hB⟩))
    go_ret2
    rw [HA.out]
    exact ⟨_, rfl, nil_own _ _, hB⟩

end Go.Proofs.Ythaibdflehnbbaa
