/- XCod: the document's own functions, walked. -/
import Derived.Test.YtiahbicodlgmhaaGreatDoorM40
import Derived.Test.YtiahbicodlgmhaaGreatDoorM39
import Derived.Test.YtiahbicodlgmhaaGreatDoorM08
/- The document's coded: literals and copies, by any two codes. -/
namespace Go.Proofs.YtiahbicodlgmhaaGreatDoor.D
open Go.RowKit

/-- What is left to be read. -/
structure Sg (L : Nat → Int) (mA : Nat) (Dd : Nat → Int) (mD : Nat) (B S R n : Nat) (X : Int) (m : Nat) (w : World) (G : List Int) (P : Nat) (gk : Nat) (wr : World) (l : List It) (p : Nat) (os : List Int) : Prop where
  len : l.length = gk
  st : Stm wr B S R n X p os m
  lay : Lay X n p (encsG L mA Dd mD l ++ [gf L mA 256])
  ok : ∀ i ∈ l, i.okG L mA Dd mD
  pl : play m l os = (0, G)
  pp : p + fb (encsG L mA Dd mD l) + (L 256).toNat = P
  ol : os.length ≤ m
  sw : Sw B w wr

set_option maxRecDepth 100000 in
set_option maxHeartbeats 4000000 in
theorem rcoded_g (L : Nat → Int) (mA : Nat) (Dd : Nat → Int) (mD : Nat) (hnA : nw L mA true = 0) (hnD : nw Dd mD true = 0) (hfA : Fits L mA) (hfD : Fits Dd mD) (hE : 256 < mA ∧ 0 < L 256 ∧ L 256 ≤ 15) (B S R n : Nat) (X : Int) (p : Nat) (os : List Int) (m : Nat) (la : Option Addr) (lc : Nat) (da : Option Addr) (dc : Nat) (l : List It) (w : World) (h : Stm w B S R n X p os m) (hA : Ri w la mA lc L) (hD : Ri w da mD dc Dd) (hok : ∀ i ∈ l, i.okG L mA Dd mD) (hl : Lay X n p (encsG L mA Dd mD l ++ [gf L mA 256])) (hm : m ≤ 1000000) (hL : os.length ≤ m) (G : List Int) (hG : play m l os = (0, G)) (P : Nat) (hP : p + fb (encsG L mA Dd mD l) + (L 256).toNat = P) :
    Calls Tryz.prog 52 #[.pointer (some ⟨S, 0, none⟩), .slice la mA lc, .slice da mD dc] w fun e w' => e = .returned (.tuple #[]) ∧ Stm w' B S R n X P G m ∧ Sw B w w' := by
  have k3 := h.c3
  obtain ⟨lb', loff, rfl, hcell⟩ := hA.plain (by omega)
  have hc256 := hcell 256 hE.1
  have z0 : (L 256 == 0) = false := by have := hE.2.1; simp; omega
  have z1 : (256 : Int) < mA := by have := hE.1; omega
  have z2 := hE.1
  obtain ⟨x256, hx256⟩ : ∃ x, x = L 256 := ⟨_, rfl⟩
  rw [← hx256] at hc256 z0
  have HE : Hid (256 < mA ∧ 0 < L 256 ∧ L 256 ≤ 15) := hE
  have HLY : Hid (Lay X n p (encsG L mA Dd mD l ++ [gf L mA 256])) := hl
  have HOK : Hid (∀ i ∈ l, i.okG L mA Dd mD) := hok
  have HG : Hid (play m l os = (0, G)) := hG
  have HP : Hid (p + fb (encsG L mA Dd mD l) + (L 256).toNat = P) := hP
  have HOL : Hid (os.length ≤ m) := hL
  clear hcell hx256 hE hl hok hG hP hL
  go_enter Tryz.func52, Tryz.ntmps52
  go_wp2_with fail
  refine (xnew_xc (some ⟨lb', loff, none⟩) mA lc L true w hA hnA).mono ?_
  rintro e w1 ⟨a, rfl, c1, b1⟩
  have hD1 := hD.keep b1
  have h1 := h.keep b1
  have s1 := Sw.keep h.bB b1
  clear h hA hD b1 k3 hc256 z0
  go_wp2_with fail
  refine (xnew_xc da mD dc Dd true w1 hD1 hnD).mono ?_
  rintro e w2 ⟨d, rfl, c2, b2⟩
  have h2 := h1.keep b2
  have HA : Hid (Xc w2 a L mA) := c1.kt (Kt.ofBelow b2)
  have HD : Hid (Xc w2 d Dd mD) := c2
  have HS2 : Hid (Sw B w w2) := s1.trans (Sw.keep h1.bB b2)
  have H0 : Hid (Sg L mA Dd mD B S R n X m w2 G P l.length w2 l p os) := ⟨rfl, h2, HLY.out, HOK.out, HG.out, HP.out, HOL.out, Sw.refl _ _⟩
  clear h1 hD1 b2 c1 c2 s1 h2 z1 z2 HLY HOK HG HP HOL
  go_wp2_with fail
  go_loopg [10, 11, 12, 13, 14, 15, 16, 17] l.length (fun gk _ _ _ _ _ _ _ _ wr => ∃ l1 p1 os1, Hid (Sg L mA Dd mD B S R n X m w2 G P gk wr l1 p1 os1))
  case atStart => exact ⟨l, p, os, H0⟩
  case round =>
    obtain ⟨l1, p1, os1, HY⟩ := hrel
    clear H0
    have hst := HY.out.st
    have k3 := hst.c3
    have A1 := HA.out.kt HY.out.sw.kt
    cases l1 with
    | nil =>
      have hlay := HY.out.lay
      simp only [encsG, List.nil_append] at hlay
      obtain ⟨e1, e2, e3, _⟩ := gf_next hlay HE.out.2.1
      have hfin := HY.out.pl
      simp only [play, Prod.mk.injEq] at hfin
      have hpp := HY.out.pp
      simp only [encsG, fb] at hpp
      have hsw := HY.out.sw
      have hn := rsym_any B S R n X p1 os1 m a L mA 256 (L 256).toNat wr hst A1 hfA HE.out.1 e1 (by have := HE.out; omega) (by have := HE.out; omega) e2 e3
      have HN : Hid (os1 = G ∧ p1 + (L 256).toNat = P ∧ Sw B w2 wr) := ⟨hfin.2, by omega, hsw⟩
      clear hlay e1 e2 e3 hfin hpp hsw HY hst A1
      go_wp2_with fail
      refine hn.mono ?_
      rintro e w3 ⟨rfl, h3, f3⟩
      have k3 := h3.c3
      have H3 : Hid (Stm w3 B S R n X P G m) := by
        have := HN.out
        rw [← this.1, ← this.2.1]
        exact h3
      have F3 : Hid (Sw B w w3) := HS2.out.trans (HN.out.2.2.trans f3)
      clear h3 f3 HN hn
      go_wp2_with fail
      exact bodyPost_ret (results_none (by kernel_rfl) _ _ _) rfl ⟨rfl, H3.out, F3.out⟩
    | cons i l2 =>
      cases i with
      | lit b =>
        obtain ⟨hb, hbm, hb0, hb15⟩ : It.okG L mA Dd mD (.lit b) := HY.out.ok (.lit b) (by simp)
        have hlay := HY.out.lay
        simp only [encsG, It.encG, List.cons_append, List.nil_append] at hlay
        obtain ⟨e1, e2, e3, hlay2⟩ := gf_next hlay hb0
        have hn := rsym_any B S R n X p1 os1 m a L mA b (L b).toNat wr hst A1 hfA hbm e1 (by omega) (by omega) e2 e3
        have hpl := HY.out.pl
        have q1 : ((b : Int) == 256) = false := by simp; omega
        have q2 : (b : Int) < 256 := by omega
        have q3 : IntKind.u8.wrap (b : Int) = b := by simp [IntKind.wrap, IntKind.bits, IntKind.signed]; omega
        have HL2 : Hid (Lay X n (p1 + (L b).toNat) (encsG L mA Dd mD l2 ++ [gf L mA 256])) := hlay2
        have hroom : os1.length < m := by
          refine Classical.byContradiction (fun hc => ?_)
          rw [play, if_neg hc, Prod.mk.injEq] at hpl
          omega
        rw [play, if_pos hroom] at hpl
        have HPL : Hid (play m l2 (os1 ++ [(b : Int)]) = (0, G)) := hpl
        have HR : Hid (os1.length < m) := hroom
        clear hlay hlay2 e1 e2 e3 hst A1 hpl hroom
        go_wp2_with fail
        refine hn.mono ?_
        rintro e w3 ⟨rfl, h3, f3⟩
        have k3 := h3.c3
        have hput := rput_yes B S R n X _ b os1 m w3 h3 (by have := HR.out; omega) (by have := HR.out; omega) (by omega) (by omega)
        clear hn h3
        go_wp2_with fail
        refine hput.mono ?_
        rintro e w4 ⟨rfl, h4, f4⟩
        have hs2 : Hid (Sg L mA Dd mD B S R n X m w2 G P l2.length w4 l2 (p1 + (L b).toNat) (os1 ++ [(b : Int)])) := by
          refine ⟨rfl, h4, HL2.out, fun j hj => HY.out.ok j (by simp [hj]), HPL.out, ?_, by have := HR.out; simp; omega, (HY.out.sw.trans f3).trans f4⟩
          have := HY.out.pp
          simp only [encsG, It.encG, fb_app, fb, gf] at this
          omega
        have hgk : Hid (l2.length < gk) := by
          have := HY.out.len
          simp at this
          show l2.length < gk
          omega
        clear k3 h4 f3 f4 HY HPL HL2 hput HR
        go_wp2_with fail
        go_roundg l2.length
        case measure => exact hgk.out
        case rel => exact ⟨l2, _, _, hs2⟩
      | cpy s v t u =>
        obtain ⟨hs0, hs1, hsm, hsl, hsl15, hv, ht, htD, hd0', hd15, hu⟩ : It.okG L mA Dd mD (.cpy s v t u) := HY.out.ok (.cpy s v t u) (by simp)
        have hlay := HY.out.lay
        simp only [encsG, It.encG, List.cons_append, List.nil_append] at hlay
        obtain ⟨e1, e2, e3, hlay2⟩ := gf_next hlay hsl
        have hn := rsym_any B S R n X p1 os1 m a L mA s (L s).toNat wr hst A1 hfA hsm e1 (by omega) (by omega) e2 e3
        have hl3 : Lay X n (p1 + (L s).toNat) ([((v : Int), lx s), gf Dd mD t, ((u : Int), dx t)] ++ (encsG L mA Dd mD l2 ++ [gf L mA 256])) := hlay2
        obtain ⟨g1, r1, hf1⟩ := hl3.front.head
        obtain ⟨g2, r2, hf2⟩ := hf1.head
        obtain ⟨g3, r3, _⟩ := hf2.head
        simp only [gf] at g2 r2 r3 g3
        simp only at g1 r1 r2 g2 g3 r3
        have HL4 : Hid (Lay X n (p1 + (L s).toNat + lx s + (Dd t).toNat + dx t) (encsG L mA Dd mD l2 ++ [gf L mA 256])) := by
          have := hl3.tail
          simp only [fb, gf] at this
          rw [show p1 + (L s).toNat + lx s + (Dd t).toNat + dx t = p1 + (L s).toNat + (lx s + ((Dd t).toNat + (dx t + 0))) by omega]
          exact this
        have hpl := HY.out.pl
        have hfar : ¬ os1.length < db t + u := fun hc => by
          rw [play, if_pos hc, Prod.mk.injEq] at hpl
          omega
        have hfit : os1.length + (lb s + v) ≤ m := by
          refine Classical.byContradiction (fun hc => ?_)
          rw [play, if_neg hfar, if_neg hc, Prod.mk.injEq] at hpl
          omega
        rw [play, if_neg hfar, if_pos hfit] at hpl
        have hgk : Hid (l2.length < gk) := by
          have := HY.out.len
          simp at this
          show l2.length < gk
          omega
        have HPP : Hid (p1 + (L s).toNat + lx s + (Dd t).toNat + dx t + fb (encsG L mA Dd mD l2) + (L 256).toNat = P) := by
          have := HY.out.pp
          simp only [encsG, It.encG, fb_app, fb, gf] at this
          show _ = _
          omega
        have HOK2 : Hid (∀ j ∈ l2, j.okG L mA Dd mD) := fun j hj => HY.out.ok j (by simp [hj])
        have HSW : Hid (Sw B w2 wr) := HY.out.sw
        have bl := lb_le s (by omega) hs0
        have bd := db_le t ht
        have vv : v < 32 := Nat.lt_of_lt_of_le hv (Nat.pow_le_pow_right (by omega) (by omega : lx s ≤ 5))
        have uu : u < 8192 := Nat.lt_of_lt_of_le hu (Nat.pow_le_pow_right (by omega) (by omega : dx t ≤ 13))
        have hlb : lb s ≤ 300 := by omega
        have hdb : db t ≤ 40000 := by omega
        have hlx : lx s ≤ 24 := by omega
        have hdx : dx t ≤ 24 := by omega
        have hl00 : 3 ≤ lb s + v := by omega
        have hd00 : 1 ≤ db t + u := by omega
        obtain ⟨len, hlen⟩ : ∃ len, len = lb s + v := ⟨_, rfl⟩
        obtain ⟨dd, hdd⟩ : ∃ dd, dd = db t + u := ⟨_, rfl⟩
        rw [← hlen, ← hdd] at hpl
        rw [← hlen] at hfit hl00
        rw [← hdd] at hfar hd00
        have HPL : Hid (play m l2 (cps len dd os1) = (0, G)) := hpl
        have hl0 : 3 ≤ len ∧ len ≤ 400 := by omega
        have hd0 : 1 ≤ dd ∧ dd ≤ 50000 := by omega
        have hlc : ((lb s : Nat) : Int) + v = len := by omega
        have hdc : ((db t : Nat) : Int) + u = dd := by omega
        have w1 : IntKind.i64.wrap (len : Int) = len := wraps_i64 _ (by omega) (by omega)
        have w2' : IntKind.i64.wrap (dd : Int) = dd := wraps_i64 _ (by omega) (by omega)
        have q1 : ((s : Int) == 256) = false := by simp; omega
        have q2 : ¬ (s : Int) < 256 := by omega
        have hxl := xlength_yes s
        have hxd := xdistance_yes t
        generalize lb s = lbs at *
        generalize lx s = lxs at *
        generalize db t = dbt at *
        generalize dx t = dxt at *
        have HFR : Hid (¬ os1.length < dd ∧ os1.length + len ≤ m) := ⟨hfar, hfit⟩
        clear hlay hlay2 hl3 e1 e2 e3 hst A1 hpl hf1 hf2 HY bl bd hlen hdd hv hu hl00 hd00 hfar hfit
        go_wp2_with fail
        refine hn.mono ?_
        rintro e w3 ⟨rfl, h3, f3⟩
        have k3 := h3.c3
        clear hn
        go_wp2_with fail
        refine (hxl w3 hs0 hs1).mono ?_
        rintro e w4 ⟨rfl, b4⟩
        have h4 := h3.keep b4
        have f4 : Sw B w2 w4 := (HSW.out.trans f3).trans (Sw.keep h3.bB b4)
        clear h3 f3 b4 k3 HSW hxl
        have hg := rget_any B S R n X _ lxs os1 m w4 h4 hlx r1
        rw [g1] at hg
        go_wp2_with fail
        refine hg.mono ?_
        rintro e w5 ⟨rfl, h5, f5⟩
        have D5 : Xc w5 d Dd mD := HD.out.kt (f4.trans f5).kt
        have hn2 := rsym_any B S R n X _ os1 m d Dd mD t (Dd t).toNat w5 h5 D5 hfD htD (by omega) (by omega) (by omega) r2 g2
        have f45 := f4.trans f5
        clear hg h4 h5 f4 f5 D5
        go_wp2_with fail
        refine hn2.mono ?_
        rintro e w6 ⟨rfl, h6, f6⟩
        clear hn2
        go_wp2_with fail
        refine (hxd w6 ht).mono ?_
        rintro e w7 ⟨rfl, b7⟩
        have h7 := h6.keep b7
        have f7 := (f45.trans f6).trans (Sw.keep h6.bB b7)
        have k3 := h7.c3
        clear h6 f6 f45 b7 hxd
        have hg2 := rget_any B S R n X _ dxt os1 m w7 h7 hdx r3
        rw [g3] at hg2
        go_wp2_with fail
        refine hg2.mono ?_
        rintro e w8 ⟨rfl, h8, f8⟩
        have k3 := h8.c3
        obtain ⟨ya, yc, k1, _⟩ := h8.c1
        have H8 : Hid (Stm w8 B S R n X (p1 + (L s).toNat + lxs + (Dd t).toNat + dxt) os1 m) := h8
        have HF8 : Hid (Sw B w2 w8) := f7.trans f8
        clear hg2 h7 h8 f7 f8
        obtain ⟨ln, hll⟩ : ∃ ln, ln = os1.length := ⟨_, rfl⟩
        have HLL : Hid (ln = os1.length) := hll
        rw [← hll] at k1
        have q5 : ¬ (ln : Int) < dd := by have := HFR.out.1; omega
        have q5m : ¬ ln < dd := by have := HFR.out.1; omega
        have q5n : decide (ln < dd) = false := decide_eq_false q5m
        have q6 : ln + len ≤ m := by have := HFR.out.2; omega
        clear hll g1 g2 g3 r1 r2 r3
        go_wp2_with fail
        go_loopw [17] (fun iv wr => ∃ k : Nat, k ≤ len ∧ iv = .int .i64 k ∧ Hid (Stm wr B S R n X (p1 + (L s).toNat + lxs + (Dd t).toNat + dxt) (cps k dd os1) m) ∧ Hid (Sw B w2 wr)) (fun iv _ => len - (intOf iv).toNat)
        case atStart => exact ⟨0, by omega, rfl, H8, HF8⟩
        case round =>
          obtain ⟨k, hk, rfl, HS, HW⟩ := hrel
          clear H8 HF8 k1 k3
          have k3 := HS.out.c3
          by_cases hlt : k < len
          · obtain ⟨ys, hys⟩ : ∃ ys, ys = cps k dd os1 := ⟨_, rfl⟩
            have hyl : ys.length = ln + k := by rw [hys, cps_len, HLL.out]
            have hcons : cps (k + 1) dd os1 = ys ++ [ys.getD (ys.length - dd) 0] := by rw [hys]; rfl
            have HS' : Stm wr B S R n X (p1 + (L s).toNat + lxs + (Dd t).toNat + dxt) ys m := by rw [hys]; exact HS.out
            obtain ⟨ya, yc, k1, hrd⟩ := HS'.c1
            obtain ⟨g, off, rfl, hcell⟩ := hrd.plain (by omega)
            have hj := hcell (ys.length - dd) (by omega)
            have hxb := hrd.byt (ys.getD (ys.length - dd) 0) (by
              rw [List.getD, List.getElem?_eq_getElem (show ys.length - dd < ys.length by omega)]
              simp)
            obtain ⟨x, hx⟩ : ∃ x, x = ys.getD (ys.length - dd) 0 := ⟨_, rfl⟩
            rw [← hx] at hj hxb hcons
            obtain ⟨N, hN⟩ : ∃ N, N = ys.length := ⟨_, rfl⟩
            rw [← hN] at hj k1 hyl
            obtain ⟨j, hjj⟩ : ∃ j, j = N - dd := ⟨_, rfl⟩
            rw [← hjj] at hj
            have q1 : (N : Int) - dd = j := by omega
            have q2 : IntKind.i64.wrap (j : Int) = j := wraps_i64 _ (by omega) (by omega)
            have q3 : j < N := by omega
            have q4 : (j : Int) < N := by omega
            have q7 : (k : Int) < len := by omega
            have HN : Hid (N = ys.length) := hN
            have HC : Hid (cps (k + 1) dd os1 = ys ++ [x]) := hcons
            have hput := rput_yes B S R n X (p1 + (L s).toNat + lxs + (Dd t).toNat + dxt) x ys m wr.drew HS'.drew (by omega) (by omega) hxb.1 hxb.2
            have hr2 : k + 1 ≤ len := by omega
            clear hys hcons HS' hrd hcell hx hN hjj HS hyl
            go_wp2_with fail
            go_region_with (go_at_call 80; refine hput.mono ?_; rintro e w4 ⟨rfl, h4, f4⟩)
            all_goals
              have S4 : Hid (Stm w4 B S R n X (p1 + (L s).toNat + lxs + (Dd t).toNat + dxt) (cps (k + 1) dd os1) m) := by rw [HC.out]; exact h4
              have W4 : Hid (Sw B w2 w4) := HW.out.drew.trans f4
              clear h4 f4 HW HC HN hput hj k1 k3
              go_wp2
              go_roundw
              case rel => exact ⟨k + 1, hr2, by go_num, S4, W4⟩
              case measure => simp [intOf]; omega
          · obtain rfl : k = len := by omega
            have q7 : ¬ (k : Int) < k := by omega
            have hs2 : Hid (Sg L mA Dd mD B S R n X m w2 G P l2.length wr l2 (p1 + (L s).toNat + lxs + (Dd t).toNat + dxt) (cps k dd os1)) := by
              refine ⟨rfl, HS.out, HL4.out, HOK2.out, HPL.out, HPP.out, ?_, HW.out⟩
              rw [cps_len, ← HLL.out]
              exact q6
            clear HS HW HPL HL4 HOK2 HPP k3 hlt
            go_wp2_with fail
            go_roundg l2.length
            case measure => exact hgk.out
            case rel => exact ⟨l2, _, _, hs2⟩

end Go.Proofs.YtiahbicodlgmhaaGreatDoor.D
