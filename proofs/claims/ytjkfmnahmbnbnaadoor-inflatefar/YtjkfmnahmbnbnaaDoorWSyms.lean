/- symbols, coded. -/
import Derived.Test.YtjkfmnahmbnbnaaDoorWCopy
import Derived.Deep.LoopGhost
namespace Go.Proofs.YtjkfmnahmbnbnaaDoor
open Go.RowKit

theorem sf_next {X : Int} {n p i : Nat} {r : List Fd} (h : Lay X n p (sf i :: r)) (hi : i < 288) : fl i = fn i ∧ p + fn i ≤ 8 * n ∧ X / 2 ^ p % 2 ^ fn i = T (cd fl 288 i) (fn i) ∧ Lay X n (p + fn i) r := by
  obtain ⟨h1, h2, h3⟩ := h.head
  obtain ⟨e1, e2⟩ := fl_cd i hi
  rw [e1]
  exact ⟨e2, h2, h1, h3⟩

/-- What is left to be read. -/
structure Sy (B S R n : Nat) (X : Int) (m : Nat) (w : World) (G : Int × List Int) (P : Nat) (gk : Nat) (wr : World) (l : List It) (p : Nat) (os : List Int) : Prop where
  len : l.length = gk
  st : Stm wr B S R n X p os m
  lay : Lay X n p (encs l ++ [sf 256])
  ok : ∀ i ∈ l, i.ok
  pl : play m l os = G
  pp : p + fb (encs l) + 7 = P
  ol : os.length ≤ m
  sw : Sw B w wr

set_option maxRecDepth 100000 in
set_option maxHeartbeats 2000000 in
theorem ssymbols_any (B S R n : Nat) (X : Int) (p : Nat) (os : List Int) (m A D : Nat) (l : List It) (w : World) (h : Stm w B S R n X p os m) (hA : Cd w A fl 288) (hD : Cd w D dl 32) (hok : ∀ i ∈ l, i.ok) (hl : Lay X n p (encs l ++ [sf 256])) (hm : m ≤ 1000000) (hL : os.length ≤ m) (G : Int × List Int) (hG : play m l os = G) (P : Nat) (hP : p + fb (encs l) + 7 = P) :
    Calls Tryd.prog 40 #[.pointer (some ⟨S, 0, none⟩), .func (.func 41) #[.pointer (some ⟨A, 0, none⟩)] #[], .func (.func 41) #[.pointer (some ⟨D, 0, none⟩)] #[]] w fun e w' => e = .returned (.int .i64 G.1) ∧ (G.1 = 0 → Stm w' B S R n X P G.2 m) ∧ Sw B w w' := by
  obtain ⟨G1, G2⟩ := G
  simp only
  have H0 : Hid (Sy B S R n X m w (G1, G2) P l.length w l p os) := ⟨rfl, h, hl, hok, hG, hP, hL, Sw.refl _ _⟩
  have HA : Hid (Cd w A fl 288) := hA
  have HD : Hid (Cd w D dl 32) := hD
  clear h hA hD hok hl hL hG hP
  go_enter Tryd.func40, Tryd.ntmps40
  go_wp2_with fail
  go_loopg [] l.length (fun gk wr => ∃ l1 p1 os1, Hid (Sy B S R n X m w (G1, G2) P gk wr l1 p1 os1))
  case atStart => exact ⟨l, p, os, H0⟩
  case round =>
    obtain ⟨l1, p1, os1, HY⟩ := hrel
    clear H0
    have hst := HY.out.st
    have c0 := hst.c0
    have A1 := HA.out.kt HY.out.sw.kt
    have D1 := HD.out.kt HY.out.sw.kt
    cases l1 with
    | nil =>
      have hlay := HY.out.lay
      simp only [encs, List.nil_append] at hlay
      obtain ⟨e1, e2, e3, _⟩ := sf_next hlay (by omega)
      have hfin := HY.out.pl
      simp only [play, Prod.mk.injEq] at hfin
      obtain ⟨g1, g2⟩ := hfin
      have hpp := HY.out.pp
      simp only [encs, fb] at hpp
      have hsw := HY.out.sw
      have hn := snext_any B S R n X p1 os1 m A fl 288 256 (fn 256) wr hst A1 fl_fits (by omega) e1 (by decide) (by decide) e2 e3
      have HN : Hid (G1 = 0 ∧ G2 = os1 ∧ p1 + 7 = P ∧ Sw B w wr) := ⟨g1.symm, g2.symm, by omega, hsw⟩
      clear hlay e1 e2 e3 g1 g2 hpp hsw HY hst A1 D1
      go_wp2_with (go_at_call 41; refine hn.mono ?_; rintro e w1 ⟨rfl, h1, f1⟩)
      go_ret
      obtain ⟨g1, g2, g3, g4⟩ := HN.out
      rw [g1, g2, ← g3]
      exact ⟨rfl, fun _ => h1, g4.trans f1⟩
    | cons i l2 =>
      cases i with
      | lit b =>
        have hb : b < 256 := HY.out.ok (.lit b) (by simp)
        have hlay := HY.out.lay
        simp only [encs, It.enc, List.cons_append, List.nil_append] at hlay
        obtain ⟨e1, e2, e3, hlay2⟩ := sf_next hlay (by omega)
        have hn := snext_any B S R n X p1 os1 m A fl 288 b (fn b) wr hst A1 fl_fits (by omega) e1 (by have := fn_le b; omega) (by have := fn_le b; omega) e2 e3
        have hpl := HY.out.pl
        have q1 : ((b : Int) == 256) = false := by simp; omega
        have q2 : (b : Int) < 256 := by omega
        have q3 : IntKind.u8.wrap (b : Int) = b := by simp [IntKind.wrap, IntKind.bits, IntKind.signed]; omega
        have HL2 : Hid (Lay X n (p1 + fn b) (encs l2 ++ [sf 256])) := hlay2
        clear hlay hlay2 e1 e2 e3 hst A1 D1
        by_cases hroom : os1.length < m
        · rw [play, if_pos hroom] at hpl
          have HP : Hid (play m l2 (os1 ++ [(b : Int)]) = (G1, G2)) := hpl
          clear hpl
          go_wp2_with (first
            | (go_at_call 55; refine (sput_yes B S R n X _ b os1 m w1 h1 (by omega) (by omega) (by omega) (by omega)).mono ?_; rintro e w2 ⟨rfl, h2, f2⟩)
            | (go_at_call 41; refine hn.mono ?_; rintro e w1 ⟨rfl, h1, f1⟩))
          have hs2 : Hid (Sy B S R n X m w (G1, G2) P l2.length w2 l2 (p1 + fn b) (os1 ++ [(b : Int)])) := by
            refine ⟨rfl, h2, HL2.out, fun j hj => HY.out.ok j (by simp [hj]), HP.out, ?_, by simp; omega, (HY.out.sw.trans f1).trans f2⟩
            have := HY.out.pp
            simp only [encs, It.enc, fb_app, fb, sf] at this
            omega
          have hgk : Hid (l2.length < gk) := by
            have := HY.out.len
            simp at this
            show l2.length < gk
            omega
          clear h1 h2 f1 f2 HY HP HL2 hn
          go_wp2_with fail
          go_roundg l2.length
          case measure => exact hgk.out
          case rel => exact ⟨l2, _, _, hs2⟩
        · rw [play, if_neg hroom] at hpl
          simp only [Prod.mk.injEq] at hpl
          have HG1 : Hid (G1 = 5) := hpl.1.symm
          clear hpl
          go_wp2_with (first
            | (go_at_call 55; refine (sput_no B S R n X _ b os1 m w1 h1 (by omega)).mono ?_; rintro e w2 ⟨rfl, f2⟩)
            | (go_at_call 41; refine hn.mono ?_; rintro e w1 ⟨rfl, h1, f1⟩))
          go_ret
          rw [HG1.out]
          exact ⟨rfl, (fun e => by omega), (HY.out.sw.trans f1).trans f2⟩
      | cpy s v t u =>
        have hit : It.ok (.cpy s v t u) := HY.out.ok (.cpy s v t u) (by simp)
        have hs0 := hit.1
        have hs1 := hit.2.1
        have hlay := HY.out.lay
        simp only [encs, It.enc, List.cons_append, List.nil_append] at hlay
        obtain ⟨e1, e2, e3, hlay2⟩ := sf_next hlay (by omega)
        have hn := snext_any B S R n X p1 os1 m A fl 288 s (fn s) wr hst A1 fl_fits (by omega) e1 (by have := fn_le s; omega) (by have := fn_le s; omega) e2 e3
        have hl3 : Lay X n (p1 + fn s) ([((v : Int), lx s), df t, ((u : Int), dx t)] ++ (encs l2 ++ [sf 256])) := hlay2
        have HL3 : Hid (Lay X n (p1 + fn s) [((v : Int), lx s), df t, ((u : Int), dx t)]) := hl3.front
        have HL4 : Hid (Lay X n (p1 + fn s + lx s + 5 + dx t) (encs l2 ++ [sf 256])) := by
          have := hl3.tail
          simp only [fb, df] at this
          rw [show p1 + fn s + lx s + 5 + dx t = p1 + fn s + (lx s + (5 + (dx t + 0))) by omega]
          exact this
        have hpl := HY.out.pl
        rw [play] at hpl
        have HPL : Hid ((if os1.length < db t + u then ((2 : Int), os1) else if os1.length + (lb s + v) ≤ m then play m l2 (cps (lb s + v) (db t + u) os1) else (5, os1)) = (G1, G2)) := hpl
        have hol := HY.out.ol
        have q1 : ((s : Int) == 256) = false := by simp; omega
        have q2 : ¬ (s : Int) < 256 := by omega
        clear hlay hlay2 hl3 e1 e2 e3 hst A1 hpl
        go_wp2_with (go_at_call 41; refine hn.mono ?_; rintro e w1 ⟨rfl, h1, f1⟩)
        refine (srepeat_any B S R n X _ os1 m D s v t u w1 h1 (D1.kt f1.kt) hit HL3.out hm (by omega)).mono ?_
        rintro e w2 ⟨g, rfl, hg, h2, f2⟩
        rcases hg with ⟨r1, rfl⟩ | ⟨r1, r2, rfl⟩ | ⟨r1, r2, rfl⟩
        · have HG1 : Hid (G1 = 2) := by
            have := HPL.out
            rw [if_pos r1, Prod.mk.injEq] at this
            exact this.1.symm
          clear h1 h2 hn hit D1 HPL
          go_wp2
          go_ret
          rw [HG1.out]
          exact ⟨rfl, (fun e => by omega), (HY.out.sw.trans f1).trans f2⟩
        · have hgo : play m l2 (cps (lb s + v) (db t + u) os1) = (G1, G2) := by
            have := HPL.out
            rw [if_neg (by omega), if_pos r2] at this
            exact this
          have hs2 : Hid (Sy B S R n X m w (G1, G2) P l2.length w2 l2 (p1 + fn s + lx s + 5 + dx t) (cps (lb s + v) (db t + u) os1)) := by
            refine ⟨rfl, h2 rfl, HL4.out, fun j hj => HY.out.ok j (by simp [hj]), hgo, ?_, by rw [cps_len]; omega, (HY.out.sw.trans f1).trans f2⟩
            have := HY.out.pp
            simp only [encs, It.enc, fb_app, fb, sf, df] at this
            omega
          have hgk : Hid (l2.length < gk) := by
            have := HY.out.len
            simp at this
            show l2.length < gk
            omega
          clear h1 h2 f1 f2 HY HPL HL3 HL4 hn hit D1 hgo
          go_wp2
          go_roundg l2.length
          case measure => exact hgk.out
          case rel => exact ⟨l2, _, _, hs2⟩
        · have HG1 : Hid (G1 = 5) := by
            have := HPL.out
            rw [if_neg (by omega), if_neg (by omega), Prod.mk.injEq] at this
            exact this.1.symm
          clear h1 h2 hn hit D1 HPL
          go_wp2
          go_ret
          rw [HG1.out]
          exact ⟨rfl, (fun e => by omega), (HY.out.sw.trans f1).trans f2⟩

theorem scoded_any (B S R n : Nat) (X : Int) (p : Nat) (os : List Int) (m : Nat) (la : Option Addr) (lc da : Nat) (l : List It) (w : World) (h : Stm w B S R n X p os m) (hA : Ri w la 288 lc fl) (hD : Ri w (some ⟨da, 0, none⟩) 32 32 dl) (hok : ∀ i ∈ l, i.ok) (hl : Lay X n p (encs l ++ [sf 256])) (hm : m ≤ 1000000) (hL : os.length ≤ m) (G : Int × List Int) (hG : play m l os = G) (P : Nat) (hP : p + fb (encs l) + 7 = P) :
    Calls Tryd.prog 33 #[.pointer (some ⟨S, 0, none⟩), .slice la 288 lc, .slice (some ⟨da, 0, none⟩) 32 32] w fun e w' => e = .returned (.int .i64 G.1) ∧ (G.1 = 0 → Stm w' B S R n X P G.2 m) ∧ Sw B w w' := by
  go_enter Tryd.func33, Tryd.ntmps33
  go_wp2_with fail
  refine (new_cd la 288 lc fl true w hA fl_nw).mono ?_
  rintro e w1 ⟨a, rfl, c1, b1⟩
  have hD1 := hD.keep b1
  have h1 := h.keep b1
  have s1 := Sw.keep h.bB b1
  clear h hA hD b1
  go_wp2_with fail
  refine (new_cd (some ⟨da, 0, none⟩) 32 32 dl true w1 hD1 dl_nw).mono ?_
  rintro e w2 ⟨d, rfl, c2, b2⟩
  have h2 := h1.keep b2
  have c1' := c1.kt (Kt.ofBelow b2)
  have s2 := s1.trans (Sw.keep h1.bB b2)
  clear h1 hD1 b2 c1 s1
  go_wp2_with (go_at_call 40; refine (ssymbols_any B S R n X p os m a d l w2 h2 c1' c2 hok hl hm hL G hG P hP).mono ?_; rintro e w3 ⟨rfl, h3, s3⟩)
  go_ret
  exact ⟨rfl, h3, s2.trans s3⟩

end Go.Proofs.YtjkfmnahmbnbnaaDoor
