/- WCopy, WSyms, WGen. -/
import Derived.Test.YtiahbicodlgmhaaGreatDoorM06
import Derived.Test.YtiahbicodlgmhaaGreatDoorM07
import Derived.Deep.LoopGhost
/- A symbol read by a stream; repeat. -/
namespace Go.Proofs.YtiahbicodlgmhaaGreatDoor
open Go.RowKit

theorem Stm.c0 {w : World} {B S R n : Nat} {X : Int} {p : Nat} {os : List Int} {m : Int} (h : Stm w B S R n X p os m) : w.cell? ⟨S, 0, none⟩ = some (.pointer (some ⟨R, 0, none⟩)) := by
  obtain ⟨ao, c, v, h⟩ := h
  exact h.row.cell (i := 0) (by omega)

theorem Stm.c2 {w : World} {B S R n : Nat} {X : Int} {p : Nat} {os : List Int} {m : Int} (h : Stm w B S R n X p os m) : w.cell? ⟨S, 2, none⟩ = some (.int .i64 m) := by
  obtain ⟨ao, c, v, h⟩ := h
  exact h.row.cell (i := 2) (by omega)

theorem Stm.c1 {w : World} {B S R n : Nat} {X : Int} {p : Nat} {os : List Int} {m : Int} (h : Stm w B S R n X p os m) : ∃ ao c, w.cell? ⟨S, 1, none⟩ = some (.slice ao os.length c) ∧ Rd w ao os.length c os := by
  obtain ⟨ao, c, v, h⟩ := h
  obtain ⟨vo, vc, rfl, hr, _⟩ := own_rd h.own h.byt
  exact ⟨vo, vc, h.row.cell (i := 1) (by omega), hr⟩

theorem Stm.byt {w : World} {B S R n : Nat} {X : Int} {p : Nat} {os : List Int} {m : Int} (h : Stm w B S R n X p os m) : ∀ x ∈ os, 0 ≤ x ∧ x < 256 := by
  obtain ⟨ao, c, v, h⟩ := h
  exact h.byt

theorem snext_any (B S R n : Nat) (X : Int) (p : Nat) (os : List Int) (m : Int) (D : Nat) (L : Nat → Int) (mL i x : Nat) (w : World) (h : Stm w B S R n X p os m) (hD : Cd w D L mL) (hf : Fits L mL) (hi : i < mL) (hx : L i = x) (hx0 : 0 < x) (hx15 : x ≤ 15) (hp : p + x ≤ 8 * n) (hb : X / 2 ^ p % 2 ^ x = T (cd L mL i) x) :
    Calls Tryz.prog 91 #[.pointer (some ⟨D, 0, none⟩), .pointer (some ⟨R, 0, none⟩)] w fun e w' => e = .returned (.tuple #[.int .i64 i, .int .i64 0]) ∧ Stm w' B S R n X (p + x) os m ∧ Sw B w w' := by
  obtain ⟨ao, c, v, h⟩ := h
  refine (next_any D L mL R ao n c X p w hD h.rd).mono ?_
  rintro e w' ⟨s, g, q, rfl, hN, hr, hfr⟩
  obtain ⟨rfl, rfl, rfl⟩ := nx_sym hf hi hx hx0 hx15 hp hb hN
  obtain ⟨h1, h2⟩ := h.read hr hfr
  exact ⟨rfl, ⟨ao, c, v, h1⟩, h2⟩

/-- What a copy of k bytes from d behind answers, where l are there and m may be. -/
def Rpt (m l k d : Nat) (g : Int) : Prop := (l < d ∧ g = 2) ∨ (d ≤ l ∧ l + k ≤ m ∧ g = 0) ∨ (d ≤ l ∧ m < l + k ∧ g = 5)

set_option maxRecDepth 100000 in
set_option maxHeartbeats 2000000 in
theorem srepeat_any (B S R n : Nat) (X : Int) (p : Nat) (os : List Int) (m : Nat) (D s v t u : Nat) (w : World) (h : Stm w B S R n X p os m) (hD : Cd w D dl 32) (hok : It.ok (.cpy s v t u)) (hl : Lay X n p [((v : Int), lx s), df t, ((u : Int), dx t)]) (hm : m ≤ 1000000) (hL : os.length ≤ 1000000) :
    Calls Tryz.prog 123 #[.pointer (some ⟨S, 0, none⟩), .int .i64 s, .func (.func 91) #[.pointer (some ⟨D, 0, none⟩)] #[]] w fun e w' => ∃ g, e = .returned (.int .i64 g) ∧ Rpt m os.length (lb s + v) (db t + u) g ∧ (g = 0 → Stm w' B S R n X (p + lx s + 5 + dx t) (cps (lb s + v) (db t + u) os) m) ∧ Sw B w w' := by
  obtain ⟨hs0, hs1, hv, ht, hu⟩ := hok
  obtain ⟨e1, p1, hl1⟩ := hl.head
  obtain ⟨e2, p2', hl2⟩ := hl1.head
  obtain ⟨e3, p3, _⟩ := hl2.head
  have bl := lb_le s (by omega) hs0
  have bd := db_le t ht
  simp only [df] at e2 p2' p3 e3
  simp only at e1 p1 p2' e2 e3 p3
  have vv : v < 32 := Nat.lt_of_lt_of_le hv (Nat.pow_le_pow_right (by omega) (by omega : lx s ≤ 5))
  have uu : u < 8192 := Nat.lt_of_lt_of_le hu (Nat.pow_le_pow_right (by omega) (by omega : dx t ≤ 13))
  obtain ⟨len, hlen⟩ : ∃ len, len = lb s + v := ⟨_, rfl⟩
  obtain ⟨d, hd⟩ : ∃ d, d = db t + u := ⟨_, rfl⟩
  have hlen0 : 3 ≤ len ∧ len ≤ 300 := by omega
  have hd0 : 1 ≤ d ∧ d ≤ 40000 := by omega
  have hlc : ((lb s : Nat) : Int) + v = len := by omega
  have hdc : ((db t : Nat) : Int) + u = d := by omega
  rw [← hlen, ← hd]
  have c0 := h.c0
  clear hlen hd hv hu hl hl1 hl2
  go_enter Tryz.func123, Tryz.ntmps123
  go_wp2_with fail
  refine (length_yes s w hs0 hs1).mono ?_
  rintro e w0 ⟨rfl, hw0⟩
  subst w0
  go_wp2_with fail
  refine (snumber_any B S R n X p (lx s) (lb s) os m w h (by omega) p1 (by omega) (by omega)).mono ?_
  rintro e w1 ⟨rfl, h1, f1⟩
  rw [e1, hlc]
  have c01 := h1.c0
  have D1 := hD.kt f1.kt
  clear h c0 hD
  go_wp2_with fail
  refine (snext_any B S R n X _ os m D dl 32 t 5 w1 h1 D1 dl_fits (by omega) rfl (by omega) (by omega) p2' (by rw [e2, dl_cd t (by omega)])).mono ?_
  rintro e w2 ⟨rfl, h2, f2⟩
  have f12 := f1.trans f2
  clear h1 c01 D1 f1 f2
  go_wp2_with fail
  refine (distance_yes t w2 ht).mono ?_
  rintro e w0 ⟨rfl, hw0⟩
  subst w0
  go_wp2_with fail
  refine (snumber_any B S R n X _ (dx t) (db t) os m w2 h2 (by omega) p3 (by omega) (by omega)).mono ?_
  rintro e w3 ⟨rfl, h3, f3⟩
  rw [e3, hdc]
  have F3 := f12.trans f3
  obtain ⟨ao3, c3, k1, _⟩ := h3.c1
  have H3 : Hid (Stm w3 B S R n X (p + lx s + 5 + dx t) os m) := h3
  have HF3 : Hid (Sw B w w3) := F3
  clear h2 h3 f3 F3 f12 e1 e2 e3 p1 p2' p3 hlc hdc bl bd
  obtain ⟨l, hll⟩ : ∃ l, l = os.length := ⟨_, rfl⟩
  have HLL : Hid (l = os.length) := hll
  rw [← hll] at k1 hL
  clear hll
  by_cases hfar : l < d
  · have q : (l : Int) < d := by omega
    go_wp2
    go_ret
    exact ⟨2, rfl, .inl ⟨by rw [← HLL.out]; exact hfar, rfl⟩, (fun e => by omega), HF3.out⟩
  · have q : ¬ (l : Int) < d := by omega
    go_wp2
    go_loopw [57] (fun iv wr => ∃ k : Nat, k ≤ len ∧ iv = .int .i64 k ∧ (k = 0 ∨ l + k ≤ m) ∧ Hid (Stm wr B S R n X (p + lx s + 5 + dx t) (cps k d os) m) ∧ Hid (Sw B w wr)) (fun iv _ => len - (intOf iv).toNat)
    case atStart => exact ⟨0, by omega, rfl, .inl rfl, H3, HF3⟩
    case round =>
      obtain ⟨k, hk, rfl, hkm, HS, HW⟩ := hrel
      clear H3 HF3 k1
      by_cases hlt : k < len
      · obtain ⟨ys, hys⟩ : ∃ ys, ys = cps k d os := ⟨_, rfl⟩
        have hyl : ys.length = l + k := by rw [hys, cps_len, HLL.out]
        have hcons : cps (k + 1) d os = ys ++ [ys.getD (ys.length - d) 0] := by rw [hys]; rfl
        have HS' : Stm wr B S R n X (p + lx s + 5 + dx t) ys m := by rw [hys]; exact HS.out
        obtain ⟨ya, yc, k1, hrd⟩ := HS'.c1
        obtain ⟨g, off, rfl, hcell⟩ := hrd.plain (by omega)
        have hj := hcell (ys.length - d) (by omega)
        have hxb := hrd.byt (ys.getD (ys.length - d) 0) (by
          rw [List.getD, List.getElem?_eq_getElem (show ys.length - d < ys.length by omega)]
          simp)
        obtain ⟨x, hx⟩ : ∃ x, x = ys.getD (ys.length - d) 0 := ⟨_, rfl⟩
        rw [← hx] at hj hxb hcons
        obtain ⟨N, hN⟩ : ∃ N, N = ys.length := ⟨_, rfl⟩
        rw [← hN] at hj k1 hyl
        obtain ⟨j, hjj⟩ : ∃ j, j = N - d := ⟨_, rfl⟩
        rw [← hjj] at hj
        have q1 : (N : Int) - d = j := by omega
        have q2 : IntKind.i64.wrap (j : Int) = j := wraps_i64 _ (by omega) (by omega)
        have q3 : j < N := by omega
        have q4 : (j : Int) < N := by omega
        have HN : Hid (N = ys.length) := hN
        have HC : Hid (cps (k + 1) d os = ys ++ [x]) := hcons
        have HSD : Hid (Stm wr.drew B S R n X (p + lx s + 5 + dx t) ys m) := HS'.drew
        have HY : Hid (N = l + k) := hyl
        have hN0 : N ≤ 2000000 := by omega
        clear hys hcons HS' hrd hcell hx hN hjj HS hyl
        by_cases hroom : N < m
        · have hput := sput_yes B S R n X (p + lx s + 5 + dx t) x ys m wr.drew HSD.out (by have := HN.out; omega) (by have := HN.out; omega) hxb.1 hxb.2
          have hr2 : k + 1 ≤ len := by omega
          have hr3 : l + (k + 1) ≤ m := by have := HY.out; omega
          go_wp2_with fail
          go_region_with (go_at_call 122; refine hput.mono ?_; rintro e w4 ⟨rfl, h4, f4⟩)
          all_goals
            have S4 : Hid (Stm w4 B S R n X (p + lx s + 5 + dx t) (cps (k + 1) d os) m) := by rw [HC.out]; exact h4
            have W4 : Hid (Sw B w w4) := HW.out.drew.trans f4
            clear h4 f4 HW HC HSD HN hput hj k1
            go_wp2
            go_roundw
            case rel => exact ⟨k + 1, hr2, by go_num, .inr hr3, S4, W4⟩
            case measure => simp [intOf]; omega
        · have hput := sput_no B S R n X (p + lx s + 5 + dx t) x ys m wr.drew HSD.out (by have := HN.out; omega)
          have hfin : Rpt m os.length len d 5 := .inr (.inr ⟨by rw [← HLL.out]; omega, by rw [← HLL.out]; have := HY.out; omega, rfl⟩)
          have HFI : Hid (Rpt m os.length len d 5) := hfin
          clear hfin
          go_wp2_with fail
          go_region_with (go_at_call 122; refine hput.mono ?_; rintro e w4 ⟨rfl, f4⟩)
          all_goals
            have W4 : Hid (Sw B w w4) := HW.out.drew.trans f4
            clear f4 HW HC HSD HN hput hj k1
            go_wp2
            go_ret
            exact ⟨5, rfl, HFI.out, (fun e => by omega), W4.out⟩
      · obtain rfl : k = len := by omega
        clear hlt
        have hfit : l + k ≤ m := by omega
        go_wp2
        go_ret
        exact ⟨0, rfl, .inr (.inl ⟨by rw [← HLL.out]; omega, by rw [← HLL.out]; exact hfit, rfl⟩), fun _ => HS.out, HW.out⟩

end Go.Proofs.YtiahbicodlgmhaaGreatDoor

/- symbols, coded. -/
namespace Go.Proofs.YtiahbicodlgmhaaGreatDoor
open Go.RowKit

theorem sf_next {X : Int} {n p i : Nat} {r : List Fd} (h : Lay X n p (sf i :: r)) (hi : i < 288) : fl i = fn i ∧ p + fn i ≤ 8 * n ∧ X / 2 ^ p % 2 ^ fn i = T (cd fl 288 i) (fn i) ∧ Lay X n (p + fn i) r := by
  obtain ⟨h1, h2, h3⟩ := h.head
  obtain ⟨e1, e2⟩ := fl_cd i hi
  rw [e1]
  exact ⟨e2, h2, h1, h3⟩

/-- What is left to be read. -/
structure Sy (B S R n : Nat) (X : Int) (m : Nat) (w : World) (G : Int × List Int) (P : Nat) (gk : Nat) (wr : World) (l : List It) (p : Nat) (os : List Int) : Prop where
  len : l.length = gk
  st : Stm wr B S R n X p os m
  lay : Lay X n p (encs l ++ [sf 256])
  ok : ∀ i ∈ l, i.ok
  pl : play m l os = G
  pp : p + fb (encs l) + 7 = P
  ol : os.length ≤ m
  sw : Sw B w wr

set_option maxRecDepth 100000 in
set_option maxHeartbeats 2000000 in
theorem ssymbols_any (B S R n : Nat) (X : Int) (p : Nat) (os : List Int) (m A D : Nat) (l : List It) (w : World) (h : Stm w B S R n X p os m) (hA : Cd w A fl 288) (hD : Cd w D dl 32) (hok : ∀ i ∈ l, i.ok) (hl : Lay X n p (encs l ++ [sf 256])) (hm : m ≤ 1000000) (hL : os.length ≤ m) (G : Int × List Int) (hG : play m l os = G) (P : Nat) (hP : p + fb (encs l) + 7 = P) :
    Calls Tryz.prog 90 #[.pointer (some ⟨S, 0, none⟩), .func (.func 91) #[.pointer (some ⟨A, 0, none⟩)] #[], .func (.func 91) #[.pointer (some ⟨D, 0, none⟩)] #[]] w fun e w' => e = .returned (.int .i64 G.1) ∧ (G.1 = 0 → Stm w' B S R n X P G.2 m) ∧ Sw B w w' := by
  obtain ⟨G1, G2⟩ := G
  simp only
  have H0 : Hid (Sy B S R n X m w (G1, G2) P l.length w l p os) := ⟨rfl, h, hl, hok, hG, hP, hL, Sw.refl _ _⟩
  have HA : Hid (Cd w A fl 288) := hA
  have HD : Hid (Cd w D dl 32) := hD
  clear h hA hD hok hl hL hG hP
  go_enter Tryz.func90, Tryz.ntmps90
  go_wp2_with fail
  go_loopg [] l.length (fun gk wr => ∃ l1 p1 os1, Hid (Sy B S R n X m w (G1, G2) P gk wr l1 p1 os1))
  case atStart => exact ⟨l, p, os, H0⟩
  case round =>
    obtain ⟨l1, p1, os1, HY⟩ := hrel
    clear H0
    have hst := HY.out.st
    have c0 := hst.c0
    have A1 := HA.out.kt HY.out.sw.kt
    have D1 := HD.out.kt HY.out.sw.kt
    cases l1 with
    | nil =>
      have hlay := HY.out.lay
      simp only [encs, List.nil_append] at hlay
      obtain ⟨e1, e2, e3, _⟩ := sf_next hlay (by omega)
      have hfin := HY.out.pl
      simp only [play, Prod.mk.injEq] at hfin
      obtain ⟨g1, g2⟩ := hfin
      have hpp := HY.out.pp
      simp only [encs, fb] at hpp
      have hsw := HY.out.sw
      have hn := snext_any B S R n X p1 os1 m A fl 288 256 (fn 256) wr hst A1 fl_fits (by omega) e1 (by decide) (by decide) e2 e3
      have HN : Hid (G1 = 0 ∧ G2 = os1 ∧ p1 + 7 = P ∧ Sw B w wr) := ⟨g1.symm, g2.symm, by omega, hsw⟩
      clear hlay e1 e2 e3 g1 g2 hpp hsw HY hst A1 D1
      go_wp2_with (go_at_call 91; refine hn.mono ?_; rintro e w1 ⟨rfl, h1, f1⟩)
      go_ret
      obtain ⟨g1, g2, g3, g4⟩ := HN.out
      rw [g1, g2, ← g3]
      exact ⟨rfl, fun _ => h1, g4.trans f1⟩
    | cons i l2 =>
      cases i with
      | lit b =>
        have hb : b < 256 := HY.out.ok (.lit b) (by simp)
        have hlay := HY.out.lay
        simp only [encs, It.enc, List.cons_append, List.nil_append] at hlay
        obtain ⟨e1, e2, e3, hlay2⟩ := sf_next hlay (by omega)
        have hn := snext_any B S R n X p1 os1 m A fl 288 b (fn b) wr hst A1 fl_fits (by omega) e1 (by have := fn_le b; omega) (by have := fn_le b; omega) e2 e3
        have hpl := HY.out.pl
        have q1 : ((b : Int) == 256) = false := by simp; omega
        have q2 : (b : Int) < 256 := by omega
        have q3 : IntKind.u8.wrap (b : Int) = b := by simp [IntKind.wrap, IntKind.bits, IntKind.signed]; omega
        have HL2 : Hid (Lay X n (p1 + fn b) (encs l2 ++ [sf 256])) := hlay2
        clear hlay hlay2 e1 e2 e3 hst A1 D1
        by_cases hroom : os1.length < m
        · rw [play, if_pos hroom] at hpl
          have HP : Hid (play m l2 (os1 ++ [(b : Int)]) = (G1, G2)) := hpl
          clear hpl
          go_wp2_with (first
            | (go_at_call 122; refine (sput_yes B S R n X _ b os1 m w1 h1 (by omega) (by omega) (by omega) (by omega)).mono ?_; rintro e w2 ⟨rfl, h2, f2⟩)
            | (go_at_call 91; refine hn.mono ?_; rintro e w1 ⟨rfl, h1, f1⟩))
          have hs2 : Hid (Sy B S R n X m w (G1, G2) P l2.length w2 l2 (p1 + fn b) (os1 ++ [(b : Int)])) := by
            refine ⟨rfl, h2, HL2.out, fun j hj => HY.out.ok j (by simp [hj]), HP.out, ?_, by simp; omega, (HY.out.sw.trans f1).trans f2⟩
            have := HY.out.pp
            simp only [encs, It.enc, fb_app, fb, sf] at this
            omega
          have hgk : Hid (l2.length < gk) := by
            have := HY.out.len
            simp at this
            show l2.length < gk
            omega
          clear h1 h2 f1 f2 HY HP HL2 hn
          go_wp2_with fail
          go_roundg l2.length
          case measure => exact hgk.out
          case rel => exact ⟨l2, _, _, hs2⟩
        · rw [play, if_neg hroom] at hpl
          simp only [Prod.mk.injEq] at hpl
          have HG1 : Hid (G1 = 5) := hpl.1.symm
          clear hpl
          go_wp2_with (first
            | (go_at_call 122; refine (sput_no B S R n X _ b os1 m w1 h1 (by omega)).mono ?_; rintro e w2 ⟨rfl, f2⟩)
            | (go_at_call 91; refine hn.mono ?_; rintro e w1 ⟨rfl, h1, f1⟩))
          go_ret
          rw [HG1.out]
          exact ⟨rfl, (fun e => by omega), (HY.out.sw.trans f1).trans f2⟩
      | cpy s v t u =>
        have hit : It.ok (.cpy s v t u) := HY.out.ok (.cpy s v t u) (by simp)
        have hs0 := hit.1
        have hs1 := hit.2.1
        have hlay := HY.out.lay
        simp only [encs, It.enc, List.cons_append, List.nil_append] at hlay
        obtain ⟨e1, e2, e3, hlay2⟩ := sf_next hlay (by omega)
        have hn := snext_any B S R n X p1 os1 m A fl 288 s (fn s) wr hst A1 fl_fits (by omega) e1 (by have := fn_le s; omega) (by have := fn_le s; omega) e2 e3
        have hl3 : Lay X n (p1 + fn s) ([((v : Int), lx s), df t, ((u : Int), dx t)] ++ (encs l2 ++ [sf 256])) := hlay2
        have HL3 : Hid (Lay X n (p1 + fn s) [((v : Int), lx s), df t, ((u : Int), dx t)]) := hl3.front
        have HL4 : Hid (Lay X n (p1 + fn s + lx s + 5 + dx t) (encs l2 ++ [sf 256])) := by
          have := hl3.tail
          simp only [fb, df] at this
          rw [show p1 + fn s + lx s + 5 + dx t = p1 + fn s + (lx s + (5 + (dx t + 0))) by omega]
          exact this
        have hpl := HY.out.pl
        rw [play] at hpl
        have HPL : Hid ((if os1.length < db t + u then ((2 : Int), os1) else if os1.length + (lb s + v) ≤ m then play m l2 (cps (lb s + v) (db t + u) os1) else (5, os1)) = (G1, G2)) := hpl
        have hol := HY.out.ol
        have q1 : ((s : Int) == 256) = false := by simp; omega
        have q2 : ¬ (s : Int) < 256 := by omega
        clear hlay hlay2 hl3 e1 e2 e3 hst A1 hpl
        go_wp2_with (go_at_call 91; refine hn.mono ?_; rintro e w1 ⟨rfl, h1, f1⟩)
        refine (srepeat_any B S R n X _ os1 m D s v t u w1 h1 (D1.kt f1.kt) hit HL3.out hm (by omega)).mono ?_
        rintro e w2 ⟨g, rfl, hg, h2, f2⟩
        rcases hg with ⟨r1, rfl⟩ | ⟨r1, r2, rfl⟩ | ⟨r1, r2, rfl⟩
        · have HG1 : Hid (G1 = 2) := by
            have := HPL.out
            rw [if_pos r1, Prod.mk.injEq] at this
            exact this.1.symm
          clear h1 h2 hn hit D1 HPL
          go_wp2
          go_ret
          rw [HG1.out]
          exact ⟨rfl, (fun e => by omega), (HY.out.sw.trans f1).trans f2⟩
        · have hgo : play m l2 (cps (lb s + v) (db t + u) os1) = (G1, G2) := by
            have := HPL.out
            rw [if_neg (by omega), if_pos r2] at this
            exact this
          have hs2 : Hid (Sy B S R n X m w (G1, G2) P l2.length w2 l2 (p1 + fn s + lx s + 5 + dx t) (cps (lb s + v) (db t + u) os1)) := by
            refine ⟨rfl, h2 rfl, HL4.out, fun j hj => HY.out.ok j (by simp [hj]), hgo, ?_, by rw [cps_len]; omega, (HY.out.sw.trans f1).trans f2⟩
            have := HY.out.pp
            simp only [encs, It.enc, fb_app, fb, sf, df] at this
            omega
          have hgk : Hid (l2.length < gk) := by
            have := HY.out.len
            simp at this
            show l2.length < gk
            omega
          clear h1 h2 f1 f2 HY HPL HL3 HL4 hn hit D1 hgo
          go_wp2
          go_roundg l2.length
          case measure => exact hgk.out
          case rel => exact ⟨l2, _, _, hs2⟩
        · have HG1 : Hid (G1 = 5) := by
            have := HPL.out
            rw [if_neg (by omega), if_neg (by omega), Prod.mk.injEq] at this
            exact this.1.symm
          clear h1 h2 hn hit D1 HPL
          go_wp2
          go_ret
          rw [HG1.out]
          exact ⟨rfl, (fun e => by omega), (HY.out.sw.trans f1).trans f2⟩

theorem scoded_any (B S R n : Nat) (X : Int) (p : Nat) (os : List Int) (m : Nat) (la : Option Addr) (lc da : Nat) (l : List It) (w : World) (h : Stm w B S R n X p os m) (hA : Ri w la 288 lc fl) (hD : Ri w (some ⟨da, 0, none⟩) 32 32 dl) (hok : ∀ i ∈ l, i.ok) (hl : Lay X n p (encs l ++ [sf 256])) (hm : m ≤ 1000000) (hL : os.length ≤ m) (G : Int × List Int) (hG : play m l os = G) (P : Nat) (hP : p + fb (encs l) + 7 = P) :
    Calls Tryz.prog 62 #[.pointer (some ⟨S, 0, none⟩), .slice la 288 lc, .slice (some ⟨da, 0, none⟩) 32 32] w fun e w' => e = .returned (.int .i64 G.1) ∧ (G.1 = 0 → Stm w' B S R n X P G.2 m) ∧ Sw B w w' := by
  go_enter Tryz.func62, Tryz.ntmps62
  go_wp2_with fail
  refine (new_cd la 288 lc fl true w hA fl_nw).mono ?_
  rintro e w1 ⟨a, rfl, c1, b1⟩
  have hD1 := hD.keep b1
  have h1 := h.keep b1
  have s1 := Sw.keep h.bB b1
  clear h hA hD b1
  go_wp2_with fail
  refine (new_cd (some ⟨da, 0, none⟩) 32 32 dl true w1 hD1 dl_nw).mono ?_
  rintro e w2 ⟨d, rfl, c2, b2⟩
  have h2 := h1.keep b2
  have c1' := c1.kt (Kt.ofBelow b2)
  have s2 := s1.trans (Sw.keep h1.bB b2)
  clear h1 hD1 b2 c1 s1
  go_wp2_with (go_at_call 90; refine (ssymbols_any B S R n X p os m a d l w2 h2 c1' c2 hok hl hm hL G hG P hP).mono ?_; rintro e w3 ⟨rfl, h3, s3⟩)
  go_ret
  exact ⟨rfl, h3, s2.trans s3⟩

end Go.Proofs.YtiahbicodlgmhaaGreatDoor

/- repeat, symbols, coded, by any two codes. -/
namespace Go.Proofs.YtiahbicodlgmhaaGreatDoor
open Go.RowKit

/-- A symbol's field, by a code of lengths L. -/
def gf (L : Nat → Int) (m i : Nat) : Fd := (T (cd L m i) (L i).toNat, (L i).toNat)

theorem gf_ft (L : Nat → Int) (m i : Nat) : 0 ≤ (gf L m i).1 ∧ (gf L m i).1 < 2 ^ (gf L m i).2 := T_bound _ _

theorem gf_next {L : Nat → Int} {m : Nat} {X : Int} {n p i : Nat} {r : List Fd} (h : Lay X n p (gf L m i :: r)) (h0 : 0 < L i) : L i = (L i).toNat ∧ p + (L i).toNat ≤ 8 * n ∧ X / 2 ^ p % 2 ^ (L i).toNat = T (cd L m i) (L i).toNat ∧ Lay X n (p + (L i).toNat) r := by
  obtain ⟨h1, h2, h3⟩ := h.head
  exact ⟨by omega, h2, h1, h3⟩

/-- What may stand in a block of these codes. -/
def It.okG (L : Nat → Int) (mA : Nat) (Dd : Nat → Int) (mD : Nat) : It → Prop
  | .lit b => b < 256 ∧ b < mA ∧ 0 < L b ∧ L b ≤ 15
  | .cpy s v t u => 257 ≤ s ∧ s ≤ 285 ∧ s < mA ∧ 0 < L s ∧ L s ≤ 15 ∧ v < 2 ^ lx s ∧ t < 30 ∧ t < mD ∧ 0 < Dd t ∧ Dd t ≤ 15 ∧ u < 2 ^ dx t

def It.encG (L : Nat → Int) (mA : Nat) (Dd : Nat → Int) (mD : Nat) : It → List Fd
  | .lit b => [gf L mA b]
  | .cpy s v t u => [gf L mA s, ((v : Int), lx s), gf Dd mD t, ((u : Int), dx t)]

def encsG (L : Nat → Int) (mA : Nat) (Dd : Nat → Int) (mD : Nat) : List It → List Fd
  | [] => []
  | i :: l => i.encG L mA Dd mD ++ encsG L mA Dd mD l

theorem encsG_app (L : Nat → Int) (mA : Nat) (Dd : Nat → Int) (mD : Nat) (a b : List It) : encsG L mA Dd mD (a ++ b) = encsG L mA Dd mD a ++ encsG L mA Dd mD b := by
  induction a with
  | nil => rfl
  | cons i a ih => simp only [List.cons_append, encsG, ih, List.append_assoc]

theorem It.ftG {L : Nat → Int} {mA : Nat} {Dd : Nat → Int} {mD : Nat} {i : It} (h : i.okG L mA Dd mD) : Ft (i.encG L mA Dd mD) := by
  cases i with
  | lit b => exact Ft.cons (gf_ft L mA b).1 (gf_ft L mA b).2 Ft.nil
  | cpy s v t u =>
    obtain ⟨_, _, _, _, _, hv, _, _, _, _, hu⟩ := h
    exact Ft.cons (gf_ft L mA s).1 (gf_ft L mA s).2 (Ft.cons (by simp) (p2_cast _ _ hv) (Ft.cons (gf_ft Dd mD t).1 (gf_ft Dd mD t).2 (Ft.cons (by simp) (p2_cast _ _ hu) Ft.nil)))

theorem encsG_ft {L : Nat → Int} {mA : Nat} {Dd : Nat → Int} {mD : Nat} {l : List It} (h : ∀ i ∈ l, i.okG L mA Dd mD) : Ft (encsG L mA Dd mD l) := by
  induction l with
  | nil => exact Ft.nil
  | cons i l ih => exact (It.ftG (h i (by simp))).app (ih (fun j hj => h j (by simp [hj])))

set_option maxRecDepth 100000 in
set_option maxHeartbeats 2000000 in
theorem srepeat_g (L : Nat → Int) (mA : Nat) (B S R n : Nat) (X : Int) (p : Nat) (os : List Int) (m : Nat) (Dd : Nat → Int) (mD : Nat) (D s v t u : Nat) (w : World) (h : Stm w B S R n X p os m) (hD : Cd w D Dd mD) (hfD : Fits Dd mD) (hok : It.okG L mA Dd mD (.cpy s v t u)) (hl : Lay X n p [((v : Int), lx s), gf Dd mD t, ((u : Int), dx t)]) (hm : m ≤ 1000000) (hL : os.length ≤ 1000000) :
    Calls Tryz.prog 123 #[.pointer (some ⟨S, 0, none⟩), .int .i64 s, .func (.func 91) #[.pointer (some ⟨D, 0, none⟩)] #[]] w fun e w' => ∃ g, e = .returned (.int .i64 g) ∧ Rpt m os.length (lb s + v) (db t + u) g ∧ (g = 0 → Stm w' B S R n X (p + lx s + (Dd t).toNat + dx t) (cps (lb s + v) (db t + u) os) m) ∧ Sw B w w' := by
  obtain ⟨hs0, hs1, _, _, _, hv, ht, htD, hd0', hd15, hu⟩ := hok
  obtain ⟨e1, p1, hl1⟩ := hl.head
  obtain ⟨e2, p2', hl2⟩ := hl1.head
  obtain ⟨e3, p3, _⟩ := hl2.head
  have bl := lb_le s (by omega) hs0
  have bd := db_le t ht
  simp only [gf] at e2 p2' p3 e3
  simp only at e1 p1 p2' e2 e3 p3
  have vv : v < 32 := Nat.lt_of_lt_of_le hv (Nat.pow_le_pow_right (by omega) (by omega : lx s ≤ 5))
  have uu : u < 8192 := Nat.lt_of_lt_of_le hu (Nat.pow_le_pow_right (by omega) (by omega : dx t ≤ 13))
  obtain ⟨len, hlen⟩ : ∃ len, len = lb s + v := ⟨_, rfl⟩
  obtain ⟨d, hd⟩ : ∃ d, d = db t + u := ⟨_, rfl⟩
  have hlen0 : 3 ≤ len ∧ len ≤ 300 := by omega
  have hd0 : 1 ≤ d ∧ d ≤ 40000 := by omega
  have hlc : ((lb s : Nat) : Int) + v = len := by omega
  have hdc : ((db t : Nat) : Int) + u = d := by omega
  rw [← hlen, ← hd]
  have c0 := h.c0
  clear hlen hd hv hu hl hl1 hl2
  go_enter Tryz.func123, Tryz.ntmps123
  go_wp2_with fail
  refine (length_yes s w hs0 hs1).mono ?_
  rintro e w0 ⟨rfl, hw0⟩
  subst w0
  go_wp2_with fail
  refine (snumber_any B S R n X p (lx s) (lb s) os m w h (by omega) p1 (by omega) (by omega)).mono ?_
  rintro e w1 ⟨rfl, h1, f1⟩
  rw [e1, hlc]
  have c01 := h1.c0
  have D1 := hD.kt f1.kt
  clear h c0 hD
  go_wp2_with fail
  refine (snext_any B S R n X _ os m D Dd mD t (Dd t).toNat w1 h1 D1 hfD htD (by omega) (by omega) (by omega) p2' e2).mono ?_
  rintro e w2 ⟨rfl, h2, f2⟩
  have f12 := f1.trans f2
  clear h1 c01 D1 f1 f2
  go_wp2_with fail
  refine (distance_yes t w2 ht).mono ?_
  rintro e w0 ⟨rfl, hw0⟩
  subst w0
  go_wp2_with fail
  refine (snumber_any B S R n X _ (dx t) (db t) os m w2 h2 (by omega) p3 (by omega) (by omega)).mono ?_
  rintro e w3 ⟨rfl, h3, f3⟩
  rw [e3, hdc]
  have F3 := f12.trans f3
  obtain ⟨ao3, c3, k1, _⟩ := h3.c1
  have H3 : Hid (Stm w3 B S R n X (p + lx s + (Dd t).toNat + dx t) os m) := h3
  have HF3 : Hid (Sw B w w3) := F3
  clear h2 h3 f3 F3 f12 e1 e2 e3 p1 p2' p3 hlc hdc bl bd
  obtain ⟨l, hll⟩ : ∃ l, l = os.length := ⟨_, rfl⟩
  have HLL : Hid (l = os.length) := hll
  rw [← hll] at k1 hL
  clear hll
  by_cases hfar : l < d
  · have q : (l : Int) < d := by omega
    go_wp2
    go_ret
    exact ⟨2, rfl, .inl ⟨by rw [← HLL.out]; exact hfar, rfl⟩, (fun e => by omega), HF3.out⟩
  · have q : ¬ (l : Int) < d := by omega
    go_wp2
    go_loopw [57] (fun iv wr => ∃ k : Nat, k ≤ len ∧ iv = .int .i64 k ∧ (k = 0 ∨ l + k ≤ m) ∧ Hid (Stm wr B S R n X (p + lx s + (Dd t).toNat + dx t) (cps k d os) m) ∧ Hid (Sw B w wr)) (fun iv _ => len - (intOf iv).toNat)
    case atStart => exact ⟨0, by omega, rfl, .inl rfl, H3, HF3⟩
    case round =>
      obtain ⟨k, hk, rfl, hkm, HS, HW⟩ := hrel
      clear H3 HF3 k1
      by_cases hlt : k < len
      · obtain ⟨ys, hys⟩ : ∃ ys, ys = cps k d os := ⟨_, rfl⟩
        have hyl : ys.length = l + k := by rw [hys, cps_len, HLL.out]
        have hcons : cps (k + 1) d os = ys ++ [ys.getD (ys.length - d) 0] := by rw [hys]; rfl
        have HS' : Stm wr B S R n X (p + lx s + (Dd t).toNat + dx t) ys m := by rw [hys]; exact HS.out
        obtain ⟨ya, yc, k1, hrd⟩ := HS'.c1
        obtain ⟨g, off, rfl, hcell⟩ := hrd.plain (by omega)
        have hj := hcell (ys.length - d) (by omega)
        have hxb := hrd.byt (ys.getD (ys.length - d) 0) (by
          rw [List.getD, List.getElem?_eq_getElem (show ys.length - d < ys.length by omega)]
          simp)
        obtain ⟨x, hx⟩ : ∃ x, x = ys.getD (ys.length - d) 0 := ⟨_, rfl⟩
        rw [← hx] at hj hxb hcons
        obtain ⟨N, hN⟩ : ∃ N, N = ys.length := ⟨_, rfl⟩
        rw [← hN] at hj k1 hyl
        obtain ⟨j, hjj⟩ : ∃ j, j = N - d := ⟨_, rfl⟩
        rw [← hjj] at hj
        have q1 : (N : Int) - d = j := by omega
        have q2 : IntKind.i64.wrap (j : Int) = j := wraps_i64 _ (by omega) (by omega)
        have q3 : j < N := by omega
        have q4 : (j : Int) < N := by omega
        have HN : Hid (N = ys.length) := hN
        have HC : Hid (cps (k + 1) d os = ys ++ [x]) := hcons
        have HSD : Hid (Stm wr.drew B S R n X (p + lx s + (Dd t).toNat + dx t) ys m) := HS'.drew
        have HY : Hid (N = l + k) := hyl
        have hN0 : N ≤ 2000000 := by omega
        clear hys hcons HS' hrd hcell hx hN hjj HS hyl
        by_cases hroom : N < m
        · have hput := sput_yes B S R n X (p + lx s + (Dd t).toNat + dx t) x ys m wr.drew HSD.out (by have := HN.out; omega) (by have := HN.out; omega) hxb.1 hxb.2
          have hr2 : k + 1 ≤ len := by omega
          have hr3 : l + (k + 1) ≤ m := by have := HY.out; omega
          go_wp2_with fail
          go_region_with (go_at_call 122; refine hput.mono ?_; rintro e w4 ⟨rfl, h4, f4⟩)
          all_goals
            have S4 : Hid (Stm w4 B S R n X (p + lx s + (Dd t).toNat + dx t) (cps (k + 1) d os) m) := by rw [HC.out]; exact h4
            have W4 : Hid (Sw B w w4) := HW.out.drew.trans f4
            clear h4 f4 HW HC HSD HN hput hj k1
            go_wp2
            go_roundw
            case rel => exact ⟨k + 1, hr2, by go_num, .inr hr3, S4, W4⟩
            case measure => simp [intOf]; omega
        · have hput := sput_no B S R n X (p + lx s + (Dd t).toNat + dx t) x ys m wr.drew HSD.out (by have := HN.out; omega)
          have hfin : Rpt m os.length len d 5 := .inr (.inr ⟨by rw [← HLL.out]; omega, by rw [← HLL.out]; have := HY.out; omega, rfl⟩)
          have HFI : Hid (Rpt m os.length len d 5) := hfin
          clear hfin
          go_wp2_with fail
          go_region_with (go_at_call 122; refine hput.mono ?_; rintro e w4 ⟨rfl, f4⟩)
          all_goals
            have W4 : Hid (Sw B w w4) := HW.out.drew.trans f4
            clear f4 HW HC HSD HN hput hj k1
            go_wp2
            go_ret
            exact ⟨5, rfl, HFI.out, (fun e => by omega), W4.out⟩
      · obtain rfl : k = len := by omega
        clear hlt
        have hfit : l + k ≤ m := by omega
        go_wp2
        go_ret
        exact ⟨0, rfl, .inr (.inl ⟨by rw [← HLL.out]; omega, by rw [← HLL.out]; exact hfit, rfl⟩), fun _ => HS.out, HW.out⟩

/-- What is left to be read. -/
structure Sg (L : Nat → Int) (mA : Nat) (Dd : Nat → Int) (mD : Nat) (B S R n : Nat) (X : Int) (m : Nat) (w : World) (G : Int × List Int) (P : Nat) (gk : Nat) (wr : World) (l : List It) (p : Nat) (os : List Int) : Prop where
  len : l.length = gk
  st : Stm wr B S R n X p os m
  lay : Lay X n p (encsG L mA Dd mD l ++ [gf L mA 256])
  ok : ∀ i ∈ l, i.okG L mA Dd mD
  pl : play m l os = G
  pp : p + fb (encsG L mA Dd mD l) + (L 256).toNat = P
  ol : os.length ≤ m
  sw : Sw B w wr

set_option maxRecDepth 100000 in
set_option maxHeartbeats 2000000 in
theorem ssymbols_g (L : Nat → Int) (mA : Nat) (Dd : Nat → Int) (mD : Nat) (hfA : Fits L mA) (hfD : Fits Dd mD) (hE : 256 < mA ∧ 0 < L 256 ∧ L 256 ≤ 15) (B S R n : Nat) (X : Int) (p : Nat) (os : List Int) (m A D : Nat) (l : List It) (w : World) (h : Stm w B S R n X p os m) (hA : Cd w A L mA) (hD : Cd w D Dd mD) (hok : ∀ i ∈ l, i.okG L mA Dd mD) (hl : Lay X n p (encsG L mA Dd mD l ++ [gf L mA 256])) (hm : m ≤ 1000000) (hL : os.length ≤ m) (G : Int × List Int) (hG : play m l os = G) (P : Nat) (hP : p + fb (encsG L mA Dd mD l) + (L 256).toNat = P) :
    Calls Tryz.prog 90 #[.pointer (some ⟨S, 0, none⟩), .func (.func 91) #[.pointer (some ⟨A, 0, none⟩)] #[], .func (.func 91) #[.pointer (some ⟨D, 0, none⟩)] #[]] w fun e w' => e = .returned (.int .i64 G.1) ∧ (G.1 = 0 → Stm w' B S R n X P G.2 m) ∧ Sw B w w' := by
  obtain ⟨G1, G2⟩ := G
  simp only
  have H0 : Hid (Sg L mA Dd mD B S R n X m w (G1, G2) P l.length w l p os) := ⟨rfl, h, hl, hok, hG, hP, hL, Sw.refl _ _⟩
  have HA : Hid (Cd w A L mA) := hA
  have HD : Hid (Cd w D Dd mD) := hD
  clear h hA hD hok hl hL hG hP
  go_enter Tryz.func90, Tryz.ntmps90
  go_wp2_with fail
  go_loopg [] l.length (fun gk wr => ∃ l1 p1 os1, Hid (Sg L mA Dd mD B S R n X m w (G1, G2) P gk wr l1 p1 os1))
  case atStart => exact ⟨l, p, os, H0⟩
  case round =>
    obtain ⟨l1, p1, os1, HY⟩ := hrel
    clear H0
    have hst := HY.out.st
    have c0 := hst.c0
    have A1 := HA.out.kt HY.out.sw.kt
    have D1 := HD.out.kt HY.out.sw.kt
    cases l1 with
    | nil =>
      have hlay := HY.out.lay
      simp only [encsG, List.nil_append] at hlay
      obtain ⟨e1, e2, e3, _⟩ := gf_next hlay hE.2.1
      have hfin := HY.out.pl
      simp only [play, Prod.mk.injEq] at hfin
      obtain ⟨g1, g2⟩ := hfin
      have hpp := HY.out.pp
      simp only [encsG, fb] at hpp
      have hsw := HY.out.sw
      have hn := snext_any B S R n X p1 os1 m A L mA 256 (L 256).toNat wr hst A1 hfA hE.1 e1 (by omega) (by omega) e2 e3
      have HN : Hid (G1 = 0 ∧ G2 = os1 ∧ p1 + (L 256).toNat = P ∧ Sw B w wr) := ⟨g1.symm, g2.symm, by omega, hsw⟩
      clear hlay e1 e2 e3 g1 g2 hpp hsw HY hst A1 D1
      go_wp2_with (go_at_call 91; refine hn.mono ?_; rintro e w1 ⟨rfl, h1, f1⟩)
      go_ret
      obtain ⟨g1, g2, g3, g4⟩ := HN.out
      rw [g1, g2, ← g3]
      exact ⟨rfl, fun _ => h1, g4.trans f1⟩
    | cons i l2 =>
      cases i with
      | lit b =>
        obtain ⟨hb, hbm, hb0, hb15⟩ : It.okG L mA Dd mD (.lit b) := HY.out.ok (.lit b) (by simp)
        have hlay := HY.out.lay
        simp only [encsG, It.encG, List.cons_append, List.nil_append] at hlay
        obtain ⟨e1, e2, e3, hlay2⟩ := gf_next hlay hb0
        have hn := snext_any B S R n X p1 os1 m A L mA b (L b).toNat wr hst A1 hfA hbm e1 (by omega) (by omega) e2 e3
        have hpl := HY.out.pl
        have q1 : ((b : Int) == 256) = false := by simp; omega
        have q2 : (b : Int) < 256 := by omega
        have q3 : IntKind.u8.wrap (b : Int) = b := by simp [IntKind.wrap, IntKind.bits, IntKind.signed]; omega
        have HL2 : Hid (Lay X n (p1 + (L b).toNat) (encsG L mA Dd mD l2 ++ [gf L mA 256])) := hlay2
        clear hlay hlay2 e1 e2 e3 hst A1 D1
        by_cases hroom : os1.length < m
        · rw [play, if_pos hroom] at hpl
          have HP : Hid (play m l2 (os1 ++ [(b : Int)]) = (G1, G2)) := hpl
          clear hpl
          go_wp2_with (first
            | (go_at_call 122; refine (sput_yes B S R n X _ b os1 m w1 h1 (by omega) (by omega) (by omega) (by omega)).mono ?_; rintro e w2 ⟨rfl, h2, f2⟩)
            | (go_at_call 91; refine hn.mono ?_; rintro e w1 ⟨rfl, h1, f1⟩))
          have hs2 : Hid (Sg L mA Dd mD B S R n X m w (G1, G2) P l2.length w2 l2 (p1 + (L b).toNat) (os1 ++ [(b : Int)])) := by
            refine ⟨rfl, h2, HL2.out, fun j hj => HY.out.ok j (by simp [hj]), HP.out, ?_, by simp; omega, (HY.out.sw.trans f1).trans f2⟩
            have := HY.out.pp
            simp only [encsG, It.encG, fb_app, fb, gf] at this
            omega
          have hgk : Hid (l2.length < gk) := by
            have := HY.out.len
            simp at this
            show l2.length < gk
            omega
          clear h1 h2 f1 f2 HY HP HL2 hn
          go_wp2_with fail
          go_roundg l2.length
          case measure => exact hgk.out
          case rel => exact ⟨l2, _, _, hs2⟩
        · rw [play, if_neg hroom] at hpl
          simp only [Prod.mk.injEq] at hpl
          have HG1 : Hid (G1 = 5) := hpl.1.symm
          clear hpl
          go_wp2_with (first
            | (go_at_call 122; refine (sput_no B S R n X _ b os1 m w1 h1 (by omega)).mono ?_; rintro e w2 ⟨rfl, f2⟩)
            | (go_at_call 91; refine hn.mono ?_; rintro e w1 ⟨rfl, h1, f1⟩))
          go_ret
          rw [HG1.out]
          exact ⟨rfl, (fun e => by omega), (HY.out.sw.trans f1).trans f2⟩
      | cpy s v t u =>
        have hit : It.okG L mA Dd mD (.cpy s v t u) := HY.out.ok (.cpy s v t u) (by simp)
        have hs0 := hit.1
        have hs1 := hit.2.1
        have hlay := HY.out.lay
        have hsm := hit.2.2.1
        have hsl := hit.2.2.2.1
        have hsl15 := hit.2.2.2.2.1
        simp only [encsG, It.encG, List.cons_append, List.nil_append] at hlay
        obtain ⟨e1, e2, e3, hlay2⟩ := gf_next hlay hsl
        have hn := snext_any B S R n X p1 os1 m A L mA s (L s).toNat wr hst A1 hfA hsm e1 (by omega) (by omega) e2 e3
        have hl3 : Lay X n (p1 + (L s).toNat) ([((v : Int), lx s), gf Dd mD t, ((u : Int), dx t)] ++ (encsG L mA Dd mD l2 ++ [gf L mA 256])) := hlay2
        have HL3 : Hid (Lay X n (p1 + (L s).toNat) [((v : Int), lx s), gf Dd mD t, ((u : Int), dx t)]) := hl3.front
        have HL4 : Hid (Lay X n (p1 + (L s).toNat + lx s + (Dd t).toNat + dx t) (encsG L mA Dd mD l2 ++ [gf L mA 256])) := by
          have := hl3.tail
          simp only [fb, gf] at this
          rw [show p1 + (L s).toNat + lx s + (Dd t).toNat + dx t = p1 + (L s).toNat + (lx s + ((Dd t).toNat + (dx t + 0))) by omega]
          exact this
        have hpl := HY.out.pl
        rw [play] at hpl
        have HPL : Hid ((if os1.length < db t + u then ((2 : Int), os1) else if os1.length + (lb s + v) ≤ m then play m l2 (cps (lb s + v) (db t + u) os1) else (5, os1)) = (G1, G2)) := hpl
        have hol := HY.out.ol
        have q1 : ((s : Int) == 256) = false := by simp; omega
        have q2 : ¬ (s : Int) < 256 := by omega
        clear hlay hlay2 hl3 e1 e2 e3 hst A1 hpl
        go_wp2_with (go_at_call 91; refine hn.mono ?_; rintro e w1 ⟨rfl, h1, f1⟩)
        refine (srepeat_g L mA B S R n X _ os1 m Dd mD D s v t u w1 h1 (D1.kt f1.kt) hfD hit HL3.out hm (by omega)).mono ?_
        rintro e w2 ⟨g, rfl, hg, h2, f2⟩
        rcases hg with ⟨r1, rfl⟩ | ⟨r1, r2, rfl⟩ | ⟨r1, r2, rfl⟩
        · have HG1 : Hid (G1 = 2) := by
            have := HPL.out
            rw [if_pos r1, Prod.mk.injEq] at this
            exact this.1.symm
          clear h1 h2 hn hit D1 HPL
          go_wp2
          go_ret
          rw [HG1.out]
          exact ⟨rfl, (fun e => by omega), (HY.out.sw.trans f1).trans f2⟩
        · have hgo : play m l2 (cps (lb s + v) (db t + u) os1) = (G1, G2) := by
            have := HPL.out
            rw [if_neg (by omega), if_pos r2] at this
            exact this
          have hs2 : Hid (Sg L mA Dd mD B S R n X m w (G1, G2) P l2.length w2 l2 (p1 + (L s).toNat + lx s + (Dd t).toNat + dx t) (cps (lb s + v) (db t + u) os1)) := by
            refine ⟨rfl, h2 rfl, HL4.out, fun j hj => HY.out.ok j (by simp [hj]), hgo, ?_, by rw [cps_len]; omega, (HY.out.sw.trans f1).trans f2⟩
            have := HY.out.pp
            simp only [encsG, It.encG, fb_app, fb, gf] at this
            omega
          have hgk : Hid (l2.length < gk) := by
            have := HY.out.len
            simp at this
            show l2.length < gk
            omega
          clear h1 h2 f1 f2 HY HPL HL3 HL4 hn hit D1 hgo
          go_wp2
          go_roundg l2.length
          case measure => exact hgk.out
          case rel => exact ⟨l2, _, _, hs2⟩
        · have HG1 : Hid (G1 = 5) := by
            have := HPL.out
            rw [if_neg (by omega), if_neg (by omega), Prod.mk.injEq] at this
            exact this.1.symm
          clear h1 h2 hn hit D1 HPL
          go_wp2
          go_ret
          rw [HG1.out]
          exact ⟨rfl, (fun e => by omega), (HY.out.sw.trans f1).trans f2⟩

theorem scoded_g (L : Nat → Int) (mA : Nat) (Dd : Nat → Int) (mD : Nat) (hnA : nw L mA true = 0) (hnD : nw Dd mD true = 0) (hfA : Fits L mA) (hfD : Fits Dd mD) (hE : 256 < mA ∧ 0 < L 256 ∧ L 256 ≤ 15) (B S R n : Nat) (X : Int) (p : Nat) (os : List Int) (m : Nat) (la : Option Addr) (lc : Nat) (da : Option Addr) (dc : Nat) (l : List It) (w : World) (h : Stm w B S R n X p os m) (hA : Ri w la mA lc L) (hD : Ri w da mD dc Dd) (hok : ∀ i ∈ l, i.okG L mA Dd mD) (hl : Lay X n p (encsG L mA Dd mD l ++ [gf L mA 256])) (hm : m ≤ 1000000) (hL : os.length ≤ m) (G : Int × List Int) (hG : play m l os = G) (P : Nat) (hP : p + fb (encsG L mA Dd mD l) + (L 256).toNat = P) :
    Calls Tryz.prog 62 #[.pointer (some ⟨S, 0, none⟩), .slice la mA lc, .slice da mD dc] w fun e w' => e = .returned (.int .i64 G.1) ∧ (G.1 = 0 → Stm w' B S R n X P G.2 m) ∧ Sw B w w' := by
  go_enter Tryz.func62, Tryz.ntmps62
  go_wp2_with fail
  refine (new_cd la mA lc L true w hA hnA).mono ?_
  rintro e w1 ⟨a, rfl, c1, b1⟩
  have hD1 := hD.keep b1
  have h1 := h.keep b1
  have s1 := Sw.keep h.bB b1
  clear h hA hD b1
  go_wp2_with fail
  refine (new_cd da mD dc Dd true w1 hD1 hnD).mono ?_
  rintro e w2 ⟨d, rfl, c2, b2⟩
  have h2 := h1.keep b2
  have c1' := c1.kt (Kt.ofBelow b2)
  have s2 := s1.trans (Sw.keep h1.bB b2)
  clear h1 hD1 b2 c1 s1
  go_wp2_with (go_at_call 90; refine (ssymbols_g L mA Dd mD hfA hfD hE B S R n X p os m a d l w2 h2 c1' c2 hok hl hm hL G hG P hP).mono ?_; rintro e w3 ⟨rfl, h3, s3⟩)
  go_ret
  exact ⟨rfl, h3, s2.trans s3⟩

end Go.Proofs.YtiahbicodlgmhaaGreatDoor
