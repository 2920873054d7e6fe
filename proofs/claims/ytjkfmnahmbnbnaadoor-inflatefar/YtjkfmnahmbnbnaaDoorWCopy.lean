/- A symbol read by a stream; repeat. -/
import Derived.Test.YtjkfmnahmbnbnaaDoorWStream
import Derived.Test.YtjkfmnahmbnbnaaDoorFld
namespace Go.Proofs.YtjkfmnahmbnbnaaDoor
open Go.RowKit

theorem Stm.c0 {w : World} {B S R n : Nat} {X : Int} {p : Nat} {os : List Int} {m : Int} (h : Stm w B S R n X p os m) : w.cell? ⟨S, 0, none⟩ = some (.pointer (some ⟨R, 0, none⟩)) := by
  obtain ⟨ao, c, v, h⟩ := h
  exact h.row.cell (i := 0) (by omega)

theorem Stm.c2 {w : World} {B S R n : Nat} {X : Int} {p : Nat} {os : List Int} {m : Int} (h : Stm w B S R n X p os m) : w.cell? ⟨S, 2, none⟩ = some (.int .i64 m) := by
  obtain ⟨ao, c, v, h⟩ := h
  exact h.row.cell (i := 2) (by omega)

theorem Stm.c1 {w : World} {B S R n : Nat} {X : Int} {p : Nat} {os : List Int} {m : Int} (h : Stm w B S R n X p os m) : ∃ ao c, w.cell? ⟨S, 1, none⟩ = some (.slice ao os.length c) ∧ Rd w ao os.length c os := by
  obtain ⟨ao, c, v, h⟩ := h
  obtain ⟨vo, vc, rfl, hr, _⟩ := own_rd h.own h.byt
  exact ⟨vo, vc, h.row.cell (i := 1) (by omega), hr⟩

theorem Stm.byt {w : World} {B S R n : Nat} {X : Int} {p : Nat} {os : List Int} {m : Int} (h : Stm w B S R n X p os m) : ∀ x ∈ os, 0 ≤ x ∧ x < 256 := by
  obtain ⟨ao, c, v, h⟩ := h
  exact h.byt

theorem snext_any (B S R n : Nat) (X : Int) (p : Nat) (os : List Int) (m : Int) (D : Nat) (L : Nat → Int) (mL i x : Nat) (w : World) (h : Stm w B S R n X p os m) (hD : Cd w D L mL) (hf : Fits L mL) (hi : i < mL) (hx : L i = x) (hx0 : 0 < x) (hx15 : x ≤ 15) (hp : p + x ≤ 8 * n) (hb : X / 2 ^ p % 2 ^ x = T (cd L mL i) x) :
    Calls Tryd.prog 41 #[.pointer (some ⟨D, 0, none⟩), .pointer (some ⟨R, 0, none⟩)] w fun e w' => e = .returned (.tuple #[.int .i64 i, .int .i64 0]) ∧ Stm w' B S R n X (p + x) os m ∧ Sw B w w' := by
  obtain ⟨ao, c, v, h⟩ := h
  refine (next_any D L mL R ao n c X p w hD h.rd).mono ?_
  rintro e w' ⟨s, g, q, rfl, hN, hr, hfr⟩
  obtain ⟨rfl, rfl, rfl⟩ := nx_sym hf hi hx hx0 hx15 hp hb hN
  obtain ⟨h1, h2⟩ := h.read hr hfr
  exact ⟨rfl, ⟨ao, c, v, h1⟩, h2⟩

/-- What a copy of k bytes from d behind answers, where l are there and m may be. -/
def Rpt (m l k d : Nat) (g : Int) : Prop := (l < d ∧ g = 2) ∨ (d ≤ l ∧ l + k ≤ m ∧ g = 0) ∨ (d ≤ l ∧ m < l + k ∧ g = 5)

set_option maxRecDepth 100000 in
set_option maxHeartbeats 2000000 in
theorem srepeat_any (B S R n : Nat) (X : Int) (p : Nat) (os : List Int) (m : Nat) (D s v t u : Nat) (w : World) (h : Stm w B S R n X p os m) (hD : Cd w D dl 32) (hok : It.ok (.cpy s v t u)) (hl : Lay X n p [((v : Int), lx s), df t, ((u : Int), dx t)]) (hm : m ≤ 1000000) (hL : os.length ≤ 1000000) :
    Calls Tryd.prog 56 #[.pointer (some ⟨S, 0, none⟩), .int .i64 s, .func (.func 41) #[.pointer (some ⟨D, 0, none⟩)] #[]] w fun e w' => ∃ g, e = .returned (.int .i64 g) ∧ Rpt m os.length (lb s + v) (db t + u) g ∧ (g = 0 → Stm w' B S R n X (p + lx s + 5 + dx t) (cps (lb s + v) (db t + u) os) m) ∧ Sw B w w' := by
  obtain ⟨hs0, hs1, hv, ht, hu⟩ := hok
  obtain ⟨e1, p1, hl1⟩ := hl.head
  obtain ⟨e2, p2', hl2⟩ := hl1.head
  obtain ⟨e3, p3, _⟩ := hl2.head
  have bl := lb_le s (by omega) hs0
  have bd := db_le t ht
  simp only [df] at e2 p2' p3 e3
  simp only at e1 p1 p2' e2 e3 p3
  have vv : v < 32 := Nat.lt_of_lt_of_le hv (Nat.pow_le_pow_right (by omega) (by omega : lx s ≤ 5))
  have uu : u < 8192 := Nat.lt_of_lt_of_le hu (Nat.pow_le_pow_right (by omega) (by omega : dx t ≤ 13))
  obtain ⟨len, hlen⟩ : ∃ len, len = lb s + v := ⟨_, rfl⟩
  obtain ⟨d, hd⟩ : ∃ d, d = db t + u := ⟨_, rfl⟩
  have hlen0 : 3 ≤ len ∧ len ≤ 300 := by omega
  have hd0 : 1 ≤ d ∧ d ≤ 40000 := by omega
  have hlc : ((lb s : Nat) : Int) + v = len := by omega
  have hdc : ((db t : Nat) : Int) + u = d := by omega
  rw [← hlen, ← hd]
  have c0 := h.c0
  clear hlen hd hv hu hl hl1 hl2
  go_enter Tryd.func56, Tryd.ntmps56
  go_wp2_with fail
  refine (length_yes s w hs0 hs1).mono ?_
  rintro e w0 ⟨rfl, hw0⟩
  subst w0
  go_wp2_with fail
  refine (snumber_any B S R n X p (lx s) (lb s) os m w h (by omega) p1 (by omega) (by omega)).mono ?_
  rintro e w1 ⟨rfl, h1, f1⟩
  rw [e1, hlc]
  have c01 := h1.c0
  have D1 := hD.kt f1.kt
  clear h c0 hD
  go_wp2_with fail
  refine (snext_any B S R n X _ os m D dl 32 t 5 w1 h1 D1 dl_fits (by omega) rfl (by omega) (by omega) p2' (by rw [e2, dl_cd t (by omega)])).mono ?_
  rintro e w2 ⟨rfl, h2, f2⟩
  have f12 := f1.trans f2
  clear h1 c01 D1 f1 f2
  go_wp2_with fail
  refine (distance_yes t w2 ht).mono ?_
  rintro e w0 ⟨rfl, hw0⟩
  subst w0
  go_wp2_with fail
  refine (snumber_any B S R n X _ (dx t) (db t) os m w2 h2 (by omega) p3 (by omega) (by omega)).mono ?_
  rintro e w3 ⟨rfl, h3, f3⟩
  rw [e3, hdc]
  have F3 := f12.trans f3
  obtain ⟨ao3, c3, k1, _⟩ := h3.c1
  have H3 : Hid (Stm w3 B S R n X (p + lx s + 5 + dx t) os m) := h3
  have HF3 : Hid (Sw B w w3) := F3
  clear h2 h3 f3 F3 f12 e1 e2 e3 p1 p2' p3 hlc hdc bl bd
  obtain ⟨l, hll⟩ : ∃ l, l = os.length := ⟨_, rfl⟩
  have HLL : Hid (l = os.length) := hll
  rw [← hll] at k1 hL
  clear hll
  by_cases hfar : l < d
  · have q : (l : Int) < d := by omega
    go_wp2
    go_ret
    exact ⟨2, rfl, .inl ⟨by rw [← HLL.out]; exact hfar, rfl⟩, (fun e => by omega), HF3.out⟩
  · have q : ¬ (l : Int) < d := by omega
    go_wp2
    go_loopw [57] (fun iv wr => ∃ k : Nat, k ≤ len ∧ iv = .int .i64 k ∧ (k = 0 ∨ l + k ≤ m) ∧ Hid (Stm wr B S R n X (p + lx s + 5 + dx t) (cps k d os) m) ∧ Hid (Sw B w wr)) (fun iv _ => len - (intOf iv).toNat)
    case atStart => exact ⟨0, by omega, rfl, .inl rfl, H3, HF3⟩
    case round =>
      obtain ⟨k, hk, rfl, hkm, HS, HW⟩ := hrel
      clear H3 HF3 k1
      by_cases hlt : k < len
      · obtain ⟨ys, hys⟩ : ∃ ys, ys = cps k d os := ⟨_, rfl⟩
        have hyl : ys.length = l + k := by rw [hys, cps_len, HLL.out]
        have hcons : cps (k + 1) d os = ys ++ [ys.getD (ys.length - d) 0] := by rw [hys]; rfl
        have HS' : Stm wr B S R n X (p + lx s + 5 + dx t) ys m := by rw [hys]; exact HS.out
        obtain ⟨ya, yc, k1, hrd⟩ := HS'.c1
        obtain ⟨g, off, rfl, hcell⟩ := hrd.plain (by omega)
        have hj := hcell (ys.length - d) (by omega)
        have hxb := hrd.byt (ys.getD (ys.length - d) 0) (by
          rw [List.getD, List.getElem?_eq_getElem (show ys.length - d < ys.length by omega)]
          simp)
        obtain ⟨x, hx⟩ : ∃ x, x = ys.getD (ys.length - d) 0 := ⟨_, rfl⟩
        rw [← hx] at hj hxb hcons
        obtain ⟨N, hN⟩ : ∃ N, N = ys.length := ⟨_, rfl⟩
        rw [← hN] at hj k1 hyl
        obtain ⟨j, hjj⟩ : ∃ j, j = N - d := ⟨_, rfl⟩
        rw [← hjj] at hj
        have q1 : (N : Int) - d = j := by omega
        have q2 : IntKind.i64.wrap (j : Int) = j := wraps_i64 _ (by omega) (by omega)
        have q3 : j < N := by omega
        have q4 : (j : Int) < N := by omega
        have HN : Hid (N = ys.length) := hN
        have HC : Hid (cps (k + 1) d os = ys ++ [x]) := hcons
        have HSD : Hid (Stm wr.drew B S R n X (p + lx s + 5 + dx t) ys m) := HS'.drew
        have HY : Hid (N = l + k) := hyl
        have hN0 : N ≤ 2000000 := by omega
        clear hys hcons HS' hrd hcell hx hN hjj HS hyl
        by_cases hroom : N < m
        · have hput := sput_yes B S R n X (p + lx s + 5 + dx t) x ys m wr.drew HSD.out (by have := HN.out; omega) (by have := HN.out; omega) hxb.1 hxb.2
          have hr2 : k + 1 ≤ len := by omega
          have hr3 : l + (k + 1) ≤ m := by have := HY.out; omega
          go_wp2_with fail
          go_region_with (go_at_call 55; refine hput.mono ?_; rintro e w4 ⟨rfl, h4, f4⟩)
          all_goals
            have S4 : Hid (Stm w4 B S R n X (p + lx s + 5 + dx t) (cps (k + 1) d os) m) := by rw [HC.out]; exact h4
            have W4 : Hid (Sw B w w4) := HW.out.drew.trans f4
            clear h4 f4 HW HC HSD HN hput hj k1
            go_wp2
            go_roundw
            case rel => exact ⟨k + 1, hr2, by go_num, .inr hr3, S4, W4⟩
            case measure => simp [intOf]; omega
        · have hput := sput_no B S R n X (p + lx s + 5 + dx t) x ys m wr.drew HSD.out (by have := HN.out; omega)
          have hfin : Rpt m os.length len d 5 := .inr (.inr ⟨by rw [← HLL.out]; omega, by rw [← HLL.out]; have := HY.out; omega, rfl⟩)
          have HFI : Hid (Rpt m os.length len d 5) := hfin
          clear hfin
          go_wp2_with fail
          go_region_with (go_at_call 55; refine hput.mono ?_; rintro e w4 ⟨rfl, f4⟩)
          all_goals
            have W4 : Hid (Sw B w w4) := HW.out.drew.trans f4
            clear f4 HW HC HSD HN hput hj k1
            go_wp2
            go_ret
            exact ⟨5, rfl, HFI.out, (fun e => by omega), W4.out⟩
      · obtain rfl : k = len := by omega
        clear hlt
        have hfit : l + k ≤ m := by omega
        go_wp2
        go_ret
        exact ⟨0, rfl, .inr (.inl ⟨by rw [← HLL.out]; omega, by rw [← HLL.out]; exact hfit, rfl⟩), fun _ => HS.out, HW.out⟩

end Go.Proofs.YtjkfmnahmbnbnaaDoor
