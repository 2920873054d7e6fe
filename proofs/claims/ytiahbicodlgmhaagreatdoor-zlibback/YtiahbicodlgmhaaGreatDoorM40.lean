/- XGet, XSto: the document's own functions, walked. -/
import Derived.Test.YtiahbicodlgmhaaGreatDoorM38
import Derived.Test.YtiahbicodlgmhaaGreatDoorM07
import Derived.Test.YtiahbicodlgmhaaGreatDoorM08
import Derived.Test.YtiahbicodlgmhaaGreatDoorM26
/- The document's get, sym, put. -/
namespace Go.Proofs.YtiahbicodlgmhaaGreatDoor.D
open Go.RowKit

theorem Stm.c0 {w : World} {B S R n : Nat} {X : Int} {p : Nat} {os : List Int} {m : Int} (h : Stm w B S R n X p os m) : w.cell? ⟨S, 0, none⟩ = some (.pointer (some ⟨R, 0, none⟩)) := by
  obtain ⟨ao, c, v, h⟩ := h
  exact h.row.cell (i := 0) (by omega)

theorem Stm.c2 {w : World} {B S R n : Nat} {X : Int} {p : Nat} {os : List Int} {m : Int} (h : Stm w B S R n X p os m) : w.cell? ⟨S, 2, none⟩ = some (.int .i64 m) := by
  obtain ⟨ao, c, v, h⟩ := h
  exact h.row.cell (i := 2) (by omega)

theorem Stm.c3 {w : World} {B S R n : Nat} {X : Int} {p : Nat} {os : List Int} {m : Int} (h : Stm w B S R n X p os m) : w.cell? ⟨S, 3, none⟩ = some (.int .i64 0) := by
  obtain ⟨ao, c, v, h⟩ := h
  exact h.row.cell (i := 3) (by omega)

theorem Stm.c1 {w : World} {B S R n : Nat} {X : Int} {p : Nat} {os : List Int} {m : Int} (h : Stm w B S R n X p os m) : ∃ ao c, w.cell? ⟨S, 1, none⟩ = some (.slice ao os.length c) ∧ Rd w ao os.length c os := by
  obtain ⟨ao, c, v, h⟩ := h
  obtain ⟨vo, vc, rfl, hr, _⟩ := own_rd h.own h.byt
  exact ⟨vo, vc, h.row.cell (i := 1) (by omega), hr⟩

section
variable (B S R : Nat) (ao : Option Addr) (n c : Nat) (X : Int) (p : Nat) (v : Value) (os : List Int) (m : Int)

theorem rget_S (k : Nat) (w : World) (h : IsS w B S R ao n c X p v os m) (hk : k ≤ 24) (hl : p + k ≤ 8 * n) :
    Calls Tryz.prog 49 #[.pointer (some ⟨S, 0, none⟩), .int .i64 k] w fun e w' => e = .returned (.int .i64 (X / 2 ^ p % 2 ^ k)) ∧ IsS w' B S R ao n c X (p + k) v os m ∧ Sw B w w' ∧ Fr (fun k => k = R) w w' := by
  have c0 := h.row.cell (i := 0) (by omega)
  have c3 := h.row.cell (i := 3) (by omega)
  simp only [scells] at c0 c3
  go_enter Tryz.func49, Tryz.ntmps49
  go_wp2_with (go_at_call 78; refine (yget_yes R ao n c X p k w h.rd hk hl).mono ?_; rintro e w1 ⟨rfl, hr, hf⟩)
  go_ret
  obtain ⟨h1, h2⟩ := h.read hr hf
  exact ⟨rfl, h1, h2, hf⟩

theorem rsym_S (D : Nat) (L : Nat → Int) (mL i x : Nat) (w : World) (h : IsS w B S R ao n c X p v os m) (hD : Xc w D L mL) (hf : Fits L mL) (hi : i < mL) (hx : L i = x) (hx0 : 0 < x) (hx15 : x ≤ 15) (hp : p + x ≤ 8 * n) (hb : X / 2 ^ p % 2 ^ x = T (cd L mL i) x) :
    Calls Tryz.prog 82 #[.pointer (some ⟨S, 0, none⟩), .pointer (some ⟨D, 0, none⟩)] w fun e w' => e = .returned (.int .i64 i) ∧ IsS w' B S R ao n c X (p + x) v os m ∧ Sw B w w' ∧ Fr (fun k => k = R) w w' := by
  obtain ⟨la, lc, cg, hD⟩ := hD
  have c0 := h.row.cell (i := 0) (by omega)
  have c3 := h.row.cell (i := 3) (by omega)
  simp only [scells] at c0 c3
  have hN : Calls Tryz.prog 113 #[.pointer (some ⟨D, 0, none⟩), .pointer (some ⟨R, 0, none⟩)] w fun e w' => e = .returned (.tuple #[.int .i64 i, .int .i64 0]) ∧ IsS w' B S R ao n c X (p + x) v os m ∧ Sw B w w' ∧ Fr (fun k => k = R) w w' := by
    refine (xnext_any D L mL la lc cg R ao n c X p w hD h.rd).mono ?_
    rintro e w' ⟨s, g, q, rfl, hN, hr, hfr⟩
    obtain ⟨rfl, rfl, rfl⟩ := nx_sym hf hi hx hx0 hx15 hp hb hN
    obtain ⟨h1, h2⟩ := h.read hr hfr
    exact ⟨rfl, h1, h2, hfr⟩
  clear h hD hf hb hp
  go_enter Tryz.func82, Tryz.ntmps82
  go_wp2_with (go_at_call 113; refine hN.mono ?_; rintro e w1 ⟨rfl, h1, h2, h3⟩)
  go_ret
  exact ⟨rfl, h1, h2, h3⟩

end

theorem rget_any (B S R n : Nat) (X : Int) (p k : Nat) (os : List Int) (m : Int) (w : World) (h : Stm w B S R n X p os m) (hk : k ≤ 24) (hl : p + k ≤ 8 * n) :
    Calls Tryz.prog 49 #[.pointer (some ⟨S, 0, none⟩), .int .i64 k] w fun e w' => e = .returned (.int .i64 (X / 2 ^ p % 2 ^ k)) ∧ Stm w' B S R n X (p + k) os m ∧ Sw B w w' := by
  obtain ⟨ao, c, v, h⟩ := h
  refine (rget_S B S R ao n c X p v os m k w h hk hl).mono ?_
  rintro e w' ⟨rfl, h1, h2, _⟩
  exact ⟨rfl, ⟨ao, c, v, h1⟩, h2⟩

theorem rsym_any (B S R n : Nat) (X : Int) (p : Nat) (os : List Int) (m : Int) (D : Nat) (L : Nat → Int) (mL i x : Nat) (w : World) (h : Stm w B S R n X p os m) (hD : Xc w D L mL) (hf : Fits L mL) (hi : i < mL) (hx : L i = x) (hx0 : 0 < x) (hx15 : x ≤ 15) (hp : p + x ≤ 8 * n) (hb : X / 2 ^ p % 2 ^ x = T (cd L mL i) x) :
    Calls Tryz.prog 82 #[.pointer (some ⟨S, 0, none⟩), .pointer (some ⟨D, 0, none⟩)] w fun e w' => e = .returned (.int .i64 i) ∧ Stm w' B S R n X (p + x) os m ∧ Sw B w w' := by
  obtain ⟨ao, c, v, h⟩ := h
  refine (rsym_S B S R ao n c X p v os m D L mL i x w h hD hf hi hx hx0 hx15 hp hb).mono ?_
  rintro e w' ⟨rfl, h1, h2, _⟩
  exact ⟨rfl, ⟨ao, c, v, h1⟩, h2⟩

set_option maxRecDepth 100000 in
set_option maxHeartbeats 1000000 in
theorem rput_yes (B S R n : Nat) (X : Int) (p : Nat) (b : Int) (os : List Int) (m : Int) (w : World) (h : Stm w B S R n X p os m) (hl : os.length < m) (hL : os.length ≤ 1000000) (b0 : 0 ≤ b) (b1 : b < 256) :
    Calls Tryz.prog 80 #[.pointer (some ⟨S, 0, none⟩), .int .u8 b] w fun e w' => e = .returned (.tuple #[]) ∧ Stm w' B S R n X p (os ++ [b]) m ∧ Sw B w w' := by
  obtain ⟨ao, c, v, h⟩ := h
  obtain ⟨i0, hi, hz0, hz1, hz2⟩ := info_parts Tryz.info5
  have c1 := h.row.cell (i := 1) (by omega)
  have c2 := h.row.cell (i := 2) (by omega)
  have c3 := h.row.cell (i := 3) (by omega)
  obtain ⟨vo, vc, rfl⟩ := slice_len h.own
  simp only [scells] at c1 c2 c3
  have hD := h.drew
  have d : decide (m ≤ ((os.length : Nat) : Int)) = false := by simp; omega
  have HS : Hid (IsS w.drew B S R ao n c X p (.slice vo os.length vc) os m) := hD
  clear h hD
  obtain ⟨l, hle⟩ : ∃ l, l = os.length := ⟨_, rfl⟩
  have HL : Hid (l = os.length) := hle
  rw [← hle] at c1 d hl hL
  clear hle
  go_enter Tryz.func80, Tryz.ntmps80
  go_wp2_with fail
  go_region
  go_wp2_with (at_builtin; refine wpList_append_lies _ rfl _ _ 22 rfl 0 5 i0 (.int .u8 0) 1 1 Tryz.underlying22 hi hz0 hz1 hz2 rfl (by decide) (.slice vo l vc) l (os.map (Value.int .u8)) rfl (by rw [HL.out]; exact HS.out.own.alloc _) ⟨w.heap.size, 0, none⟩ 1 1 [_] rfl rfl (cell_one_new _ _ _) (by intro u hu; simp at hu; subst hu; rfl) (by omega) (by unfold maxLen; omega) (by omega) (by omega) (w.heap.size + 1) (by simp) ?_; intro g c5 w5 o5 g5 l5 s5; rw [HL.out] at o5 g5 l5; have gg : (w.drew.alloc (Obj.cells #[Value.int IntKind.u8 b] 5)).grownBy w5 (Value.slice vo os.length vc).ownBlock := g5; have k0 := (s_after HS.out gg).cell (i := 1) (by omega); have k1 := (s_after HS.out gg).frozen 1; have HO : Hid (w5.ownsRow 0 5 1 (.slice (some ⟨g, 0, none⟩) (os.length + 1) c5) (os.length + 1) (os.map (Value.int .u8) ++ [.int .u8 b]) ∧ (w.drew.alloc (Obj.cells #[Value.int IntKind.u8 b] 5)).grownBy w5 (Value.slice vo os.length vc).ownBlock ∧ ((Value.slice vo os.length vc).ownBlock = some g ∨ g = w.drew.heap.size + 1)) := ⟨o5, gg, l5⟩; clear o5 g5 l5 s5 gg)
  go_end0
  obtain ⟨h1, h2⟩ := s_pushed HS.out b0 b1 HO.out.1 HO.out.2.1 HO.out.2.2
  rw [HL.out]
  exact ⟨rfl, ⟨_, _, _, h1⟩, (Sw.refl B w).drew.trans h2⟩

end Go.Proofs.YtiahbicodlgmhaaGreatDoor.D

/- The document's Align, stored. -/
namespace Go.Proofs.YtiahbicodlgmhaaGreatDoor.D
open Go.RowKit

theorem yalign_any (R : Nat) (ao : Option Addr) (n c : Nat) (X : Int) (p q : Nat) (w : World) (h : IsY w R ao n c X p) (hq : (p + 7) / 8 * 8 = q) :
    Calls Tryz.prog 79 #[.pointer (some ⟨R, 0, none⟩)] w fun e w' => e = .returned (.tuple #[]) ∧ IsY w' R ao n c X q ∧ Fr (fun k => k = R) w w' := by
  have c1 := h.row.cell (i := 1) (by omega)
  have f1 := h.row.frozen 1
  simp only [ycells] at c1
  have hl := h.le
  have hm := h.lim
  have hF : Fr (fun j => j = R) w (w.setCell ⟨R, 1, none⟩ (.int .i64 (q : Int))) := (Fr.refl (fun j => j = R) w).setCell rfl _
  have hY2 := h.setPos q (by omega)
  have z1 : ((p : Int) + 7) / 8 * 8 = q := by omega
  have z2 : IntKind.i64.wrap ((p : Int) + 7) = (p : Int) + 7 := wraps_i64 _ (by omega) (by omega)
  have z3 : IntKind.i64.wrap (((p : Int) + 7) / 8) = ((p : Int) + 7) / 8 := wraps_i64 _ (by omega) (by omega)
  have z4 : IntKind.i64.wrap (q : Int) = q := wraps_i64 _ (by omega) (by omega)
  have H2 : Hid (IsY (w.setCell ⟨R, 1, none⟩ (.int .i64 (q : Int))) R ao n c X q) := hY2
  clear h hY2 hq
  go_enter Tryz.func79, Tryz.ntmps79
  go_wp2
  go_end0
  exact ⟨rfl, H2.out, hF⟩

theorem ralign_St (B S R n : Nat) (X : Int) (p : Nat) (os : List Int) (m : Int) (w : World) (h : Stm w B S R n X p os m) (q : Nat) (hq : (p + 7) / 8 * 8 = q) :
    Calls Tryz.prog 79 #[.pointer (some ⟨R, 0, none⟩)] w fun e w' => e = .returned (.tuple #[]) ∧ Stm w' B S R n X q os m ∧ Sw B w w' := by
  obtain ⟨ao, c, v, h⟩ := h
  refine (yalign_any R ao n c X p q w h.rd hq).mono ?_
  rintro e w' ⟨rfl, hr, hf⟩
  obtain ⟨h1, h2⟩ := h.read hr hf
  exact ⟨rfl, ⟨ao, c, v, h1⟩, h2⟩

theorem xor_all (b : Nat) (h : b ≤ 65535) : bits .xor .i64 (b : Int) (65535 - (b : Int)) = 65535 := by
  have h1 := bx64 b (65535 - b) (by omega) (by omega)
  rw [show (65535 : Int) - (b : Int) = ((65535 - b : Nat) : Int) by omega, h1]
  have h2 : b ^^^ (65535 - b) = 65535 := by
    rw [← xor_ones b (by omega), ← Nat.xor_assoc, Nat.xor_self, Nat.zero_xor]
  rw [h2]
  rfl

set_option maxRecDepth 100000 in
set_option maxHeartbeats 2000000 in
theorem rstored_yes (B S R n : Nat) (X : Int) (p : Nat) (os bs : List Int) (m : Nat) (w : World) (h : Stm w B S R n X p os m) (h8 : p % 8 = 3) (hb : ∀ x ∈ bs, 0 ≤ x ∧ x < 256) (hbl : bs.length ≤ 65535) (hroom : os.length + bs.length ≤ m) (hm : m ≤ 1000000)
    (hl : Lay X n p ((0, 5) :: ((bs.length : Int), 16) :: (65535 - (bs.length : Int), 16) :: bfs bs)) :
    Calls Tryz.prog 50 #[.pointer (some ⟨S, 0, none⟩)] w fun e w' => e = .returned (.tuple #[]) ∧ Stm w' B S R n X (p + 5 + 16 + 16 + 8 * bs.length) (os ++ bs) m ∧ Sw B w w' := by
  obtain ⟨_, _, hl1⟩ := hl.head
  obtain ⟨e1, p1, hl2⟩ := hl1.head
  obtain ⟨e2, p2', hl3⟩ := hl2.head
  simp only at e1 p1 e2 p2'
  have HL : Hid (Lay X n (p + 5 + 16 + 16) (bfs bs)) := hl3
  have hfl := xor_all bs.length (by omega)
  have c0 := h.c0
  obtain ⟨b, hbb⟩ : ∃ b, b = bs.length := ⟨_, rfl⟩
  have HB : Hid (b = bs.length) := hbb
  rw [← hbb] at e1 e2 hfl hroom hbl ⊢
  obtain ⟨t, ht⟩ : ∃ t : Int, t = 65535 - (b : Int) := ⟨_, rfl⟩
  rw [← ht] at e2 hfl
  clear hl hl1 hl2 hl3 hbb
  go_enter Tryz.func50, Tryz.ntmps50
  go_wp2_with fail
  refine (ralign_St B S R n X p os m w h (p + 5) (by omega)).mono ?_
  rintro e w1 ⟨rfl, h1, f1⟩
  clear h c0
  go_wp2_with fail
  refine (rget_any B S R n X (p + 5) 16 os m w1 h1 (by omega) p1).mono ?_
  rintro e w2 ⟨rfl, h2, f2⟩
  rw [e1]
  have f12 := f1.trans f2
  clear h1 f1 f2
  go_wp2_with fail
  refine (rget_any B S R n X (p + 5 + 16) 16 os m w2 h2 (by omega) p2').mono ?_
  rintro e w3 ⟨rfl, h3, f3⟩
  rw [e2]
  have k2 := h3.c2
  have k3 := h3.c3
  obtain ⟨ao, cc, k1, _⟩ := h3.c1
  obtain ⟨l, hll⟩ : ∃ l, l = os.length := ⟨_, rfl⟩
  have HLL : Hid (l = os.length) := hll
  rw [← hll] at k1 hroom
  have d1 : decide ((m : Int) - (l : Int) < (b : Int)) = false := by simp; omega
  have H3 : Hid (Stm w3.drew B S R n X (p + 5 + 16 + 16) os m) := h3.drew
  have F3 : Hid (Sw B w w3.drew) := (f12.trans f3).drew
  clear hll h2 h3 f12 f3 e1 e2 p1 p2' ht
  go_wp2_with fail
  go_region
  clear k1 k2 k3 d1 hfl
  go_wp2
  go_loopw [4] (fun iv wr => ∃ k : Nat, k ≤ b ∧ iv = .int .i64 k ∧ Hid (Stm wr B S R n X (p + 5 + 16 + 16 + 8 * k) (os ++ bs.take k) m) ∧ Hid (Lay X n (p + 5 + 16 + 16 + 8 * k) (bfs (bs.drop k))) ∧ Hid (Sw B w wr)) (fun iv _ => b - (intOf iv).toNat)
  case atStart => exact ⟨0, by omega, rfl, by simpa using H3, by simpa using HL, F3⟩
  case round =>
    clear H3 F3 HL
    obtain ⟨k, hk, rfl, HS, HL, HW⟩ := hrel
    by_cases hlt : k < b
    · have hkb : k < bs.length := by have := HB.out; omega
      obtain ⟨x, hx⟩ : ∃ x, x = bs[k] := ⟨_, rfl⟩
      have hdr : bs.drop k = x :: bs.drop (k + 1) := by rw [hx]; exact List.drop_eq_getElem_cons hkb
      have hlay := HL.out
      rw [hdr] at hlay
      obtain ⟨e1, p1, hlay2⟩ := Lay.head (x := (x, 8)) (l := bfs (bs.drop (k + 1))) hlay
      simp only at e1 p1 hlay2
      have hxb := hb x (by rw [hx]; exact List.getElem_mem _)
      have hget := rget_any B S R n X (p + 5 + 16 + 16 + 8 * k) 8 (os ++ bs.take k) m wr HS.out (by omega) p1
      rw [e1] at hget
      have q3 : IntKind.u8.wrap x = x := by simp [IntKind.wrap, IntKind.bits, IntKind.signed]; omega
      have htk : bs.take (k + 1) = bs.take k ++ [x] := by rw [hx]; simp
      have HT : Hid (os ++ bs.take (k + 1) = (os ++ bs.take k) ++ [x]) := by
        show os ++ bs.take (k + 1) = (os ++ bs.take k) ++ [x]
        rw [htk, List.append_assoc]
      have HL2 : Hid (Lay X n (p + 5 + 16 + 16 + 8 * (k + 1)) (bfs (bs.drop (k + 1)))) := by
        show Lay X n (p + 5 + 16 + 16 + 8 * (k + 1)) (bfs (bs.drop (k + 1)))
        rw [show p + 5 + 16 + 16 + 8 * (k + 1) = p + 5 + 16 + 16 + 8 * k + 8 by omega]
        exact hlay2
      have hyl : (os ++ bs.take k).length < m ∧ (os ++ bs.take k).length ≤ 1000000 := by rw [List.length_append, List.length_take, ← HLL.out, ← HB.out]; omega
      obtain ⟨ys, hys⟩ : ∃ ys, ys = os ++ bs.take k := ⟨_, rfl⟩
      rw [← hys] at hget hyl
      have HY : Hid (ys.length < m ∧ ys.length ≤ 1000000) := hyl
      have HT2 : Hid (os ++ bs.take (k + 1) = ys ++ [x]) := by rw [hys]; exact HT.out
      clear hdr hlay hlay2 e1 p1 htk hys HL HS hx HT hyl
      go_wp2_with (first
        | (go_at_call 80; refine (rput_yes B S R n X _ x ys m w4 h4 (by have := HY.out.1; omega) HY.out.2 hxb.1 hxb.2).mono ?_; rintro e w5 ⟨rfl, h5, f5⟩)
        | (go_at_call 49; refine hget.mono ?_; rintro e w4 ⟨rfl, h4, f4⟩))
      have R1 : Hid (Stm w5 B S R n X (p + 5 + 16 + 16 + 8 * (k + 1)) (os ++ bs.take (k + 1)) m) := by
        show Stm _ _ _ _ _ _ _ _ _
        rw [HT2.out, show p + 5 + 16 + 16 + 8 * (k + 1) = p + 5 + 16 + 16 + 8 * k + 8 by omega]
        exact h5
      have R2 : Hid (Sw B w w5) := (HW.out.trans f4).trans f5
      clear h4 f4 h5 f5 HW hget
      go_roundw
      case rel => exact ⟨k + 1, by omega, by go_num, R1, HL2, R2⟩
      case measure => simp [intOf]; omega
    · obtain rfl : k = b := by omega
      clear hlt
      go_wp2
      go_end0
      refine ⟨rfl, ?_, HW.out⟩
      have := HS.out
      rw [List.take_of_length_le (by have := HB.out; omega)] at this
      exact this

end Go.Proofs.YtiahbicodlgmhaaGreatDoor.D
