/- XReader, XCheck, XCodes, XNew, XNews, XSt, XNext: the document's own functions, walked. -/
import Derived.Test.YtiahbicodlgmhaaGreatDoorM07
import Derived.Deep.RegionWith
import Derived.Test.YtiahbicodlgmhaaGreatDoorM05
import Derived.Test.YtiahbicodlgmhaaGreatDoorM06
/- The document's own reader, and its Turn. -/
namespace Go.Proofs.YtiahbicodlgmhaaGreatDoor
open Go.RowKit

/-- The cells of the document's reader. -/
def ycells (sl : Value) (p : Int) : Nat → Value
  | 0 => sl
  | _ => .int .i64 p

/-- Block R is the document's reader of the n bytes of X, of which p bits were taken. -/
structure IsY (w : World) (R : Nat) (ao : Option Addr) (n c : Nat) (X : Int) (p : Nat) : Prop where
  row : w.rowIs R 53 2 (ycells (.slice ao n c) p)
  rd : Rd w ao n c (by8 X n)
  sep : ∀ ad, ao = some ad → 0 < n → ad.block ≠ R
  le : p ≤ 8 * n
  lim : n ≤ 1000000000

theorem IsY.fr {P : Nat → Prop} {w w' : World} {R : Nat} {ao : Option Addr} {n c : Nat} {X : Int} {p : Nat} (r : IsY w R ao n c X p) (hf : Fr P w w') (hR : ¬ P R) (hs : ∀ ad, ao = some ad → 0 < n → ¬ P ad.block) : IsY w' R ao n c X p :=
  ⟨rowIs_fr r.row hf hR, r.rd.fr hf hs, r.sep, r.le, r.lim⟩

theorem IsY.setPos {w : World} {R : Nat} {ao : Option Addr} {n c : Nat} {X : Int} {p : Nat} (r : IsY w R ao n c X p) (q : Nat) (hq : q ≤ 8 * n) : IsY (w.setCell ⟨R, 1, none⟩ (.int .i64 q)) R ao n c X q :=
  ⟨(r.row.set 1 _).congr (fun i hi => by rcases i with _ | _ | i <;> first | rfl | omega), r.rd.fr ((Fr.refl (fun k => k = R) w).setCell rfl _) r.sep, r.sep, hq, r.lim⟩

theorem yleft_any (R : Nat) (ao : Option Addr) (n c : Nat) (X : Int) (p : Nat) (w : World) (h : IsY w R ao n c X p) :
    Calls Tryz.prog 110 #[.pointer (some ⟨R, 0, none⟩)] w fun e w' => e = .returned (.int .i64 (8 * (n : Int) - p)) ∧ w' = w.drew := by
  have c0 := h.row.cell (i := 0) (by omega)
  have c1 := h.row.cell (i := 1) (by omega)
  have hl := h.le
  have hm := h.lim
  simp only [ycells] at c0 c1
  clear h
  go_enter Tryz.func110, Tryz.ntmps110
  go_wp2
  go_region
  go_wp2
  go_ret
  exact ⟨by go_num, rfl⟩

theorem yget_no (R : Nat) (ao : Option Addr) (n c : Nat) (X : Int) (p : Nat) (m : Int) (w : World) (h : IsY w R ao n c X p) (hm : m < 0 ∨ 24 < m ∨ 8 * (n : Int) - p < m) :
    Calls Tryz.prog 78 #[.pointer (some ⟨R, 0, none⟩), .int .i64 m] w fun e w' => e = .returned (.tuple #[.int .i64 0, .bool false]) ∧ (w' = w ∨ w' = w.drew) := by
  by_cases h0 : m < 0
  · clear hm
    go_enter Tryz.func78, Tryz.ntmps78
    go_wp2
    go_ret2
    exact ⟨rfl, .inl rfl⟩
  by_cases h1 : 24 < m
  · clear hm
    go_enter Tryz.func78, Tryz.ntmps78
    go_wp2
    go_ret2
    exact ⟨rfl, .inl rfl⟩
  · have h2 : 8 * (n : Int) - p < m := by omega
    clear hm
    go_enter Tryz.func78, Tryz.ntmps78
    go_wp2_with (go_at_call 110; refine (yleft_any R ao n c X p w h).mono ?_; rintro e w1 ⟨rfl, hw⟩; subst w1)
    go_ret2
    exact ⟨rfl, .inr rfl⟩

/-- A bit of a byte of X. -/
theorem bit_of (X : Int) (k q r : Nat) (hk : k = 8 * q + r) (hr : r < 8) : X / 2 ^ (8 * q) % 256 / 2 ^ r % 2 = X / 2 ^ k % 2 := by
  have h1 := mod_add (X / 2 ^ (8 * q)) r (8 - r)
  rw [show r + (8 - r) = 8 by omega] at h1
  rw [show (256 : Int) = 2 ^ 8 from rfl, h1, put_div _ _ _ _ (Nat.le_refl _), Nat.sub_self, Int.pow_zero, Int.one_mul, Int.ediv_eq_zero_of_lt (mod_nn _ _) (mod_lt _ _), Int.zero_add, div_div, ← hk]
  exact mod_mod (X / 2 ^ k) 1 (8 - r) (by omega)

set_option maxRecDepth 100000 in
set_option maxHeartbeats 2000000 in
theorem yget_yes (R : Nat) (ao : Option Addr) (n c : Nat) (X : Int) (p m : Nat) (w : World) (h : IsY w R ao n c X p) (hm : m ≤ 24) (hl : p + m ≤ 8 * n) :
    Calls Tryz.prog 78 #[.pointer (some ⟨R, 0, none⟩), .int .i64 m] w fun e w' => e = .returned (.tuple #[.int .i64 (X / 2 ^ p % 2 ^ m), .bool true]) ∧ IsY w' R ao n c X (p + m) ∧ Fr (fun k => k = R) w w' := by
  have hd0 : decide ((m : Int) < 0) = false := by simp
  have hd1 : decide ((24 : Int) < m) = false := by simp; omega
  have hd2 : decide (8 * (n : Int) - p < m) = false := by simp; omega
  have hY := h.fr (Fr.refl (fun _ => False) w).drew (fun h => h) (fun _ _ _ h => h)
  have c0 := hY.row.cell (i := 0) (by omega)
  have c1 := hY.row.cell (i := 1) (by omega)
  have f1 := hY.row.frozen 1
  simp only [ycells] at c0 c1
  have hlim := h.lim
  go_enter Tryz.func78, Tryz.ntmps78
  go_wp2_with (go_at_call 110; refine (yleft_any R ao n c X p w h).mono ?_; rintro e w1 ⟨rfl, hw⟩; subst w1)
  go_loop [6, 7, 8] (fun u i _ => ∃ k : Nat, k ≤ m ∧ i = .int .i64 k ∧ u = .int .i64 (X / 2 ^ p % 2 ^ k)) (fun _ i _ => m - (intOf i).toNat)
  case atStart => exact ⟨0, by omega, rfl, by simp⟩
  case round =>
    obtain ⟨k, hk, rfl, rfl⟩ := hrel
    clear hd0 hd1 hd2 h
    by_cases hlt : k < m
    · obtain ⟨b, off, rfl, hcell⟩ := hY.rd.plain (by omega)
      obtain ⟨q, hq⟩ : ∃ q, q = (p + k) / 8 := ⟨_, rfl⟩
      obtain ⟨r, hr⟩ : ∃ r, r = (p + k) % 8 := ⟨_, rfl⟩
      have hqi : ((p : Int) + k) / 8 = q := by omega
      have hri : ((p : Int) + k) % 8 = r := by omega
      have hqn : q < n := by omega
      have hr8 : r < 8 := by omega
      have hck := hcell q hqn
      rw [by8_get _ _ _ hqn] at hck
      have hb0 : 0 ≤ X / 2 ^ (8 * q) % 256 := by omega
      have hb1 : X / 2 ^ (8 * q) % 256 < 256 := by omega
      have ebit := bit_of X (p + k) q r (by omega) hr8
      generalize X / 2 ^ (8 * q) % 256 = cb at *
      have e0 : 0 ≤ cb / 2 ^ r := div_nn _ _ hb0
      have e1 : cb / 2 ^ r < 256 := by
        have := div_lt cb r 8 (by have := p2_le 8 (r + 8) (by omega); omega)
        omega
      have e2 := u8_one (cb / 2 ^ r) e0 e1
      have HE : Hid (bits .and .u8 (cb / 2 ^ r) 1 = X / 2 ^ (p + k) % 2) := e2.trans ebit
      clear hq hr hcell e2 ebit
      go_wp2
      go_round
      case rel =>
        refine ⟨k + 1, by omega, by go_num, ?_⟩
        have hb : X / 2 ^ (p + k) % 2 = 0 ∨ X / 2 ^ (p + k) % 2 = 1 := by omega
        rw [HE.out, IntWalk.wrap64_in (X / 2 ^ (p + k) % 2) (by omega), i64_put k 1 _ _ (mod_nn _ _) (mod_lt _ _) (by omega) (by omega) (by omega), mod_one, div_div]
      case measure => simp [intOf]; omega
    · obtain rfl : k = m := by omega
      have hF : Fr (fun j => j = R) w (w.setCell ⟨R, 1, none⟩ (.int .i64 ((p : Int) + k))).drew := ((Fr.refl (fun j => j = R) w).setCell rfl _).drew
      have hY2 := hY.setPos (p + k) hl
      have hp : ((p + k : Nat) : Int) = (p : Int) + k := by omega
      rw [hp] at hY2
      have hpl := hY.le
      clear hp hY
      go_wp2
      go_ret2
      exact ⟨rfl, hY2, hF⟩

theorem yget_any (R : Nat) (ao : Option Addr) (n c : Nat) (X : Int) (p : Nat) (m : Int) (w : World) (h : IsY w R ao n c X p) :
    Calls Tryz.prog 78 #[.pointer (some ⟨R, 0, none⟩), .int .i64 m] w fun e w' => e = .returned (.tuple #[.int .i64 (gtV n X p m), .bool (gtOk n p m)]) ∧
      IsY w' R ao n c X (gtP n p m) ∧ Fr (fun k => k = R) w w' := by
  have hle := h.le
  by_cases hm : 0 ≤ m ∧ m ≤ 24 ∧ m ≤ 8 * (n : Int) - p
  · obtain ⟨k, rfl⟩ := Int.eq_ofNat_of_zero_le hm.1
    have e : gtOk n p k = true := by simp only [gtOk, decide_eq_true_eq]; exact hm
    rw [gtV, gtP, if_pos e, if_pos e, e, Int.toNat_natCast]
    exact yget_yes R ao n c X p k w h (by omega) (by omega)
  · have e : gtOk n p m = false := by simp only [gtOk, decide_eq_false_iff_not]; exact hm
    rw [gtV, gtP, e, if_neg (by decide), if_neg (by decide)]
    refine (yget_no R ao n c X p m w h (by omega)).mono ?_
    rintro e w' ⟨rfl, hw⟩
    rcases hw with hw | hw
    · subst w'
      exact ⟨rfl, h, Fr.refl _ _⟩
    · subst w'
      exact ⟨rfl, h.fr (Fr.refl (fun _ => False) _).drew (fun h => h) (fun _ _ _ h => h), (Fr.refl _ _).drew⟩

end Go.Proofs.YtiahbicodlgmhaaGreatDoor

/- The document's Check and Codes; ints. -/
namespace Go.Proofs.YtiahbicodlgmhaaGreatDoor
open Go.RowKit

theorem er_bad (L : Nat → Int) (n : Nat) (h : 288 < n ∨ ¬ ∀ j, j < n → Lm (L j)) : fu L n = false ∧ er L n = 1 := by
  have hk : okL L n = false := by
    cases hq : okL L n
    · rfl
    · have := (okL_iff L n).1 hq
      rcases h with h | h
      · omega
      · exact absurd this.2 h
  rw [fu, er, hk]
  exact ⟨rfl, by simp⟩

theorem er_over (L : Nat → Int) (n : Nat) (h : n ≤ 288) (hL : ∀ j, j < n → Lm (L j)) (hg : 32768 < G L 15 n) : fu L n = false ∧ er L n = 2 := by
  have hk : okL L n = true := (okL_iff L n).2 ⟨h, hL⟩
  have e1 : (G L 15 n == 32768) = false := by simp; omega
  rw [fu, er, hk, e1, if_pos rfl, if_pos hg]
  exact ⟨rfl, rfl⟩

theorem er_fits (L : Nat → Int) (n : Nat) (h : n ≤ 288) (hL : ∀ j, j < n → Lm (L j)) (hg : G L 15 n ≤ 32768) : fu L n = (G L 15 n == 32768) ∧ er L n = 0 := by
  have hk : okL L n = true := (okL_iff L n).2 ⟨h, hL⟩
  rw [fu, er, hk, if_pos rfl, if_neg (by omega), Bool.true_and]
  exact ⟨rfl, rfl⟩

set_option maxHeartbeats 1000000 in
theorem xcheck_any (ao : Option Addr) (n c : Nat) (L : Nat → Int) (w : World) (h : Ri w ao n c L) :
    Calls Tryz.prog 111 #[.slice ao n c] w fun e w' => e = .returned (.tuple #[.bool (fu L n), .int .i64 (er L n)]) ∧ w' = w := by
  by_cases h288 : 288 < n
  · have hd : decide ((288 : Int) < (n : Int)) = true := by simp; omega
    have he := er_bad L n (.inl h288)
    rw [he.1, he.2]
    clear h288 he h
    go_enter Tryz.func111, Tryz.ntmps111
    go_wp2
    go_ret2
    exact ⟨rfl, rfl⟩
  · have hd : decide ((288 : Int) < (n : Int)) = false := by simp; omega
    have hn : n ≤ 288 := by omega
    clear h288
    go_enter Tryz.func111, Tryz.ntmps111
    go_wp2
    go_loop [4, 5] (fun sv i => ∃ k : Nat, k ≤ n ∧ i = .int .i64 k ∧ sv = .int .i64 (G L 15 k) ∧ ∀ j, j < k → Lm (L j)) (fun _ i => n - (intOf i).toNat)
    case atStart => exact ⟨0, by omega, rfl, rfl, fun j hj => by omega⟩
    case round =>
      obtain ⟨k, hk, rfl, rfl, hall⟩ := hrel
      have hg := G_bound L k
      by_cases hlt : k < n
      · obtain ⟨b, off, rfl, hcell⟩ := h.plain (by omega)
        have hck := hcell k hlt
        clear hcell h hd
        by_cases hL : Lm (L k)
        · have HA : Hid (∀ j, j < k + 1 → Lm (L j)) := fun j hj => by
            rcases Nat.lt_or_ge j k with h' | h'
            · exact hall j h'
            · obtain rfl : j = k := by omega
              exact hL
          obtain ⟨x, hx⟩ := Int.eq_ofNat_of_zero_le hL.1
          have hx15 : x ≤ 15 := by have := hL.2; omega
          rw [hx] at hck
          by_cases hx0 : x = 0
          · have HG : Hid (G L 15 (k + 1) = G L 15 k) := G_same L k (by omega)
            subst hx0
            clear hall hL hx
            go_wp2
            go_round
            case rel => exact ⟨k + 1, by omega, by go_num, by rw [HG.out], HA.out⟩
            case measure => simp [intOf]; omega
          · have HG : Hid (G L 15 (k + 1) = G L 15 k + 2 ^ (15 - x)) := G_put L k x hx (by omega) hx15
            have e3 := p2_le (15 - x) 15 (by omega)
            have e4 := p2 (15 - x)
            have e5 : (2 : Int) ^ 15 = 32768 := rfl
            have hxp : (0 : Int) < (x : Int) := by omega
            obtain ⟨y, hy⟩ : ∃ y : Nat, y = 15 - x := ⟨_, rfl⟩
            have ey : (15 : Int) - (x : Int) = (y : Int) := by omega
            rw [← hy] at e3 e4
            have hy15 : y ≤ 15 := by omega
            have HY : Hid (y = 15 - x) := hy
            have hq2 : (2 : Int) ^ y ≤ 32768 := by omega
            have d1 : decide ((x : Int) < 0) = false := by simp
            have d2 : decide ((15 : Int) < (x : Int)) = false := by simp; omega
            clear hall hL hx e3 e5 hy
            go_wp2
            go_round
            case rel => exact ⟨k + 1, by omega, by go_num, by rw [HG.out, ← HY.out], HA.out⟩
            case measure => simp [intOf]; omega
        · have he := er_bad L n (.inr (fun h' => hL (h' k hlt)))
          have HE : Hid (fu L n = false ∧ er L n = 1) := he
          by_cases hneg : L k < 0
          · have d1 : decide (L k < 0) = true := by simp; omega
            clear hL he hneg hall
            go_wp2
            go_ret2
            exact ⟨by rw [HE.out.1, HE.out.2] <;> rfl, rfl⟩
          · have d1 : decide (L k < 0) = false := by simp; omega
            have d2 : decide (15 < L k) = true := by unfold Lm at hL; simp; omega
            clear hL he hneg hall
            go_wp2
            go_ret2
            exact ⟨by rw [HE.out.1, HE.out.2] <;> rfl, rfl⟩
      · obtain rfl : k = n := by omega
        clear h hd
        by_cases hgt : 32768 < G L 15 k
        · have HE : Hid (fu L k = false ∧ er L k = 2) := er_over L k hn hall hgt
          clear hall
          go_wp2
          go_ret2
          exact ⟨by rw [HE.out.1, HE.out.2] <;> rfl, rfl⟩
        · have HE : Hid (fu L k = (G L 15 k == 32768) ∧ er L k = 0) := er_fits L k hn hall (by omega)
          clear hall
          go_wp2
          go_ret2
          exact ⟨by rw [HE.out.1, HE.out.2] <;> rfl, rfl⟩

end Go.Proofs.YtiahbicodlgmhaaGreatDoor

/- The document's Codes. -/
namespace Go.Proofs.YtiahbicodlgmhaaGreatDoor
open Go.RowKit

/-- The codes that stand when the symbols of fewer than m bits, and those of m bits among the first k, are through. -/
def xc (L : Nat → Int) (n m k : Nat) (j : Nat) : Int := if 0 < L j ∧ (L j < m ∨ (L j = m ∧ j < k)) then cd L n j else 0

theorem xc_put (L : Nat → Int) (n m k : Nat) (hm : 0 < m) (h : L k = m) (j : Nat) : (if j = k then cd L n k else xc L n m k j) = xc L n m (k + 1) j := by
  by_cases e : j = k
  · subst e
    rw [if_pos rfl, xc, if_pos (by omega)]
  · rw [if_neg e, xc, xc]
    by_cases h1 : 0 < L j ∧ (L j < m ∨ (L j = m ∧ j < k))
    · rw [if_pos h1, if_pos (by omega)]
    · rw [if_neg h1, if_neg (by omega)]

theorem xc_same (L : Nat → Int) (n m k : Nat) (h : L k ≠ m) (j : Nat) : xc L n m k j = xc L n m (k + 1) j := by
  rw [xc, xc]
  by_cases h1 : 0 < L j ∧ (L j < m ∨ (L j = m ∧ j < k))
  · rw [if_pos h1, if_pos (by omega)]
  · rw [if_neg h1, if_neg]
    rintro ⟨h2, h3 | ⟨h3, h4⟩⟩
    · exact h1 ⟨h2, .inl h3⟩
    · have : j = k := by
        rcases Nat.lt_or_ge j k with h5 | h5
        · exact absurd ⟨h2, .inr ⟨h3, h5⟩⟩ h1
        · omega
      subst this
      exact h h3

theorem xc_next (L : Nat → Int) (n m j : Nat) (hj : j < n) : xc L n m n j = xc L n (m + 1) 0 j := by
  rw [xc, xc]
  by_cases h1 : 0 < L j ∧ (L j < m ∨ (L j = m ∧ j < n))
  · rw [if_pos h1, if_pos (by omega)]
  · rw [if_neg h1, if_neg (by omega)]

theorem xc_end (L : Nat → Int) (n j : Nat) (h : Lm (L j)) : xc L n 16 0 j = cd L n j := by
  rw [xc]
  have h15 := h.2
  by_cases h1 : 0 < L j
  · rw [if_pos (by omega)]
  · rw [if_neg (by omega), cd, if_neg h1]

theorem xcodes_no (ao : Option Addr) (n c : Nat) (L : Nat → Int) (w : World) (h : Ri w ao n c L) (he : er L n ≠ 0) :
    Calls Tryz.prog 112 #[.slice ao n c] w fun e w' => e = .returned (.tuple #[.slice none 0 0, .int .i64 (er L n)]) ∧ w' = w := by
  have q1 : (er L n == 0) = false := by simp [he]
  have hc := xcheck_any ao n c L w h
  generalize er L n = x at *
  clear he
  go_enter Tryz.func112, Tryz.ntmps112
  go_wp2_with (go_at_call 111; refine hc.mono ?_; rintro e w1 ⟨rfl, hw⟩; subst w1)
  go_ret2
  exact ⟨rfl, rfl⟩

set_option maxRecDepth 100000 in
set_option maxHeartbeats 2000000 in
theorem xcodes_yes (ao : Option Addr) (n c : Nat) (L : Nat → Int) (w : World) (h : Ri w ao n c L) (he : er L n = 0) :
    Calls Tryz.prog 112 #[.slice ao n c] w fun e w' => ∃ g, e = .returned (.tuple #[.slice (some ⟨g, 0, none⟩) n n, .int .i64 0]) ∧ w'.rowIs g 3 n (fun j => .int .i64 (cd L n j)) ∧ w.heap.size ≤ g ∧ Below w.heap.size w w' := by
  obtain ⟨i0, hi, hz0, hz1, hz2⟩ := info_parts Tryz.info3
  obtain ⟨h288, hL, hf⟩ := er_zero L n he
  have hc := xcheck_any ao n c L w h
  rw [he] at hc
  have r0 := made_row w n
  have b0 : Below w.heap.size w (w.alloc (.cells (madeCells #[Value.int .i64 0] n) 3)) := (Below.refl _ _).alloc (Nat.le_refl _) _
  go_enter Tryz.func112, Tryz.ntmps112
  go_wp2_with (first
    | (go_at_call 111; refine hc.mono ?_; rintro e w1 ⟨rfl, hw⟩; subst w1)
    | (at_make; refine wpList_make_row _ rfl _ _ 59 rfl 3 i0 (.int .i64 0) Tryz.underlying59 hi hz0 hz1 rfl .i64 .i64 n rfl rfl (by rw [hz2]; omega) (by omega) ?_))
  generalize (w.alloc (.cells (madeCells #[Value.int .i64 0] n) 3)) = W at *
  obtain ⟨B, hB⟩ : ∃ B, B = w.heap.size := ⟨_, rfl⟩
  rw [← hB] at r0 ⊢
  have HB : Hid (B = w.heap.size) := hB
  have HL : Hid (∀ j, j < n → Lm (L j)) := hL
  have HF : Hid (Fits L n) := hf
  have HR : Hid (Ri w ao n c L) := h
  clear hB hi hz0 hz1 hz2 hc hL hf h
  go_loopw [7, 8, 9] (fun cv mv _ wr => ∃ m : Nat, 1 ≤ m ∧ m ≤ 16 ∧ mv = .int .i64 m ∧ cv = .int .i64 (F L n m) ∧ wr.rowIs B 3 n (fun j => .int .i64 (xc L n m 0 j)) ∧ Below w.heap.size w wr) (fun _ mv _ _ => 16 - (intOf mv).toNat)
  case atStart => exact ⟨1, by omega, by omega, rfl, by simp [F, G_zero], r0.congr (fun j hj => by
      rw [xc, if_neg (by omega)]), b0⟩
  case round =>
    obtain ⟨m, hm1, hm16, rfl, rfl, hr, hb⟩ := hrel
    clear r0 b0
    by_cases hlt : m < 16
    · have bF := F_small L n m HF.out (by omega)
      go_wp2_with fail
      go_loopw [7, 9] (fun cv i wx => ∃ k : Nat, k ≤ n ∧ i = .int .i64 k ∧ cv = .int .i64 (F L n m + cn L m k) ∧ wx.rowIs B 3 n (fun j => .int .i64 (xc L n m k j)) ∧ Below w.heap.size w wx) (fun _ i _ => n - (intOf i).toNat)
      case atStart => exact ⟨0, by omega, rfl, by simp [cn], hr, hb⟩
      case round =>
        obtain ⟨k, hk, rfl, rfl, hr2, hb2⟩ := hrel
        clear hr hb
        have bc := cn_nn L m k
        by_cases hkn : k < n
        · obtain ⟨b, off, rfl, hcell⟩ := (HR.out.keep hb2).plain (by omega)
          have ck := hcell k hkn
          have co := hr2.cell (i := k) hkn
          have fo := hr2.frozen k
          clear hcell
          by_cases hq : L k = m
          · have e1 := cd_low L n k m hq (by omega)
            have hr3 : (wr.setCell ⟨B, k, none⟩ (.int .i64 (F L n m + cn L m k))).rowIs B 3 n (fun j => .int .i64 (xc L n m (k + 1) j)) := (hr2.set k _).congr (fun j _ => by
              rw [← xc_put L n m k (by omega) hq, e1]
              by_cases e : j = k
              · rw [if_pos e, if_pos e]
              · rw [if_neg e, if_neg e])
            have hb3 : Below w.heap.size w (wr.setCell ⟨B, k, none⟩ (.int .i64 (F L n m + cn L m k))) := hb2.setCell (by simp [HB.out]) _
            have HN : Hid (cn L m (k + 1) = cn L m k + 1) := by
              show cn L m (k + 1) = cn L m k + 1
              simp [cn, hq]
            rw [hq] at ck
            clear hr2 hb2 e1 hq
            go_wp2_with fail
            exact ⟨⟨k + 1, by omega, by go_num, by rw [HN.out]; go_num, hr3, hb3⟩, by simp [intOf]; omega⟩
          · have hr3 : wr.rowIs B 3 n (fun j => .int .i64 (xc L n m (k + 1) j)) := hr2.congr (fun j _ => by rw [xc_same L n m k hq])
            have HN : Hid (cn L m (k + 1) = cn L m k) := by
              show cn L m (k + 1) = cn L m k
              simp [cn, hq]
            have hd : (L k == (m : Int)) = false := by simp [hq]
            clear hr2 hq
            go_wp2_with fail
            exact ⟨⟨k + 1, by omega, by go_num, by rw [HN.out], hr3, hb2⟩, by simp [intOf]; omega⟩
        · obtain rfl : k = n := by omega
          have hr3 : wr.rowIs B 3 k (fun j => .int .i64 (xc L k (m + 1) 0 j)) := hr2.congr (fun j hj => by rw [xc_next L k m j hj])
          have HS : Hid (F L k (m + 1) = (F L k m + cn L m k) * 2) := by
            show F L k (m + 1) = (F L k m + cn L m k) * 2
            rw [F_succ, C_pos L k m (by omega)]
          clear hr2
          go_wp2_with fail
          exact ⟨⟨m + 1, by omega, by omega, by go_num, by rw [HS.out], hr3, hb2⟩, by simp [intOf]; omega⟩
    · obtain rfl : m = 16 := by omega
      have hr3 : wr.rowIs B 3 n (fun j => .int .i64 (cd L n j)) := hr.congr (fun j hj => by rw [xc_end L n j (HL.out j hj)])
      clear hr
      go_wp2_with fail
      go_ret2
      exact ⟨B, rfl, hr3, by have := HB.out; omega, hb⟩

end Go.Proofs.YtiahbicodlgmhaaGreatDoor

/- The document's New. -/
namespace Go.Proofs.YtiahbicodlgmhaaGreatDoor
open Go.RowKit

theorem none_ints (w : World) (base : Nat) (hb : base ≤ w.heap.size) : (w.alloc (.cells #[] 3)).ownsRow base 3 1 (.slice (some ⟨w.heap.size, 0, none⟩) 0 0) 0 [] :=
  World.ownsRow_lit (base := base) (e := 3) (size := 1) w #[] 0 hb (by unfold maxLen; omega) rfl

/-- The cells of the document's code. -/
def xcells (ls cs : Value) : Nat → Value
  | 0 => ls
  | _ => cs

/-- Block Y is the document's code of these n lengths; all of it lies below K. -/
structure IsX (w : World) (Y K : Nat) (L : Nat → Int) (n : Nat) (la : Option Addr) (lc cg : Nat) : Prop where
  row : w.rowIs Y 154 2 (xcells (.slice la n lc) (.slice (some ⟨cg, 0, none⟩) n n))
  rl : Ri w la n lc L
  rc : w.rowIs cg 3 n (fun j => .int .i64 (cd L n j))
  bl : ∀ ad, la = some ad → ad.block < K
  bY : Y < K
  bc : cg < K
  kw : K ≤ w.heap.size
  ok : er L n = 0

theorem IsX.keep {w w' : World} {Y K : Nat} {L : Nat → Int} {n : Nat} {la : Option Addr} {lc cg : Nat} (h : IsX w Y K L n la lc cg) (hb : Below K w w') : IsX w' Y K L n la lc cg :=
  ⟨h.row.of_block (hb.block _ h.bY), ⟨h.rl.le, h.rl.nul, fun ad had j hj => by
    have hbk : (ad.add j).block = ad.block := by unfold Addr.add; split <;> rfl
    rw [hb.cell (by rw [hbk]; exact h.bl ad had)]
    exact h.rl.cells ad had j hj⟩, h.rc.of_block (hb.block _ h.bc), h.bl, h.bY, h.bc, Nat.le_trans h.kw hb.size, h.ok⟩

theorem xnew_err (ao : Option Addr) (n c : Nat) (L : Nat → Int) (half : Bool) (w : World) (h : Ri w ao n c L) (he : er L n ≠ 0) :
    Calls Tryz.prog 81 #[.slice ao n c, .bool half] w fun e w' => e = .returned (.tuple #[.pointer none, .int .i64 (er L n)]) ∧ w' = w := by
  have q1 : (er L n == 0) = false := by simp [he]
  have hc := xcheck_any ao n c L w h
  generalize er L n = x at *
  clear he
  go_enter Tryz.func81, Tryz.ntmps81
  go_wp2_with (go_at_call 111; refine hc.mono ?_; rintro e w1 ⟨rfl, hw⟩; subst w1)
  go_ret2
  exact ⟨rfl, rfl⟩

theorem SM_pos (L : Nat → Int) (k : Nat) : SM L (k + 1) = SM L k + L k := rfl

set_option maxRecDepth 100000 in
set_option maxHeartbeats 2000000 in
theorem xnew_part (ao : Option Addr) (n c : Nat) (L : Nat → Int) (half : Bool) (w : World) (h : Ri w ao n c L) (he : er L n = 0) (hfu : fu L n = false) (hh : half = false ∨ (half = true ∧ ¬ SM L n ≤ 1)) :
    Calls Tryz.prog 81 #[.slice ao n c, .bool half] w fun e w' => e = .returned (.tuple #[.pointer none, .int .i64 2]) ∧ w' = w := by
  obtain ⟨h288, hL, hf⟩ := er_zero L n he
  have hc := xcheck_any ao n c L w h
  rw [he, hfu] at hc
  have HL : Hid (∀ j, j < n → Lm (L j)) := hL
  have HH : Hid (half = false ∨ (half = true ∧ ¬ SM L n ≤ 1)) := hh
  clear hL hf hh
  go_enter Tryz.func81, Tryz.ntmps81
  go_wp2_with (go_at_call 111; refine hc.mono ?_; rintro e w1 ⟨rfl, hw⟩; subst w1)
  clear hc
  go_loop [8, 9] (fun sv i => ∃ k : Nat, k ≤ n ∧ i = .int .i64 k ∧ sv = .int .i64 (SM L k)) (fun _ i => n - (intOf i).toNat)
  case atStart => exact ⟨0, by omega, rfl, rfl⟩
  case round =>
    obtain ⟨k, hk, rfl, rfl⟩ := hrel
    have hs := SM_nn L k (fun i hi => HL.out i (by omega))
    by_cases hlt : k < n
    · obtain ⟨b, off, rfl, hcell⟩ := h.plain (by omega)
      have hck := hcell k hlt
      obtain ⟨x, hx⟩ := Int.eq_ofNat_of_zero_le (HL.out k hlt).1
      have hx15 : x ≤ 15 := by have := (HL.out k hlt).2; omega
      rw [hx] at hck
      by_cases hx0 : x = 0
      · have HS : Hid (SM L (k + 1) = SM L k) := by
          show SM L (k + 1) = SM L k
          rw [SM_pos]; omega
        subst hx0
        clear hcell h hx
        go_wp2
        go_round
        case rel => exact ⟨k + 1, by omega, by go_num, by rw [HS.out]⟩
        case measure => simp [intOf]; omega
      · have HS : Hid (SM L (k + 1) = SM L k + x) := by
          show SM L (k + 1) = SM L k + x
          rw [SM_pos, hx]
        have hxp : (0 : Int) < (x : Int) := by omega
        clear hcell h hx
        go_wp2
        go_round
        case rel => exact ⟨k + 1, by omega, by go_num, by rw [HS.out]⟩
        case measure => simp [intOf]; omega
    · obtain rfl : k = n := by omega
      clear h
      rcases HH.out with rfl | ⟨rfl, hgt⟩
      · go_wp2
        go_ret2
        exact ⟨rfl, rfl⟩
      · have hd : decide (1 < SM L k) = true := by simp; omega
        clear hgt
        go_wp2
        go_ret2
        exact ⟨rfl, rfl⟩

end Go.Proofs.YtiahbicodlgmhaaGreatDoor

/- The document's New of any lengths. -/
namespace Go.Proofs.YtiahbicodlgmhaaGreatDoor
open Go.RowKit

/-- The parts that the document's New has made are a code. -/
theorem made_isX {w2 w4 : World} {L : Nat → Int} {n : Nat} {la : Option Addr} {lc cg B : Nat} (he : er L n = 0) (c4 : w4.rowIs cg 3 n (fun j => .int .i64 (cd L n j))) (o4 : w4.ownsRow B 3 1 (.slice la n lc) n (ivs L n)) (_ : w2.heap.size ≤ w4.heap.size) :
    IsX (w4.alloc (Obj.cells #[.slice la n lc, .slice (some ⟨cg, 0, none⟩) n n] 154)) w4.heap.size (w4.heap.size + 1) L n la lc cg := by
  have bA : Below w4.heap.size w4 (w4.alloc (Obj.cells #[.slice la n lc, .slice (some ⟨cg, 0, none⟩) n n] 154)) := (Below.refl _ _).alloc (Nat.le_refl _) _
  obtain ⟨ao, c, e, hr, hb⟩ := own_ri o4
  cases e
  refine ⟨World.rowIs_alloc w4 _ 154 _ (fun i hi => by
    simp at hi
    rcases i with _ | _ | i <;> first | rfl | omega), hr.keep bA, c4.of_block (bA.block _ c4.lt), fun ad had => ?_, by omega, by have := c4.lt; omega, by simp, he⟩
  have := (o4.lt ad.block (hb ad had).1).2
  omega

set_option maxRecDepth 100000 in
set_option maxHeartbeats 2000000 in
theorem xnew_go (ao : Option Addr) (n c : Nat) (L : Nat → Int) (half : Bool) (w : World) (h : Ri w ao n c L) (he : er L n = 0) (hcase : fu L n = true ∨ (fu L n = false ∧ half = true ∧ SM L n ≤ 1)) :
    Calls Tryz.prog 81 #[.slice ao n c, .bool half] w fun e w' => ∃ Y K la lc cg, e = .returned (.tuple #[.pointer (some ⟨Y, 0, none⟩), .int .i64 0]) ∧ IsX w' Y K L n la lc cg ∧ w'.ownsRow 0 3 1 (.slice la n lc) n (ivs L n) ∧ Below w.heap.size w w' := by
  obtain ⟨h288, hL, hf⟩ := er_zero L n he
  have hc := xcheck_any ao n c L w h
  rw [he] at hc
  have HL : Hid (∀ j, j < n → Lm (L j)) := hL
  have HR : Hid (Ri w ao n c L) := h
  have HE : Hid (er L n = 0) := he
  clear hL hf h he
  rcases hcase with hfu | ⟨hfu, rfl, hsm⟩
  · rw [hfu] at hc
    go_enter Tryz.func81, Tryz.ntmps81
    go_wp2_with (go_at_call 111; refine hc.mono ?_; rintro e w1 ⟨rfl, hw⟩; subst w1)
    clear hc
    refine (xcodes_yes ao n c L w HR.out HE.out).mono ?_
    rintro e w2 ⟨cg, rfl, c2, gc, b2⟩
    have r2 := HR.out.keep b2
    have HS2 : Hid (w.heap.size ≤ w2.heap.size) := b2.size
    have HB2 : Hid (Below w.heap.size w w2) := b2
    have r3 := r2.keep ((Below.refl _ _).alloc (Nat.le_refl _) (.cells #[] 3) : Below w2.heap.size w2 (w2.alloc (.cells #[] 3)))
    have o3 := none_ints w2 0 (Nat.zero_le _)
    clear b2 r2
    go_wp2_with (refine wpList_append_iv rfl _ _ rfl 0 0 (.slice (some ⟨w2.heap.size, 0, none⟩) 0 0) [] rfl o3 ao n c L rfl r3 (by omega) (by simp) ?_; intro v4 w4 o4 g4; rw [Nat.zero_add, List.nil_append] at o4; obtain ⟨la, lc, rfl, _, _⟩ := own_ri o4)
    have B4 : Below w2.heap.size w2 w4 := ((Below.refl _ _).alloc (Nat.le_refl _) _).grown g4 (by simp) (fun q hq => by cases hq; exact Nat.le_refl _)
    have c4 := c2.of_block (B4.block _ c2.lt)
    have hX := made_isX HE.out c4 o4 B4.size
    have bA : Below w4.heap.size w4 (w4.alloc (Obj.cells #[.slice la n lc, .slice (some ⟨cg, 0, none⟩) n n] 154)) := (Below.refl _ _).alloc (Nat.le_refl _) _
    have BF := (HB2.out.trans (B4.mono HS2.out)).trans (bA.mono (Nat.le_trans HS2.out B4.size))
    go_ret2
    exact ⟨_, _, _, _, _, rfl, hX, ownsRow_fr o4 (Fr.ofBelow (P := fun _ => False) bA) (fun _ _ h => h), BF⟩
  · rw [hfu] at hc
    have HSM : Hid (SM L n ≤ 1) := hsm
    clear hsm
    go_enter Tryz.func81, Tryz.ntmps81
    go_wp2_with (go_at_call 111; refine hc.mono ?_; rintro e w1 ⟨rfl, hw⟩; subst w1)
    clear hc
    go_loop [8, 9] (fun sv i => ∃ k : Nat, k ≤ n ∧ i = .int .i64 k ∧ sv = .int .i64 (SM L k)) (fun _ i => n - (intOf i).toNat)
    case atStart => exact ⟨0, by omega, rfl, rfl⟩
    case round =>
      obtain ⟨k, hk, rfl, rfl⟩ := hrel
      have hs := SM_nn L k (fun i hi => HL.out i (by omega))
      by_cases hlt : k < n
      · obtain ⟨b, off, rfl, hcell⟩ := HR.out.plain (by omega)
        have hck := hcell k hlt
        obtain ⟨x, hx⟩ := Int.eq_ofNat_of_zero_le (HL.out k hlt).1
        have hx15 : x ≤ 15 := by have := (HL.out k hlt).2; omega
        rw [hx] at hck
        by_cases hx0 : x = 0
        · have HS : Hid (SM L (k + 1) = SM L k) := by
            show SM L (k + 1) = SM L k
            rw [SM_pos]; omega
          subst hx0
          clear hcell hx
          go_wp2
          go_round
          case rel => exact ⟨k + 1, by omega, by go_num, by rw [HS.out]⟩
          case measure => simp [intOf]; omega
        · have HS : Hid (SM L (k + 1) = SM L k + x) := by
            show SM L (k + 1) = SM L k + x
            rw [SM_pos, hx]
          have hxp : (0 : Int) < (x : Int) := by omega
          clear hcell hx
          go_wp2
          go_round
          case rel => exact ⟨k + 1, by omega, by go_num, by rw [HS.out]⟩
          case measure => simp [intOf]; omega
      · obtain rfl : k = n := by omega
        have hd : decide (1 < SM L k) = false := by have := HSM.out; simp; omega
        go_wp2_with fail
        refine (xcodes_yes ao k c L w HR.out HE.out).mono ?_
        rintro e w2 ⟨cg, rfl, c2, gc, b2⟩
        have r2 := HR.out.keep b2
        have HS2 : Hid (w.heap.size ≤ w2.heap.size) := b2.size
        have HB2 : Hid (Below w.heap.size w w2) := b2
        have r3 := r2.keep ((Below.refl _ _).alloc (Nat.le_refl _) (.cells #[] 3) : Below w2.heap.size w2 (w2.alloc (.cells #[] 3)))
        have o3 := none_ints w2 0 (Nat.zero_le _)
        clear b2 r2
        go_wp2_with (refine wpList_append_iv rfl _ _ rfl 0 0 (.slice (some ⟨w2.heap.size, 0, none⟩) 0 0) [] rfl o3 ao k c L rfl r3 (by omega) (by simp) ?_; intro v4 w4 o4 g4; rw [Nat.zero_add, List.nil_append] at o4; obtain ⟨la, lc, rfl, _, _⟩ := own_ri o4)
        have B4 : Below w2.heap.size w2 w4 := ((Below.refl _ _).alloc (Nat.le_refl _) _).grown g4 (by simp) (fun q hq => by cases hq; exact Nat.le_refl _)
        have c4 := c2.of_block (B4.block _ c2.lt)
        have hX := made_isX HE.out c4 o4 B4.size
        have bA : Below w4.heap.size w4 (w4.alloc (Obj.cells #[.slice la k lc, .slice (some ⟨cg, 0, none⟩) k k] 154)) := (Below.refl _ _).alloc (Nat.le_refl _) _
        have BF := (HB2.out.trans (B4.mono HS2.out)).trans (bA.mono (Nat.le_trans HS2.out B4.size))
        go_ret2
        exact ⟨_, _, _, _, _, rfl, hX, ownsRow_fr o4 (Fr.ofBelow (P := fun _ => False) bA) (fun _ _ h => h), BF⟩

theorem xnew_yes (ao : Option Addr) (n c : Nat) (L : Nat → Int) (half : Bool) (w : World) (h : Ri w ao n c L) (hn : nw L n half = 0) :
    Calls Tryz.prog 81 #[.slice ao n c, .bool half] w fun e w' => ∃ Y K la lc cg, e = .returned (.tuple #[.pointer (some ⟨Y, 0, none⟩), .int .i64 0]) ∧ IsX w' Y K L n la lc cg ∧ w'.ownsRow 0 3 1 (.slice la n lc) n (ivs L n) ∧ Below w.heap.size w w' := by
  obtain ⟨he, hc⟩ := nw_zero L n half hn
  exact xnew_go ao n c L half w h he hc

end Go.Proofs.YtiahbicodlgmhaaGreatDoor

/- The document's State in memory: what is read, what came out; its codes. -/
namespace Go.Proofs.YtiahbicodlgmhaaGreatDoor.D
open Go.RowKit

theorem _root_.Go.Proofs.YtiahbicodlgmhaaGreatDoor.IsY.drew {w : World} {R : Nat} {ao : Option Addr} {n c : Nat} {X : Int} {p : Nat} (r : IsY w R ao n c X p) : IsY w.drew R ao n c X p := r.fr (Fr.refl (fun _ => False) _).drew (fun h => h) (fun _ _ _ h => h)

theorem _root_.Go.Proofs.YtiahbicodlgmhaaGreatDoor.IsY.keep {w w' : World} {R : Nat} {ao : Option Addr} {n c : Nat} {X : Int} {p : Nat} (r : IsY w R ao n c X p) (hb : Below w.heap.size w w') : IsY w' R ao n c X p := r.fr (Fr.ofBelow (P := fun _ => False) hb) (fun h => h) (fun _ _ _ h => h)

/-- Blocks of numbers and codes stay as they are. -/
def Kt (w w' : World) : Prop := ∀ (k : Nat) (c : Array Value) (t : TypeId) (x : Nat × Nat), w.heap[k]? = some (Obj.cells c t x) → t = 3 ∨ t = 154 → w'.heap[k]? = w.heap[k]?

theorem Kt.refl (w : World) : Kt w w := fun _ _ _ _ _ _ => rfl

theorem Kt.trans {a b c : World} (h : Kt a b) (k : Kt b c) : Kt a c := fun i d t x hi ht =>
  (k i d t x ((h i d t x hi ht).trans hi) ht).trans (h i d t x hi ht)

theorem Kt.ofFr {P : Nat → Prop} {w w' : World} (h : Fr P w w') (hP : ∀ (k : Nat) (c : Array Value) (t : TypeId) (x : Nat × Nat), P k → w.heap[k]? = some (Obj.cells c t x) → t ≠ 3 ∧ t ≠ 154) : Kt w w' := fun k c t x hk ht =>
  h.block k (Array.getElem?_eq_some_iff.1 hk).1 (fun hp => by
    have := hP k c t x hp hk
    rcases ht with e | e
    · exact this.1 e
    · exact this.2 e)

theorem Kt.ofBelow {w w' : World} (h : Below w.heap.size w w') : Kt w w' := Kt.ofFr (P := fun _ => False) (Fr.ofBelow h) (fun _ _ _ _ h => h.elim)

theorem rowIs_kt {w w' : World} {b t n : Nat} {f : Nat → Value} (h : w.rowIs b t n f) (k : Kt w w') (ht : t = 3 ∨ t = 154) : w'.rowIs b t n f := by
  obtain ⟨c, h1, h2⟩ := h
  exact ⟨c, (k b c t _ h1 ht).trans h1, h2⟩

theorem Kt.row {w w' : World} {b t n : Nat} {f : Nat → Value} (h : w.rowIs b t n f) (ht : t ≠ 3 ∧ t ≠ 154) (k : Fr (fun i => i = b) w w') : Kt w w' :=
  Kt.ofFr k (fun i c t' x e hi => by
    subst e
    obtain ⟨c', h1, _⟩ := h
    rw [h1] at hi
    simp only [Option.some.injEq, Obj.cells.injEq] at hi
    rw [← hi.2.1]
    exact ht)

/-- What a call on a stream leaves: all below B, all numbers and codes. -/
structure Sw (B : Nat) (w w' : World) : Prop where
  bel : Below B w w'
  kt : Kt w w'

theorem Sw.refl (B : Nat) (w : World) : Sw B w w := ⟨Below.refl _ _, Kt.refl _⟩
theorem Sw.trans {B : Nat} {a b c : World} (h : Sw B a b) (k : Sw B b c) : Sw B a c := ⟨h.bel.trans k.bel, h.kt.trans k.kt⟩
theorem Sw.drew {B : Nat} {a b : World} (h : Sw B a b) : Sw B a b.drew := ⟨h.bel.drew, h.kt⟩

/-- A stream's cells. -/
def scells (R : Nat) (v : Value) (m : Int) : Nat → Value
  | 0 => .pointer (some ⟨R, 0, none⟩)
  | 1 => v
  | 2 => .int .i64 m
  | _ => .int .i64 0

/-- Block S is a stream: its reader R stands at bit p of the n bytes of X, os came out, m may. All of it lies from B on. -/
structure IsS (w : World) (B S R : Nat) (ao : Option Addr) (n c : Nat) (X : Int) (p : Nat) (v : Value) (os : List Int) (m : Int) : Prop where
  row : w.rowIs S 55 4 (scells R v m)
  rd : IsY w R ao n c X p
  own : w.ownsRow 0 5 1 v os.length (os.map (Value.int .u8))
  byt : ∀ x ∈ os, 0 ≤ x ∧ x < 256
  vS : v.ownBlock ≠ some S
  vR : v.ownBlock ≠ some R
  aS : ∀ ad, ao = some ad → 0 < n → ad.block ≠ S
  av : ∀ ad, ao = some ad → 0 < n → v.ownBlock ≠ some ad.block
  bB : B ≤ w.heap.size
  bS : B ≤ S
  bR : B ≤ R
  bv : ∀ k, v.ownBlock = some k → B ≤ k

theorem IsS.RS {w : World} {B S R : Nat} {ao : Option Addr} {n c : Nat} {X : Int} {p : Nat} {v : Value} {os : List Int} {m : Int} (h : IsS w B S R ao n c X p v os m) : R ≠ S := rowIs_ne h.rd.row h.row (by decide)

theorem IsS.drew {w : World} {B S R : Nat} {ao : Option Addr} {n c : Nat} {X : Int} {p : Nat} {v : Value} {os : List Int} {m : Int} (h : IsS w B S R ao n c X p v os m) : IsS w.drew B S R ao n c X p v os m :=
  ⟨h.row.drew, h.rd.drew, ownsRow_fr h.own (Fr.refl (fun _ => False) _).drew (fun _ _ h => h), h.byt, h.vS, h.vR, h.aS, h.av, h.bB, h.bS, h.bR, h.bv⟩

/-- New memory alone. -/
theorem IsS.keep {w w' : World} {B S R : Nat} {ao : Option Addr} {n c : Nat} {X : Int} {p : Nat} {v : Value} {os : List Int} {m : Int} (h : IsS w B S R ao n c X p v os m) (hb : Below w.heap.size w w') : IsS w' B S R ao n c X p v os m :=
  ⟨h.row.of_block (hb.block _ h.row.lt), h.rd.keep hb, ownsRow_fr h.own (Fr.ofBelow (P := fun _ => False) hb) (fun _ _ h => h), h.byt, h.vS, h.vR, h.aS, h.av, Nat.le_trans h.bB hb.size, h.bS, h.bR, h.bv⟩

theorem Sw.keep {w w' : World} {B : Nat} (hB : B ≤ w.heap.size) (hb : Below w.heap.size w w') : Sw B w w' := ⟨hb.mono hB, Kt.ofBelow hb⟩

/-- The reader has gone on. -/
theorem IsS.read {w w' : World} {B S R : Nat} {ao : Option Addr} {n c : Nat} {X : Int} {p q : Nat} {v : Value} {os : List Int} {m : Int} (h : IsS w B S R ao n c X p v os m) (hr : IsY w' R ao n c X q) (hf : Fr (fun k => k = R) w w') : IsS w' B S R ao n c X q v os m ∧ Sw B w w' :=
  ⟨⟨rowIs_fr h.row hf (fun e => h.RS e.symm), hr, ownsRow_fr h.own hf (fun k hk e => h.vR (by rw [hk, e])), h.byt, h.vS, h.vR, h.aS, h.av, Nat.le_trans h.bB hf.size, h.bS, h.bR, h.bv⟩,
    ⟨hf.below B h.bB (fun i hi e => by have := h.bR; omega), Kt.row h.rd.row (by decide) hf⟩⟩

theorem s_after {wr w5 : World} {B S R : Nat} {ao : Option Addr} {n c : Nat} {X : Int} {p : Nat} {v : Value} {os : List Int} {m : Int} {O : Obj} (h : IsS wr B S R ao n c X p v os m) (gr : (wr.alloc O).grownBy w5 v.ownBlock) : w5.rowIs S 55 4 (scells R v m) :=
  rowIs_fr h.row (((Fr.refl (fun k => v.ownBlock = some k) wr).alloc _).grown gr (fun _ _ hk => hk)) h.vS

/-- Behind an append of one byte and its store. -/
theorem s_pushed {wr w5 : World} {B S R : Nat} {ao : Option Addr} {n c : Nat} {X : Int} {p : Nat} {v : Value} {os : List Int} {m : Int} {O : Obj} {g5 c5 : Nat} {b : Int} (h : IsS wr B S R ao n c X p v os m) (b0 : 0 ≤ b) (b1 : b < 256)
    (o5 : w5.ownsRow 0 5 1 (.slice (some ⟨g5, 0, none⟩) (os.length + 1) c5) (os.length + 1) (os.map (Value.int .u8) ++ [.int .u8 b])) (gr : (wr.alloc O).grownBy w5 v.ownBlock) (l5 : v.ownBlock = some g5 ∨ g5 = wr.heap.size + 1) :
    IsS (w5.setCell ⟨S, 1, none⟩ (.slice (some ⟨g5, 0, none⟩) (os.length + 1) c5)) B S R ao n c X p (.slice (some ⟨g5, 0, none⟩) (os.length + 1) c5) (os ++ [b]) m ∧
      Sw B wr (w5.setCell ⟨S, 1, none⟩ (.slice (some ⟨g5, 0, none⟩) (os.length + 1) c5)) := by
  have hSlt := h.row.lt
  have hRlt := h.rd.row.lt
  have hne : g5 ≠ S := by
    rintro rfl
    rcases l5 with e | e
    · exact h.vS e
    · omega
  have hneR : g5 ≠ R := by
    rintro rfl
    rcases l5 with e | e
    · exact h.vR e
    · omega
  have r5 := s_after h gr
  have F : Fr (fun k => k = S ∨ v.ownBlock = some k) wr (w5.setCell ⟨S, 1, none⟩ (.slice (some ⟨g5, 0, none⟩) (os.length + 1) c5)) := (((Fr.refl (fun k => k = S ∨ v.ownBlock = some k) wr).alloc _).grown gr (fun _ _ hk => .inr hk)).setCell (.inl rfl) _
  refine ⟨⟨(r5.set 1 _).congr (fun i hi => by rcases i with _ | _ | _ | _ | i <;> first | rfl | omega), ?_, ?_, ?_, ?_, ?_, h.aS, ?_, Nat.le_trans h.bB F.size, h.bS, h.bR, ?_⟩, ⟨F.below B h.bB ?_, Kt.ofFr F ?_⟩⟩
  · exact h.rd.fr F (fun e => by rcases e with e | e; exact h.RS e; exact h.vR e) (fun ad had hn e => by rcases e with e | e; exact h.aS ad had hn e; exact h.av ad had hn e)
  · rw [List.map_append, List.length_append]
    exact ownsRow_fr o5 ((Fr.refl (fun k => k = S) w5).setCell rfl _) (fun k hk e => hne (by cases hk; exact e))
  · intro x hx
    rcases List.mem_append.1 hx with hx | hx
    · exact h.byt x hx
    · simp at hx
      omega
  · simpa [Value.ownBlock] using hne
  · simpa [Value.ownBlock] using hneR
  · intro ad had hn e
    simp [Value.ownBlock] at e
    rcases l5 with e' | e'
    · exact h.av ad had hn (by rw [e', e])
    · have hc := h.rd.rd.cells ad had 0 hn
      have := World.block_lt_of_cell? wr _ hc
      rw [show (ad.add 0).block = ad.block by unfold Addr.add; split <;> rfl] at this
      omega
  · intro k hk
    simp [Value.ownBlock] at hk
    rcases l5 with e' | e'
    · exact h.bv k (by rw [e', hk])
    · have := h.bB; omega
  · intro i hi e
    rcases e with e | e
    · have := h.bS; omega
    · have := h.bv i e; omega
  · intro k cs t x hk hc
    rcases hk with rfl | hk
    · obtain ⟨c', h1, _⟩ := h.row
      rw [h1] at hc
      simp only [Option.some.injEq, Obj.cells.injEq] at hc
      rw [← hc.2.1]
      decide
    · rcases h.own.2 with ⟨e1, e2⟩ | ⟨g, cap, cur, e1, _, e3, _⟩
      · rw [e1] at hk; simp [Value.ownBlock] at hk
      · rw [e1] at hk
        simp [Value.ownBlock] at hk
        subst hk
        rw [e3] at hc
        simp only [Option.some.injEq, Obj.cells.injEq] at hc
        rw [← hc.2.1]
        decide

/-- A stream, its slices left open. -/
def Stm (w : World) (B S R n : Nat) (X : Int) (p : Nat) (os : List Int) (m : Int) : Prop := ∃ ao c v, IsS w B S R ao n c X p v os m

theorem Stm.drew {w : World} {B S R n : Nat} {X : Int} {p : Nat} {os : List Int} {m : Int} (h : Stm w B S R n X p os m) : Stm w.drew B S R n X p os m := by
  obtain ⟨ao, c, v, h⟩ := h
  exact ⟨ao, c, v, h.drew⟩

theorem Stm.bB {w : World} {B S R n : Nat} {X : Int} {p : Nat} {os : List Int} {m : Int} (h : Stm w B S R n X p os m) : B ≤ w.heap.size := by
  obtain ⟨ao, c, v, h⟩ := h
  exact h.bB

theorem Stm.keep {w w' : World} {B S R n : Nat} {X : Int} {p : Nat} {os : List Int} {m : Int} (h : Stm w B S R n X p os m) (hb : Below w.heap.size w w') : Stm w' B S R n X p os m := by
  obtain ⟨ao, c, v, h⟩ := h
  exact ⟨ao, c, v, h.keep hb⟩

theorem IsS.fr {P : Nat → Prop} {w w' : World} {B S R : Nat} {ao : Option Addr} {n c : Nat} {X : Int} {p : Nat} {v : Value} {os : List Int} {m : Int} (h : IsS w B S R ao n c X p v os m) (hf : Fr P w w') (hS : ¬ P S) (hR : ¬ P R) (hv : ∀ k, v.ownBlock = some k → ¬ P k) (ha : ∀ ad, ao = some ad → 0 < n → ¬ P ad.block) : IsS w' B S R ao n c X p v os m :=
  ⟨rowIs_fr h.row hf hS, h.rd.fr hf hR ha, ownsRow_fr h.own hf hv, h.byt, h.vS, h.vR, h.aS, h.av, Nat.le_trans h.bB hf.size, h.bS, h.bR, h.bv⟩

theorem IsS.inside {w : World} {B S R : Nat} {ao : Option Addr} {n c : Nat} {X : Int} {p : Nat} {v : Value} {os : List Int} {m : Int} (h : IsS w B S R ao n c X p v os m) : S < w.heap.size ∧ R < w.heap.size ∧ (∀ k, v.ownBlock = some k → k < w.heap.size) ∧ ∀ ad, ao = some ad → 0 < n → ad.block < w.heap.size :=
  ⟨h.row.lt, h.rd.row.lt, fun k hk => (h.own.lt k hk).2, fun ad had hn => by
    have hc := h.rd.rd.cells ad had 0 hn
    have := World.block_lt_of_cell? w _ hc
    rwa [show (ad.add 0).block = ad.block by unfold Addr.add; split <;> rfl] at this⟩

/-- Block Y is the document's code of these n lengths. -/
structure X0 (w : World) (Y : Nat) (L : Nat → Int) (n : Nat) (la : Option Addr) (lc cg : Nat) : Prop where
  row : w.rowIs Y 154 2 (xcells (.slice la n lc) (.slice (some ⟨cg, 0, none⟩) n n))
  own : w.ownsRow 0 3 1 (.slice la n lc) n (ivs L n)
  rc : w.rowIs cg 3 n (fun j => .int .i64 (cd L n j))
  ok : er L n = 0

def Xc (w : World) (Y : Nat) (L : Nat → Int) (n : Nat) : Prop := ∃ la lc cg, X0 w Y L n la lc cg

theorem own_kt {w w' : World} {base n : Nat} {v : Value} {xs : List Value} (h : w.ownsRow base 3 1 v n xs) (k : Kt w w') : w'.ownsRow base 3 1 v n xs := by
  refine ⟨h.1, ?_⟩
  rcases h.2 with h' | ⟨g, cap, cur, h1, h2, h3, h4⟩
  · exact .inl h'
  · exact .inr ⟨g, cap, cur, h1, h2, (k g cur 3 _ h3 (.inl rfl)).trans h3, h4⟩

theorem own_zero {w : World} {base e s n : Nat} {v : Value} {xs : List Value} (h : w.ownsRow base e s v n xs) : w.ownsRow 0 e s v n xs := by
  refine ⟨h.1, ?_⟩
  rcases h.2 with h' | ⟨g, cap, cur, h1, h2, h3⟩
  · exact .inl h'
  · exact .inr ⟨g, cap, cur, h1, Nat.zero_le _, h3⟩

theorem X0.kt {w w' : World} {Y : Nat} {L : Nat → Int} {n : Nat} {la : Option Addr} {lc cg : Nat} (h : X0 w Y L n la lc cg) (k : Kt w w') : X0 w' Y L n la lc cg :=
  ⟨rowIs_kt h.row k (.inr rfl), own_kt h.own k, rowIs_kt h.rc k (.inl rfl), h.ok⟩

theorem Xc.kt {w w' : World} {Y : Nat} {L : Nat → Int} {n : Nat} (h : Xc w Y L n) (k : Kt w w') : Xc w' Y L n := by
  obtain ⟨la, lc, cg, h⟩ := h
  exact ⟨la, lc, cg, h.kt k⟩

theorem X0.ri {w : World} {Y : Nat} {L : Nat → Int} {n : Nat} {la : Option Addr} {lc cg : Nat} (h : X0 w Y L n la lc cg) : Ri w la n lc L := by
  obtain ⟨ao, c, e, hr, _⟩ := own_ri h.own
  cases e
  exact hr

theorem xnew_xc (ao : Option Addr) (n c : Nat) (L : Nat → Int) (half : Bool) (w : World) (h : Ri w ao n c L) (hn : nw L n half = 0) :
    Calls Tryz.prog 81 #[.slice ao n c, .bool half] w fun e w' => ∃ Y, e = .returned (.tuple #[.pointer (some ⟨Y, 0, none⟩), .int .i64 0]) ∧ Xc w' Y L n ∧ Below w.heap.size w w' := by
  refine (xnew_yes ao n c L half w h hn).mono ?_
  rintro e w' ⟨Y, K, la, lc, cg, rfl, hX, ho, hb⟩
  exact ⟨Y, rfl, ⟨la, lc, cg, ⟨hX.row, ho, hX.rc, hX.ok⟩⟩, hb⟩

end Go.Proofs.YtiahbicodlgmhaaGreatDoor.D

/- The document's Next. -/
namespace Go.Proofs.YtiahbicodlgmhaaGreatDoor.D
open Go.RowKit

theorem yget_short (R : Nat) (ao : Option Addr) (n c : Nat) (X : Int) (p : Nat) (w : World) (h : IsY w R ao n c X p) (hs : 8 * n < p + 1) :
    Calls Tryz.prog 78 #[.pointer (some ⟨R, 0, none⟩), .int .i64 1] w fun e w' => e = .returned (.tuple #[.int .i64 0, .bool false]) ∧ IsY w' R ao n c X p ∧ Fr (fun k => k = R) w w' := by
  refine (yget_no R ao n c X p 1 w h (by omega)).mono ?_
  rintro e w' ⟨rfl, hw | hw⟩
  · subst hw; exact ⟨rfl, h, Fr.refl _ _⟩
  · subst hw; exact ⟨rfl, h.drew, (Fr.refl _ _).drew⟩

/-- Where the document's walk stands. -/
structure Bt (L : Nat → Int) (n : Nat) (X : Int) (nb p k : Nat) (v : Int) : Prop where
  k1 : 1 ≤ k
  k16 : k ≤ 16
  v0 : 0 ≤ v
  v1 : v < 2 ^ (k - 1)
  go : ∀ s g q, Nx L n X nb (16 - k) k v (p + (k - 1)) s g q → Nx L n X nb 15 1 0 p s g q

theorem Bt.short {L : Nat → Int} {n : Nat} {X : Int} {nb p k : Nat} {v : Int} (h : Bt L n X nb p k v) (hk : k < 16) (hs : 8 * nb < p + (k - 1) + 1) : Nx L n X nb 15 1 0 p 0 3 (p + (k - 1)) := by
  refine h.go _ _ _ ?_
  rw [show 16 - k = (15 - k) + 1 by omega]
  simp only [Nx]
  exact Or.inl ⟨hs, trivial, trivial, trivial⟩

theorem Bt.hit {L : Nat → Int} {n : Nat} {X : Int} {nb p k : Nat} {v : Int} (h : Bt L n X nb p k v) (hk : k < 16) (hs : p + (k - 1) + 1 ≤ 8 * nb) (i : Nat) (hi : Hit L n k (2 * v + X / 2 ^ (p + (k - 1)) % 2) i) : Nx L n X nb 15 1 0 p i 0 (p + (k - 1) + 1) := by
  refine h.go _ _ _ ?_
  rw [show 16 - k = (15 - k) + 1 by omega]
  simp only [Nx]
  exact Or.inr (Or.inl ⟨hs, i, hi, rfl, trivial, trivial⟩)

theorem Bt.last {L : Nat → Int} {n : Nat} {X : Int} {nb p k : Nat} {v : Int} (h : Bt L n X nb p k v) (hk : k < 16) (hs : p + (k - 1) + 1 ≤ 8 * nb) (hno : ∀ i, ¬ Hit L n k (2 * v + X / 2 ^ (p + (k - 1)) % 2) i) (hl : ∀ i, i < n → ¬ (k : Int) < L i) : Nx L n X nb 15 1 0 p 0 2 (p + (k - 1) + 1) := by
  refine h.go _ _ _ ?_
  rw [show 16 - k = (15 - k) + 1 by omega]
  simp only [Nx]
  exact Or.inr (Or.inr (Or.inl ⟨hs, hno, hl, trivial, trivial, trivial⟩))

theorem Bt.next {L : Nat → Int} {n : Nat} {X : Int} {nb p k : Nat} {v : Int} (h : Bt L n X nb p k v) (hk : k < 16) (hs : p + (k - 1) + 1 ≤ 8 * nb) (hno : ∀ i, ¬ Hit L n k (2 * v + X / 2 ^ (p + (k - 1)) % 2) i) (hl : ∃ i, i < n ∧ (k : Int) < L i) : Bt L n X nb p (k + 1) (2 * v + X / 2 ^ (p + (k - 1)) % 2) := by
  have h1 := h.k1
  have h2 := h.v1
  have h3 := h.v0
  have hb : 0 ≤ X / 2 ^ (p + (k - 1)) % 2 ∧ X / 2 ^ (p + (k - 1)) % 2 < 2 := by omega
  refine ⟨by omega, by omega, by omega, ?_, fun s g q hn => h.go _ _ _ ?_⟩
  · rw [show k + 1 - 1 = (k - 1) + 1 by omega, Int.pow_succ]
    omega
  · rw [show 16 - k = (16 - (k + 1)) + 1 by omega]
    simp only [Nx]
    rw [show p + (k + 1 - 1) = p + (k - 1) + 1 by omega] at hn
    exact Or.inr (Or.inr (Or.inr ⟨hs, hno, hl, hn⟩))

theorem Bt.end {L : Nat → Int} {n : Nat} {X : Int} {nb p : Nat} {v : Int} (h : Bt L n X nb p 16 v) : Nx L n X nb 15 1 0 p 0 2 (p + 15) := by
  refine h.go _ _ _ ?_
  simp only [Nx, Nat.sub_self]
  exact ⟨trivial, trivial, trivial⟩

set_option maxRecDepth 100000 in
set_option maxHeartbeats 4000000 in
theorem xnext_any (Y : Nat) (L : Nat → Int) (n : Nat) (la : Option Addr) (lc cg : Nat) (Q : Nat) (ao : Option Addr) (nb c : Nat) (X : Int) (p : Nat) (w : World) (hX : X0 w Y L n la lc cg) (hR : IsY w Q ao nb c X p) :
    Calls Tryz.prog 113 #[.pointer (some ⟨Y, 0, none⟩), .pointer (some ⟨Q, 0, none⟩)] w fun e w' => ∃ s g q, e = .returned (.tuple #[.int .i64 s, .int .i64 g]) ∧ Nx L n X nb 15 1 0 p s g q ∧ IsY w' Q ao nb c X q ∧ Fr (fun k => k = Q) w w' := by
  obtain ⟨h288, hL, hf⟩ := er_zero L n hX.ok
  have h0 : Bt L n X nb p 1 0 := ⟨by omega, by omega, by omega, by simp, fun s g q h => by simpa using h⟩
  have HX : Hid (∀ wz, Fr (fun k => k = Q) w wz → X0 wz Y L n la lc cg) := fun wz fz => hX.kt (Kt.row hR.row (by decide) fz)
  clear hX hL hf
  go_enter Tryz.func113, Tryz.ntmps113
  go_wp2
  go_loopw [6, 7, 8, 9, 10, 11] (fun vv kv _ _ _ _ wr => ∃ (k : Nat) (v : Int), kv = .int .i64 k ∧ vv = .int .i64 v ∧ Bt L n X nb p k v ∧ IsY wr Q ao nb c X (p + (k - 1)) ∧ Fr (fun k => k = Q) w wr) (fun _ kv _ _ _ _ _ => 17 - (intOf kv).toNat)
  case atStart => exact ⟨1, 0, rfl, rfl, h0, hR, Fr.refl _ _⟩
  case round =>
    obtain ⟨k, v, rfl, rfl, hB, hr, fr⟩ := hrel
    clear h0 hR
    have hk1 := hB.k1
    have hk16 := hB.k16
    have HB : Hid (Bt L n X nb p k v) := hB
    have HR : Hid (Fr (fun k => k = Q) w wr) := fr
    clear hB fr
    by_cases hlt : k < 16
    · by_cases hs : 8 * nb < p + (k - 1) + 1
      · go_wp2_with (go_at_call 78; refine (yget_short Q ao nb c X _ wr hr hs).mono ?_; rintro e w3 ⟨rfl, r3, f3⟩)
        go_ret2
        exact ⟨0, 3, _, rfl, HB.out.short hlt hs, r3, HR.out.trans f3 (fun _ _ e => e)⟩
      · have hs' : p + (k - 1) + 1 ≤ 8 * nb := by omega
        clear hs
        have hv0 : 0 ≤ v := HB.out.v0
        have hv1 : v < 65536 := by
          have h1 := HB.out.v1
          have h2 := p2_le (k - 1) 15 (by omega)
          have h3 : (2 : Int) ^ 15 = 32768 := rfl
          omega
        obtain ⟨b, hb⟩ : ∃ b, b = X / 2 ^ (p + (k - 1)) % 2 := ⟨_, rfl⟩
        have hb01 : b = 0 ∨ b = 1 := by omega
        have HBt : Hid (b = X / 2 ^ (p + (k - 1)) % 2) := hb
        have HO : Hid (bits .or .i64 (wrap64 (v * 2)) b = 2 * v + b) := or_bit v b hv0 hv1 hb01
        go_wp2_with fail
        refine (yget_yes Q ao nb c X (p + (k - 1)) 1 wr hr (by omega) hs').mono ?_
        rintro e w3 ⟨rfl, r3, f3⟩
        have F3 := HR.out.trans f3 (fun _ _ e => e)
        have hX3 := HX.out w3 F3
        rw [show X / 2 ^ (p + (k - 1)) % 2 ^ 1 = b from hb.symm]
        have HO' : bits .or .i64 (v * 2) b = 2 * v + b := by
          rw [← HO.out, IntWalk.wrap64_in (v * 2) (by omega)]
        obtain ⟨v', hv'⟩ : ∃ v', v' = 2 * v + b := ⟨_, rfl⟩
        rw [← hv'] at HO'
        have HV : Hid (v' = 2 * v + X / 2 ^ (p + (k - 1)) % 2) := by
          show v' = 2 * v + X / 2 ^ (p + (k - 1)) % 2
          rw [← hb]; exact hv'
        have c0 := hX3.row.cell (i := 0) (by omega)
        have c1 := hX3.row.cell (i := 1) (by omega)
        simp only [xcells] at c0 c1
        have HC : Hid (X0 w3 Y L n la lc cg) := hX3
        clear hr f3 hb hv' HO hX3
        go_wp2_with fail
        clear HO'
        go_loop [10, 11] (fun sv i => ∃ (j : Nat) (t : Bool), j ≤ n ∧ i = .int .i64 j ∧ sv = .bool t ∧ (∀ i, i < j → ¬ Hit L n k v' i) ∧ (t = true ↔ ∃ i, i < j ∧ (k : Int) < L i)) (fun _ i => n - (intOf i).toNat)
        case atStart => exact ⟨0, false, by omega, rfl, rfl, fun i hi => by omega, by simp⟩
        case round =>
          obtain ⟨j, t, hj, rfl, rfl, hno, ht⟩ := hrel
          by_cases hjn : j < n
          · obtain ⟨bb, off, rfl, hcell⟩ := HC.out.ri.plain (by omega)
            have cl := hcell j hjn
            have cc := HC.out.rc.cell (i := j) hjn
            clear hcell
            by_cases hq : L j = k
            · rw [hq] at cl
              by_cases hc : cd L n j = v'
              · have HH : Hid (Hit L n k (2 * v + X / 2 ^ (p + (k - 1)) % 2) j) := by
                  refine ⟨hjn, hq, ?_⟩
                  rw [hc, HV.out]
                rw [hc] at cc
                clear hno ht hc hq
                go_wp2
                go_ret2
                exact ⟨j, 0, rfl, _, HB.out.hit hlt hs' j HH.out, r3, F3⟩
              · have hd : (cd L n j == v') = false := by simp [hc]
                have HN : Hid (∀ i, i < j + 1 → ¬ Hit L n k v' i) := fun i hi hh => by
                  rcases Nat.lt_or_ge i j with h' | h'
                  · exact hno i h' hh
                  · obtain rfl : i = j := by omega
                    exact hc hh.2.2
                have HT : Hid (t = true ↔ ∃ i, i < j + 1 ∧ (k : Int) < L i) := by
                  show t = true ↔ _
                  rw [ht]
                  constructor
                  · rintro ⟨i, h1, h2⟩
                    exact ⟨i, by omega, h2⟩
                  · rintro ⟨i, h1, h2⟩
                    refine ⟨i, ?_, h2⟩
                    rcases Nat.lt_or_ge i j with h' | h'
                    · exact h'
                    · obtain rfl : i = j := by omega
                      omega
                clear hno ht hc hq
                cases t with
                | true =>
                  go_wp2
                  exact ⟨⟨j + 1, true, by omega, by go_num, rfl, HN.out, HT.out⟩, by simp [intOf]; omega⟩
                | false =>
                  go_wp2
                  exact ⟨⟨j + 1, false, by omega, by go_num, by simp, HN.out, HT.out⟩, by simp [intOf]; omega⟩
            · have hd : (L j == (k : Int)) = false := by simp [hq]
              have HN : Hid (∀ i, i < j + 1 → ¬ Hit L n k v' i) := fun i hi hh => by
                rcases Nat.lt_or_ge i j with h' | h'
                · exact hno i h' hh
                · obtain rfl : i = j := by omega
                  exact hq hh.2.1
              have HT : Hid ((t || decide ((k : Int) < L j)) = true ↔ ∃ i, i < j + 1 ∧ (k : Int) < L i) := by
                show (t || decide ((k : Int) < L j)) = true ↔ _
                rw [Bool.or_eq_true, decide_eq_true_eq, ht]
                constructor
                · rintro (⟨i, h1, h2⟩ | h2)
                  · exact ⟨i, by omega, h2⟩
                  · exact ⟨j, by omega, h2⟩
                · rintro ⟨i, h1, h2⟩
                  rcases Nat.lt_or_ge i j with h' | h'
                  · exact .inl ⟨i, h', h2⟩
                  · obtain rfl : i = j := by omega
                    exact .inr h2
              clear hno ht hq
              cases t with
              | true =>
                go_wp2
                exact ⟨⟨j + 1, true, by omega, by go_num, rfl, HN.out, HT.out⟩, by simp [intOf]; omega⟩
              | false =>
                go_wp2
                exact ⟨⟨j + 1, _, by omega, by go_num, rfl, HN.out, HT.out⟩, by simp [intOf]; omega⟩
          · obtain rfl : j = n := by omega
            have HN : Hid (∀ i, ¬ Hit L j k (2 * v + X / 2 ^ (p + (k - 1)) % 2) i) := fun i hh => hno i hh.1 (by rw [HV.out]; exact hh)
            clear hno
            cases t with
            | false =>
              have HT : Hid (∀ i, i < j → ¬ (k : Int) < L i) := fun i hi hl => by
                have := ht.2 ⟨i, hi, hl⟩
                cases this
              clear ht
              go_wp2
              go_ret2
              exact ⟨0, 2, rfl, _, HB.out.last hlt hs' HN.out (fun i hi h => by have := HT.out i hi; omega), r3, F3⟩
            | true =>
              have HT : Hid (∃ i, i < j ∧ (k : Int) < L i) := ht.1 rfl
              clear ht
              go_wp2
              refine ⟨⟨k + 1, v', by go_num, rfl, ?_, ?_, F3⟩, by simp [intOf]; omega⟩
              · rw [HV.out]
                exact HB.out.next hlt hs' HN.out HT.out
              · rw [show p + (k + 1 - 1) = p + (k - 1) + 1 by omega]
                exact r3
    · obtain rfl : k = 16 := by omega
      go_wp2
      go_ret2
      exact ⟨0, 2, _, rfl, HB.out.end, hr, HR.out⟩

end Go.Proofs.YtiahbicodlgmhaaGreatDoor.D
