/- The document's own reader, and its Turn. -/
import Derived.Test.YtjipohcacimkmaaWReader
namespace Go.Proofs.Ytjipohcacimkmaa
open Go.RowKit

/-- The cells of the document's reader. -/
def ycells (sl : Value) (p : Int) : Nat → Value
  | 0 => sl
  | _ => .int .i64 p

/-- Block R is the document's reader of the n bytes of X, of which p bits were taken. -/
structure IsY (w : World) (R : Nat) (ao : Option Addr) (n c : Nat) (X : Int) (p : Nat) : Prop where
  row : w.rowIs R 46 2 (ycells (.slice ao n c) p)
  rd : Rd w ao n c (by8 X n)
  sep : ∀ ad, ao = some ad → 0 < n → ad.block ≠ R
  le : p ≤ 8 * n
  lim : n ≤ 1000000000

theorem IsY.fr {P : Nat → Prop} {w w' : World} {R : Nat} {ao : Option Addr} {n c : Nat} {X : Int} {p : Nat} (r : IsY w R ao n c X p) (hf : Fr P w w') (hR : ¬ P R) (hs : ∀ ad, ao = some ad → 0 < n → ¬ P ad.block) : IsY w' R ao n c X p :=
  ⟨rowIs_fr r.row hf hR, r.rd.fr hf hs, r.sep, r.le, r.lim⟩

theorem IsY.setPos {w : World} {R : Nat} {ao : Option Addr} {n c : Nat} {X : Int} {p : Nat} (r : IsY w R ao n c X p) (q : Nat) (hq : q ≤ 8 * n) : IsY (w.setCell ⟨R, 1, none⟩ (.int .i64 q)) R ao n c X q :=
  ⟨(r.row.set 1 _).congr (fun i hi => by rcases i with _ | _ | i <;> first | rfl | omega), r.rd.fr ((Fr.refl (fun k => k = R) w).setCell rfl _) r.sep, r.sep, hq, r.lim⟩

theorem yleft_any (R : Nat) (ao : Option Addr) (n c : Nat) (X : Int) (p : Nat) (w : World) (h : IsY w R ao n c X p) :
    Calls Try.prog 21 #[.pointer (some ⟨R, 0, none⟩)] w fun e w' => e = .returned (.int .i64 (8 * (n : Int) - p)) ∧ w' = w.drew := by
  have c0 := h.row.cell (i := 0) (by omega)
  have c1 := h.row.cell (i := 1) (by omega)
  have hl := h.le
  have hm := h.lim
  simp only [ycells] at c0 c1
  clear h
  go_enter Try.func21, Try.ntmps21
  go_wp2
  go_region
  go_wp2
  go_ret
  exact ⟨by go_num, rfl⟩

theorem yget_no (R : Nat) (ao : Option Addr) (n c : Nat) (X : Int) (p : Nat) (m : Int) (w : World) (h : IsY w R ao n c X p) (hm : m < 0 ∨ 24 < m ∨ 8 * (n : Int) - p < m) :
    Calls Try.prog 39 #[.pointer (some ⟨R, 0, none⟩), .int .i64 m] w fun e w' => e = .returned (.tuple #[.int .i64 0, .bool false]) ∧ (w' = w ∨ w' = w.drew) := by
  by_cases h0 : m < 0
  · clear hm
    go_enter Try.func39, Try.ntmps39
    go_wp2
    go_ret2
    exact ⟨rfl, .inl rfl⟩
  by_cases h1 : 24 < m
  · clear hm
    go_enter Try.func39, Try.ntmps39
    go_wp2
    go_ret2
    exact ⟨rfl, .inl rfl⟩
  · have h2 : 8 * (n : Int) - p < m := by omega
    clear hm
    go_enter Try.func39, Try.ntmps39
    go_wp2_with (go_at_call 21; refine (yleft_any R ao n c X p w h).mono ?_; rintro e w1 ⟨rfl, hw⟩; subst w1)
    go_ret2
    exact ⟨rfl, .inr rfl⟩

/-- A bit of a byte of X. -/
theorem bit_of (X : Int) (k q r : Nat) (hk : k = 8 * q + r) (hr : r < 8) : X / 2 ^ (8 * q) % 256 / 2 ^ r % 2 = X / 2 ^ k % 2 := by
  have h1 := mod_add (X / 2 ^ (8 * q)) r (8 - r)
  rw [show r + (8 - r) = 8 by omega] at h1
  rw [show (256 : Int) = 2 ^ 8 from rfl, h1, put_div _ _ _ _ (Nat.le_refl _), Nat.sub_self, Int.pow_zero, Int.one_mul, Int.ediv_eq_zero_of_lt (mod_nn _ _) (mod_lt _ _), Int.zero_add, div_div, ← hk]
  exact mod_mod (X / 2 ^ k) 1 (8 - r) (by omega)

set_option maxRecDepth 100000 in
set_option maxHeartbeats 2000000 in
theorem yget_yes (R : Nat) (ao : Option Addr) (n c : Nat) (X : Int) (p m : Nat) (w : World) (h : IsY w R ao n c X p) (hm : m ≤ 24) (hl : p + m ≤ 8 * n) :
    Calls Try.prog 39 #[.pointer (some ⟨R, 0, none⟩), .int .i64 m] w fun e w' => e = .returned (.tuple #[.int .i64 (X / 2 ^ p % 2 ^ m), .bool true]) ∧ IsY w' R ao n c X (p + m) ∧ Fr (fun k => k = R) w w' := by
  have hd0 : decide ((m : Int) < 0) = false := by simp
  have hd1 : decide ((24 : Int) < m) = false := by simp; omega
  have hd2 : decide (8 * (n : Int) - p < m) = false := by simp; omega
  have hY := h.fr (Fr.refl (fun _ => False) w).drew (fun h => h) (fun _ _ _ h => h)
  have c0 := hY.row.cell (i := 0) (by omega)
  have c1 := hY.row.cell (i := 1) (by omega)
  have f1 := hY.row.frozen 1
  simp only [ycells] at c0 c1
  have hlim := h.lim
  go_enter Try.func39, Try.ntmps39
  go_wp2_with (go_at_call 21; refine (yleft_any R ao n c X p w h).mono ?_; rintro e w1 ⟨rfl, hw⟩; subst w1)
  go_loop [6, 7, 8] (fun u i _ => ∃ k : Nat, k ≤ m ∧ i = .int .i64 k ∧ u = .int .i64 (X / 2 ^ p % 2 ^ k)) (fun _ i _ => m - (intOf i).toNat)
  case atStart => exact ⟨0, by omega, rfl, by simp⟩
  case round =>
    obtain ⟨k, hk, rfl, rfl⟩ := hrel
    clear hd0 hd1 hd2 h
    by_cases hlt : k < m
    · obtain ⟨b, off, rfl, hcell⟩ := hY.rd.plain (by omega)
      obtain ⟨q, hq⟩ : ∃ q, q = (p + k) / 8 := ⟨_, rfl⟩
      obtain ⟨r, hr⟩ : ∃ r, r = (p + k) % 8 := ⟨_, rfl⟩
      have hqi : ((p : Int) + k) / 8 = q := by omega
      have hri : ((p : Int) + k) % 8 = r := by omega
      have hqn : q < n := by omega
      have hr8 : r < 8 := by omega
      have hck := hcell q hqn
      rw [by8_get _ _ _ hqn] at hck
      have hb0 : 0 ≤ X / 2 ^ (8 * q) % 256 := by omega
      have hb1 : X / 2 ^ (8 * q) % 256 < 256 := by omega
      have ebit := bit_of X (p + k) q r (by omega) hr8
      generalize X / 2 ^ (8 * q) % 256 = cb at *
      have e0 : 0 ≤ cb / 2 ^ r := div_nn _ _ hb0
      have e1 : cb / 2 ^ r < 256 := by
        have := div_lt cb r 8 (by have := p2_le 8 (r + 8) (by omega); omega)
        omega
      have e2 := u8_one (cb / 2 ^ r) e0 e1
      have HE : Hid (bits .and .u8 (cb / 2 ^ r) 1 = X / 2 ^ (p + k) % 2) := e2.trans ebit
      clear hq hr hcell e2 ebit
      go_wp2
      go_round
      case rel =>
        refine ⟨k + 1, by omega, by go_num, ?_⟩
        have hb : X / 2 ^ (p + k) % 2 = 0 ∨ X / 2 ^ (p + k) % 2 = 1 := by omega
        rw [HE.out, IntWalk.wrap64_in (X / 2 ^ (p + k) % 2) (by omega), i64_put k 1 _ _ (mod_nn _ _) (mod_lt _ _) (by omega) (by omega) (by omega), mod_one, div_div]
      case measure => simp [intOf]; omega
    · obtain rfl : k = m := by omega
      have hF : Fr (fun j => j = R) w (w.setCell ⟨R, 1, none⟩ (.int .i64 ((p : Int) + k))).drew := ((Fr.refl (fun j => j = R) w).setCell rfl _).drew
      have hY2 := hY.setPos (p + k) hl
      have hp : ((p + k : Nat) : Int) = (p : Int) + k := by omega
      rw [hp] at hY2
      have hpl := hY.le
      clear hp hY
      go_wp2
      go_ret2
      exact ⟨rfl, hY2, hF⟩

theorem yget_any (R : Nat) (ao : Option Addr) (n c : Nat) (X : Int) (p : Nat) (m : Int) (w : World) (h : IsY w R ao n c X p) :
    Calls Try.prog 39 #[.pointer (some ⟨R, 0, none⟩), .int .i64 m] w fun e w' => e = .returned (.tuple #[.int .i64 (gtV n X p m), .bool (gtOk n p m)]) ∧
      IsY w' R ao n c X (gtP n p m) ∧ Fr (fun k => k = R) w w' := by
  have hle := h.le
  by_cases hm : 0 ≤ m ∧ m ≤ 24 ∧ m ≤ 8 * (n : Int) - p
  · obtain ⟨k, rfl⟩ := Int.eq_ofNat_of_zero_le hm.1
    have e : gtOk n p k = true := by simp only [gtOk, decide_eq_true_eq]; exact hm
    rw [gtV, gtP, if_pos e, if_pos e, e, Int.toNat_natCast]
    exact yget_yes R ao n c X p k w h (by omega) (by omega)
  · have e : gtOk n p m = false := by simp only [gtOk, decide_eq_false_iff_not]; exact hm
    rw [gtV, gtP, e, if_neg (by decide), if_neg (by decide)]
    refine (yget_no R ao n c X p m w h (by omega)).mono ?_
    rintro e w' ⟨rfl, hw⟩
    rcases hw with hw | hw
    · subst w'
      exact ⟨rfl, h, Fr.refl _ _⟩
    · subst w'
      exact ⟨rfl, h.fr (Fr.refl (fun _ => False) _).drew (fun h => h) (fun _ _ _ h => h), (Fr.refl _ _).drew⟩

end Go.Proofs.Ytjipohcacimkmaa
