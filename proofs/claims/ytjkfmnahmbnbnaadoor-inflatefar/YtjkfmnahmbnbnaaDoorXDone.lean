/- The document's own writer: Done. -/
import Derived.Test.YtjkfmnahmbnbnaaDoorXWriter
namespace Go.Proofs.YtjkfmnahmbnbnaaDoor
open Go.RowKit

/-- Byte j of the lowest i bits of N. -/
def dn (N : Int) (i j : Nat) : Int := N % 2 ^ i / 2 ^ (8 * j) % 256

theorem dn_zero (N : Int) (i j : Nat) (h : N / 2 ^ i % 2 = 0) : dn N (i + 1) j = dn N i j := by
  rw [dn, mod_one, h, Int.mul_zero, Int.add_zero, dn]

theorem dn_other (N : Int) (i j : Nat) (h : j ≠ i / 8) : dn N (i + 1) j = dn N i j := by
  rcases Nat.lt_or_ge j (i / 8) with hj | hj
  · rw [dn, mod_one, dn]
    exact put_low _ _ (8 * j) i 8 (by omega)
  · have h1 := mod_lt N (i + 1)
    have h2 := mod_lt N i
    have h3 := p2_le (i + 1) (8 * j) (by omega)
    have h4 := p2_le i (8 * j) (by omega)
    rw [dn, Int.ediv_eq_zero_of_lt (mod_nn _ _) (by omega), dn, Int.ediv_eq_zero_of_lt (mod_nn _ _) (by omega)]

theorem dn_one (N : Int) (i : Nat) (h : N / 2 ^ i % 2 = 1) : bits .or .u8 (dn N i (i / 8)) (2 ^ (i % 8)) = dn N (i + 1) (i / 8) := by
  have e : 8 * (i / 8) + i % 8 = i := by omega
  have h1 := mod_lt N i
  have h2 : N % 2 ^ i / 2 ^ (8 * (i / 8)) < 2 ^ (i % 8) := div_lt _ _ _ (by rw [e]; exact h1)
  have h3 := div_nn (N % 2 ^ i) (8 * (i / 8)) (mod_nn _ _)
  have h4 := p2_le (i % 8) 7 (by omega)
  have e2 : N % 2 ^ i / 2 ^ (8 * (i / 8)) % 256 = N % 2 ^ i / 2 ^ (8 * (i / 8)) := Int.emod_eq_of_lt h3 (by omega)
  have e3 : i - 8 * (i / 8) = i % 8 := by omega
  have h5 := p2 (i % 8)
  have e4 : (N % 2 ^ i + 2 ^ i * 1) / 2 ^ (8 * (i / 8)) = N % 2 ^ i / 2 ^ (8 * (i / 8)) + 2 ^ (i % 8) := by rw [put_div _ _ _ _ (by omega), e3, Int.mul_one]
  rw [dn, dn, mod_one, h, e4, e2]
  generalize N % 2 ^ i / 2 ^ (8 * (i / 8)) = y at *
  rw [Int.emod_eq_of_lt (a := y + 2 ^ (i % 8)) (by omega) (by omega)]
  have := or_put .u8 8 (by decide) wraps_u8 (i % 8) 1 y 1 h3 h2 (by omega) (by decide) (by omega)
  rw [Int.one_mul, Int.mul_one] at this
  exact this

theorem dn_range (N : Int) (i j : Nat) : 0 ≤ dn N i j ∧ dn N i j < 256 := by
  unfold dn
  omega

theorem dn_all (N : Int) (len j : Nat) (h0 : 0 ≤ N) (h1 : N < 2 ^ len) : dn N len j = N / 2 ^ (8 * j) % 256 := by rw [dn, Int.emod_eq_of_lt h0 h1]

theorem dn_start (N : Int) (j : Nat) : dn N 0 j = 0 := by simp [dn]

set_option maxRecDepth 100000 in
set_option maxHeartbeats 1000000 in
theorem xdone_any (R : Nat) (v : Value) (N : Int) (len : Nat) (w : World) (h : IsX w R v N len) (hl : len ≤ 1000000000) :
    Calls Tryd.prog 18 #[.pointer (some ⟨R, 0, none⟩)] w fun e w' => ∃ ao c, e = .returned (.slice ao ((len + 7) / 8) c) ∧ Rd w' ao ((len + 7) / 8) c (by8 N ((len + 7) / 8)) ∧ Below w.heap.size w w' := by
  obtain ⟨ao, c, rfl⟩ := own_len h.own
  have c0 := h.row.cell (i := 0) (by omega)
  obtain ⟨i0, hi, hz0, hz1, hz2⟩ := info_parts Tryd.info5
  obtain ⟨m, hm⟩ : ∃ m, m = (len + 7) / 8 := ⟨_, rfl⟩
  have hq : ((len : Int) + 7) / 8 = m := by omega
  rw [← hm]
  have HM : Hid (m = (len + 7) / 8) := hm
  have hml : m ≤ 1000000000 := by omega
  clear hm
  have B1 : Below w.heap.size w (w.alloc (.cells (madeCells #[Value.int .u8 0] m) 5)) := (Below.refl _ _).alloc (Nat.le_refl _) _
  have R1 := World.rowIs_made w (Value.int .u8 0) m 5
  go_enter Tryd.func18, Tryd.ntmps18
  go_wp2_with (at_make; refine wpList_make_row _ rfl _ _ 30 rfl 5 i0 (.int .u8 0) Tryd.underlying30 hi hz0 hz1 rfl .i64 .i64 m (show Value.int .i64 (((len : Int) + 7) / 8) = .int .i64 m by rw [hq]) (show Value.int .i64 (((len : Int) + 7) / 8) = .int .i64 m by rw [hq]) (by rw [hz2]; omega) (by omega) ?_)
  go_loopw [4] (fun i wr => ∃ k : Nat, k ≤ len ∧ i = .int .i64 k ∧ wr.rowIs w.heap.size 5 m (fun j => .int .u8 (dn N k j)) ∧ Below w.heap.size w wr) (fun i _ => len - (intOf i).toNat)
  case atStart => exact ⟨0, by omega, rfl, R1.congr (fun i _ => by rw [dn_start]), B1⟩
  case round =>
    obtain ⟨k, hk, rfl, hrow, hB⟩ := hrel
    clear B1 R1 hq
    have d0 := (hB.cell (p := ⟨R, 0, none⟩) h.row.lt).trans c0
    by_cases hlt : k < len
    · obtain ⟨g0, cap0, hv0, _, hg0⟩ := h.own.form (by omega)
      cases hv0
      have d1 := h.own.cells (g := g0) rfl k (.bool (N / 2 ^ k % 2 == 1)) (by rw [List.getElem?_map, bl_get _ _ _ hlt]; rfl)
      rw [Addr.add_lit, Nat.zero_add] at d1
      have d2 := (hB.cell (p := ⟨g0, k, none⟩) hg0).trans d1
      clear d1 c0
      have hb : N / 2 ^ k % 2 = 0 ∨ N / 2 ^ k % 2 = 1 := by omega
      rcases hb with hb | hb
      · rw [hb, show ((0 : Int) == 1) = false from rfl] at d2
        have hz := dn_zero N k
        have HZ : Hid (∀ j, dn N (k + 1) j = dn N k j) := fun j => hz j hb
        clear hz hb h
        go_wp2
        go_roundw
        case rel => exact ⟨k + 1, by omega, by go_num, hrow.congr (fun j _ => by rw [HZ.out]), hB⟩
        case measure => simp [intOf]; omega
      · rw [hb, show ((1 : Int) == 1) = true from rfl] at d2
        have hone := dn_one N k hb
        have hoth : ∀ j, j ≠ k / 8 → dn N (k + 1) j = dn N k j := fun j => dn_other N k j
        obtain ⟨q, hq⟩ : ∃ q, q = k / 8 := ⟨_, rfl⟩
        obtain ⟨r, hr⟩ : ∃ r, r = k % 8 := ⟨_, rfl⟩
        have hqi : (k : Int) / 8 = q := by omega
        have hri : (k : Int) % 8 = r := by omega
        have hqm : q < m := by have := HM.out; omega
        have hr8 : r < 8 := by omega
        rw [← hq, ← hr] at hone
        rw [← hq] at hoth
        have HO : Hid (bits .or .u8 (dn N k q) (2 ^ r) = dn N (k + 1) q) := hone
        have HT : Hid (∀ j, j ≠ q → dn N (k + 1) j = dn N k j) := hoth
        have d3 := hrow.cell hqm
        have d4 := hrow.frozen q
        clear hb h hq hr hone hoth
        have h256 : (2 : Int) ^ r % 256 = 2 ^ r := by
          have h1 := p2 r
          have h2 := p2_le r 7 (by omega)
          exact Int.emod_eq_of_lt (by omega) (by omega)
        have H256 : Hid ((2 : Int) ^ r % 256 = 2 ^ r) := h256
        clear h256
        go_wp2
        go_roundw
        case rel =>
          refine ⟨k + 1, by omega, by go_num, (hrow.set q _).congr (fun j _ => ?_), hB.setCell (Nat.le_refl _) _⟩
          by_cases hj : j = q
          · subst hj
            rw [if_pos rfl, H256.out, HO.out]
          · rw [if_neg hj, HT.out j hj]
        case measure => simp [intOf]; omega
    · obtain rfl : k = len := by omega
      have hall : ∀ j, dn N k j = N / 2 ^ (8 * j) % 256 := fun j => dn_all N k j h.nn h.lt
      have HA : Hid (∀ j, dn N k j = N / 2 ^ (8 * j) % 256) := hall
      clear h hall
      go_wp2
      go_ret
      refine ⟨_, _, rfl, ⟨by8_len _ _, Nat.le_refl _, (fun e => by cases e), fun ad had j hj => ?_, by8_byt _ _⟩, hB⟩
      cases had
      rw [Addr.add_lit, Nat.zero_add, hrow.cell hj, HA.out, by8_get _ _ _ hj]

end Go.Proofs.YtjkfmnahmbnbnaaDoor
