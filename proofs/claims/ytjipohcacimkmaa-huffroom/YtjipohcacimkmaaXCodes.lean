/- The document's Codes. -/
import Derived.Test.YtjipohcacimkmaaXCheck
namespace Go.Proofs.Ytjipohcacimkmaa
open Go.RowKit

/-- The codes that stand when the symbols of fewer than m bits, and those of m bits among the first k, are through. -/
def xc (L : Nat → Int) (n m k : Nat) (j : Nat) : Int := if 0 < L j ∧ (L j < m ∨ (L j = m ∧ j < k)) then cd L n j else 0

theorem xc_put (L : Nat → Int) (n m k : Nat) (hm : 0 < m) (h : L k = m) (j : Nat) : (if j = k then cd L n k else xc L n m k j) = xc L n m (k + 1) j := by
  by_cases e : j = k
  · subst e
    rw [if_pos rfl, xc, if_pos (by omega)]
  · rw [if_neg e, xc, xc]
    by_cases h1 : 0 < L j ∧ (L j < m ∨ (L j = m ∧ j < k))
    · rw [if_pos h1, if_pos (by omega)]
    · rw [if_neg h1, if_neg (by omega)]

theorem xc_same (L : Nat → Int) (n m k : Nat) (h : L k ≠ m) (j : Nat) : xc L n m k j = xc L n m (k + 1) j := by
  rw [xc, xc]
  by_cases h1 : 0 < L j ∧ (L j < m ∨ (L j = m ∧ j < k))
  · rw [if_pos h1, if_pos (by omega)]
  · rw [if_neg h1, if_neg]
    rintro ⟨h2, h3 | ⟨h3, h4⟩⟩
    · exact h1 ⟨h2, .inl h3⟩
    · have : j = k := by
        rcases Nat.lt_or_ge j k with h5 | h5
        · exact absurd ⟨h2, .inr ⟨h3, h5⟩⟩ h1
        · omega
      subst this
      exact h h3

theorem xc_next (L : Nat → Int) (n m j : Nat) (hj : j < n) : xc L n m n j = xc L n (m + 1) 0 j := by
  rw [xc, xc]
  by_cases h1 : 0 < L j ∧ (L j < m ∨ (L j = m ∧ j < n))
  · rw [if_pos h1, if_pos (by omega)]
  · rw [if_neg h1, if_neg (by omega)]

theorem xc_end (L : Nat → Int) (n j : Nat) (h : Lm (L j)) : xc L n 16 0 j = cd L n j := by
  rw [xc]
  have h15 := h.2
  by_cases h1 : 0 < L j
  · rw [if_pos (by omega)]
  · rw [if_neg (by omega), cd, if_neg h1]

theorem xcodes_no (ao : Option Addr) (n c : Nat) (L : Nat → Int) (w : World) (h : Ri w ao n c L) (he : er L n ≠ 0) :
    Calls Try.prog 13 #[.slice ao n c] w fun e w' => e = .returned (.tuple #[.slice none 0 0, .int .i64 (er L n)]) ∧ w' = w := by
  have q1 : (er L n == 0) = false := by simp [he]
  have hc := xcheck_any ao n c L w h
  generalize er L n = x at *
  clear he
  go_enter Try.func13, Try.ntmps13
  go_wp2_with (go_at_call 11; refine hc.mono ?_; rintro e w1 ⟨rfl, hw⟩; subst w1)
  go_ret2
  exact ⟨rfl, rfl⟩

set_option maxRecDepth 100000 in
set_option maxHeartbeats 2000000 in
theorem xcodes_yes (ao : Option Addr) (n c : Nat) (L : Nat → Int) (w : World) (h : Ri w ao n c L) (he : er L n = 0) :
    Calls Try.prog 13 #[.slice ao n c] w fun e w' => ∃ g, e = .returned (.tuple #[.slice (some ⟨g, 0, none⟩) n n, .int .i64 0]) ∧ w'.rowIs g 3 n (fun j => .int .i64 (cd L n j)) ∧ w.heap.size ≤ g ∧ Below w.heap.size w w' := by
  obtain ⟨i0, hi, hz0, hz1, hz2⟩ := info_parts Try.info3
  obtain ⟨h288, hL, hf⟩ := er_zero L n he
  have hc := xcheck_any ao n c L w h
  rw [he] at hc
  have r0 := made_row w n
  have b0 : Below w.heap.size w (w.alloc (.cells (madeCells #[Value.int .i64 0] n) 3)) := (Below.refl _ _).alloc (Nat.le_refl _) _
  go_enter Try.func13, Try.ntmps13
  go_wp2_with (first
    | (go_at_call 11; refine hc.mono ?_; rintro e w1 ⟨rfl, hw⟩; subst w1)
    | (at_make; refine wpList_make_row _ rfl _ _ 22 rfl 3 i0 (.int .i64 0) Try.underlying22 hi hz0 hz1 rfl .i64 .i64 n rfl rfl (by rw [hz2]; omega) (by omega) ?_))
  generalize (w.alloc (.cells (madeCells #[Value.int .i64 0] n) 3)) = W at *
  obtain ⟨B, hB⟩ : ∃ B, B = w.heap.size := ⟨_, rfl⟩
  rw [← hB] at r0 ⊢
  have HB : Hid (B = w.heap.size) := hB
  have HL : Hid (∀ j, j < n → Lm (L j)) := hL
  have HF : Hid (Fits L n) := hf
  have HR : Hid (Ri w ao n c L) := h
  clear hB hi hz0 hz1 hz2 hc hL hf h
  go_loopw [7, 8, 9] (fun cv mv _ wr => ∃ m : Nat, 1 ≤ m ∧ m ≤ 16 ∧ mv = .int .i64 m ∧ cv = .int .i64 (F L n m) ∧ wr.rowIs B 3 n (fun j => .int .i64 (xc L n m 0 j)) ∧ Below w.heap.size w wr) (fun _ mv _ _ => 16 - (intOf mv).toNat)
  case atStart => exact ⟨1, by omega, by omega, rfl, by simp [F, G_zero], r0.congr (fun j hj => by
      rw [xc, if_neg (by omega)]), b0⟩
  case round =>
    obtain ⟨m, hm1, hm16, rfl, rfl, hr, hb⟩ := hrel
    clear r0 b0
    by_cases hlt : m < 16
    · have bF := F_small L n m HF.out (by omega)
      go_wp2_with fail
      go_loopw [7, 9] (fun cv i wx => ∃ k : Nat, k ≤ n ∧ i = .int .i64 k ∧ cv = .int .i64 (F L n m + cn L m k) ∧ wx.rowIs B 3 n (fun j => .int .i64 (xc L n m k j)) ∧ Below w.heap.size w wx) (fun _ i _ => n - (intOf i).toNat)
      case atStart => exact ⟨0, by omega, rfl, by simp [cn], hr, hb⟩
      case round =>
        obtain ⟨k, hk, rfl, rfl, hr2, hb2⟩ := hrel
        clear hr hb
        have bc := cn_nn L m k
        by_cases hkn : k < n
        · obtain ⟨b, off, rfl, hcell⟩ := (HR.out.keep hb2).plain (by omega)
          have ck := hcell k hkn
          have co := hr2.cell (i := k) hkn
          have fo := hr2.frozen k
          clear hcell
          by_cases hq : L k = m
          · have e1 := cd_low L n k m hq (by omega)
            have hr3 : (wr.setCell ⟨B, k, none⟩ (.int .i64 (F L n m + cn L m k))).rowIs B 3 n (fun j => .int .i64 (xc L n m (k + 1) j)) := (hr2.set k _).congr (fun j _ => by
              rw [← xc_put L n m k (by omega) hq, e1]
              by_cases e : j = k
              · rw [if_pos e, if_pos e]
              · rw [if_neg e, if_neg e])
            have hb3 : Below w.heap.size w (wr.setCell ⟨B, k, none⟩ (.int .i64 (F L n m + cn L m k))) := hb2.setCell (by simp [HB.out]) _
            have HN : Hid (cn L m (k + 1) = cn L m k + 1) := by
              show cn L m (k + 1) = cn L m k + 1
              simp [cn, hq]
            rw [hq] at ck
            clear hr2 hb2 e1 hq
            go_wp2_with fail
            exact ⟨⟨k + 1, by omega, by go_num, by rw [HN.out]; go_num, hr3, hb3⟩, by simp [intOf]; omega⟩
          · have hr3 : wr.rowIs B 3 n (fun j => .int .i64 (xc L n m (k + 1) j)) := hr2.congr (fun j _ => by rw [xc_same L n m k hq])
            have HN : Hid (cn L m (k + 1) = cn L m k) := by
              show cn L m (k + 1) = cn L m k
              simp [cn, hq]
            have hd : (L k == (m : Int)) = false := by simp [hq]
            clear hr2 hq
            go_wp2_with fail
            exact ⟨⟨k + 1, by omega, by go_num, by rw [HN.out], hr3, hb2⟩, by simp [intOf]; omega⟩
        · obtain rfl : k = n := by omega
          have hr3 : wr.rowIs B 3 k (fun j => .int .i64 (xc L k (m + 1) 0 j)) := hr2.congr (fun j hj => by rw [xc_next L k m j hj])
          have HS : Hid (F L k (m + 1) = (F L k m + cn L m k) * 2) := by
            show F L k (m + 1) = (F L k m + cn L m k) * 2
            rw [F_succ, C_pos L k m (by omega)]
          clear hr2
          go_wp2_with fail
          exact ⟨⟨m + 1, by omega, by omega, by go_num, by rw [HS.out], hr3, hb2⟩, by simp [intOf]; omega⟩
    · obtain rfl : m = 16 := by omega
      have hr3 : wr.rowIs B 3 n (fun j => .int .i64 (cd L n j)) := hr.congr (fun j hj => by rw [xc_end L n j (HL.out j hj)])
      clear hr
      go_wp2_with fail
      go_ret2
      exact ⟨B, rfl, hr3, by have := HB.out; omega, hb⟩

end Go.Proofs.Ytjipohcacimkmaa
