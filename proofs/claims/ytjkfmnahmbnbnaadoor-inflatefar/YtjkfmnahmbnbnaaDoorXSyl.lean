/- The statements' own sym, of lengths. -/
import Derived.Test.YtjkfmnahmbnbnaaDoorXSym
namespace Go.Proofs.YtjkfmnahmbnbnaaDoor
open Go.RowKit

theorem lb_fits (v s n : Nat) (hn : n = 285 - s) (hs : s ≤ 28) (h2 : v ≤ 258) (hge : s = 0 ∨ v < lb (286 - s)) : v < lb n + 2 ^ lx n := by
  rcases Nat.lt_or_ge n 285 with h | h
  · have h3 := lb_next n h (by omega)
    rcases hge with rfl | hge
    · omega
    · rw [show 286 - s = n + 1 by omega] at hge
      omega
  · have hn5 : n = 285 := by omega
    rw [hn5, show lb 285 = 258 by decide +kernel, show lx 285 = 0 by decide +kernel]
    omega

theorem lb_wrap (n : Nat) (h0 : 257 ≤ n) (h1 : n ≤ 285) : wrap64 (2 ^ lx n) = 2 ^ lx n ∧ wrap64 (((lb n : Nat) : Int) + 2 ^ lx n) = ((lb n : Nat) : Int) + 2 ^ lx n := by
  have hb := lb_le n (by omega) h0
  have hp0 := p2 (lx n)
  have hp := p2_le (lx n) 5 (by omega)
  generalize (2 : Int) ^ lx n = P at *
  exact ⟨IntWalk.wrap64_in _ (by omega), IntWalk.wrap64_in _ (by omega)⟩

theorem lb_cast (v n : Nat) : (v : Int) < ((lb n : Nat) : Int) + 2 ^ lx n ↔ v < lb n + 2 ^ lx n := by
  have := p2c (lx n)
  generalize (2 : Int) ^ lx n = P at *
  generalize 2 ^ lx n = Q at *
  omega

theorem lb_257 : lb 257 = 3 := by decide +kernel

theorem lb_last (v n : Nat) (h1 : 3 ≤ v) (hn : n = 257) (h : ¬ lb n ≤ v) : False := by
  subst hn
  rw [lb_257] at h
  exact h h1

theorem lb_pack (v s : Nat) (hs : s ≤ 28) (h1 : 3 ≤ v) (h2 : v ≤ 258) (hge : s = 0 ∨ v < lb (286 - s)) : ∃ n LB LX : Nat, n + s = 285 ∧ LB = lb n ∧ LX = lx n ∧ LB ≤ 258 ∧ LX ≤ 5 ∧ wrap64 (2 ^ LX) = 2 ^ LX ∧ wrap64 ((LB : Int) + 2 ^ LX) = (LB : Int) + 2 ^ LX ∧
    (LB ≤ v → (v : Int) < (LB : Int) + 2 ^ LX ∧ v < LB + 2 ^ LX) ∧ (¬ LB ≤ v → s < 28 ∧ v < lb (286 - (s + 1))) := by
  obtain ⟨n, hn⟩ : ∃ n, n = 285 - s := ⟨_, rfl⟩
  have hn0 : 257 ≤ n := by clear hge; omega
  have hn1 : n ≤ 285 := by clear hge; omega
  have hlt := lb_fits v s n hn hs h2 hge
  obtain ⟨e2, e3⟩ := lb_wrap n hn0 hn1
  have hb := lb_le n (Nat.lt_succ_of_le hn1) hn0
  have hns : n + s = 285 := by clear hge hlt e2 e3 hb; omega
  refine ⟨n, lb n, lx n, hns, rfl, rfl, hb.2.1, hb.2.2, e2, e3, fun _ => ⟨(lb_cast v n).2 hlt, hlt⟩, fun h => ⟨?_, ?_⟩⟩
  · rcases Nat.lt_or_ge s 28 with h' | h'
    · exact h'
    · exact (lb_last v n h1 (by clear hge hlt e2 e3 hb h; omega) h).elim
  · rw [show 286 - (s + 1) = n by clear hge hlt e2 e3 hb h; omega]
    exact Nat.lt_of_not_le h

set_option maxRecDepth 100000 in
set_option maxHeartbeats 400000 in
theorem syml_any (v : Nat) (w : World) (h1 : 3 ≤ v) (h2 : v ≤ 258) :
    Calls Tryd.prog 20 #[.int .i64 v, .bool false] w fun e w' => ∃ s u : Nat, e = .returned (.tuple #[.int .i64 s, .int .i64 u, .int .i64 (lx s)]) ∧ 257 ≤ s ∧ s ≤ 285 ∧ u < 2 ^ lx s ∧ lb s + u = v ∧ Below w.heap.size w w' := by
  go_enter Tryd.func20, Tryd.ntmps20
  go_wp2_with fail
  go_loopw [7] (fun iv wr => ∃ s : Nat, s ≤ 28 ∧ iv = .int .i64 s ∧ Hid (s = 0 ∨ v < lb (286 - s)) ∧ Hid (Below w.heap.size w wr)) (fun iv _ => 30 - (intOf iv).toNat)
  case atStart => exact ⟨0, by omega, rfl, .inl rfl, Below.refl _ _⟩
  case round =>
    obtain ⟨s, hs, rfl, HGE, HB⟩ := hrel
    obtain ⟨n, LB, LX, hn, hLB, hLX, b1, b2, e2, e3, hyes, hno⟩ := lb_pack v s hs h1 h2 HGE.out
    have hxd := xdistance_yes s wr (by omega)
    obtain ⟨db1, hdb⟩ : ∃ x, x = db s := ⟨_, rfl⟩
    obtain ⟨dx1, hdx⟩ : ∃ x, x = dx s := ⟨_, rfl⟩
    have hxl := fun w => xlength_yes n w (by omega) (by omega)
    rw [← hdb, ← hdx] at hxd
    rw [← hLB, ← hLX] at hxl
    have HXL : Hid (∀ w, Calls Tryd.prog 11 #[.int .i64 n] w fun e w' => e = .returned (.tuple #[.int .i64 LB, .int .i64 LX, .bool true]) ∧ Below w.heap.size w w') := hxl
    have HL : Hid (LB = lb n ∧ LX = lx n) := ⟨hLB, hLX⟩
    have HNO : Hid (¬ LB ≤ v → s < 28 ∧ v < lb (286 - (s + 1))) := hno
    clear hxl hLB hLX hdb hdx hno HGE
    have q1 : (s : Int) < 30 := by omega
    have q5 : (285 : Int) - s = n := by omega
    have q6 : IntKind.i64.wrap (n : Int) = n := wraps_i64 _ (by omega) (by omega)
    have hx64 : ¬ 64 ≤ LX := by omega
    have hu : IntKind.u64.wrap (LX : Int) = LX := wraps_u64 _ (by omega) (by omega)
    by_cases hle : LB ≤ v
    · obtain ⟨q3, hlt⟩ := hyes hle
      have q2 : (LB : Int) ≤ v := by omega
      obtain ⟨u, hu'⟩ : ∃ u, u = v - LB := ⟨_, rfl⟩
      have q4 : (v : Int) - (LB : Int) = u := by omega
      have HF : Hid (257 ≤ n ∧ n ≤ 285 ∧ u < 2 ^ LX ∧ LB + u = v) := ⟨by omega, by omega, by omega, by omega⟩
      clear hlt hu' hyes hn HNO
      go_wp2_with (first
        | (go_at_call 11; refine (HXL.out _).mono ?_; rintro e w2 ⟨rfl, b2⟩)
        | (go_at_call 13; refine hxd.mono ?_; rintro e w1 ⟨rfl, b1⟩))
      go_ret3
      obtain ⟨f1, f2, f3, f4⟩ := HF.out
      refine ⟨n, u, ?_, f1, f2, by rw [← HL.out.2]; exact f3, by rw [← HL.out.1]; exact f4, (HB.out.trans (b1.mono HB.out.size)).trans (b2.mono (Nat.le_trans HB.out.size b1.size))⟩
      rw [← HL.out.2]
      rfl
    · have q2 : decide ((LB : Int) ≤ v) = false := by simp; omega
      have q7 : decide (LB ≤ v) = false := by simp; omega
      obtain ⟨f1, f2⟩ := HNO.out hle
      have HN : Hid (v < lb (286 - (s + 1))) := f2
      clear f2 hle hyes hn HNO
      go_wp2_with (first
        | (go_at_call 11; refine (HXL.out _).mono ?_; rintro e w2 ⟨rfl, b2⟩)
        | (go_at_call 13; refine hxd.mono ?_; rintro e w1 ⟨rfl, b1⟩))
      go_roundw
      case rel => exact ⟨s + 1, by omega, by go_num, .inr HN.out, (HB.out.trans (b1.mono HB.out.size)).trans (b2.mono (Nat.le_trans HB.out.size b1.size))⟩
      case measure => simp [intOf]; omega

end Go.Proofs.YtjkfmnahmbnbnaaDoor
