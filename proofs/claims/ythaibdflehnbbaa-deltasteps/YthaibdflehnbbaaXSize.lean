/- The document's Size, Sizes. -/
import Derived.Test.YthaibdflehnbbaaWKnown
namespace Go.Proofs.Ythaibdflehnbbaa
open Go.RowKit

set_option maxRecDepth 100000 in
set_option maxHeartbeats 1000000 in
theorem rsize_any (ao : Option Addr) (n c : Nat) (xs : List Int) (w : World) (h : Rd w ao n c xs) (hn : n ≤ 1000000) :
    Calls Try.prog 22 #[.slice ao n c] w fun e w' => e = .returned (.tuple #[.int .i64 (sizeAns xs).1, .int .i64 (sizeAns xs).2.1, .int .i64 (sizeAns xs).2.2]) ∧ w' = w := by
  have hxl := h.len
  have hbyt := h.byt
  go_enter Try.func22, Try.ntmps22
  go_wp2
  go_loop [5, 6] (fun u i => ∃ (acc : Int) (k : Nat), k ≤ 9 ∧ k ≤ n ∧ i = .int .i64 k ∧ u = .int .i64 acc ∧ 0 ≤ acc ∧ Hid (acc < 128 ^ k) ∧
      Hid (rdSize (xs.take 9) = (rdSize ((xs.take 9).drop k)).map fun p => (acc + 128 ^ k * p.1, p.2 + k)))
    (fun _ i => 9 - (intOf i).toNat)
  case atStart => exact ⟨0, 0, by omega, by omega, rfl, rfl, by omega, (by show (0 : Int) < 128 ^ 0; simp), (by show _ = _; simp)⟩
  case round =>
    obtain ⟨acc, k, hk9, hkn, rfl, rfl, ha0, HA, HR⟩ := hrel
    by_cases h9 : k < 9
    · have z9 : (k : Int) < 9 := by omega
      by_cases hlt : k < n
      · have zn : ((k : Int) == (n : Int)) = false := by simp; omega
        obtain ⟨b, off, rfl, hcell⟩ := h.plain (by omega)
        have hck := hcell k (by omega)
        obtain ⟨cb, hcb⟩ : ∃ cb, cb = xs.getD k 0 := ⟨_, rfl⟩
        rw [← hcb] at hck
        have hb : 0 ≤ cb ∧ cb < 256 := by rw [hcb]; exact getD_byt xs hbyt k
        have HC : Hid (cb = xs.getD k 0) := hcb
        have hb0 := hb.1
        have hb1 := hb.2
        clear hcb hcell hb hbyt
        have hd := dec7 k acc cb (by omega) ha0 HA.out hb0 hb1
        have HD1 : Hid (bits .or .i64 acc (wrap64 (wrap64 (bits .and .u8 cb 127) * 2 ^ (7 * k))) = acc + 128 ^ k * (cb % 128)) := hd.1
        have HD2 : Hid (acc + 128 ^ k * (cb % 128) < 128 ^ (k + 1)) := hd.2.1
        have HD3 : Hid (0 ≤ acc + 128 ^ k * (cb % 128)) := hd.2.2
        clear hd
        by_cases hc : cb < 128
        · go_wp2
          go_ret3
          rw [rs_hit (by omega) (by omega) hb0 HC.out hc HR.out, HD1.out]
          exact ⟨rfl, rfl⟩
        · go_wp2
          go_round
          case rel => exact ⟨_, k + 1, by omega, by omega, by go_num, by rw [HD1.out], HD3.out, HD2, rs_on (by omega) (by omega) HC.out hc HR.out⟩
          case measure => simp [intOf]; omega
      · obtain rfl : k = n := by omega
        go_wp2
        go_ret3
        rw [rs_end (by omega) HR.out, hxl, if_pos h9]
        exact ⟨rfl, rfl⟩
    · obtain rfl : k = 9 := by omega
      go_wp2
      go_ret3
      rw [rs_end (by omega) HR.out, hxl, if_neg (by omega)]
      exact ⟨rfl, rfl⟩

set_option maxRecDepth 100000 in
set_option maxHeartbeats 1000000 in
theorem rsizes_any (ao : Option Addr) (n c : Nat) (d : List Int) (w : World) (h : Rd w ao n c d) (hn : n ≤ 1000000) :
    Calls Try.prog 11 #[.slice ao n c] w fun e w' => e = .returned (.tuple #[.int .i64 (szs d).1, .int .i64 (szs d).2.1, .int .i64 ((szs d).2.2.1 : Nat), .int .i64 (szs d).2.2.2]) ∧ w' = w := by
  have hl := h.len
  have HR : Hid (Rd w ao n c d) := h
  have h1 := rsize_any ao n c d w h (by omega)
  by_cases hz : (sizeAns d).2.2 = 0
  · obtain ⟨k, hk, k1, k2, k3, k4, k5⟩ := sizeAns_ok d h.byt hz
    rw [hk, hz] at h1
    have hs2 := fun a b (hh : Rd w a (n - k) b (d.drop k)) => rsize_any a (n - k) b (d.drop k) w hh (by omega)
    by_cases hz2 : (sizeAns (d.drop k)).2.2 = 0
    · obtain ⟨m, hm, m1, m2, m3, m4, m5⟩ := sizeAns_ok (d.drop k) (fun x hx => h.byt x (List.mem_of_mem_drop hx)) hz2
      rw [hm, hz2] at hs2
      rw [szs_good d k m hz hk hz2 hm]
      generalize (sizeAns d).1 = v1 at *
      generalize (sizeAns (d.drop k)).1 = v2 at *
      have hkn : k + (n - k) ≤ n := by omega
      clear hz hk hz2 hm h m3
      go_enter Try.func11, Try.ntmps11
      go_wp2_with (first
        | (go_at_call 22; refine (hs2 _ _ (hr2.rest hl)).mono ?_; rintro e w2 ⟨rfl, rfl⟩)
        | (go_at_call 22; refine h1.mono ?_; rintro e w1 ⟨rfl, rfl⟩)
        | (refine wpList_sub rfl _ _ _ rfl HR.out k (n - k) hkn rfl (.inl rfl) (.inr ⟨rfl, by omega⟩) ?_; intro ao2 c2 hr2 _))
      refine bodyPost_ret (results_tmp4 rfl _ _ _) rfl ?_
      exact ⟨by simp, rfl⟩
    · rw [szs_bad2 d k hz hk hz2]
      generalize (sizeAns d).1 = v1 at *
      generalize (sizeAns (d.drop k)).1 = v2 at *
      generalize (sizeAns (d.drop k)).2.1 = v3 at *
      generalize (sizeAns (d.drop k)).2.2 = v4 at *
      have q4 : (v4 != 0) = true := by simp [hz2]
      have hkn : k + (n - k) ≤ n := by omega
      clear hz hk h
      go_enter Try.func11, Try.ntmps11
      go_wp2_with (first
        | (go_at_call 22; refine (hs2 _ _ (hr2.rest hl)).mono ?_; rintro e w2 ⟨rfl, rfl⟩)
        | (go_at_call 22; refine h1.mono ?_; rintro e w1 ⟨rfl, rfl⟩)
        | (refine wpList_sub rfl _ _ _ rfl HR.out k (n - k) hkn rfl (.inl rfl) (.inr ⟨rfl, by omega⟩) ?_; intro ao2 c2 hr2 _))
      refine bodyPost_ret (results_tmp4 rfl _ _ _) rfl ?_
      exact ⟨by simp, rfl⟩
  · rw [szs_bad1 d hz]
    generalize (sizeAns d).1 = v1 at *
    generalize (sizeAns d).2.1 = v2 at *
    generalize (sizeAns d).2.2 = v3 at *
    have q4 : (v3 != 0) = true := by simp [hz]
    clear h
    go_enter Try.func11, Try.ntmps11
    go_wp2_with (first
      | (go_at_call 22; refine h1.mono ?_; rintro e w1 ⟨rfl, rfl⟩))
    refine bodyPost_ret (results_tmp4 rfl _ _ _) rfl ?_
    exact ⟨by simp, rfl⟩

end Go.Proofs.Ythaibdflehnbbaa
