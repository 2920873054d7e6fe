/- Offset. -/
import Derived.Test.YtmkjpfjlohkdoaaWRdSize
namespace Go.Proofs.Ytmkjpfjlohkdoaa
open Go.RowKit

/-- One byte more of an offset (k: how many there were). -/
def ofsStep (k : Nat) (acc c : Int) : Int := if k = 0 then c % 128 else 128 * (acc + 1) + c % 128

/-- The offset at the front, and how many bytes it has. -/
def rdOfs : Nat → Int → List Int → Option (Int × Nat)
  | _, _, [] => none
  | k, acc, c :: cs => if c < 128 then some (ofsStep k acc c, k + 1) else rdOfs (k + 1) (ofsStep k acc c) cs

/-- What Offset answers. -/
def ofsAns (xs : List Int) : Int × Int × Int :=
  match rdOfs 0 0 (xs.take 8) with
  | some p => (p.1, (p.2 : Int), 0)
  | none => (0, 0, if xs.length < 8 then 3 else 5)

theorem ro_hit {xs : List Int} {k : Nat} {acc cb : Int} (h1 : k < 8) (h2 : k < xs.length) (hcb : cb = xs.getD k 0) (hc : cb < 128)
    (hr : rdOfs 0 0 (xs.take 8) = rdOfs k acc ((xs.take 8).drop k)) : ofsAns xs = (ofsStep k acc cb, (k : Int) + 1, 0) := by
  rw [drop_take_cons 8 k xs h1 h2, ← hcb] at hr
  simp only [rdOfs, if_pos hc] at hr
  simp only [ofsAns, hr]
  simp

theorem ro_on {xs : List Int} {k : Nat} {acc cb : Int} (h1 : k < 8) (h2 : k < xs.length) (hcb : cb = xs.getD k 0) (hc : ¬ cb < 128)
    (hr : rdOfs 0 0 (xs.take 8) = rdOfs k acc ((xs.take 8).drop k)) : rdOfs 0 0 (xs.take 8) = rdOfs (k + 1) (ofsStep k acc cb) ((xs.take 8).drop (k + 1)) := by
  rw [drop_take_cons 8 k xs h1 h2, ← hcb] at hr
  simp only [rdOfs, if_neg hc] at hr
  exact hr

theorem ro_end {xs : List Int} {k : Nat} {acc : Int} (h1 : ¬ k < min xs.length 8)
    (hr : rdOfs 0 0 (xs.take 8) = rdOfs k acc ((xs.take 8).drop k)) : ofsAns xs = (0, 0, if xs.length < 8 then 3 else 5) := by
  rw [List.drop_of_length_le (by simp; omega)] at hr
  simp only [rdOfs] at hr
  simp only [ofsAns, hr]

theorem ofs0 (acc cb : Int) (hb0 : 0 ≤ cb) (hb1 : cb < 256) : bits .or .i64 0 (wrap64 (bits .and .u8 cb 127)) = ofsStep 0 acc cb := by
  rw [u8_and127 cb hb0 hb1, IntWalk.wrap64_in (cb % 128) (by omega)]
  rw [bits_join .i64 63 (by decide) wraps_i64 7 0 _ (by omega) (by omega) (by omega) (by omega) (by omega) (by omega)]
  simp [ofsStep]

theorem ofs1 (k : Nat) (acc cb : Int) (hk : 1 ≤ k) (h0 : 0 ≤ acc) (h1 : acc ≤ 1125899906842624) (hb0 : 0 ≤ cb) (hb1 : cb < 256) :
    bits .or .i64 ((acc + 1) * 128) (wrap64 (bits .and .u8 cb 127)) = ofsStep k acc cb := by
  rw [u8_and127 cb hb0 hb1, IntWalk.wrap64_in (cb % 128) (by omega)]
  rw [bits_join .i64 63 (by decide) wraps_i64 7 _ _ (by omega) (by omega) (by omega) (by omega) (by omega) (by omega)]
  simp [ofsStep, show ¬ k = 0 from by omega]
  omega

theorem ofs_bound (k : Nat) (acc cb : Int) (h0 : 0 ≤ acc) (h1 : k = 0 ∨ acc + 3 ≤ 2 * 128 ^ k) : 0 ≤ ofsStep k acc cb ∧ ofsStep k acc cb + 3 ≤ 2 * 128 ^ (k + 1) := by
  rcases Nat.eq_zero_or_pos k with rfl | hk
  · simp [ofsStep]; omega
  · have h := h1.resolve_left (by omega)
    simp only [ofsStep, if_neg (show ¬ k = 0 from by omega), Int.pow_succ]
    omega

set_option maxHeartbeats 800000 in
theorem offset_any (ao : Option Addr) (n c : Nat) (xs : List Int) (w : World) (h : Rd w ao n c xs) (hn : n ≤ 140737488351232) :
    Calls Try.prog 27 #[.slice ao n c] w fun e w' => e = .returned (.tuple #[.int .i64 (ofsAns xs).1, .int .i64 (ofsAns xs).2.1, .int .i64 (ofsAns xs).2.2]) ∧ w' = w := by
  have hxl := h.len
  have hbyt := h.byt
  go_enter Try.func27, Try.ntmps27
  go_wp2_with (go_at_call 34; refine (front_any ao n c 8 w h.le).mono ?_; rintro e w1 ⟨rfl, rfl⟩)
  go_loop [2, 10] (fun u i => ∃ (acc : Int) (k : Nat), k ≤ min n 8 ∧ i = .int .i64 k ∧ u = .int .i64 acc ∧ 0 ≤ acc ∧ (k = 0 → acc = 0) ∧ (k = 0 ∨ acc + 3 ≤ 2 * 128 ^ k) ∧
      rdOfs 0 0 (xs.take 8) = rdOfs k acc ((xs.take 8).drop k))
    (fun _ i => 8 - (intOf i).toNat)
  case atStart => exact ⟨0, 0, by omega, rfl, rfl, by omega, fun _ => rfl, .inl rfl, by simp⟩
  case round =>
    obtain ⟨acc, k, hk, rfl, rfl, ha0, hz, ha1, hrd⟩ := hrel
    have HR : Hid (rdOfs 0 0 (xs.take 8) = rdOfs k acc ((xs.take 8).drop k)) := hrd
    have HA : Hid (k = 0 ∨ acc + 3 ≤ 2 * 128 ^ k) := ha1
    clear hrd ha1
    by_cases hlt : k < min n 8
    · obtain ⟨b, off, rfl, hcell⟩ := h.plain (by omega)
      have hck := hcell k (by omega)
      obtain ⟨cb, hcb⟩ : ∃ cb, cb = xs.getD k 0 := ⟨_, rfl⟩
      rw [← hcb] at hck
      have hb : 0 ≤ cb ∧ cb < 256 := by
        rw [hcb]
        simp only [List.getD, List.getElem?_eq_getElem (show k < xs.length by omega), Option.getD_some]
        exact hbyt _ (List.getElem_mem _)
      have HC : Hid (cb = xs.getD k 0) := hcb
      have hb0 := hb.1
      have hb1 := hb.2
      have hbd := ofs_bound k acc cb ha0 HA.out
      have HB : Hid (0 ≤ ofsStep k acc cb ∧ ofsStep k acc cb + 3 ≤ 2 * 128 ^ (k + 1)) := hbd
      have hac : acc ≤ 1125899906842624 := by
        rcases HA.out with rfl | h'
        · have := hz rfl; omega
        · have := pow128_le k 7 (by omega)
          have h8 : (128 : Int) ^ 7 = 562949953421312 := rfl
          omega
      clear hcb hcell hb hbyt hbd
      by_cases hk0 : k = 0
      · subst hk0
        obtain rfl := hz rfl
        clear hz
        simp only [Nat.add_zero] at hck
        by_cases hc : cb < 128
        · go_wp2
          go_ret3
          rw [ro_hit (by omega) (by omega) HC.out hc HR.out, ofs0 0 cb hb0 hb1]
          exact ⟨rfl, rfl⟩
        · go_wp2
          go_round
          case rel => exact ⟨ofsStep 0 0 cb, 0 + 1, by omega, by go_num, by rw [ofs0 0 cb hb0 hb1], HB.out.1, fun h => by omega, .inr HB.out.2, ro_on (by omega) (by omega) HC.out hc HR.out⟩
          case measure => simp [intOf]
      · have hk1 : 0 < k := by omega
        clear hz
        by_cases hc : cb < 128
        · go_wp2
          go_ret3
          rw [ro_hit (by omega) (by omega) HC.out hc HR.out, ofs1 k acc cb (by omega) ha0 hac hb0 hb1]
          exact ⟨rfl, rfl⟩
        · go_wp2
          go_round
          case rel => exact ⟨ofsStep k acc cb, k + 1, by omega, by go_num, by rw [ofs1 k acc cb (by omega) ha0 hac hb0 hb1], HB.out.1, fun h => by omega, .inr HB.out.2, ro_on (by omega) (by omega) HC.out hc HR.out⟩
          case measure => simp [intOf]; omega
    · clear hz
      by_cases h9 : n < 8
      · go_wp2_with (go_at_call 35; refine (unended_any ao n c 8 _).mono ?_; rintro e w1 ⟨rfl, rfl⟩)
        go_ret3
        rw [ro_end (by omega) HR.out, hxl, if_pos h9]
        exact ⟨rfl, rfl⟩
      · go_wp2_with (go_at_call 35; refine (unended_any ao n c 8 _).mono ?_; rintro e w1 ⟨rfl, rfl⟩)
        go_ret3
        rw [ro_end (by omega) HR.out, hxl, if_neg h9]
        exact ⟨rfl, rfl⟩

end Go.Proofs.Ytmkjpfjlohkdoaa
