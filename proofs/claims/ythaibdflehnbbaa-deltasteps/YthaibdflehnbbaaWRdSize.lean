/- Size. -/
import Derived.Test.YthaibdflehnbbaaWFront
import Derived.Test.YthaibdflehnbbaaBinBits
namespace Go.Proofs.Ythaibdflehnbbaa
open Go.RowKit

/-- The number at the front, seven bits a byte, the lowest first, and how many bytes it has. -/
def rdSize : List Int → Option (Int × Nat)
  | [] => none
  | c :: cs => if c < 128 then some (c, 1) else (rdSize cs).map fun p => (c % 128 + 128 * p.1, p.2 + 1)

/-- What Size answers. -/
def sizeAns (xs : List Int) : Int × Int × Int :=
  match rdSize (xs.take 9) with
  | some p => (p.1, (p.2 : Int), 0)
  | none => (0, 0, if xs.length < 9 then 3 else 5)

theorem drop_take_cons (m k : Nat) (xs : List Int) (h1 : k < m) (h2 : k < xs.length) : (xs.take m).drop k = xs.getD k 0 :: (xs.take m).drop (k + 1) := by
  rw [List.drop_eq_getElem_cons (by simp; omega)]
  simp [List.getD, List.getElem?_eq_getElem h2]

theorem rs_hit {xs : List Int} {k : Nat} {acc cb : Int} (h1 : k < 9) (h2 : k < xs.length) (hb0 : 0 ≤ cb) (hcb : cb = xs.getD k 0) (hc : cb < 128)
    (hr : rdSize (xs.take 9) = (rdSize ((xs.take 9).drop k)).map fun p => (acc + 128 ^ k * p.1, p.2 + k)) : sizeAns xs = (acc + 128 ^ k * (cb % 128), (k : Int) + 1, 0) := by
  rw [drop_take_cons 9 k xs h1 h2, ← hcb] at hr
  simp only [rdSize, if_pos hc, Option.map_some] at hr
  simp only [sizeAns, hr, show cb % 128 = cb from by omega]
  simp
  omega

theorem rs_on {xs : List Int} {k : Nat} {acc cb : Int} (h1 : k < 9) (h2 : k < xs.length) (hcb : cb = xs.getD k 0) (hc : ¬ cb < 128)
    (hr : rdSize (xs.take 9) = (rdSize ((xs.take 9).drop k)).map fun p => (acc + 128 ^ k * p.1, p.2 + k)) :
    rdSize (xs.take 9) = (rdSize ((xs.take 9).drop (k + 1))).map fun p => ((acc + 128 ^ k * (cb % 128)) + 128 ^ (k + 1) * p.1, p.2 + (k + 1)) := by
  rw [drop_take_cons 9 k xs h1 h2, ← hcb] at hr
  simp only [rdSize, if_neg hc, Option.map_map] at hr
  rw [hr]
  congr 1
  funext p
  simp only [Function.comp, Int.mul_add, Int.pow_succ, Int.mul_assoc, Int.add_assoc, Nat.add_assoc, Nat.add_comm 1 k]

theorem rs_end {xs : List Int} {k : Nat} {acc : Int} (h1 : ¬ k < min xs.length 9)
    (hr : rdSize (xs.take 9) = (rdSize ((xs.take 9).drop k)).map fun p => (acc + 128 ^ k * p.1, p.2 + k)) : sizeAns xs = (0, 0, if xs.length < 9 then 3 else 5) := by
  rw [List.drop_of_length_le (by simp; omega)] at hr
  simp [rdSize] at hr
  simp only [sizeAns, hr]

set_option maxHeartbeats 800000 in
theorem size_any (ao : Option Addr) (n c : Nat) (xs : List Int) (w : World) (h : Rd w ao n c xs) (hn : n ≤ 140737488351232) :
    Calls Try.prog 33 #[.slice ao n c] w fun e w' => e = .returned (.tuple #[.int .i64 (sizeAns xs).1, .int .i64 (sizeAns xs).2.1, .int .i64 (sizeAns xs).2.2]) ∧ w' = w := by
  have hxl := h.len
  have hbyt := h.byt
  go_enter Try.func33, Try.ntmps33
  go_wp2_with (go_at_call 45; refine (front_any ao n c 9 w h.le).mono ?_; rintro e w1 ⟨rfl, rfl⟩)
  go_loop [2, 10] (fun u i => ∃ (acc : Int) (k : Nat), k ≤ min n 9 ∧ i = .int .i64 k ∧ u = .int .i64 acc ∧ 0 ≤ acc ∧ acc < 128 ^ k ∧
      rdSize (xs.take 9) = (rdSize ((xs.take 9).drop k)).map fun p => (acc + 128 ^ k * p.1, p.2 + k))
    (fun _ i => 9 - (intOf i).toNat)
  case atStart => exact ⟨0, 0, by omega, rfl, rfl, by omega, by simp, by simp⟩
  case round =>
    obtain ⟨acc, k, hk, rfl, rfl, ha0, ha1, hrd⟩ := hrel
    by_cases hlt : k < min n 9
    · obtain ⟨b, off, rfl, hcell⟩ := h.plain (by omega)
      have hck := hcell k (by omega)
      obtain ⟨cb, hcb⟩ : ∃ cb, cb = xs.getD k 0 := ⟨_, rfl⟩
      rw [← hcb] at hck
      have hb : 0 ≤ cb ∧ cb < 256 := by
        rw [hcb]
        simp only [List.getD, List.getElem?_eq_getElem (show k < xs.length by omega), Option.getD_some]
        exact hbyt _ (List.getElem_mem _)
      have HR : Hid (rdSize (xs.take 9) = (rdSize ((xs.take 9).drop k)).map fun p => (acc + 128 ^ k * p.1, p.2 + k)) := hrd
      have HC : Hid (cb = xs.getD k 0) := hcb
      have HA : Hid (acc < 128 ^ k) := ha1
      have hb0 := hb.1
      have hb1 := hb.2
      clear hrd hcb ha1 hcell hb hbyt
      by_cases hc : cb < 128
      · go_wp2
        go_ret3
        rw [rs_hit (by omega) (by omega) hb0 HC.out hc HR.out, (dec7 k acc cb (by omega) ha0 HA.out hb0 hb1).1]
        exact ⟨rfl, rfl⟩
      · go_wp2
        have hd := dec7 k acc cb (by omega) ha0 HA.out hb0 hb1
        go_round
        case rel => exact ⟨_, k + 1, by omega, by go_num, by rw [hd.1], hd.2.2, hd.2.1, rs_on (by omega) (by omega) HC.out hc HR.out⟩
        case measure => simp [intOf]; omega
    · have HR : Hid (rdSize (xs.take 9) = (rdSize ((xs.take 9).drop k)).map fun p => (acc + 128 ^ k * p.1, p.2 + k)) := hrd
      clear hrd
      by_cases h9 : n < 9
      · go_wp2_with (go_at_call 46; refine (unended_any ao n c 9 _).mono ?_; rintro e w1 ⟨rfl, rfl⟩)
        go_ret3
        rw [rs_end (by omega) HR.out, hxl, if_pos h9]
        exact ⟨rfl, rfl⟩
      · go_wp2_with (go_at_call 46; refine (unended_any ao n c 9 _).mono ?_; rintro e w1 ⟨rfl, rfl⟩)
        go_ret3
        rw [rs_end (by omega) HR.out, hxl, if_neg h9]
        exact ⟨rfl, rfl⟩

end Go.Proofs.Ythaibdflehnbbaa
