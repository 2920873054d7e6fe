/- The document's PutSize, right. -/
import Derived.Test.YthaibdflehnbbaaXApply
namespace Go.Proofs.Ythaibdflehnbbaa
open Go.RowKit

theorem or128 (x : Int) : bits .or .i64 (bits .and .i64 x 127) 128 = x % 128 + 128 := by
  rw [i64_and127]
  have h := or_put .i64 63 (by decide) wraps_i64 7 1 (x % 128) 1 (by omega) (by have : (2 : Int) ^ 7 = 128 := rfl; omega) (by omega) (by decide) (by decide)
  rw [show (1 : Int) * 2 ^ 7 = 128 from rfl, show (2 : Int) ^ 7 * 1 = 128 from rfl] at h
  exact h

set_option maxRecDepth 100000 in
set_option maxHeartbeats 1000000 in
theorem rputSize_any (B : Nat) (bv : Value) (n : Nat) (xs : List Int) (v : Int) (w : World) (h : w.ownsRow B 5 1 bv n (xs.map (Value.int .u8))) (hB : B ≤ w.heap.size) (hn : n ≤ 1000000) (h0 : 0 ≤ v) (hv : v ≤ 9223372036854775807) :
    Calls Try.prog 30 #[bv, .int .i64 v] w fun e w' => ∃ v', e = .returned v' ∧ w'.ownsRow B 5 1 v' (n + (sz 9 v).length) ((xs ++ sz 9 v).map (Value.int .u8)) ∧ Below B w w' := by
  have H0 : Hid (w.ownsRow B 5 1 bv (n + 0) ((xs ++ []).map (Value.int .u8))) := by show World.ownsRow _ _ _ _ _ _ _; simpa using h
  have z0 : decide (v < 0) = false := decide_eq_false (by omega)
  clear h
  go_enter Try.func30, Try.ntmps30
  go_wp2_with fail
  go_loopw [0, 1] (fun b u wr => ∃ (x : Int) (f k : Nat) (ys : List Int), 0 ≤ x ∧ x ≤ 9223372036854775807 ∧ Hid (x < 128 ^ f) ∧ 1 ≤ f ∧ f + k = 9 ∧ u = .int .i64 x ∧ Hid (ys.length = k ∧ ys ++ sz f x = sz 9 v) ∧ Hid (wr.ownsRow B 5 1 b (n + k) ((xs ++ ys).map (Value.int .u8))) ∧ Hid (Below B w wr)) (fun _ u _ => (intOf u).toNat)
  case atStart => exact ⟨v, 9, 0, [], h0, hv, (by show v < 128 ^ 9; simp; omega), by omega, by omega, rfl, ⟨rfl, rfl⟩, H0, Below.refl _ _⟩
  case round =>
    clear H0
    obtain ⟨x, f, k, ys, hx0, hx1, hxf, hf1, hfk, rfl, hys, hown, hbe⟩ := hrel
    by_cases hj : 128 ≤ x
    · have ⟨hf2, hx2, hst⟩ := sz_step f x (by omega) hxf.out hf1
      have HX2 : Hid (x / 128 < 128 ^ (f - 1)) := hx2
      have HS : Hid (sz f x = (x % 128 + 128) :: sz (f - 1) (x / 128)) := hst
      have o1 := or128 x
      have hb : 0 ≤ x % 128 + 128 ∧ x % 128 + 128 < 256 := by omega
      clear hxf hx2 hst
      go_wp2_with (first
        | (at_builtin; refine wpList_append_v rfl _ _ rfl B (n + k) u0 (xs ++ ys) rfl (hown.out.alloc _) _ 1 1 [x % 128 + 128] rfl (one_rd wr _ hb) (by omega) (by have := hbe.out.size; simp; omega) ?_; intro v5 w5 o5 gr5))
      have B5 : Hid (Below B w w5) := (hbe.out.alloc (Nat.le_trans hB hbe.out.size) _).grown gr5 (by have := hbe.out.size; simp; omega) (fun q hq => (hown.out.lt q hq).1)
      have O5 : Hid (w5.ownsRow B 5 1 v5 (n + (k + 1)) ((xs ++ (ys ++ [x % 128 + 128])).map (Value.int .u8))) := by rw [← List.append_assoc]; exact o5
      have HY : Hid ((ys ++ [x % 128 + 128]).length = k + 1 ∧ (ys ++ [x % 128 + 128]) ++ sz (f - 1) (x / 128) = sz 9 v) := ⟨by simp [hys.out.1], by rw [← hys.out.2, HS.out]; simp⟩
      clear o5 gr5 hown hbe o1 hys
      go_wp2
      go_roundw
      case rel => exact ⟨x / 128, f - 1, k + 1, _, by omega, by omega, HX2, by omega, by omega, by go_num, HY, O5, B5⟩
      case measure => simp [intOf]; omega
    · have hlast : sz 9 v = ys ++ [x] := by rw [← hys.out.2, sz_last f x (by omega) hf1]
      have HL : Hid (sz 9 v = ys ++ [x]) := hlast
      have hlen : (ys ++ [x]).length = k + 1 := by simp [hys.out.1]
      have HLN : Hid ((ys ++ [x]).length = k + 1) := hlen
      have hb : 0 ≤ x ∧ x < 256 := by omega
      have zj : decide ((128 : Int) ≤ x) = false := decide_eq_false hj
      clear hlast hlen hxf
      go_wp2_with (first
        | (at_builtin; refine wpList_append_v rfl _ _ rfl B (n + k) u0 (xs ++ ys) rfl (hown.out.alloc _) _ 1 1 [x] rfl (one_rd wr _ hb) (by omega) (by have := hbe.out.size; simp; omega) ?_; intro v5 w5 o5 gr5))
      have B5 : Below B w w5 := (hbe.out.alloc (Nat.le_trans hB hbe.out.size) _).grown gr5 (by have := hbe.out.size; simp; omega) (fun q hq => (hown.out.lt q hq).1)
      have O5 : w5.ownsRow B 5 1 v5 (n + (k + 1)) ((xs ++ (ys ++ [x])).map (Value.int .u8)) := by rw [← List.append_assoc]; exact o5
      clear o5 gr5 hown hbe hys
      go_ret
      rw [HL.out, HLN.out]
      refine ⟨v5, rfl, ?_, B5⟩
      rw [← List.map_append]
      exact O5

def rgt (cp : Bool) (f n : Int) (m : Nat) : Bool := icb cp f n m || idb cp f n m

set_option maxRecDepth 100000 in
set_option maxHeartbeats 1000000 in
theorem right_any (cp : Bool) (f n : Int) (sa : Option Addr) (m sc : Nat) (w : World) :
    Calls Try.prog 31 #[.agg #[.bool cp, .int .i64 f, .int .i64 n, .slice sa m sc]] w fun e w' => e = .returned (.bool (rgt cp f n m)) ∧ Below w.heap.size w w' := by
  have hB := new_below w (.cells #[.bool cp, .int .i64 f, .int .i64 n, .slice sa m sc] 53)
  cases cp with
  | true =>
    by_cases h1 : 0 ≤ f
    · by_cases h2 : f < 4294967296
      · by_cases h3 : 1 ≤ n
        · by_cases h4 : n ≤ 65536
          · by_cases h5 : m = 0
            · have HE : Hid (rgt true f n m = true) := by show _ = _; simp [rgt, icb, h1, h3, h4, h5]; omega
              subst h5
              go_enter Try.func31, Try.ntmps31
              go_wp2
              go_ret
              rw [HE.out]
              exact ⟨rfl, hB⟩
            · have HE : Hid (rgt true f n m = false) := by show _ = _; simp [rgt, icb, idb, h5]
              have q : ((m : Int) == 0) = false := by simp; omega
              go_enter Try.func31, Try.ntmps31
              go_wp2
              go_ret
              rw [HE.out]
              exact ⟨rfl, hB⟩
          · have HE : Hid (rgt true f n m = false) := by show _ = _; simp [rgt, icb, idb, h4]
            go_enter Try.func31, Try.ntmps31
            go_wp2
            go_ret
            rw [HE.out]
            exact ⟨rfl, hB⟩
        · have HE : Hid (rgt true f n m = false) := by show _ = _; simp [rgt, icb, idb, h3]
          go_enter Try.func31, Try.ntmps31
          go_wp2
          go_ret
          rw [HE.out]
          exact ⟨rfl, hB⟩
      · have HE : Hid (rgt true f n m = false) := by
          have : ¬ f ≤ 4294967295 := by omega
          show _ = _; simp [rgt, icb, idb, this]
        go_enter Try.func31, Try.ntmps31
        go_wp2
        go_ret
        rw [HE.out]
        exact ⟨rfl, hB⟩
    · have HE : Hid (rgt true f n m = false) := by show _ = _; simp [rgt, icb, idb, h1]
      go_enter Try.func31, Try.ntmps31
      go_wp2
      go_ret
      rw [HE.out]
      exact ⟨rfl, hB⟩
  | false =>
    by_cases h1 : f = 0
    · by_cases h2 : n = 0
      · by_cases h3 : 1 ≤ m
        · have z3 : (1 : Int) ≤ m := by omega
          by_cases h4 : m ≤ 127
          · have z4 : (m : Int) ≤ 127 := by omega
            have HE : Hid (rgt false f n m = true) := by show _ = _; simp [rgt, idb, h1, h2, h3, h4]
            subst h1 h2
            go_enter Try.func31, Try.ntmps31
            go_wp2
            go_ret
            rw [HE.out]
            exact ⟨rfl, hB⟩
          · have z4 : ¬ (m : Int) ≤ 127 := by omega
            have HE : Hid (rgt false f n m = false) := by show _ = _; simp [rgt, icb, idb, h4]
            subst h1 h2
            go_enter Try.func31, Try.ntmps31
            go_wp2
            go_ret
            rw [HE.out]
            exact ⟨rfl, hB⟩
        · obtain rfl : m = 0 := by omega
          have HE : Hid (rgt false f n 0 = false) := by show _ = _; simp [rgt, icb, idb]
          subst h1 h2
          go_enter Try.func31, Try.ntmps31
          go_wp2
          go_ret
          rw [HE.out]
          exact ⟨rfl, hB⟩
      · have HE : Hid (rgt false f n m = false) := by show _ = _; simp [rgt, icb, idb, h2]
        have q : (n == 0) = false := by simp [h2]
        subst h1
        go_enter Try.func31, Try.ntmps31
        go_wp2
        go_ret
        rw [HE.out]
        exact ⟨rfl, hB⟩
    · have HE : Hid (rgt false f n m = false) := by show _ = _; simp [rgt, icb, idb, h1]
      have q : (f == 0) = false := by simp [h1]
      go_enter Try.func31, Try.ntmps31
      go_wp2
      go_ret
      rw [HE.out]
      exact ⟨rfl, hB⟩

end Go.Proofs.Ythaibdflehnbbaa
