/- A reader by what is left; U8, readSparse. -/
import Derived.Test.YthaibdflehnbbaaWNums
import Derived.Test.YthaibdflehnbbaaDMem
namespace Go.Proofs.Ythaibdflehnbbaa
open Go.RowKit

/-- The reader in block R has these bytes left (none: it has a fault). -/
def At (w : World) (R : Nat) (ao : Option Addr) (n c : Nat) (xs : List Int) : Option (List Int) → Prop
  | some ys => ∃ p, IsR w R ao n c xs p 0 ∧ xs.drop p = ys
  | none => ∃ p, IsR w R ao n c xs p 3

theorem At.keep {w w' : World} {R : Nat} {ao : Option Addr} {n c : Nat} {xs : List Int} {oy : Option (List Int)} (h : At w R ao n c xs oy) (hb : Below w.heap.size w w') : At w' R ao n c xs oy := by
  cases oy with
  | none => obtain ⟨p, h⟩ := h; exact ⟨p, h.keep hb⟩
  | some ys => obtain ⟨p, h, e⟩ := h; exact ⟨p, h.keep hb, e⟩

theorem At.other {w w' : World} {R X : Nat} {ao : Option Addr} {n c : Nat} {xs : List Int} {oy : Option (List Int)} (h : At w R ao n c xs oy) (hg : w.grownBy w' (some X)) (hne : R ≠ X)
    (hs : ∀ ad, ao = some ad → 0 < n → ad.block ≠ X) : At w' R ao n c xs oy := by
  cases oy with
  | none => obtain ⟨p, h⟩ := h; exact ⟨p, h.other hg hne hs⟩
  | some ys => obtain ⟨p, h, e⟩ := h; exact ⟨p, h.other hg hne hs, e⟩

theorem At.byt {w : World} {R : Nat} {ao : Option Addr} {n c : Nat} {xs ys : List Int} (h : At w R ao n c xs (some ys)) : ∀ x ∈ ys, 0 ≤ x ∧ x < 256 := by
  obtain ⟨p, h, rfl⟩ := h
  exact fun x hx => h.rd.byt x (List.mem_of_mem_drop hx)

theorem At.lt {w : World} {R : Nat} {ao : Option Addr} {n c : Nat} {xs : List Int} {oy : Option (List Int)} (h : At w R ao n c xs oy) : R < w.heap.size := by
  cases oy with
  | none => obtain ⟨p, h⟩ := h; exact h.lt
  | some ys => obtain ⟨p, h, e⟩ := h; exact h.lt

theorem At.len {w : World} {R : Nat} {ao : Option Addr} {n c : Nat} {xs ys : List Int} (h : At w R ao n c xs (some ys)) : ys.length ≤ n := by
  obtain ⟨p, h, rfl⟩ := h
  have := h.rd.len
  simp; omega

def unc : List Int → Option (Int × List Int)
  | [] => none
  | b :: r => some (b, r)

theorem u8_at (R : Nat) (ao : Option Addr) (n c : Nat) (xs : List Int) (oy : Option (List Int)) (w : World) (h : At w R ao n c xs oy) :
    Calls Try.prog 48 #[.pointer (some ⟨R, 0, none⟩)] w fun e w' => ∃ b oc, e = .returned (.int .i64 b) ∧ 0 ≤ b ∧ b < 256 ∧ oy.bind unc = oc.map (fun r => (b, r)) ∧ At w' R ao n c xs oc ∧ w.grownBy w' (some R) := by
  cases oy with
  | none =>
    obtain ⟨p, h⟩ := h
    refine (u8_any R ao n c xs p 3 w h).mono ?_
    rintro e w' ⟨rfl, h1, h2⟩
    have e1 : tk xs p 3 1 = ([], p, 3) := by simp [tk]
    rw [e1] at h1 ⊢
    exact ⟨0, none, rfl, by omega, by omega, rfl, ⟨p, h1⟩, h2⟩
  | some ys =>
    obtain ⟨p, h, rfl⟩ := h
    refine (u8_any R ao n c xs p 0 w h).mono ?_
    rintro e w' ⟨rfl, h1, h2⟩
    have hl := h.rd.len
    have hle := h.le
    by_cases hp : p < n
    · have e1 : tk xs p 0 1 = ([xs.getD p 0], p + 1, 0) := by
        unfold tk
        rw [if_neg (by simp), if_neg (by omega)]
        have e : (xs.drop p).take (1 : Int).toNat = [xs.getD p 0] := by rw [drop_cons p xs (by omega)]; rfl
        rw [e]
        rfl
      rw [e1] at h1 ⊢
      have hb := getD_byt xs h.rd.byt p
      refine ⟨xs.getD p 0, some (xs.drop (p + 1)), by simp [num], hb.1, hb.2, ?_, ⟨p + 1, h1, rfl⟩, h2⟩
      rw [drop_cons p xs (by omega)]
      rfl
    · have e1 : tk xs p 0 1 = ([], p, 3) := by
        unfold tk
        rw [if_neg (by simp), if_pos (by omega)]
      rw [e1] at h1 ⊢
      refine ⟨0, none, rfl, by omega, by omega, ?_, ⟨p, h1⟩, h2⟩
      rw [List.drop_of_length_le (by omega)]
      rfl

theorem left_at (R : Nat) (ao : Option Addr) (n c : Nat) (xs : List Int) (oy : Option (List Int)) (w : World) (h : At w R ao n c xs oy) :
    Calls Try.prog 47 #[.pointer (some ⟨R, 0, none⟩)] w fun e w' => e = .returned (.int .i64 ((oy.getD []).length : Nat)) ∧ Below w.heap.size w w' := by
  cases oy with
  | none =>
    obtain ⟨p, h⟩ := h
    refine (left_bad R ao n c xs p 3 w h (by decide)).mono ?_
    rintro e w' ⟨rfl, rfl⟩
    exact ⟨rfl, Below.refl _ _⟩
  | some ys =>
    obtain ⟨p, h, rfl⟩ := h
    refine (left_ok R ao n c xs p w h).mono ?_
    rintro e w' ⟨rfl, rfl⟩
    have hl := h.rd.len
    have hle := h.le
    refine ⟨?_, drew_below w⟩
    simp only [Option.getD_some, List.length_drop]
    rw [show ((xs.length - p : Nat) : Int) = (n : Int) - p by omega]

theorem err_at (R : Nat) (ao : Option Addr) (n c : Nat) (xs : List Int) (oy : Option (List Int)) (w : World) (h : At w R ao n c xs oy) :
    Calls Try.prog 51 #[.pointer (some ⟨R, 0, none⟩)] w fun e w' => e = .returned (.int .i64 (if oy = none then 3 else 0)) ∧ w' = w := by
  cases oy with
  | none => obtain ⟨p, h⟩ := h; exact err_any R ao n c xs p 3 w h
  | some ys => obtain ⟨p, h, rfl⟩ := h; exact err_any R ao n c xs p 0 w h

theorem bytes_at (R : Nat) (ao : Option Addr) (n c : Nat) (xs : List Int) (ys : List Int) (m : Nat) (w : World) (h : At w R ao n c xs (some ys)) :
    Calls Try.prog 49 #[.pointer (some ⟨R, 0, none⟩), .int .i64 m] w fun e w' => ∃ ao' k c', e = .returned (.slice ao' k c') ∧ Rd w' ao' k c' (if ys.length < m then [] else ys.take m) ∧ (∀ ad, ao' = some ad → w.heap.size ≤ ad.block) ∧
      At w' R ao n c xs (if ys.length < m then none else some (ys.drop m)) ∧ w.grownBy w' (some R) := by
  obtain ⟨p, h, rfl⟩ := h
  refine (bytes_any R ao n c xs p 0 m w h).mono ?_
  rintro e w' ⟨ao', k, c', rfl, h0, h1, h2, h3⟩
  have hl := h.rd.len
  have hle := h.le
  by_cases hm : (xs.drop p).length < m
  · rw [if_pos hm, if_pos hm]
    have e1 : tk xs p 0 m = ([], p, 3) := by
      unfold tk
      simp only [List.length_drop] at hm
      rw [if_neg (by simp), if_pos (by omega)]
    rw [e1] at h0 h2
    exact ⟨ao', k, c', rfl, h0, h1, ⟨p, h2⟩, h3⟩
  · rw [if_neg hm, if_neg hm]
    have e1 : tk xs p 0 m = ((xs.drop p).take m, p + m, 0) := by
      unfold tk
      simp only [List.length_drop] at hm
      rw [if_neg (by simp), if_neg (by omega)]
      simp
    rw [e1] at h0 h2
    exact ⟨ao', k, c', rfl, h0, h1, ⟨p + m, h2, by rw [List.drop_drop]⟩, h3⟩

theorem pow256 (k : Nat) : (2 : Int) ^ (8 * k) = 256 ^ k := by rw [Int.pow_mul]; rfl

/-- A further byte, put above what there is. -/
theorem dec8 (k : Nat) (acc b : Int) (hk : k ≤ 3) (h0 : 0 ≤ acc) (h1 : acc < 256 ^ k) (hb0 : 0 ≤ b) (hb1 : b < 256) :
    bits .or .i64 acc (wrap64 (b * 2 ^ (8 * k))) = acc + 256 ^ k * b ∧ 0 ≤ acc + 256 ^ k * b ∧ acc + 256 ^ k * b < 256 ^ (k + 1) := by
  have hp : (0 : Int) < 256 ^ k := Int.pow_pos (by decide)
  have m0 : 0 ≤ 256 ^ k * b := Int.mul_nonneg (by omega) hb0
  have m1 : 256 ^ k * b ≤ 256 ^ k * 255 := Int.mul_le_mul_of_nonneg_left (by omega) (by omega)
  have hs : (256 : Int) ^ (k + 1) = 256 ^ k * 256 := Int.pow_succ _ _
  refine ⟨?_, by omega, by omega⟩
  have := i64_put (8 * k) 8 acc b h0 (by rw [pow256]; exact h1) hb0 (by omega) (by omega)
  rw [this, pow256]

theorem spl_yes (c : Int) (m k : Nat) (oc : Option (List Int)) (hc : c / 2 ^ k % 2 = 1) (b : Int) (od : Option (List Int)) (hu : oc.bind unc = od.map (fun r => (b, r))) (a : Int) :
    (oc.bind (spl c (m + 1) k)).map (fun q => (a + q.1, q.2)) = (od.bind (spl c m (k + 1))).map (fun q => ((a + 256 ^ k * b) + q.1, q.2)) := by
  cases oc with
  | none =>
    cases od with
    | none => rfl
    | some r => simp at hu
  | some ys =>
    cases ys with
    | nil =>
      cases od with
      | none => simp [spl, hc]
      | some r => simp [unc] at hu
    | cons x r =>
      cases od with
      | none => simp [unc] at hu
      | some s =>
        simp [unc] at hu
        obtain ⟨rfl, rfl⟩ := hu
        simp only [Option.bind_some, spl, hc, if_true, Option.map_map]
        congr 1
        funext q
        simp only [Function.comp, Int.add_assoc]

theorem spl_no (c : Int) (m k : Nat) (oc : Option (List Int)) (hc : ¬ c / 2 ^ k % 2 = 1) : oc.bind (spl c (m + 1) k) = oc.bind (spl c m (k + 1)) := by
  cases oc with
  | none => rfl
  | some ys => simp [spl, hc]

set_option maxRecDepth 100000 in
set_option maxHeartbeats 1000000 in
theorem sparse_at (R : Nat) (ao : Option Addr) (n c : Nat) (xs : List Int) (oy : Option (List Int)) (s : Int) (M : Nat) (w : World) (h : At w R ao n c xs oy) (hM : M ≤ 4) :
    Calls Try.prog 62 #[.pointer (some ⟨R, 0, none⟩), .int .i64 s, .int .i64 M] w fun e w' => ∃ v oc, e = .returned (.int .i64 v) ∧ 0 ≤ v ∧ v < 256 ^ M ∧ oy.bind (spl s M 0) = oc.map (fun r => (v, r)) ∧ At w' R ao n c xs oc ∧ w.grownBy w' (some R) := by
  go_enter Try.func62, Try.ntmps62
  go_wp2
  go_loopw [7, 10] (fun a i wr => ∃ (k : Nat) (v : Int) (oc : Option (List Int)), k ≤ M ∧ i = .int .i64 k ∧ a = .int .i64 v ∧ 0 ≤ v ∧ Hid (v < 256 ^ k) ∧ Hid (oy.bind (spl s M 0) = (oc.bind (spl s (M - k) k)).map (fun q => (v + q.1, q.2))) ∧ Hid (At wr R ao n c xs oc) ∧ Hid (w.grownBy wr (some R))) (fun _ i _ => M - (intOf i).toNat)
  case atStart => exact ⟨0, 0, oy, by omega, rfl, rfl, by omega, (by show (0 : Int) < 256 ^ 0; simp), (by show _ = _; simp), h, World.grownBy.refl _ _⟩
  case round =>
    obtain ⟨k, v, oc, hk, rfl, rfl, hv0, hv1, hsp, hat, hgr⟩ := hrel
    by_cases hlt : k < M
    · have hk3 : k ≤ 3 := by omega
      have HO : Hid (M - k = (M - (k + 1)) + 1) := by show _ = _; omega
      have q1 : bits .and .i64 (s / 2 ^ k) 1 = s / 2 ^ k % 2 := i64_one _
      by_cases hc : s / 2 ^ k % 2 = 1
      · have q2 : bits .and .i64 (s / 2 ^ k) 1 = 1 := by rw [q1, hc]
        have HC : Hid (s / 2 ^ k % 2 = 1) := hc
        clear hc q1
        go_wp2_with fail
        refine (u8_at R ao n c xs oc wr hat.out).mono ?_
        rintro e w1 ⟨b, od, rfl, hb0, hb1, hu, hat1, hg1⟩
        have hd := dec8 k v b hk3 hv0 hv1.out hb0 hb1
        have HS : Hid (oy.bind (spl s M 0) = (od.bind (spl s (M - (k + 1)) (k + 1))).map (fun q => ((v + 256 ^ k * b) + q.1, q.2))) := by
          show _ = _
          rw [hsp.out, HO.out, spl_yes s _ k oc HC.out b od hu v]
        have HA : Hid (At w1 R ao n c xs od) := hat1
        have HG : Hid (w.grownBy w1 (some R)) := grownBy_trans hgr.out hg1
        obtain ⟨d1, d2, d3⟩ := hd
        have D1 : Hid (bits .or .i64 v (wrap64 (b * 2 ^ (8 * k))) = v + 256 ^ k * b) := d1
        have D2 : Hid (0 ≤ v + 256 ^ k * b) := d2
        have D3 : Hid (v + 256 ^ k * b < 256 ^ (k + 1)) := d3
        clear d1 d2 d3 hu hat1 hg1 hsp hat hgr hv1
        go_wp2
        go_roundw
        case rel => exact ⟨k + 1, _, od, by omega, by go_num, by rw [D1.out], D2.out, D3, HS, HA, HG⟩
        case measure => simp [intOf]; omega
      · have q2 : bits .and .i64 (s / 2 ^ k) 1 = 0 := by rw [q1]; omega
        have HC : Hid (¬ s / 2 ^ k % 2 = 1) := hc
        have HS : Hid (oy.bind (spl s M 0) = (oc.bind (spl s (M - (k + 1)) (k + 1))).map (fun q => (v + q.1, q.2))) := by
          show _ = _
          rw [hsp.out, HO.out, spl_no s _ k oc HC.out]
        have HV : Hid (v < 256 ^ (k + 1)) := by
          have := hv1.out
          have hp : (0 : Int) < 256 ^ k := Int.pow_pos (by decide)
          have hs : (256 : Int) ^ (k + 1) = 256 ^ k * 256 := Int.pow_succ _ _
          show _ < _
          omega
        clear hc q1 hsp hv1
        go_wp2
        go_roundw
        case rel => exact ⟨k + 1, v, oc, by omega, by go_num, rfl, hv0, HV, HS, hat, hgr⟩
        case measure => simp [intOf]; omega
    · obtain rfl : k = M := by omega
      have HS : Hid (oy.bind (spl s k 0) = oc.map (fun r => (v, r))) := by
        show _ = _
        rw [hsp.out, Nat.sub_self]
        cases oc <;> simp [spl]
      clear hsp
      go_wp2
      go_ret
      exact ⟨v, oc, rfl, hv0, hv1.out, HS.out, hat.out, hgr.out⟩

end Go.Proofs.Ythaibdflehnbbaa
