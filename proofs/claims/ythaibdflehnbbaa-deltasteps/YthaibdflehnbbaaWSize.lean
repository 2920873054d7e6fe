/- PutSize. -/
import Derived.Test.YthaibdflehnbbaaWRoom
import Derived.Test.YthaibdflehnbbaaBinBits
namespace Go.Proofs.Ythaibdflehnbbaa
open Go.RowKit

/-- Seven bits a byte, the lowest first (f: the most bytes). -/
def sz : Nat → Int → List Int
  | 0, _ => []
  | f + 1, v => if v ≤ 127 then [v] else (v % 128 + 128) :: sz f (v / 128)

theorem sz_step (f : Nat) (v : Int) (h : 127 < v) (hf : v < 128 ^ f) (hf1 : 1 ≤ f) : 2 ≤ f ∧ v / 128 < 128 ^ (f - 1) ∧ sz f v = (v % 128 + 128) :: sz (f - 1) (v / 128) := by
  obtain ⟨g, rfl⟩ : ∃ g, f = g + 1 := ⟨f - 1, by omega⟩
  have hg : 1 ≤ g := by
    rcases Nat.eq_zero_or_pos g with rfl | h'
    · simp at hf; omega
    · exact h'
  refine ⟨by omega, ?_, ?_⟩
  · simp only [Nat.add_sub_cancel]
    rw [Int.pow_succ] at hf
    omega
  · simp [sz, show ¬ v ≤ 127 by omega]

theorem sz_last (f : Nat) (v : Int) (h : v ≤ 127) (hf1 : 1 ≤ f) : sz f v = [v] := by
  obtain ⟨g, rfl⟩ : ∃ g, f = g + 1 := ⟨f - 1, by omega⟩
  simp [sz, h]

set_option maxHeartbeats 400000 in
theorem putSize_any (ao : Option Addr) (n c : Nat) (v : Int) (xs : List Int) (w : World) (h : Rd w ao n c xs) (hn : n ≤ 140737488351232) (h0 : 0 ≤ v) (hv : v ≤ 9223372036854775807) :
    Calls Try.prog 29 #[.slice ao n c, .int .i64 v] w fun e w' => e = .returned (.slice (some ⟨w.heap.size, 0, none⟩) (n + (sz 9 v).length) (n + 9)) ∧
      w'.ownsRow w.heap.size 5 1 (.slice (some ⟨w.heap.size, 0, none⟩) (n + (sz 9 v).length) (n + 9)) (n + (sz 9 v).length) ((xs ++ sz 9 v).map (Value.int .u8)) ∧ Below w.heap.size w w' := by
  obtain ⟨i0, hi, hz0, hz1, hz2⟩ := info_parts Try.info5
  go_enter Try.func29, Try.ntmps29
  go_wp2_with (first | (go_at_call 39; refine (withRoom_any ao n c 9 xs w h hn (by omega)).mono ?_; rintro e w1 ⟨rfl, hown, hbel⟩))
  go_loopw [1, 5] (fun u o wr => ∃ (x : Int) (f k : Nat), 0 ≤ x ∧ x ≤ 9223372036854775807 ∧ x < 128 ^ f ∧ 1 ≤ f ∧ f + k = 9 ∧ u = .int .i64 x ∧ o = .slice (some ⟨w.heap.size, 0, none⟩) (n + k) (n + 9) ∧
      ∃ ys : List Int, ys.length = k ∧ ys ++ sz f x = sz 9 v ∧ wr.ownsRow w.heap.size 5 1 (.slice (some ⟨w.heap.size, 0, none⟩) (n + k) (n + 9)) (n + k) ((xs ++ ys).map (Value.int .u8)) ∧ Below w.heap.size w wr)
    (fun u _ _ => (intOf u).toNat)
  case atStart => exact ⟨v, 9, 0, h0, hv, by simp; omega, by omega, by omega, rfl, rfl, [], rfl, by simp, by simpa using hown, hbel⟩
  case round =>
    obtain ⟨x, f, k, hx0, hx1, hxf, hf1, hfk, rfl, rfl, ys, hyl, hys, hown', hbel'⟩ := hrel
    have Hys : Hid (ys ++ sz f x = sz 9 v) := hys
    clear hys
    by_cases hj : 127 < x
    · have ⟨hf2, hx2, hst⟩ := sz_step f x hj hxf hf1
      have HX : Hid (x < 128 ^ f) := hxf
      have HX2 : Hid (x / 128 < 128 ^ (f - 1)) := hx2
      have HS : Hid (sz f x = (x % 128 + 128) :: sz (f - 1) (x / 128)) := hst
      clear hxf hx2 hst
      go_wp2_with (first | (at_builtin; refine wpList_append_fits _ rfl _ _ 22 rfl w.heap.size 5 i0 1 Try.underlying22 hi hz1 w.heap.size (n + k) (n + 9) _ rfl (hown'.alloc _) ⟨wr.heap.size, 0, none⟩ 1 1 [_] rfl rfl (cell_one_new _ _ _) ?_ ?_ ?_))
      · intro u hu; simp at hu; subst hu; rfl
      · omega
      · intro w2 hown2 hgrow2
        have hb2 : Below w.heap.size w w2 := (hbel'.alloc hbel'.size _).grown hgrow2 (by have := hbel'.size; simp; omega) (fun q hq => by cases hq; exact Nat.le_refl _)
        have hown3 : w2.ownsRow w.heap.size 5 1 (.slice (some ⟨w.heap.size, 0, none⟩) (n + (k + 1)) (n + 9)) (n + (k + 1)) ((xs ++ (ys ++ [x % 128 + 128])).map (Value.int .u8)) := by
          rw [enc7] at hown2
          simpa [Nat.add_assoc] using hown2
        clear hown2 hgrow2 hown' hbel' hown hbel
        go_wp2
        go_roundw
        case rel => exact ⟨x / 128, f - 1, k + 1, by omega, by omega, HX2.out, by omega, by omega, by go_num, by simp [Nat.add_assoc], ys ++ [x % 128 + 128], by simp [hyl], by rw [← Hys.out, HS.out]; simp, hown3, hb2⟩
        case measure => simp [intOf]; omega
    · go_wp2_with (first | (at_builtin; refine wpList_append_fits _ rfl _ _ 22 rfl w.heap.size 5 i0 1 Try.underlying22 hi hz1 w.heap.size (n + k) (n + 9) _ rfl (hown'.alloc _) ⟨wr.heap.size, 0, none⟩ 1 1 [_] rfl rfl (cell_one_new _ _ _) ?_ ?_ ?_))
      · rfl
      · omega
      · intro w2 hown2 hgrow2
        have hb2 : Below w.heap.size w w2 := (hbel'.alloc hbel'.size _).grown hgrow2 (by have := hbel'.size; simp; omega) (fun q hq => by cases hq; exact Nat.le_refl _)
        have hfin : sz 9 v = ys ++ [x] := by rw [← Hys.out, sz_last f x (by omega) hf1]
        have hown3 : w2.ownsRow w.heap.size 5 1 (.slice (some ⟨w.heap.size, 0, none⟩) (n + (k + 1)) (n + 9)) (n + (k + 1)) ((xs ++ (ys ++ [x])).map (Value.int .u8)) := by
          simpa [Nat.add_assoc] using hown2
        have HF : Hid (sz 9 v = ys ++ [x]) := hfin
        clear hfin hown2 hgrow2 hown' hbel' hown hbel
        go_wp2
        go_ret
        rw [HF.out]
        have hl : (ys ++ [x]).length = k + 1 := by simp [hyl]
        rw [hl]
        exact ⟨rfl, hown3, hb2⟩

end Go.Proofs.Ythaibdflehnbbaa
