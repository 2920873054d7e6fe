/- The document's New of any lengths. -/
import Derived.Test.YtjipohcacimkmaaXNew
namespace Go.Proofs.Ytjipohcacimkmaa
open Go.RowKit

/-- The parts that the document's New has made are a code. -/
theorem made_isX {w2 w4 : World} {L : Nat → Int} {n : Nat} {la : Option Addr} {lc cg B : Nat} (he : er L n = 0) (c4 : w4.rowIs cg 3 n (fun j => .int .i64 (cd L n j))) (o4 : w4.ownsRow B 3 1 (.slice la n lc) n (ivs L n)) (_ : w2.heap.size ≤ w4.heap.size) :
    IsX (w4.alloc (Obj.cells #[.slice la n lc, .slice (some ⟨cg, 0, none⟩) n n] 75)) w4.heap.size (w4.heap.size + 1) L n la lc cg := by
  have bA : Below w4.heap.size w4 (w4.alloc (Obj.cells #[.slice la n lc, .slice (some ⟨cg, 0, none⟩) n n] 75)) := (Below.refl _ _).alloc (Nat.le_refl _) _
  obtain ⟨ao, c, e, hr, hb⟩ := own_ri o4
  cases e
  refine ⟨World.rowIs_alloc w4 _ 75 _ (fun i hi => by
    simp at hi
    rcases i with _ | _ | i <;> first | rfl | omega), hr.keep bA, c4.of_block (bA.block _ c4.lt), fun ad had => ?_, by omega, by have := c4.lt; omega, by simp, he⟩
  have := (o4.lt ad.block (hb ad had).1).2
  omega

set_option maxRecDepth 100000 in
set_option maxHeartbeats 2000000 in
theorem xnew_go (ao : Option Addr) (n c : Nat) (L : Nat → Int) (half : Bool) (w : World) (h : Ri w ao n c L) (he : er L n = 0) (hcase : fu L n = true ∨ (fu L n = false ∧ half = true ∧ SM L n ≤ 1)) :
    Calls Try.prog 15 #[.slice ao n c, .bool half] w fun e w' => ∃ Y K la lc cg, e = .returned (.tuple #[.pointer (some ⟨Y, 0, none⟩), .int .i64 0]) ∧ IsX w' Y K L n la lc cg ∧ Below w.heap.size w w' := by
  obtain ⟨h288, hL, hf⟩ := er_zero L n he
  have hc := xcheck_any ao n c L w h
  rw [he] at hc
  have HL : Hid (∀ j, j < n → Lm (L j)) := hL
  have HR : Hid (Ri w ao n c L) := h
  have HE : Hid (er L n = 0) := he
  clear hL hf h he
  rcases hcase with hfu | ⟨hfu, rfl, hsm⟩
  · rw [hfu] at hc
    go_enter Try.func15, Try.ntmps15
    go_wp2_with (go_at_call 11; refine hc.mono ?_; rintro e w1 ⟨rfl, hw⟩; subst w1)
    clear hc
    refine (xcodes_yes ao n c L w HR.out HE.out).mono ?_
    rintro e w2 ⟨cg, rfl, c2, gc, b2⟩
    have r2 := HR.out.keep b2
    have HS2 : Hid (w.heap.size ≤ w2.heap.size) := b2.size
    have HB2 : Hid (Below w.heap.size w w2) := b2
    have r3 := r2.keep ((Below.refl _ _).alloc (Nat.le_refl _) (.cells #[] 3) : Below w2.heap.size w2 (w2.alloc (.cells #[] 3)))
    have o3 := none_ints w2 w2.heap.size (Nat.le_refl _)
    clear b2 r2
    go_wp2_with (refine wpList_append_iv rfl _ _ rfl w2.heap.size 0 (.slice (some ⟨w2.heap.size, 0, none⟩) 0 0) [] rfl o3 ao n c L rfl r3 (by omega) (by simp) ?_; intro v4 w4 o4 g4; rw [Nat.zero_add, List.nil_append] at o4; obtain ⟨la, lc, rfl, _, _⟩ := own_ri o4)
    have B4 : Below w2.heap.size w2 w4 := ((Below.refl _ _).alloc (Nat.le_refl _) _).grown g4 (by simp) (fun q hq => by cases hq; exact Nat.le_refl _)
    have c4 := c2.of_block (B4.block _ c2.lt)
    have hX := made_isX HE.out c4 o4 B4.size
    have bA : Below w4.heap.size w4 (w4.alloc (Obj.cells #[.slice la n lc, .slice (some ⟨cg, 0, none⟩) n n] 75)) := (Below.refl _ _).alloc (Nat.le_refl _) _
    have BF := (HB2.out.trans (B4.mono HS2.out)).trans (bA.mono (Nat.le_trans HS2.out B4.size))
    go_ret2
    exact ⟨_, _, _, _, _, rfl, hX, BF⟩
  · rw [hfu] at hc
    have HSM : Hid (SM L n ≤ 1) := hsm
    clear hsm
    go_enter Try.func15, Try.ntmps15
    go_wp2_with (go_at_call 11; refine hc.mono ?_; rintro e w1 ⟨rfl, hw⟩; subst w1)
    clear hc
    go_loop [8, 9] (fun sv i => ∃ k : Nat, k ≤ n ∧ i = .int .i64 k ∧ sv = .int .i64 (SM L k)) (fun _ i => n - (intOf i).toNat)
    case atStart => exact ⟨0, by omega, rfl, rfl⟩
    case round =>
      obtain ⟨k, hk, rfl, rfl⟩ := hrel
      have hs := SM_nn L k (fun i hi => HL.out i (by omega))
      by_cases hlt : k < n
      · obtain ⟨b, off, rfl, hcell⟩ := HR.out.plain (by omega)
        have hck := hcell k hlt
        obtain ⟨x, hx⟩ := Int.eq_ofNat_of_zero_le (HL.out k hlt).1
        have hx15 : x ≤ 15 := by have := (HL.out k hlt).2; omega
        rw [hx] at hck
        by_cases hx0 : x = 0
        · have HS : Hid (SM L (k + 1) = SM L k) := by
            show SM L (k + 1) = SM L k
            rw [SM_pos]; omega
          subst hx0
          clear hcell hx
          go_wp2
          go_round
          case rel => exact ⟨k + 1, by omega, by go_num, by rw [HS.out]⟩
          case measure => simp [intOf]; omega
        · have HS : Hid (SM L (k + 1) = SM L k + x) := by
            show SM L (k + 1) = SM L k + x
            rw [SM_pos, hx]
          have hxp : (0 : Int) < (x : Int) := by omega
          clear hcell hx
          go_wp2
          go_round
          case rel => exact ⟨k + 1, by omega, by go_num, by rw [HS.out]⟩
          case measure => simp [intOf]; omega
      · obtain rfl : k = n := by omega
        have hd : decide (1 < SM L k) = false := by have := HSM.out; simp; omega
        go_wp2_with fail
        refine (xcodes_yes ao k c L w HR.out HE.out).mono ?_
        rintro e w2 ⟨cg, rfl, c2, gc, b2⟩
        have r2 := HR.out.keep b2
        have HS2 : Hid (w.heap.size ≤ w2.heap.size) := b2.size
        have HB2 : Hid (Below w.heap.size w w2) := b2
        have r3 := r2.keep ((Below.refl _ _).alloc (Nat.le_refl _) (.cells #[] 3) : Below w2.heap.size w2 (w2.alloc (.cells #[] 3)))
        have o3 := none_ints w2 w2.heap.size (Nat.le_refl _)
        clear b2 r2
        go_wp2_with (refine wpList_append_iv rfl _ _ rfl w2.heap.size 0 (.slice (some ⟨w2.heap.size, 0, none⟩) 0 0) [] rfl o3 ao k c L rfl r3 (by omega) (by simp) ?_; intro v4 w4 o4 g4; rw [Nat.zero_add, List.nil_append] at o4; obtain ⟨la, lc, rfl, _, _⟩ := own_ri o4)
        have B4 : Below w2.heap.size w2 w4 := ((Below.refl _ _).alloc (Nat.le_refl _) _).grown g4 (by simp) (fun q hq => by cases hq; exact Nat.le_refl _)
        have c4 := c2.of_block (B4.block _ c2.lt)
        have hX := made_isX HE.out c4 o4 B4.size
        have bA : Below w4.heap.size w4 (w4.alloc (Obj.cells #[.slice la k lc, .slice (some ⟨cg, 0, none⟩) k k] 75)) := (Below.refl _ _).alloc (Nat.le_refl _) _
        have BF := (HB2.out.trans (B4.mono HS2.out)).trans (bA.mono (Nat.le_trans HS2.out B4.size))
        go_ret2
        exact ⟨_, _, _, _, _, rfl, hX, BF⟩

theorem xnew_yes (ao : Option Addr) (n c : Nat) (L : Nat → Int) (half : Bool) (w : World) (h : Ri w ao n c L) (hn : nw L n half = 0) :
    Calls Try.prog 15 #[.slice ao n c, .bool half] w fun e w' => ∃ Y K la lc cg, e = .returned (.tuple #[.pointer (some ⟨Y, 0, none⟩), .int .i64 0]) ∧ IsX w' Y K L n la lc cg ∧ Below w.heap.size w w' := by
  obtain ⟨he, hc⟩ := nw_zero L n half hn
  exact xnew_go ao n c L half w h he hc

theorem xnew_no (ao : Option Addr) (n c : Nat) (L : Nat → Int) (half : Bool) (w : World) (h : Ri w ao n c L) (hn : nw L n half ≠ 0) :
    Calls Try.prog 15 #[.slice ao n c, .bool half] w fun e w' => e = .returned (.tuple #[.pointer none, .int .i64 (nw L n half)]) ∧ w' = w := by
  rcases nw_other L n half hn with ⟨he, hx⟩ | ⟨he, hx, hfu, hh⟩
  · rw [hx]
    exact xnew_err ao n c L half w h he
  · rw [hx]
    exact xnew_part ao n c L half w h he hfu hh

end Go.Proofs.Ytjipohcacimkmaa
