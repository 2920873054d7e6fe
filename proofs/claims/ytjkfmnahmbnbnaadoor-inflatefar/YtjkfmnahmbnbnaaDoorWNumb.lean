/- numbered. -/
import Derived.Test.YtjkfmnahmbnbnaaDoorWHalf
namespace Go.Proofs.YtjkfmnahmbnbnaaDoor
open Go.RowKit

theorem nb_at (L : Nat → Int) (f : Nat → Int) (k x : Nat) (h : L k = x) (hx : 0 < x) : nb L f k = f x + C L k x := by
  rw [nb, if_pos (by omega), h, Int.toNat_natCast, C_pos L k x hx]

theorem nb_zero (L : Nat → Int) (f : Nat → Int) (k : Nat) (h : L k = 0) : nb L f k = 0 := by
  rw [nb, if_neg (by omega)]

/-- One more number. -/
theorem put_row {w : World} {b n k t : Nat} {f : Nat → Int} (h : w.rowIs b t n (fun j => .int .i64 (if j < k then f j else 0))) : (w.setCell ⟨b, k, none⟩ (.int .i64 (f k))).rowIs b t n (fun j => .int .i64 (if j < k + 1 then f j else 0)) :=
  (h.set k _).congr (fun i _ => by
    by_cases e : i = k
    · subst e; rw [if_pos rfl, if_pos (by omega)]
    · rw [if_neg e]
      by_cases h : i < k
      · rw [if_pos h, if_pos (by omega)]
      · rw [if_neg h, if_neg (by omega)])

theorem same_row {w : World} {b n k t : Nat} {f : Nat → Int} (h : w.rowIs b t n (fun j => .int .i64 (if j < k then f j else 0))) (h0 : f k = 0) : w.rowIs b t n (fun j => .int .i64 (if j < k + 1 then f j else 0)) :=
  h.congr (fun i _ => by
    by_cases e : i = k
    · subst e; rw [if_neg (by omega), if_pos (by omega), h0]
    · by_cases h : i < k
      · rw [if_pos h, if_pos (by omega)]
      · rw [if_neg h, if_neg (by omega)])

theorem ri_below {w w' : World} {ao : Option Addr} {n c : Nat} {L : Nat → Int} (h : Ri w ao n c L) (hb : Below w.heap.size w w') : Ri w' ao n c L := h.keep hb

/-- The world behind a row of sixteen and a new slice. -/
theorem two (w : World) (f : Nat → Int) (n : Nat) : ∃ W, W = ((w.alloc (Obj.cells (vals (fun j => Value.int IntKind.i64 (f j)) 16).toArray 93)).alloc (Obj.cells (madeCells #[Value.int IntKind.i64 0] n) 3)) ∧
    W.rowIs w.heap.size 93 16 (fun j => .int .i64 (f j)) ∧ W.rowIs (w.heap.size + 1) 3 n (fun _ => .int .i64 0) ∧ Below w.heap.size w W := by
  refine ⟨_, rfl, (box_row w f).alloc _, ?_, ((Below.refl _ _).alloc (Nat.le_refl _) _).alloc (by simp) _⟩
  have := made_row (w.alloc (Obj.cells (vals (fun j => Value.int IntKind.i64 (f j)) 16).toArray 93)) n
  simpa using this

set_option maxRecDepth 100000 in
set_option maxHeartbeats 1000000 in
theorem numb_any (ao : Option Addr) (n c : Nat) (L f : Nat → Int) (w : World) (h : Ri w ao n c L) (hn : n ≤ 288) (hL : ∀ j, j < n → Lm (L j)) (hf : ∀ j, j < 16 → 0 ≤ f j ∧ f j ≤ 1000000) :
    Calls Tryd.prog 52 #[.slice ao n c, tal f] w fun e w' => ∃ g, e = .returned (.slice (some ⟨g, 0, none⟩) n n) ∧ w'.rowIs g 3 n (fun j => .int .i64 (nb L f j)) ∧ w.heap.size ≤ g ∧ Below w.heap.size w w' := by
  obtain ⟨i0, hi, hz0, hz1, hz2⟩ := info_parts Tryd.info3
  go_enter Tryd.func52, Tryd.ntmps52
  go_wp2_with (at_make; refine wpList_make_row _ rfl _ _ 23 rfl 3 i0 (.int .i64 0) Tryd.underlying23 hi hz0 hz1 rfl .i64 .i64 n rfl rfl (by rw [hz2]; omega) (by omega) ?_)
  obtain ⟨W, hW, hA, hZ, hb⟩ := two w f n
  rw [← hW]
  obtain ⟨B, hB⟩ : ∃ B, B = w.heap.size := ⟨_, rfl⟩
  rw [← hB] at hA hZ ⊢
  have HB : Hid (B = w.heap.size) := hB
  clear hB hW hi hz0 hz1 hz2
  go_loopw [6, 7, 13] (fun _ _ i wr => ∃ k : Nat, k ≤ n ∧ i = .int .i64 k ∧ wr.rowIs B 93 16 (fun j => .int .i64 (f j + C L k j)) ∧ wr.rowIs (B + 1) 3 n (fun j => .int .i64 (if j < k then nb L f j else 0)) ∧ Below w.heap.size w wr) (fun _ _ i _ => n - (intOf i).toNat)
  case atStart => exact ⟨0, by omega, rfl, hA.congr (fun j _ => by rw [C_none, Int.add_zero]), hZ.congr (fun j _ => by rw [if_neg (by omega)]), hb⟩
  case round =>
    obtain ⟨k, hk, rfl, hA1, hZ1, hb1⟩ := hrel
    clear hA hZ hb
    by_cases hlt : k < n
    · obtain ⟨b, off, rfl, hcell⟩ := (h.keep hb1).plain (by omega)
      have hck := hcell k hlt
      obtain ⟨x, hx⟩ := Int.eq_ofNat_of_zero_le (hL k hlt).1
      have hx15 : x ≤ 15 := by have := (hL k hlt).2; omega
      rw [hx] at hck
      by_cases hx0 : x = 0
      · have hA2 : wr.rowIs B 93 16 (fun j => .int .i64 (f j + C L (k + 1) j)) := hA1.congr (fun j _ => by rw [C_same L k (by omega)])
        have hZ2 := same_row hZ1 (nb_zero L f k (by omega))
        subst hx0
        clear hcell h hL hA1 hZ1 hx hf
        go_wp2
        go_roundw
        case rel => exact ⟨k + 1, by omega, by go_num, hA2, hZ2, hb1⟩
        case measure => simp [intOf]; omega
      · have cx := hA1.cell (i := x) (by omega)
        have fx := hA1.frozen x
        have ck := hZ1.cell (i := k) hlt
        rw [if_neg (by omega)] at ck
        have fk := hZ1.frozen k
        have hxp : (0 : Int) < (x : Int) := by omega
        have bf := hf x (by omega)
        have bc := C_nn L k x
        have hnb := nb_at L f k x hx (by omega)
        have hZ2 := put_row hZ1
        rw [hnb] at hZ2
        have hA2 : (wr.setCell ⟨B + 1, k, none⟩ (.int .i64 (f x + C L k x))).rowIs B 93 16 (fun j => .int .i64 (f j + C L k j)) := hA1.setOther (by show B ≠ B + 1; omega) _
        have cx2 := hA2.cell (i := x) (by omega)
        have fx2 := hA2.frozen x
        have hA3 : ((wr.setCell ⟨B + 1, k, none⟩ (.int .i64 (f x + C L k x))).setCell ⟨B, x, none⟩ (.int .i64 (f x + C L k x + 1))).rowIs B 93 16 (fun j => .int .i64 (f j + C L (k + 1) j)) := (hA2.set x _).congr (fun j _ => by
          rw [C_put L k x hx (by omega)]
          by_cases e : j = x
          · subst e; rw [if_pos rfl, if_pos rfl, Int.add_assoc]
          · rw [if_neg e, if_neg e])
        have hZ3 : ((wr.setCell ⟨B + 1, k, none⟩ (.int .i64 (f x + C L k x))).setCell ⟨B, x, none⟩ (.int .i64 (f x + C L k x + 1))).rowIs (B + 1) 3 n (fun j => .int .i64 (if j < k + 1 then nb L f j else 0)) := hZ2.setOther (by show B + 1 ≠ B; omega) _
        have hb3 : Below w.heap.size w ((wr.setCell ⟨B + 1, k, none⟩ (.int .i64 (f x + C L k x))).setCell ⟨B, x, none⟩ (.int .i64 (f x + C L k x + 1))) := (hb1.setCell (by simp [HB.out]) _).setCell (by simp [HB.out]) _
        clear hcell h hL hA1 hZ1 hx hf hb1 hnb hZ2 hA2
        go_wp2
        go_roundw
        case rel => exact ⟨k + 1, by omega, by go_num, hA3, hZ3, hb3⟩
        case measure => simp [intOf]; omega
    · obtain rfl : k = n := by omega
      clear h hL hf hA1
      go_wp2
      go_ret
      exact ⟨B + 1, rfl, hZ1.congr (fun j hj => by rw [if_pos hj]), by have := HB.out; omega, hb1⟩

end Go.Proofs.YtjkfmnahmbnbnaaDoor
