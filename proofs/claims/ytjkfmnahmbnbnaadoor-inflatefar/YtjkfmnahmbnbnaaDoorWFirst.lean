/- firstCodes, longest, isHalf. -/
import Derived.Test.YtjkfmnahmbnbnaaDoorWCheck
namespace Go.Proofs.YtjkfmnahmbnbnaaDoor
open Go.RowKit

theorem box_row (w : World) (f : Nat → Int) : (w.alloc (.cells (vals (fun j => .int .i64 (f j)) 16).toArray 93)).rowIs w.heap.size 93 16 (fun j => .int .i64 (f j)) := rowIs_vals w _ 16 93

/-- The world behind three rows of sixteen. -/
theorem three (w : World) (f g h : Nat → Int) : ∃ W, W = (((w.alloc (Obj.cells (vals (fun j => Value.int IntKind.i64 (f j)) 16).toArray 93)).alloc (Obj.cells (vals (fun j => Value.int IntKind.i64 (g j)) 16).toArray 93)).alloc (Obj.cells (vals (fun j => Value.int IntKind.i64 (h j)) 16).toArray 93)) ∧
    W.rowIs w.heap.size 93 16 (fun j => .int .i64 (f j)) ∧ W.rowIs (w.heap.size + 1) 93 16 (fun j => .int .i64 (g j)) ∧ W.rowIs (w.heap.size + 1 + 1) 93 16 (fun j => .int .i64 (h j)) ∧ Below w.heap.size w W := by
  refine ⟨_, rfl, ((box_row w f).alloc _).alloc _, ?_, ?_, (((Below.refl _ _).alloc (Nat.le_refl _) _).alloc (by simp) _).alloc (by simp; omega) _⟩
  · have := (box_row (w.alloc (Obj.cells (vals (fun j => Value.int IntKind.i64 (f j)) 16).toArray 93)) g).alloc (Obj.cells (vals (fun j => Value.int IntKind.i64 (h j)) 16).toArray 93)
    simpa using this
  · have := box_row ((w.alloc (Obj.cells (vals (fun j => Value.int IntKind.i64 (f j)) 16).toArray 93)).alloc (Obj.cells (vals (fun j => Value.int IntKind.i64 (g j)) 16).toArray 93)) h
    simpa using this

set_option maxRecDepth 100000 in
set_option maxHeartbeats 1000000 in
theorem first_any (L : Nat → Int) (n : Nat) (w : World) (hf : Fits L n) :
    Calls Tryd.prog 50 #[tal (C L n)] w fun e w' => e = .returned (tal (F L n)) ∧ Below w.heap.size w w' := by
  have z64 := zero64
  go_enter Tryd.func50, Tryd.ntmps50
  go_wp2
  obtain ⟨W, hW, hC, hR, hZ, hb⟩ := three w (C L n) (fun _ => 0) (fun _ => 0)
  rw [← hW]
  clear hW
  obtain ⟨B, hB⟩ : ∃ B, B = w.heap.size := ⟨_, rfl⟩
  rw [← hB] at hC hR hZ ⊢
  have HB : Hid (B = w.heap.size) := hB
  clear hB z64
  go_loopw [4] (fun i wr => ∃ k : Nat, 1 ≤ k ∧ k ≤ 16 ∧ i = .int .i64 k ∧ wr.rowIs B 93 16 (fun j => .int .i64 (C L n j)) ∧ wr.rowIs (B + 1) 93 16 (fun _ => .int .i64 0) ∧ wr.rowIs (B + 1 + 1) 93 16 (fun j => .int .i64 (if j < k then F L n j else 0)) ∧ Below w.heap.size w wr) (fun i _ => 16 - (intOf i).toNat)
  case atStart => exact ⟨1, by omega, by omega, rfl, hC, hR, hZ.congr (fun j _ => by
      by_cases e : j < 1
      · obtain rfl : j = 0 := by omega
        rfl
      · rw [if_neg e]), hb⟩
  case round =>
    obtain ⟨k, hk1, hk, rfl, hC1, hR1, hF1, hb1⟩ := hrel
    clear hC hR hZ hb
    by_cases hlt : k < 16
    · obtain ⟨m, rfl⟩ : ∃ m, k = m + 1 := ⟨k - 1, by omega⟩
      have c1 := hC1.cell (i := m) (by omega)
      have c2 := hF1.cell (i := m) (by omega)
      rw [if_pos (by omega)] at c2
      have f2 := hF1.frozen (m + 1)
      have c3 := hF1.cell (i := m + 1) (by omega)
      rw [if_neg (by omega)] at c3
      have s1 := FC L n m
      have s2 := G_small L n m hf (by omega)
      have HS : Hid (F L n (m + 1) = (F L n m + C L n m) * 2) := F_succ L n m
      have a1 := F_nn L n m
      have a2 := C_nn L n m
      have hF2 : (wr.setCell ⟨B + 1 + 1, m + 1, none⟩ (.int .i64 ((F L n m + C L n m) * 2))).rowIs (B + 1 + 1) 93 16 (fun j => .int .i64 (if j < m + 1 + 1 then F L n j else 0)) := (hF1.set (m + 1) _).congr (fun j _ => by
        by_cases e : j = m + 1
        · subst e
          rw [if_pos rfl, if_pos (by omega), HS.out]
        · rw [if_neg e]
          by_cases e' : j < m + 1
          · rw [if_pos e', if_pos (by omega)]
          · rw [if_neg e', if_neg (by omega)])
      have hC2 := hC1.setOther (a := ⟨B + 1 + 1, m + 1, none⟩) (by show B ≠ B + 1 + 1; omega) (.int .i64 ((F L n m + C L n m) * 2))
      have hR2 := hR1.setOther (a := ⟨B + 1 + 1, m + 1, none⟩) (by show B + 1 ≠ B + 1 + 1; omega) (.int .i64 ((F L n m + C L n m) * 2))
      have hb2 : Below w.heap.size w (wr.setCell ⟨B + 1 + 1, m + 1, none⟩ (.int .i64 ((F L n m + C L n m) * 2))) := hb1.setCell (by simp [HB.out]; omega) _
      have s3 : F L n m + C L n m ≤ 32768 := by omega
      clear hC1 hR1 hF1 hb1 hf s1 s2 hk1 hk
      go_wp2
      go_region
      all_goals
        go_wp2_with fail
        go_roundw
        case rel => exact ⟨m + 1 + 1, by omega, by omega, by go_num, hC2.drew, hR2.drew, hF2.drew, hb2.drew⟩
        case measure => simp [intOf]; omega
    · obtain rfl : k = 16 := by omega
      go_wp2_with (first
          | (refine wpList_ld0 rfl 93 _ rfl (B + 1 + 1) rfl _ hF1 16 (by omega) Tryd.underlying93 rfl size64 ?_)
          | (refine wpList_st rfl 93 _ _ rfl (B + 1) rfl (fun j => .int .i64 (if j < 16 then F L n j else 0)) rfl hR1 size64 (fun j => rfl) ?_; intro w3 h3 f3))
      refine bodyPost_ret (results_row rfl _ rfl h3 Tryd.underlying93 rfl size64) rfl ⟨?_, ?_⟩
      · rw [tal_congr (F L n) (fun j => if j < 16 then F L n j else 0) (fun i hi => by rw [if_pos hi])]
      · exact hb1.trans (f3.below _ hb1.size (fun i hi e => by have := HB.out; omega))

end Go.Proofs.YtjkfmnahmbnbnaaDoor
