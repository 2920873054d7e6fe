/- The document's Fixed. -/
import Derived.Test.YtjkfmnahmbnbnaaDoorWFixed
namespace Go.Proofs.YtjkfmnahmbnbnaaDoor
open Go.RowKit

theorem fl_step (k : Nat) (f : Nat → Int) (hk : f k = fl k) (j : Nat) : (if j = k then Value.int .i64 (f k) else Value.int .i64 (if j < k then fl j else 0)) = Value.int .i64 (if j < k + 1 then fl j else 0) := by
  by_cases h : j = k
  · subst h
    rw [if_pos rfl, if_pos (by omega), hk]
  · rw [if_neg h]
    by_cases h2 : j < k
    · rw [if_pos h2, if_pos (by omega)]
    · rw [if_neg h2, if_neg (by omega)]

set_option maxRecDepth 100000 in
set_option maxHeartbeats 2000000 in
theorem xfixed_any (w : World) : Calls Tryd.prog 9 #[] w fun e w' => ∃ a d, e = .returned (.tuple #[.slice (some ⟨a, 0, none⟩) 288 288, .slice (some ⟨d, 0, none⟩) 32 32]) ∧ w'.rowIs a 3 288 (fun j => .int .i64 (fl j)) ∧ w'.rowIs d 3 32 (fun _ => .int .i64 5) ∧ Below w.heap.size w w' := by
  obtain ⟨i0, hi, hz0, hz1, hz2⟩ := info_parts Tryd.info3
  have R1 := made_row w 288
  have B1 : Below w.heap.size w (w.alloc (.cells (madeCells #[Value.int .i64 0] 288) 3)) := (Below.refl _ _).alloc (Nat.le_refl _) _
  obtain ⟨B, hB⟩ : ∃ B, B = w.heap.size := ⟨_, rfl⟩
  have HB : Hid (B = w.heap.size) := hB
  rw [← hB] at R1
  go_enter Tryd.func9, Tryd.ntmps9
  go_wp2_with (at_make; refine wpList_make_row _ rfl _ _ 23 rfl 3 i0 (.int .i64 0) Tryd.underlying23 hi hz0 hz1 rfl .i64 .i64 288 rfl rfl (by rw [hz2]; omega) (by omega) ?_; rw [← hB]; clear hB)
  go_loopw [3] (fun i wr => ∃ k : Nat, k ≤ 288 ∧ i = .int .i64 k ∧ wr.rowIs B 3 288 (fun j => .int .i64 (if j < k then fl j else 0)) ∧ Hid (Below w.heap.size w wr)) (fun i _ => 288 - (intOf i).toNat)
  case atStart => exact ⟨0, by omega, rfl, R1.congr (fun j _ => by rw [if_neg (by omega)]), B1⟩
  case round =>
    obtain ⟨k, hk, rfl, hrow, hb⟩ := hrel
    clear R1 B1
    by_cases hlt : k < 288
    · have f1 := hrow.frozen k
      have c1 := hrow.cell hlt
      have H : ∀ x : Int, x = fl k → Hid ((wr.setCell ⟨B, k, none⟩ (.int .i64 x)).rowIs B 3 288 (fun j => .int .i64 (if j < k + 1 then fl j else 0)) ∧ Below w.heap.size w (wr.setCell ⟨B, k, none⟩ (.int .i64 x))) := fun x hx =>
        ⟨(hrow.set k _).congr (fun j _ => fl_step k (fun _ => x) hx j), hb.out.setCell (by have := HB.out; show w.heap.size ≤ B; omega) _⟩
      have hkz : (k : Int) < 288 := by omega
      by_cases h1 : k < 144
      · have hh := H 8 (by rw [fl, if_pos h1])
        have q1 : (k : Int) < 144 := by omega
        clear hrow hb H
        go_wp2
        go_roundw
        case rel => exact ⟨k + 1, by omega, by go_num, hh.out.1, hh.out.2⟩
        case measure => simp [intOf]; omega
      · have q1 : ¬ (k : Int) < 144 := by omega
        by_cases h2 : k < 256
        · have hh := H 9 (by rw [fl, if_neg h1, if_pos h2])
          have q2 : (k : Int) < 256 := by omega
          clear hrow hb H
          go_wp2
          go_roundw
          case rel => exact ⟨k + 1, by omega, by go_num, hh.out.1, hh.out.2⟩
          case measure => simp [intOf]; omega
        · have q2 : ¬ (k : Int) < 256 := by omega
          by_cases h3 : k < 280
          · have hh := H 7 (by rw [fl, if_neg h1, if_neg h2, if_pos h3])
            have q3 : (k : Int) < 280 := by omega
            clear hrow hb H
            go_wp2
            go_roundw
            case rel => exact ⟨k + 1, by omega, by go_num, hh.out.1, hh.out.2⟩
            case measure => simp [intOf]; omega
          · have hh := H 8 (by rw [fl, if_neg h1, if_neg h2, if_neg h3])
            have q3 : ¬ (k : Int) < 280 := by omega
            clear hrow hb H
            go_wp2
            go_roundw
            case rel => exact ⟨k + 1, by omega, by go_num, hh.out.1, hh.out.2⟩
            case measure => simp [intOf]; omega
    · obtain rfl : k = 288 := by omega
      have hrow' := hrow.congr (g := fun j => .int .i64 (fl j)) (fun j hj => by rw [if_pos hj])
      have R2 := made_row wr 32
      have B2 : Below wr.heap.size wr (wr.alloc (.cells (madeCells #[Value.int .i64 0] 32) 3)) := (Below.refl _ _).alloc (Nat.le_refl _) _
      have B3 := hb.out.trans (B2.mono hb.out.size)
      have hrow2 := hrow'.of_block (B2.block _ hrow'.lt)
      have hne : wr.heap.size ≠ B := by have := hrow'.lt; omega
      obtain ⟨D, hD⟩ : ∃ D, D = wr.heap.size := ⟨_, rfl⟩
      have HD : Hid (D = wr.heap.size) := hD
      rw [← hD] at R2 hne
      have hDw : w.heap.size ≤ D := by have := hb.out.size; omega
      have HDw : Hid (w.heap.size ≤ D) := hDw
      have HB3 : Hid (Below w.heap.size w (wr.alloc (.cells (madeCells #[Value.int .i64 0] 32) 3))) := B3
      clear hrow hrow' hlt B2 B3 hb hDw
      go_wp2_with (at_make; refine wpList_make_row _ rfl _ _ 23 rfl 3 i0 (.int .i64 0) Tryd.underlying23 hi hz0 hz1 rfl .i64 .i64 32 rfl rfl (by rw [hz2]; omega) (by omega) ?_; rw [← hD]; clear hD)
      go_loopw [5] (fun i wz => ∃ k : Nat, k ≤ 32 ∧ i = .int .i64 k ∧ wz.rowIs D 3 32 (fun j => .int .i64 (if j < k then 5 else 0)) ∧ wz.rowIs B 3 288 (fun j => .int .i64 (fl j)) ∧ Hid (Below w.heap.size w wz)) (fun i _ => 32 - (intOf i).toNat)
      case atStart => exact ⟨0, by omega, rfl, R2.congr (fun j _ => by rw [if_neg (by omega)]), hrow2, HB3⟩
      case round =>
        obtain ⟨k, hk, rfl, hrow, hrB, hb⟩ := hrel
        clear R2 hrow2 HB3
        by_cases hlt : k < 32
        · have f1 := hrow.frozen k
          have c1 := hrow.cell hlt
          have H1 : Hid ((wr.setCell ⟨D, k, none⟩ (.int .i64 5)).rowIs D 3 32 (fun j => .int .i64 (if j < k + 1 then 5 else 0))) := (hrow.set k _).congr (fun j _ => by
            by_cases h : j = k
            · rw [if_pos h, if_pos (by omega)]
            · rw [if_neg h]
              by_cases h2 : j < k
              · rw [if_pos h2, if_pos (by omega)]
              · rw [if_neg h2, if_neg (by omega)])
          have H2 : Hid ((wr.setCell ⟨D, k, none⟩ (.int .i64 5)).rowIs B 3 288 (fun j => .int .i64 (fl j))) := World.rowIs.setOther (a := ⟨D, k, none⟩) hrB (fun e => hne e.symm) _
          have H3 : Hid (Below w.heap.size w (wr.setCell ⟨D, k, none⟩ (.int .i64 5))) := hb.out.setCell HDw.out _
          have hkz : (k : Int) < 32 := by omega
          clear hrow hb hrB
          go_wp2
          go_roundw
          case rel => exact ⟨k + 1, by omega, by go_num, H1.out, H2.out, H3⟩
          case measure => simp [intOf]; omega
        · obtain rfl : k = 32 := by omega
          clear hlt
          go_wp2
          go_ret2
          exact ⟨B, D, rfl, hrB, hrow.congr (fun j hj => by rw [if_pos hj]), hb.out⟩

end Go.Proofs.YtjkfmnahmbnbnaaDoor
