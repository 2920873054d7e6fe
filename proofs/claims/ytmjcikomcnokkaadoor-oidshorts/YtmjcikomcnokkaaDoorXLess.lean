/- The document's Less. -/
import Derived.Test.YtmjcikomcnokkaaDoorWRef
namespace Go.Proofs.YtmjcikomcnokkaaDoor
open Go.RowKit

theorem drop_bt (x : List Int) (hx : IsId x) (k : Nat) (hk : k < 20) : x.drop k = bt x k :: x.drop (k + 1) := by
  have h := hx.1
  rw [List.drop_eq_getElem_cons (by omega)]
  congr 1
  unfold bt
  rw [List.getD_eq_getElem?_getD, List.getElem?_eq_getElem (by omega)]
  rfl

theorem ltl_at (x y : List Int) (hx : IsId x) (hy : IsId y) (k : Nat) (hk : k < 20) : ltl (x.drop k) (y.drop k) = if bt x k < bt y k then true else if bt y k < bt x k then false else ltl (x.drop (k + 1)) (y.drop (k + 1)) := by
  rw [drop_bt x hx k hk, drop_bt y hy k hk]
  rfl

set_option maxHeartbeats 4000000 in
set_option maxRecDepth 100000 in
theorem xless_any (x y : List Int) (hx0 : IsId x) (hy0 : IsId y) (w : World) : Calls Tryd.prog 34 #[idv x, idv y] w fun e w' => e = .returned (.bool (ltl x y)) ∧ Below w.heap.size w w' := by
  have hb0 := rowIs_vals w (cl x) 20 22
  obtain ⟨w1, hw1⟩ : ∃ w1, w.alloc (.cells (vals (cl x) 20).toArray 22) = w1 := ⟨_, rfl⟩
  have hza : ∀ o, (w.alloc o).heap.size = w.heap.size + 1 := fun o => by simp
  have hz1 : w1.heap.size = w.heap.size + 1 := by rw [← hw1]; exact hza _
  have hb1 := rowIs_vals w1 (cl y) 20 22
  rw [hz1] at hb1
  have hr0 : Hid ((w1.alloc (.cells (vals (cl y) 20).toArray 22)).rowIs w.heap.size 22 20 (cl x)) := by
    rw [hw1] at hb0
    exact World.rowIs.alloc hb0 _
  have hB0 : Hid (Below w.heap.size w (w1.alloc (.cells (vals (cl y) 20).toArray 22))) := by
    rw [← hw1]
    exact (new_below w _).alloc (new_below w _).size _
  have hr1 : Hid ((w1.alloc (.cells (vals (cl y) 20).toArray 22)).rowIs (w.heap.size + 1) 22 20 (cl y)) := hb1
  rw [← hw1] at hr0 hr1 hB0
  clear hb0 hb1 hz1 hw1 hza
  have HE0 : Hid (ltl (x.drop 0) (y.drop 0) = ltl x y) := rfl
  go_enter Tryd.func34, Tryd.ntmps34
  go_wp2_with fail
  go_loopw [5] (fun i wr => ∃ (k : Nat), k ≤ 20 ∧ i = .int .i64 k ∧ Hid (ltl (x.drop k) (y.drop k) = ltl x y) ∧ Hid (wr.rowIs w.heap.size 22 20 (cl x)) ∧ Hid (wr.rowIs (w.heap.size + 1) 22 20 (cl y)) ∧ Hid (Below w.heap.size w wr)) (fun i _ => 20 - (intOf i).toNat)
  case atStart => exact ⟨0, by omega, rfl, HE0, hr0, hr1, hB0⟩
  case round =>
    obtain ⟨k, hk, rfl, HE, H1, H2, HB⟩ := hrel
    clear hr0 hr1 hB0 HE0
    by_cases hlt : k < 20
    · have hbx := hx0.at k hlt
      have hby := hy0.at k hlt
      have hc1 : wr.cell? ⟨w.heap.size, k, none⟩ = some (.int .u8 (bt x k)) := H1.out.cell (i := k) hlt
      have hc2 : wr.cell? ⟨w.heap.size + 1, k, none⟩ = some (.int .u8 (bt y k)) := H2.out.cell (i := k) hlt
      have HA : Hid _ := ltl_at x y hx0 hy0 k hlt
      have H1d : Hid (wr.drew.rowIs w.heap.size 22 20 (cl x)) := rowIs_fr (P := fun _ => False) H1.out (Fr.refl _ wr).drew (fun h => h)
      have H2d : Hid (wr.drew.rowIs (w.heap.size + 1) 22 20 (cl y)) := rowIs_fr (P := fun _ => False) H2.out (Fr.refl _ wr).drew (fun h => h)
      have HBd : Hid (Below w.heap.size w wr.drew) := Below.trans HB.out ⟨rfl, rfl, rfl, Nat.le_refl _, fun _ _ => rfl⟩
      have HBe : Hid (Below w.heap.size w wr.drew.drew) := Below.trans HB.out ⟨rfl, rfl, rfl, Nat.le_refl _, fun _ _ => rfl⟩
      generalize bt x k = p at *
      generalize bt y k = q at *
      rcases Int.lt_trichotomy p q with hpq | hpq | hpq
      · have HV : Hid (ltl x y = true) := by rw [← HE.out, HA.out, if_pos hpq]; exact rfl
        have hne : ¬ p = q := by omega
        clear HE HA H1 H2 HB
        go_wp2_with fail
        go_region
        all_goals go_wp2_with fail
        all_goals go_region
        all_goals go_wp2_with fail
        all_goals go_ret
        all_goals exact ⟨by rw [HV.out]; rfl, HBe.out⟩
      · have HV : Hid (ltl (x.drop (k + 1)) (y.drop (k + 1)) = ltl x y) := by rw [← HE.out, HA.out, if_neg (by omega), if_neg (by omega)]; exact rfl
        clear HE HA H1 H2 HB
        go_wp2_with fail
        go_region
        all_goals go_wp2_with fail
        all_goals go_roundw
        case rel => exact ⟨k + 1, by omega, by go_num, HV, H1d, H2d, HBd⟩
        case measure => simp [intOf]; omega
      · have HV : Hid (ltl x y = false) := by rw [← HE.out, HA.out, if_neg (by omega), if_pos hpq]; exact rfl
        have hne : ¬ p = q := by omega
        have hnl : ¬ p < q := by omega
        clear HE HA H1 H2 HB
        go_wp2_with fail
        go_region
        all_goals go_wp2_with fail
        all_goals go_region
        all_goals go_wp2_with fail
        all_goals go_ret
        all_goals exact ⟨by rw [HV.out]; show Ending.returned (Value.bool (decide (p < q))) = _; rw [decide_eq_false (Int.not_lt.2 hnl)], HBe.out⟩
    · obtain rfl : k = 20 := by omega
      have HV : Hid (ltl x y = false) := by
        have h1 := hx0.1
        have h2 := hy0.1
        rw [← HE.out, List.drop_of_length_le (by omega), List.drop_of_length_le (by omega)]
        exact rfl
      clear HE
      go_wp2_with fail
      go_ret
      exact ⟨by rw [HV.out]; rfl, HB.out⟩

end Go.Proofs.YtmjcikomcnokkaaDoor
