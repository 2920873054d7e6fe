/- common. -/
import Derived.Test.YtmjcikomcnokkaaDoorPfx
namespace Go.Proofs.YtmjcikomcnokkaaDoor
open Go.RowKit

theorem bt_hx : ∀ (x : List Int) (k : Nat), k < x.length → bt (hx x) (2 * k) = sg (bt x k / 16) ∧ bt (hx x) (2 * k + 1) = sg (bt x k % 16)
  | [], k, h => by simp at h
  | b :: x, 0, _ => ⟨rfl, rfl⟩
  | b :: x, k + 1, h => by
    have ih := bt_hx x k (by simpa using h)
    have e1 : 2 * (k + 1) = 2 * k + 2 := by omega
    have e2 : 2 * (k + 1) + 1 = 2 * k + 1 + 2 := by omega
    rw [e2, e1]
    exact ih

theorem eq_front {x y : List Int} (hx0 : IsId x) (hy0 : IsId y) {k : Nat} (hk : k ≤ 20) (h : ∀ j, j < k → bt x j = bt y j) : ∀ j, j < 2 * k → bt (hx x) j = bt (hx y) j := by
  intro j hj
  have h1 := bt_hx x (j / 2) (by rw [hx0.1]; omega)
  have h2 := bt_hx y (j / 2) (by rw [hy0.1]; omega)
  rw [h (j / 2) (by omega)] at h1
  rcases Nat.mod_two_eq_zero_or_one j with e | e
  · have ej : 2 * (j / 2) = j := by omega
    rw [ej] at h1 h2
    rw [h1.1, h2.1]
  · have ej : 2 * (j / 2) + 1 = j := by omega
    rw [ej] at h1 h2
    rw [h1.2, h2.2]

theorem cm_hi {x y : List Int} (hx0 : IsId x) (hy0 : IsId y) {k : Nat} (hk : k < 20) (h : ∀ j, j < k → bt x j = bt y j) (hn : bt x k / 16 ≠ bt y k / 16) : Cm x y (2 * k) := by
  have b1 := hx0.at k hk
  have b2 := hy0.at k hk
  refine ⟨by omega, eq_front hx0 hy0 (by omega) h, fun _ e => hn ?_⟩
  rw [(bt_hx x k (by rw [hx0.1]; exact hk)).1, (bt_hx y k (by rw [hy0.1]; exact hk)).1] at e
  exact sg_inj _ _ (by omega) (by omega) (by omega) (by omega) e

theorem cm_lo {x y : List Int} (hx0 : IsId x) (hy0 : IsId y) {k : Nat} (hk : k < 20) (h : ∀ j, j < k → bt x j = bt y j) (he : bt x k / 16 = bt y k / 16) (hn : bt x k ≠ bt y k) : Cm x y (2 * k + 1) := by
  have b1 := hx0.at k hk
  have b2 := hy0.at k hk
  have hx1 := bt_hx x k (by rw [hx0.1]; exact hk)
  have hy1 := bt_hx y k (by rw [hy0.1]; exact hk)
  refine ⟨by omega, fun j hj => ?_, fun _ e => hn ?_⟩
  · by_cases e : j = 2 * k
    · subst e
      rw [hx1.1, hy1.1, he]
    · exact eq_front hx0 hy0 (by omega) h j (by omega)
  · rw [hx1.2, hy1.2] at e
    have := sg_inj _ _ (by omega) (by omega) (by omega) (by omega) e
    omega

theorem cm_eq {x y : List Int} (hx0 : IsId x) (hy0 : IsId y) (h : ∀ j, j < 20 → bt x j = bt y j) : Cm x y 40 :=
  ⟨Nat.le_refl _, eq_front hx0 hy0 (Nat.le_refl _) h, fun h => by omega⟩

set_option maxHeartbeats 4000000 in
set_option maxRecDepth 100000 in
theorem common_any (x y : List Int) (hx0 : IsId x) (hy0 : IsId y) (w : World) : Calls Tryd.prog 46 #[idv x, idv y] w fun e w' => ∃ c : Nat, e = .returned (.int .i64 c) ∧ Cm x y c ∧ Below w.heap.size w w' := by
  have hb0 := rowIs_vals w (cl x) 20 23
  obtain ⟨w1, hw1⟩ : ∃ w1, w.alloc (.cells (vals (cl x) 20).toArray 23) = w1 := ⟨_, rfl⟩
  have hza : ∀ o, (w.alloc o).heap.size = w.heap.size + 1 := fun o => by simp
  have hz1 : w1.heap.size = w.heap.size + 1 := by rw [← hw1]; exact hza _
  have hb1 := rowIs_vals w1 (cl y) 20 23
  rw [hz1] at hb1
  have hr0 : Hid ((w1.alloc (.cells (vals (cl y) 20).toArray 23)).rowIs w.heap.size 23 20 (cl x)) := by
    rw [hw1] at hb0
    exact World.rowIs.alloc hb0 _
  have hB0 : Hid (Below w.heap.size w (w1.alloc (.cells (vals (cl y) 20).toArray 23))) := by
    rw [← hw1]
    exact (new_below w _).alloc (new_below w _).size _
  have hr1 : Hid ((w1.alloc (.cells (vals (cl y) 20).toArray 23)).rowIs (w.heap.size + 1) 23 20 (cl y)) := hb1
  rw [← hw1] at hr0 hr1 hB0
  clear hb0 hb1 hz1 hw1 hza
  go_enter Tryd.func46, Tryd.ntmps46
  go_wp2_with fail
  go_loopw [6] (fun i wr => ∃ (k : Nat), k ≤ 20 ∧ i = .int .i64 k ∧ Hid (∀ j, j < k → bt x j = bt y j) ∧ Hid (wr.rowIs w.heap.size 23 20 (cl x)) ∧ Hid (wr.rowIs (w.heap.size + 1) 23 20 (cl y)) ∧ Hid (Below w.heap.size w wr)) (fun i _ => 20 - (intOf i).toNat)
  case atStart => exact ⟨0, by omega, rfl, (fun j hj => by omega), hr0, hr1, hB0⟩
  case round =>
    obtain ⟨k, hk, rfl, HE, H1, H2, HB⟩ := hrel
    clear hr0 hr1 hB0
    by_cases hlt : k < 20
    · have hlt2 : (k : Int) < 20 := by omega
      have hbx := hx0.at k hlt
      have hby := hy0.at k hlt
      have hc1 : wr.cell? ⟨w.heap.size, k, none⟩ = some (.int .u8 (bt x k)) := H1.out.cell (i := k) hlt
      have hc2 : wr.cell? ⟨w.heap.size + 1, k, none⟩ = some (.int .u8 (bt y k)) := H2.out.cell (i := k) hlt
      have Hhi : Hid (bt x k / 16 ≠ bt y k / 16 → Cm x y (2 * k)) := fun h => cm_hi hx0 hy0 hlt HE.out h
      have Hlo : Hid (bt x k / 16 = bt y k / 16 → bt x k ≠ bt y k → Cm x y (2 * k + 1)) := fun h1 h2 => cm_lo hx0 hy0 hlt HE.out h1 h2
      have Heq : Hid (bt x k = bt y k → ∀ j, j < k + 1 → bt x j = bt y j) := fun h j hj => by
        by_cases e : j = k
        · subst e; exact h
        · exact HE.out j (by omega)
      have H1e : Hid (wr.drew.drew.rowIs w.heap.size 23 20 (cl x)) := rowIs_fr (P := fun _ => False) H1.out (Fr.refl _ wr).drew.drew (fun h => h)
      have H2e : Hid (wr.drew.drew.rowIs (w.heap.size + 1) 23 20 (cl y)) := rowIs_fr (P := fun _ => False) H2.out (Fr.refl _ wr).drew.drew (fun h => h)
      have HBd : Hid (Below w.heap.size w wr.drew) := Below.trans HB.out ⟨rfl, rfl, rfl, Nat.le_refl _, fun _ _ => rfl⟩
      have HBe : Hid (Below w.heap.size w wr.drew.drew) := Below.trans HB.out ⟨rfl, rfl, rfl, Nat.le_refl _, fun _ _ => rfl⟩
      generalize bt x k = p at *
      generalize bt y k = q at *
      have hwk : IntKind.i64.wrap ((k : Int) + 1) = (k : Int) + 1 := by rw [IntKind.wrap_i64]; omega
      have hw2 : IntKind.i64.wrap (2 * (k : Int)) = 2 * (k : Int) := by rw [IntKind.wrap_i64]; omega
      have hw3 : IntKind.i64.wrap (2 * (k : Int) + 1) = 2 * (k : Int) + 1 := by rw [IntKind.wrap_i64]; omega
      have HK : Hid (k < 20) := hlt
      clear HE H1 H2 HB
      by_cases h16 : p / 16 = q / 16
      · have f1 : (p / 16 != q / 16) = false := by simp [h16]
        by_cases hpq : p = q
        · have f2 : (p != q) = false := by simp [hpq]
          have HV := Heq.out hpq
          have HV' : Hid _ := HV
          clear h16 hpq HV
          go_wp2_with fail
          go_region
          go_wp2_with fail
          go_region
          go_wp2_with fail
          exact ⟨⟨k + 1, by have := HK.out; omega, by simp, HV', H1e, H2e, HBe⟩, by simp [intOf]; have := HK.out; omega⟩
        · have f2 : (p != q) = true := by simp [hpq]
          have HV := Hlo.out h16 hpq
          have HV' : Hid _ := HV
          clear h16 hpq HV
          go_wp2_with fail
          go_region
          go_wp2_with fail
          go_region
          go_wp2_with fail
          go_ret
          exact ⟨2 * k + 1, by simp, HV'.out, HBe.out⟩
      · have f1 : (p / 16 != q / 16) = true := by simp [h16]
        have HV := Hhi.out h16
        have HV' : Hid _ := HV
        clear h16 HV
        go_wp2_with fail
        go_region
        go_wp2_with fail
        go_ret
        exact ⟨2 * k, by simp, HV'.out, HBd.out⟩
    · obtain rfl : k = 20 := by omega
      have hq : ¬ ((20 : Nat) : Int) < 20 := by omega
      have HV' : Hid (Cm x y 40) := cm_eq hx0 hy0 HE.out
      clear H1 H2 HE
      go_wp2_with fail
      go_ret
      exact ⟨40, by simp, HV'.out, HB.out⟩

end Go.Proofs.YtmjcikomcnokkaaDoor
