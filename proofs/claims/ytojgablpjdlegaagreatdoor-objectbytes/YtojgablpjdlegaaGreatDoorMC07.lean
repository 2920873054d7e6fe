/- CmP, CmE, ObY. -/
import Derived.Test.YtojgablpjdlegaaGreatDoorMC06
import Derived.Test.YtojgablpjdlegaaGreatDoorMC04
import Derived.Test.YtojgablpjdlegaaGreatDoorM19
/- An object parsed, whatever the fault. -/
namespace Go.Proofs.YtojgablpjdlegaaGreatDoor
open Go.RowKit

set_option maxRecDepth 100000 in
set_option maxHeartbeats 2000000 in
theorem parse_e1 (ao : Option Addr) (n c : Nat) (xs : List Int) (w : World) (hg : Gs w) (hr : Rd w ao n c xs) (hn : n ≤ 16384) (f : Value → Nat → Value) (lx : List UInt8) (ef : Int) (he0 : ef ≠ 0) (Qs : Value → World → Prop)
    (hcall : ∀ (R : Nat) (W : World), Gs W → 9 < R → W.rowIs R 150 2 (rf (tb xs) 0) → Below w.heap.size w W → w.heap.size < W.heap.size → Calls Tryz.prog 117 #[.pointer (some ⟨R, 0, none⟩)] W fun ex w' => ∃ v, ex = .returned (row (f v) 50) ∧ (∀ j, (f v j).oneCell' = true) ∧ w'.rowIs R 150 2 (rf lx ef) ∧ Fr (fun i => i = R) W w' ∧ Qs v w')
    (hQ : ∀ v w1 w2, Qs v w1 → Fr (fun i => i = w.heap.size) w1 w2 → Qs v w2) :
    Calls Tryz.prog 56 #[.int .i64 1, .slice ao n c] w fun ex w' => ∃ v, ex = .returned (.tuple #[row ps0 50, .int .i64 ef]) ∧ Qs v w' ∧ Below w.heap.size w w' := by
  have hik := isKind_any 1 (w.alloc (Obj.cells (vals ps0 50).toArray 107)) (hg.keep (new_below _ _))
  rw [show isK 1 = true by decide] at hik
  have hz := zero107
  have hb0 := new_below w (Obj.cells (vals ps0 50).toArray 107)
  have hst := (hr.keep hb0).str
  rw [tb_sv] at hst
  have d1 : decide ((16384 : Int) < n) = false := by simp; omega
  have d2 : decide (16384 < n) = false := by simp; omega
  have hw1 : 9 < w.heap.size := by have := hg.big; omega
  obtain ⟨W, hW⟩ : ∃ W, W = (w.alloc (Obj.cells (vals ps0 50).toArray 107)).alloc (Obj.cells #[sv (tb xs), .int .i64 0] 150) := ⟨_, rfl⟩
  have bW : Below w.heap.size w W := by rw [hW]; exact hb0.alloc hb0.size _
  have hWs : W.heap.size = w.heap.size + 1 + 1 := by rw [hW]; simp
  have HP : Hid (W.rowIs w.heap.size 107 50 ps0) := by rw [hW]; exact rowIs_fr (P := fun _ => False) (rowIs_vals w _ 50 107) (Fr.ofBelow (new_below _ _)) (fun h => h)
  have HR : Hid (W.rowIs (w.heap.size + 1) 150 2 (rf (tb xs) 0)) := by
    rw [hW]
    have := World.rowIs_alloc (w.alloc (Obj.cells (vals ps0 50).toArray 107)) #[sv (tb xs), .int .i64 0] 150 (rf (tb xs) 0) (fun i hi => by
      have hi2 : i < 2 := hi
      rcases (show i = 0 ∨ i = 1 by omega) with rfl | rfl <;> rfl)
    show World.rowIs _ _ _ _ _
    simpa using this
  have HB : Hid (Below w.heap.size w W) := bW
  have HG : Hid (Gs W) := hg.keep bW
  have HWS : Hid (W.heap.size = w.heap.size + 1 + 1) := hWs
  have HC : Hid (∀ (R : Nat) (W : World), Gs W → 9 < R → W.rowIs R 150 2 (rf (tb xs) 0) → Below w.heap.size w W → w.heap.size < W.heap.size → Calls Tryz.prog 117 #[.pointer (some ⟨R, 0, none⟩)] W fun ex w' => ∃ v, ex = .returned (row (f v) 50) ∧ (∀ j, (f v j).oneCell' = true) ∧ w'.rowIs R 150 2 (rf lx ef) ∧ Fr (fun i => i = R) W w' ∧ Qs v w') := hcall
  have HQ : Hid (∀ v w1 w2, Qs v w1 → Fr (fun i => i = w.heap.size) w1 w2 → Qs v w2) := hQ
  have HW1 : Hid (9 < w.heap.size) := hw1
  clear hr hg hb0 bW hWs hcall hQ hn hw1
  go_enter Tryz.func56, Tryz.ntmps56
  go_wp2_with fail
  refine hik.mono ?_
  rintro ex w0 ⟨rfl, hw0⟩
  subst w0
  clear hik
  go_wp2_with fail
  rw [← hW]
  clear hW hst
  have hpa := parsers_any W
  refine hpa.mono ?_
  rintro ex w1 ⟨rfl, hw1⟩
  have b1 : Below W.heap.size W w1 := by rw [hw1]; exact new_below _ _
  have q1 : w1.cell? ⟨W.heap.size, 1, none⟩ = some (.func (.func 117) #[] #[]) := by rw [hw1]; simp [go_sem]
  have B1 : Below w.heap.size w w1 := HB.out.trans (b1.mono HB.out.size)
  have hc := HC.out (w.heap.size + 1) w1 (HG.out.keep b1) (by have := HW1.out; omega) (rowIs_fr (P := fun _ => False) HR.out (Fr.ofBelow b1) (fun h => h)) B1 (by have := b1.size; have := HWS.out; omega)
  have HP1 : Hid (w1.rowIs w.heap.size 107 50 ps0) := rowIs_fr (P := fun _ => False) HP.out (Fr.ofBelow b1) (fun h => h)
  have HB1 : Hid (Below w.heap.size w w1) := B1
  clear hpa hw1 b1 B1 HB HR HP HG HC HW1
  go_wp2_with fail
  refine hc.mono ?_
  rintro ex w2 ⟨v, rfl, hone, r2, f2, qs⟩
  have HP2 : Hid (w2.rowIs w.heap.size 107 50 ps0) := rowIs_fr HP1.out f2 (by omega)
  have HF2 : Hid (Fr (fun i => i = w.heap.size + 1) w1 w2) := f2
  have HB2 : Hid (Below w.heap.size w w2) := HB1.out.trans (f2.below _ HB1.out.size (fun i hi e => by omega))
  have z2 := rowIs_vals w2 ps0 50 107
  have HQ2 : Hid (Qs v w2) := qs
  have HR2 : Hid (w2.rowIs (w.heap.size + 1) 150 2 (rf lx ef)) := r2
  have hs2 : w.heap.size + 1 < w2.heap.size := r2.lt
  clear hc q1 r2 f2 qs HP1 HF2
  have hne : (ef == 0) = false := by simp [he0]
  have hne2 : (ef != 0) = true := by simp [he0]
  go_wp2_with (first
    | (refine wpList_st rfl 107 _ _ rfl w2.heap.size rfl (f v) rfl z2 (by kernel_rfl) hone ?_; intro w3 r3 f3; have A3 : Fr (fun i => i = w2.heap.size) w2 w3 := (Fr.ofBelow (new_below w2 _)).trans f3 (fun _ _ h => h); have HR3 : Hid (w3.rowIs (w.heap.size + 1) 150 2 (rf lx ef)) := rowIs_fr HR2.out A3 (by omega); have HP3 : Hid (w3.rowIs w.heap.size 107 50 ps0) := rowIs_fr HP2.out A3 (by omega); have c3 : w3.cell? ⟨w.heap.size + 1, 1, none⟩ = some (.int .i64 ef) := HR3.out.cell (i := 1) (by omega); have HB3 : Hid (Below w.heap.size w w3) := HB2.out.trans (A3.below _ HB2.out.size (fun i hi e => by omega)); have HQ3 : Hid (Qs v w3) := HQ.out v w2 w3 HQ2.out (A3.mono' (fun i hi e => by omega)); clear A3 f3))
  have HE : Hid (ef ≠ 0) := he0
  clear he0 hne hne2 r3
  refine wp_region_noPanic ?_
  refine wp_region_held_drew (S := fun V => V.cell? ⟨w.heap.size + 1, 1, none⟩ = some (.int .i64 ef) ∧ V.cell? ⟨w.heap.size + 1, 0, none⟩ = some (sv lx) ∧ Fr (fun i => i = w.heap.size) w3 V ∧ ∃ f, V.rowIs w.heap.size 107 50 f) (by kernel_rfl) ⟨c3, HR3.out.cell (i := 0) (by omega), (Fr.refl _ _).drew, _, rowIs_fr (P := fun _ => False) HP3.out (Fr.refl _ _).drew (fun h => h)⟩ (fun hHeld => ?_)
  refine wpAnyH_take (i := 1) (oi := ⟨some 34, _, _, _, _, _⟩) (v := ?_) rfl (by kernel_rfl) (by kernel_rfl) (by kernel_rfl) (fun _ _ _ h => h) (Or.inl ⟨by rfl, ?_⟩) hHeld ?_
  rotate_left
  · (intro w' hSw; go_simp; try with_reducible rfl)
  try simp only [Act.put, List.setIfInBounds_toArray, List.set_cons_zero, List.set_cons_succ]
  refine wpAnyH_take (i := 2) (oi := ⟨some 35, _, _, _, _, _⟩) (v := ?_) rfl (by kernel_rfl) (by kernel_rfl) (by kernel_rfl) (fun _ _ _ h => h) (Or.inl ⟨by rfl, ?_⟩) hHeld ?_
  rotate_left
  · (intro w' hSw; go_simp; try with_reducible rfl)
  try simp only [Act.put, List.setIfInBounds_toArray, List.set_cons_zero, List.set_cons_succ]
  refine wpAnyH_take (i := 3) (oi := ⟨some 36, _, _, _, _, _⟩) (v := ?_) rfl (by kernel_rfl) (by kernel_rfl) (by kernel_rfl) (fun _ _ _ h => h) (Or.inl ⟨by rfl, ?_⟩) hHeld ?_
  rotate_left
  · (intro w' hSw; go_simp; try with_reducible rfl)
  try simp only [Act.put, List.setIfInBounds_toArray, List.set_cons_zero, List.set_cons_succ]
  refine wpAnyH_take (i := 4) (oi := ⟨some 37, _, _, _, _, _⟩) (v := .int .i64 ef) rfl (by kernel_rfl) (by kernel_rfl) (by kernel_rfl) (fun _ _ _ h => h) (Or.inl ⟨by rfl, ?_⟩) hHeld ?_
  · (intro w' hSw; have q := hSw.1; go_simp; try with_reducible rfl)
  try simp only [Act.put, List.setIfInBounds_toArray, List.set_cons_zero, List.set_cons_succ]
  refine wpAnyH_take (i := 0) (oi := ⟨some 33, _, _, _, _, _⟩) (v := row ps0 50) rfl (by kernel_rfl) (by kernel_rfl) (by kernel_rfl) (fun _ _ _ h => h) (Or.inl ⟨by rfl, ?_⟩) hHeld ?_
  · (intro w' hSw; go_simp; try with_reducible rfl)
  try simp only [Act.put, List.setIfInBounds_toArray, List.set_cons_zero, List.set_cons_succ]
  obtain ⟨fp, hfp⟩ := hHeld.2.2.2
  have hcs := hHeld
  refine wpAnyH_ready (rs := [5]) (by kernel_rfl) (by simp) ?_
  refine AllReadyH.cons (o := ⟨none, _, _, _, _, _⟩) rfl (fun K hK => ?_) AllReadyH.nil
  refine step_st107 (by rfl) _ _ rfl w.heap.size rfl ps0 rfl fp hfp ps0_one ?_
  intro w5 r5 f5
  have F5 : Fr (fun i => i = w.heap.size) w3 w5 := hcs.2.2.1.trans f5 (fun _ _ h => h)
  have R5 : w5.rowIs (w.heap.size + 1) 150 2 (rf lx ef) := rowIs_fr HR3.out F5 (by omega)
  refine hK.out _ _ ⟨R5.cell (i := 1) (by omega), R5.cell (i := 0) (by omega), F5, _, r5⟩ (fun hHeld => ?_)
  clear hK K
  try simp only [Act.put]
  refine wpAnyH_ready (rs := [6]) (by kernel_rfl) (by simp) ?_
  refine AllReadyH.cons (o := ⟨some 5, _, _, _, _, _⟩) rfl (fun K hK => ?_) AllReadyH.nil
  go_simp
  refine hK.out _ _ hHeld (fun hHeld => ?_)
  clear hK K
  refine wpAnyH_done (by kernel_rfl) ?_ _
  refine NoPanic.normal ?_
  have HQ5 : Hid (Qs v w5) := HQ.out v w3 w5 HQ3.out F5
  have HB5 : Hid (Below w.heap.size w w5) := HB3.out.trans (F5.below _ HB3.out.size (fun i hi e => by omega))
  clear hHeld hcs hfp f5 F5 R5
  try simp only [Act.put]
  go_wp2_with fail
  refine bodyPost_ret (results_two (fn := Tryz.f56) (p := 4) (q := 5) (ty := 107) (by kernel_rfl) _ (by rfl) r5 Tryz.underlying107 rfl (by kernel_rfl)) rfl ⟨v, rfl, HQ5.out, HB5.out⟩

theorem parse_g1 (ao : Option Addr) (n c : Nat) (xs : List Int) (w : World) (hg : Gs w) (hr : Rd w ao n c xs) (hn : n ≤ 16384) (f : Value → Nat → Value) (lx : List UInt8) (ef : Int) (Qs : Value → World → Prop)
    (hcall : ∀ (R : Nat) (W : World), Gs W → 9 < R → W.rowIs R 150 2 (rf (tb xs) 0) → Below w.heap.size w W → w.heap.size < W.heap.size → Calls Tryz.prog 117 #[.pointer (some ⟨R, 0, none⟩)] W fun ex w' => ∃ v, ex = .returned (row (f v) 50) ∧ (∀ j, (f v j).oneCell' = true) ∧ w'.rowIs R 150 2 (rf lx ef) ∧ Fr (fun i => i = R) W w' ∧ Qs v w')
    (hQ : ∀ v w1 w2, Qs v w1 → Fr (fun i => i = w.heap.size) w1 w2 → Qs v w2) :
    Calls Tryz.prog 56 #[.int .i64 1, .slice ao n c] w fun ex w' => ∃ v, ex = .returned (.tuple #[row (if ef = 0 then f v else ps0) 50, .int .i64 ef]) ∧ Qs v w' ∧ Below w.heap.size w w' := by
  by_cases he0 : ef = 0
  · subst he0
    refine (parse_1 ao n c xs w hg hr hn f lx Qs hcall hQ).mono ?_
    rintro ex w' ⟨v, rfl, h⟩
    exact ⟨v, by rw [if_pos rfl], h⟩
  · refine (parse_e1 ao n c xs w hg hr hn f lx ef he0 Qs hcall hQ).mono ?_
    rintro ex w' ⟨v, rfl, h⟩
    exact ⟨v, by rw [if_neg he0], h⟩

set_option maxRecDepth 100000 in
set_option maxHeartbeats 2000000 in
theorem parse_z2 (ao : Option Addr) (n c : Nat) (xs : List Int) (w : World) (hg : Gs w) (hr : Rd w ao n c xs) (hn : n ≤ 16384) (f : Value → Nat → Value) (lx : List UInt8) (Qs : Value → World → Prop)
    (hcall : ∀ (R : Nat) (W : World), Gs W → 9 < R → W.rowIs R 150 2 (rf (tb xs) 0) → Below w.heap.size w W → w.heap.size < W.heap.size → Calls Tryz.prog 118 #[.pointer (some ⟨R, 0, none⟩)] W fun ex w' => ∃ v, ex = .returned (row (f v) 50) ∧ (∀ j, (f v j).oneCell' = true) ∧ w'.rowIs R 150 2 (rf lx 0) ∧ Fr (fun i => i = R) W w' ∧ Qs v w')
    (hQ : ∀ v w1 w2, Qs v w1 → Fr (fun i => i = w.heap.size) w1 w2 → Qs v w2) :
    Calls Tryz.prog 56 #[.int .i64 2, .slice ao n c] w fun ex w' => ∃ v, ex = .returned (.tuple #[row (f v) 50, .int .i64 0]) ∧ Qs v w' ∧ Below w.heap.size w w' := by
  have hik := isKind_any 2 (w.alloc (Obj.cells (vals ps0 50).toArray 107)) (hg.keep (new_below _ _))
  rw [show isK 2 = true by decide] at hik
  have hz := zero107
  have hb0 := new_below w (Obj.cells (vals ps0 50).toArray 107)
  have hst := (hr.keep hb0).str
  rw [tb_sv] at hst
  have d1 : decide ((16384 : Int) < n) = false := by simp; omega
  have d2 : decide (16384 < n) = false := by simp; omega
  have hw1 : 9 < w.heap.size := by have := hg.big; omega
  obtain ⟨W, hW⟩ : ∃ W, W = (w.alloc (Obj.cells (vals ps0 50).toArray 107)).alloc (Obj.cells #[sv (tb xs), .int .i64 0] 150) := ⟨_, rfl⟩
  have bW : Below w.heap.size w W := by rw [hW]; exact hb0.alloc hb0.size _
  have hWs : W.heap.size = w.heap.size + 1 + 1 := by rw [hW]; simp
  have HP : Hid (W.rowIs w.heap.size 107 50 ps0) := by rw [hW]; exact rowIs_fr (P := fun _ => False) (rowIs_vals w _ 50 107) (Fr.ofBelow (new_below _ _)) (fun h => h)
  have HR : Hid (W.rowIs (w.heap.size + 1) 150 2 (rf (tb xs) 0)) := by
    rw [hW]
    have := World.rowIs_alloc (w.alloc (Obj.cells (vals ps0 50).toArray 107)) #[sv (tb xs), .int .i64 0] 150 (rf (tb xs) 0) (fun i hi => by
      have hi2 : i < 2 := hi
      rcases (show i = 0 ∨ i = 1 by omega) with rfl | rfl <;> rfl)
    show World.rowIs _ _ _ _ _
    simpa using this
  have HB : Hid (Below w.heap.size w W) := bW
  have HG : Hid (Gs W) := hg.keep bW
  have HWS : Hid (W.heap.size = w.heap.size + 1 + 1) := hWs
  have HC : Hid (∀ (R : Nat) (W : World), Gs W → 9 < R → W.rowIs R 150 2 (rf (tb xs) 0) → Below w.heap.size w W → w.heap.size < W.heap.size → Calls Tryz.prog 118 #[.pointer (some ⟨R, 0, none⟩)] W fun ex w' => ∃ v, ex = .returned (row (f v) 50) ∧ (∀ j, (f v j).oneCell' = true) ∧ w'.rowIs R 150 2 (rf lx 0) ∧ Fr (fun i => i = R) W w' ∧ Qs v w') := hcall
  have HQ : Hid (∀ v w1 w2, Qs v w1 → Fr (fun i => i = w.heap.size) w1 w2 → Qs v w2) := hQ
  have HW1 : Hid (9 < w.heap.size) := hw1
  clear hr hg hb0 bW hWs hcall hQ hn hw1
  go_enter Tryz.func56, Tryz.ntmps56
  go_wp2_with fail
  refine hik.mono ?_
  rintro ex w0 ⟨rfl, hw0⟩
  subst w0
  clear hik
  go_wp2_with fail
  rw [← hW]
  clear hW hst
  have hpa := parsers_any W
  refine hpa.mono ?_
  rintro ex w1 ⟨rfl, hw1⟩
  have b1 : Below W.heap.size W w1 := by rw [hw1]; exact new_below _ _
  have q1 : w1.cell? ⟨W.heap.size, 2, none⟩ = some (.func (.func 118) #[] #[]) := by rw [hw1]; simp [go_sem]
  have B1 : Below w.heap.size w w1 := HB.out.trans (b1.mono HB.out.size)
  have hc := HC.out (w.heap.size + 1) w1 (HG.out.keep b1) (by have := HW1.out; omega) (rowIs_fr (P := fun _ => False) HR.out (Fr.ofBelow b1) (fun h => h)) B1 (by have := b1.size; have := HWS.out; omega)
  have HP1 : Hid (w1.rowIs w.heap.size 107 50 ps0) := rowIs_fr (P := fun _ => False) HP.out (Fr.ofBelow b1) (fun h => h)
  have HB1 : Hid (Below w.heap.size w w1) := B1
  clear hpa hw1 b1 B1 HB HR HP HG HC HW1
  go_wp2_with fail
  refine hc.mono ?_
  rintro ex w2 ⟨v, rfl, hone, r2, f2, qs⟩
  have HP2 : Hid (w2.rowIs w.heap.size 107 50 ps0) := rowIs_fr HP1.out f2 (by omega)
  have HF2 : Hid (Fr (fun i => i = w.heap.size + 1) w1 w2) := f2
  have HB2 : Hid (Below w.heap.size w w2) := HB1.out.trans (f2.below _ HB1.out.size (fun i hi e => by omega))
  have z2 := rowIs_vals w2 ps0 50 107
  have HQ2 : Hid (Qs v w2) := qs
  have HR2 : Hid (w2.rowIs (w.heap.size + 1) 150 2 (rf lx 0)) := r2
  have hs2 : w.heap.size + 1 < w2.heap.size := r2.lt
  clear hc q1 r2 f2 qs HP1 HF2
  go_wp2_with (first
    | (refine wpList_st rfl 107 _ _ rfl w.heap.size rfl (f v) rfl p3 (by kernel_rfl) hone ?_; intro w4 r4 f4)
    | (refine wpList_ld0 rfl 107 _ rfl w2.heap.size rfl _ r3 50 (Nat.le_refl _) Tryz.underlying107 rfl (by kernel_rfl) ?_)
    | (refine wpList_st rfl 107 _ _ rfl w2.heap.size rfl (f v) rfl z2 (by kernel_rfl) hone ?_; intro w3 r3 f3; have A3 : Fr (fun i => i = w2.heap.size) w2 w3 := (Fr.ofBelow (new_below w2 _)).trans f3 (fun _ _ h => h); have HR3 : Hid (w3.rowIs (w.heap.size + 1) 150 2 (rf lx 0)) := rowIs_fr HR2.out A3 (by omega); have p3 : w3.rowIs w.heap.size 107 50 ps0 := rowIs_fr HP2.out A3 (by omega); have c3 : w3.cell? ⟨w.heap.size + 1, 1, none⟩ = some (.int .i64 0) := HR3.out.cell (i := 1) (by omega); have HB3 : Hid (Below w.heap.size w w3) := HB2.out.trans (A3.below _ HB2.out.size (fun i hi e => by omega)); have HQ3 : Hid (Qs v w3) := HQ.out v w2 w3 HQ2.out (A3.mono' (fun i hi e => by omega)); clear A3 f3))
  refine bodyPost_ret (results_two (fn := Tryz.f56) (p := 4) (q := 5) (ty := 107) (by kernel_rfl) _ (by rfl) r4 Tryz.underlying107 rfl (by kernel_rfl)) rfl ⟨v, rfl, HQ.out v w3 w4 HQ3.out f4, HB3.out.trans (f4.below _ HB3.out.size (fun i hi e => by omega))⟩

set_option maxRecDepth 100000 in
set_option maxHeartbeats 2000000 in
theorem parse_e2 (ao : Option Addr) (n c : Nat) (xs : List Int) (w : World) (hg : Gs w) (hr : Rd w ao n c xs) (hn : n ≤ 16384) (f : Value → Nat → Value) (lx : List UInt8) (ef : Int) (he0 : ef ≠ 0) (Qs : Value → World → Prop)
    (hcall : ∀ (R : Nat) (W : World), Gs W → 9 < R → W.rowIs R 150 2 (rf (tb xs) 0) → Below w.heap.size w W → w.heap.size < W.heap.size → Calls Tryz.prog 118 #[.pointer (some ⟨R, 0, none⟩)] W fun ex w' => ∃ v, ex = .returned (row (f v) 50) ∧ (∀ j, (f v j).oneCell' = true) ∧ w'.rowIs R 150 2 (rf lx ef) ∧ Fr (fun i => i = R) W w' ∧ Qs v w')
    (hQ : ∀ v w1 w2, Qs v w1 → Fr (fun i => i = w.heap.size) w1 w2 → Qs v w2) :
    Calls Tryz.prog 56 #[.int .i64 2, .slice ao n c] w fun ex w' => ∃ v, ex = .returned (.tuple #[row ps0 50, .int .i64 ef]) ∧ Qs v w' ∧ Below w.heap.size w w' := by
  have hik := isKind_any 2 (w.alloc (Obj.cells (vals ps0 50).toArray 107)) (hg.keep (new_below _ _))
  rw [show isK 2 = true by decide] at hik
  have hz := zero107
  have hb0 := new_below w (Obj.cells (vals ps0 50).toArray 107)
  have hst := (hr.keep hb0).str
  rw [tb_sv] at hst
  have d1 : decide ((16384 : Int) < n) = false := by simp; omega
  have d2 : decide (16384 < n) = false := by simp; omega
  have hw1 : 9 < w.heap.size := by have := hg.big; omega
  obtain ⟨W, hW⟩ : ∃ W, W = (w.alloc (Obj.cells (vals ps0 50).toArray 107)).alloc (Obj.cells #[sv (tb xs), .int .i64 0] 150) := ⟨_, rfl⟩
  have bW : Below w.heap.size w W := by rw [hW]; exact hb0.alloc hb0.size _
  have hWs : W.heap.size = w.heap.size + 1 + 1 := by rw [hW]; simp
  have HP : Hid (W.rowIs w.heap.size 107 50 ps0) := by rw [hW]; exact rowIs_fr (P := fun _ => False) (rowIs_vals w _ 50 107) (Fr.ofBelow (new_below _ _)) (fun h => h)
  have HR : Hid (W.rowIs (w.heap.size + 1) 150 2 (rf (tb xs) 0)) := by
    rw [hW]
    have := World.rowIs_alloc (w.alloc (Obj.cells (vals ps0 50).toArray 107)) #[sv (tb xs), .int .i64 0] 150 (rf (tb xs) 0) (fun i hi => by
      have hi2 : i < 2 := hi
      rcases (show i = 0 ∨ i = 1 by omega) with rfl | rfl <;> rfl)
    show World.rowIs _ _ _ _ _
    simpa using this
  have HB : Hid (Below w.heap.size w W) := bW
  have HG : Hid (Gs W) := hg.keep bW
  have HWS : Hid (W.heap.size = w.heap.size + 1 + 1) := hWs
  have HC : Hid (∀ (R : Nat) (W : World), Gs W → 9 < R → W.rowIs R 150 2 (rf (tb xs) 0) → Below w.heap.size w W → w.heap.size < W.heap.size → Calls Tryz.prog 118 #[.pointer (some ⟨R, 0, none⟩)] W fun ex w' => ∃ v, ex = .returned (row (f v) 50) ∧ (∀ j, (f v j).oneCell' = true) ∧ w'.rowIs R 150 2 (rf lx ef) ∧ Fr (fun i => i = R) W w' ∧ Qs v w') := hcall
  have HQ : Hid (∀ v w1 w2, Qs v w1 → Fr (fun i => i = w.heap.size) w1 w2 → Qs v w2) := hQ
  have HW1 : Hid (9 < w.heap.size) := hw1
  clear hr hg hb0 bW hWs hcall hQ hn hw1
  go_enter Tryz.func56, Tryz.ntmps56
  go_wp2_with fail
  refine hik.mono ?_
  rintro ex w0 ⟨rfl, hw0⟩
  subst w0
  clear hik
  go_wp2_with fail
  rw [← hW]
  clear hW hst
  have hpa := parsers_any W
  refine hpa.mono ?_
  rintro ex w1 ⟨rfl, hw1⟩
  have b1 : Below W.heap.size W w1 := by rw [hw1]; exact new_below _ _
  have q1 : w1.cell? ⟨W.heap.size, 2, none⟩ = some (.func (.func 118) #[] #[]) := by rw [hw1]; simp [go_sem]
  have B1 : Below w.heap.size w w1 := HB.out.trans (b1.mono HB.out.size)
  have hc := HC.out (w.heap.size + 1) w1 (HG.out.keep b1) (by have := HW1.out; omega) (rowIs_fr (P := fun _ => False) HR.out (Fr.ofBelow b1) (fun h => h)) B1 (by have := b1.size; have := HWS.out; omega)
  have HP1 : Hid (w1.rowIs w.heap.size 107 50 ps0) := rowIs_fr (P := fun _ => False) HP.out (Fr.ofBelow b1) (fun h => h)
  have HB1 : Hid (Below w.heap.size w w1) := B1
  clear hpa hw1 b1 B1 HB HR HP HG HC HW1
  go_wp2_with fail
  refine hc.mono ?_
  rintro ex w2 ⟨v, rfl, hone, r2, f2, qs⟩
  have HP2 : Hid (w2.rowIs w.heap.size 107 50 ps0) := rowIs_fr HP1.out f2 (by omega)
  have HF2 : Hid (Fr (fun i => i = w.heap.size + 1) w1 w2) := f2
  have HB2 : Hid (Below w.heap.size w w2) := HB1.out.trans (f2.below _ HB1.out.size (fun i hi e => by omega))
  have z2 := rowIs_vals w2 ps0 50 107
  have HQ2 : Hid (Qs v w2) := qs
  have HR2 : Hid (w2.rowIs (w.heap.size + 1) 150 2 (rf lx ef)) := r2
  have hs2 : w.heap.size + 1 < w2.heap.size := r2.lt
  clear hc q1 r2 f2 qs HP1 HF2
  have hne : (ef == 0) = false := by simp [he0]
  have hne2 : (ef != 0) = true := by simp [he0]
  go_wp2_with (first
    | (refine wpList_st rfl 107 _ _ rfl w2.heap.size rfl (f v) rfl z2 (by kernel_rfl) hone ?_; intro w3 r3 f3; have A3 : Fr (fun i => i = w2.heap.size) w2 w3 := (Fr.ofBelow (new_below w2 _)).trans f3 (fun _ _ h => h); have HR3 : Hid (w3.rowIs (w.heap.size + 1) 150 2 (rf lx ef)) := rowIs_fr HR2.out A3 (by omega); have HP3 : Hid (w3.rowIs w.heap.size 107 50 ps0) := rowIs_fr HP2.out A3 (by omega); have c3 : w3.cell? ⟨w.heap.size + 1, 1, none⟩ = some (.int .i64 ef) := HR3.out.cell (i := 1) (by omega); have HB3 : Hid (Below w.heap.size w w3) := HB2.out.trans (A3.below _ HB2.out.size (fun i hi e => by omega)); have HQ3 : Hid (Qs v w3) := HQ.out v w2 w3 HQ2.out (A3.mono' (fun i hi e => by omega)); clear A3 f3))
  have HE : Hid (ef ≠ 0) := he0
  clear he0 hne hne2 r3
  refine wp_region_noPanic ?_
  refine wp_region_held_drew (S := fun V => V.cell? ⟨w.heap.size + 1, 1, none⟩ = some (.int .i64 ef) ∧ V.cell? ⟨w.heap.size + 1, 0, none⟩ = some (sv lx) ∧ Fr (fun i => i = w.heap.size) w3 V ∧ ∃ f, V.rowIs w.heap.size 107 50 f) (by kernel_rfl) ⟨c3, HR3.out.cell (i := 0) (by omega), (Fr.refl _ _).drew, _, rowIs_fr (P := fun _ => False) HP3.out (Fr.refl _ _).drew (fun h => h)⟩ (fun hHeld => ?_)
  refine wpAnyH_take (i := 1) (oi := ⟨some 34, _, _, _, _, _⟩) (v := ?_) rfl (by kernel_rfl) (by kernel_rfl) (by kernel_rfl) (fun _ _ _ h => h) (Or.inl ⟨by rfl, ?_⟩) hHeld ?_
  rotate_left
  · (intro w' hSw; go_simp; try with_reducible rfl)
  try simp only [Act.put, List.setIfInBounds_toArray, List.set_cons_zero, List.set_cons_succ]
  refine wpAnyH_take (i := 2) (oi := ⟨some 35, _, _, _, _, _⟩) (v := ?_) rfl (by kernel_rfl) (by kernel_rfl) (by kernel_rfl) (fun _ _ _ h => h) (Or.inl ⟨by rfl, ?_⟩) hHeld ?_
  rotate_left
  · (intro w' hSw; go_simp; try with_reducible rfl)
  try simp only [Act.put, List.setIfInBounds_toArray, List.set_cons_zero, List.set_cons_succ]
  refine wpAnyH_take (i := 3) (oi := ⟨some 36, _, _, _, _, _⟩) (v := ?_) rfl (by kernel_rfl) (by kernel_rfl) (by kernel_rfl) (fun _ _ _ h => h) (Or.inl ⟨by rfl, ?_⟩) hHeld ?_
  rotate_left
  · (intro w' hSw; go_simp; try with_reducible rfl)
  try simp only [Act.put, List.setIfInBounds_toArray, List.set_cons_zero, List.set_cons_succ]
  refine wpAnyH_take (i := 4) (oi := ⟨some 37, _, _, _, _, _⟩) (v := .int .i64 ef) rfl (by kernel_rfl) (by kernel_rfl) (by kernel_rfl) (fun _ _ _ h => h) (Or.inl ⟨by rfl, ?_⟩) hHeld ?_
  · (intro w' hSw; have q := hSw.1; go_simp; try with_reducible rfl)
  try simp only [Act.put, List.setIfInBounds_toArray, List.set_cons_zero, List.set_cons_succ]
  refine wpAnyH_take (i := 0) (oi := ⟨some 33, _, _, _, _, _⟩) (v := row ps0 50) rfl (by kernel_rfl) (by kernel_rfl) (by kernel_rfl) (fun _ _ _ h => h) (Or.inl ⟨by rfl, ?_⟩) hHeld ?_
  · (intro w' hSw; go_simp; try with_reducible rfl)
  try simp only [Act.put, List.setIfInBounds_toArray, List.set_cons_zero, List.set_cons_succ]
  obtain ⟨fp, hfp⟩ := hHeld.2.2.2
  have hcs := hHeld
  refine wpAnyH_ready (rs := [5]) (by kernel_rfl) (by simp) ?_
  refine AllReadyH.cons (o := ⟨none, _, _, _, _, _⟩) rfl (fun K hK => ?_) AllReadyH.nil
  refine step_st107 (by rfl) _ _ rfl w.heap.size rfl ps0 rfl fp hfp ps0_one ?_
  intro w5 r5 f5
  have F5 : Fr (fun i => i = w.heap.size) w3 w5 := hcs.2.2.1.trans f5 (fun _ _ h => h)
  have R5 : w5.rowIs (w.heap.size + 1) 150 2 (rf lx ef) := rowIs_fr HR3.out F5 (by omega)
  refine hK.out _ _ ⟨R5.cell (i := 1) (by omega), R5.cell (i := 0) (by omega), F5, _, r5⟩ (fun hHeld => ?_)
  clear hK K
  try simp only [Act.put]
  refine wpAnyH_ready (rs := [6]) (by kernel_rfl) (by simp) ?_
  refine AllReadyH.cons (o := ⟨some 5, _, _, _, _, _⟩) rfl (fun K hK => ?_) AllReadyH.nil
  go_simp
  refine hK.out _ _ hHeld (fun hHeld => ?_)
  clear hK K
  refine wpAnyH_done (by kernel_rfl) ?_ _
  refine NoPanic.normal ?_
  have HQ5 : Hid (Qs v w5) := HQ.out v w3 w5 HQ3.out F5
  have HB5 : Hid (Below w.heap.size w w5) := HB3.out.trans (F5.below _ HB3.out.size (fun i hi e => by omega))
  clear hHeld hcs hfp f5 F5 R5
  try simp only [Act.put]
  go_wp2_with fail
  refine bodyPost_ret (results_two (fn := Tryz.f56) (p := 4) (q := 5) (ty := 107) (by kernel_rfl) _ (by rfl) r5 Tryz.underlying107 rfl (by kernel_rfl)) rfl ⟨v, rfl, HQ5.out, HB5.out⟩

theorem parse_g2 (ao : Option Addr) (n c : Nat) (xs : List Int) (w : World) (hg : Gs w) (hr : Rd w ao n c xs) (hn : n ≤ 16384) (f : Value → Nat → Value) (lx : List UInt8) (ef : Int) (Qs : Value → World → Prop)
    (hcall : ∀ (R : Nat) (W : World), Gs W → 9 < R → W.rowIs R 150 2 (rf (tb xs) 0) → Below w.heap.size w W → w.heap.size < W.heap.size → Calls Tryz.prog 118 #[.pointer (some ⟨R, 0, none⟩)] W fun ex w' => ∃ v, ex = .returned (row (f v) 50) ∧ (∀ j, (f v j).oneCell' = true) ∧ w'.rowIs R 150 2 (rf lx ef) ∧ Fr (fun i => i = R) W w' ∧ Qs v w')
    (hQ : ∀ v w1 w2, Qs v w1 → Fr (fun i => i = w.heap.size) w1 w2 → Qs v w2) :
    Calls Tryz.prog 56 #[.int .i64 2, .slice ao n c] w fun ex w' => ∃ v, ex = .returned (.tuple #[row (if ef = 0 then f v else ps0) 50, .int .i64 ef]) ∧ Qs v w' ∧ Below w.heap.size w w' := by
  by_cases he0 : ef = 0
  · subst he0
    refine (parse_z2 ao n c xs w hg hr hn f lx Qs hcall hQ).mono ?_
    rintro ex w' ⟨v, rfl, h⟩
    exact ⟨v, by rw [if_pos rfl], h⟩
  · refine (parse_e2 ao n c xs w hg hr hn f lx ef he0 Qs hcall hQ).mono ?_
    rintro ex w' ⟨v, rfl, h⟩
    exact ⟨v, by rw [if_neg he0], h⟩

set_option maxRecDepth 100000 in
set_option maxHeartbeats 2000000 in
theorem parse_z4 (ao : Option Addr) (n c : Nat) (xs : List Int) (w : World) (hg : Gs w) (hr : Rd w ao n c xs) (hn : n ≤ 16384) (f : Value → Nat → Value) (lx : List UInt8) (Qs : Value → World → Prop)
    (hcall : ∀ (R : Nat) (W : World), Gs W → 9 < R → W.rowIs R 150 2 (rf (tb xs) 0) → Below w.heap.size w W → w.heap.size < W.heap.size → Calls Tryz.prog 120 #[.pointer (some ⟨R, 0, none⟩)] W fun ex w' => ∃ v, ex = .returned (row (f v) 50) ∧ (∀ j, (f v j).oneCell' = true) ∧ w'.rowIs R 150 2 (rf lx 0) ∧ Fr (fun i => i = R) W w' ∧ Qs v w')
    (hQ : ∀ v w1 w2, Qs v w1 → Fr (fun i => i = w.heap.size) w1 w2 → Qs v w2) :
    Calls Tryz.prog 56 #[.int .i64 4, .slice ao n c] w fun ex w' => ∃ v, ex = .returned (.tuple #[row (f v) 50, .int .i64 0]) ∧ Qs v w' ∧ Below w.heap.size w w' := by
  have hik := isKind_any 4 (w.alloc (Obj.cells (vals ps0 50).toArray 107)) (hg.keep (new_below _ _))
  rw [show isK 4 = true by decide] at hik
  have hz := zero107
  have hb0 := new_below w (Obj.cells (vals ps0 50).toArray 107)
  have hst := (hr.keep hb0).str
  rw [tb_sv] at hst
  have d1 : decide ((16384 : Int) < n) = false := by simp; omega
  have d2 : decide (16384 < n) = false := by simp; omega
  have hw1 : 9 < w.heap.size := by have := hg.big; omega
  obtain ⟨W, hW⟩ : ∃ W, W = (w.alloc (Obj.cells (vals ps0 50).toArray 107)).alloc (Obj.cells #[sv (tb xs), .int .i64 0] 150) := ⟨_, rfl⟩
  have bW : Below w.heap.size w W := by rw [hW]; exact hb0.alloc hb0.size _
  have hWs : W.heap.size = w.heap.size + 1 + 1 := by rw [hW]; simp
  have HP : Hid (W.rowIs w.heap.size 107 50 ps0) := by rw [hW]; exact rowIs_fr (P := fun _ => False) (rowIs_vals w _ 50 107) (Fr.ofBelow (new_below _ _)) (fun h => h)
  have HR : Hid (W.rowIs (w.heap.size + 1) 150 2 (rf (tb xs) 0)) := by
    rw [hW]
    have := World.rowIs_alloc (w.alloc (Obj.cells (vals ps0 50).toArray 107)) #[sv (tb xs), .int .i64 0] 150 (rf (tb xs) 0) (fun i hi => by
      have hi2 : i < 2 := hi
      rcases (show i = 0 ∨ i = 1 by omega) with rfl | rfl <;> rfl)
    show World.rowIs _ _ _ _ _
    simpa using this
  have HB : Hid (Below w.heap.size w W) := bW
  have HG : Hid (Gs W) := hg.keep bW
  have HWS : Hid (W.heap.size = w.heap.size + 1 + 1) := hWs
  have HC : Hid (∀ (R : Nat) (W : World), Gs W → 9 < R → W.rowIs R 150 2 (rf (tb xs) 0) → Below w.heap.size w W → w.heap.size < W.heap.size → Calls Tryz.prog 120 #[.pointer (some ⟨R, 0, none⟩)] W fun ex w' => ∃ v, ex = .returned (row (f v) 50) ∧ (∀ j, (f v j).oneCell' = true) ∧ w'.rowIs R 150 2 (rf lx 0) ∧ Fr (fun i => i = R) W w' ∧ Qs v w') := hcall
  have HQ : Hid (∀ v w1 w2, Qs v w1 → Fr (fun i => i = w.heap.size) w1 w2 → Qs v w2) := hQ
  have HW1 : Hid (9 < w.heap.size) := hw1
  clear hr hg hb0 bW hWs hcall hQ hn hw1
  go_enter Tryz.func56, Tryz.ntmps56
  go_wp2_with fail
  refine hik.mono ?_
  rintro ex w0 ⟨rfl, hw0⟩
  subst w0
  clear hik
  go_wp2_with fail
  rw [← hW]
  clear hW hst
  have hpa := parsers_any W
  refine hpa.mono ?_
  rintro ex w1 ⟨rfl, hw1⟩
  have b1 : Below W.heap.size W w1 := by rw [hw1]; exact new_below _ _
  have q1 : w1.cell? ⟨W.heap.size, 4, none⟩ = some (.func (.func 120) #[] #[]) := by rw [hw1]; simp [go_sem]
  have B1 : Below w.heap.size w w1 := HB.out.trans (b1.mono HB.out.size)
  have hc := HC.out (w.heap.size + 1) w1 (HG.out.keep b1) (by have := HW1.out; omega) (rowIs_fr (P := fun _ => False) HR.out (Fr.ofBelow b1) (fun h => h)) B1 (by have := b1.size; have := HWS.out; omega)
  have HP1 : Hid (w1.rowIs w.heap.size 107 50 ps0) := rowIs_fr (P := fun _ => False) HP.out (Fr.ofBelow b1) (fun h => h)
  have HB1 : Hid (Below w.heap.size w w1) := B1
  clear hpa hw1 b1 B1 HB HR HP HG HC HW1
  go_wp2_with fail
  refine hc.mono ?_
  rintro ex w2 ⟨v, rfl, hone, r2, f2, qs⟩
  have HP2 : Hid (w2.rowIs w.heap.size 107 50 ps0) := rowIs_fr HP1.out f2 (by omega)
  have HF2 : Hid (Fr (fun i => i = w.heap.size + 1) w1 w2) := f2
  have HB2 : Hid (Below w.heap.size w w2) := HB1.out.trans (f2.below _ HB1.out.size (fun i hi e => by omega))
  have z2 := rowIs_vals w2 ps0 50 107
  have HQ2 : Hid (Qs v w2) := qs
  have HR2 : Hid (w2.rowIs (w.heap.size + 1) 150 2 (rf lx 0)) := r2
  have hs2 : w.heap.size + 1 < w2.heap.size := r2.lt
  clear hc q1 r2 f2 qs HP1 HF2
  go_wp2_with (first
    | (refine wpList_st rfl 107 _ _ rfl w.heap.size rfl (f v) rfl p3 (by kernel_rfl) hone ?_; intro w4 r4 f4)
    | (refine wpList_ld0 rfl 107 _ rfl w2.heap.size rfl _ r3 50 (Nat.le_refl _) Tryz.underlying107 rfl (by kernel_rfl) ?_)
    | (refine wpList_st rfl 107 _ _ rfl w2.heap.size rfl (f v) rfl z2 (by kernel_rfl) hone ?_; intro w3 r3 f3; have A3 : Fr (fun i => i = w2.heap.size) w2 w3 := (Fr.ofBelow (new_below w2 _)).trans f3 (fun _ _ h => h); have HR3 : Hid (w3.rowIs (w.heap.size + 1) 150 2 (rf lx 0)) := rowIs_fr HR2.out A3 (by omega); have p3 : w3.rowIs w.heap.size 107 50 ps0 := rowIs_fr HP2.out A3 (by omega); have c3 : w3.cell? ⟨w.heap.size + 1, 1, none⟩ = some (.int .i64 0) := HR3.out.cell (i := 1) (by omega); have HB3 : Hid (Below w.heap.size w w3) := HB2.out.trans (A3.below _ HB2.out.size (fun i hi e => by omega)); have HQ3 : Hid (Qs v w3) := HQ.out v w2 w3 HQ2.out (A3.mono' (fun i hi e => by omega)); clear A3 f3))
  refine bodyPost_ret (results_two (fn := Tryz.f56) (p := 4) (q := 5) (ty := 107) (by kernel_rfl) _ (by rfl) r4 Tryz.underlying107 rfl (by kernel_rfl)) rfl ⟨v, rfl, HQ.out v w3 w4 HQ3.out f4, HB3.out.trans (f4.below _ HB3.out.size (fun i hi e => by omega))⟩

set_option maxRecDepth 100000 in
set_option maxHeartbeats 2000000 in
theorem parse_e4 (ao : Option Addr) (n c : Nat) (xs : List Int) (w : World) (hg : Gs w) (hr : Rd w ao n c xs) (hn : n ≤ 16384) (f : Value → Nat → Value) (lx : List UInt8) (ef : Int) (he0 : ef ≠ 0) (Qs : Value → World → Prop)
    (hcall : ∀ (R : Nat) (W : World), Gs W → 9 < R → W.rowIs R 150 2 (rf (tb xs) 0) → Below w.heap.size w W → w.heap.size < W.heap.size → Calls Tryz.prog 120 #[.pointer (some ⟨R, 0, none⟩)] W fun ex w' => ∃ v, ex = .returned (row (f v) 50) ∧ (∀ j, (f v j).oneCell' = true) ∧ w'.rowIs R 150 2 (rf lx ef) ∧ Fr (fun i => i = R) W w' ∧ Qs v w')
    (hQ : ∀ v w1 w2, Qs v w1 → Fr (fun i => i = w.heap.size) w1 w2 → Qs v w2) :
    Calls Tryz.prog 56 #[.int .i64 4, .slice ao n c] w fun ex w' => ∃ v, ex = .returned (.tuple #[row ps0 50, .int .i64 ef]) ∧ Qs v w' ∧ Below w.heap.size w w' := by
  have hik := isKind_any 4 (w.alloc (Obj.cells (vals ps0 50).toArray 107)) (hg.keep (new_below _ _))
  rw [show isK 4 = true by decide] at hik
  have hz := zero107
  have hb0 := new_below w (Obj.cells (vals ps0 50).toArray 107)
  have hst := (hr.keep hb0).str
  rw [tb_sv] at hst
  have d1 : decide ((16384 : Int) < n) = false := by simp; omega
  have d2 : decide (16384 < n) = false := by simp; omega
  have hw1 : 9 < w.heap.size := by have := hg.big; omega
  obtain ⟨W, hW⟩ : ∃ W, W = (w.alloc (Obj.cells (vals ps0 50).toArray 107)).alloc (Obj.cells #[sv (tb xs), .int .i64 0] 150) := ⟨_, rfl⟩
  have bW : Below w.heap.size w W := by rw [hW]; exact hb0.alloc hb0.size _
  have hWs : W.heap.size = w.heap.size + 1 + 1 := by rw [hW]; simp
  have HP : Hid (W.rowIs w.heap.size 107 50 ps0) := by rw [hW]; exact rowIs_fr (P := fun _ => False) (rowIs_vals w _ 50 107) (Fr.ofBelow (new_below _ _)) (fun h => h)
  have HR : Hid (W.rowIs (w.heap.size + 1) 150 2 (rf (tb xs) 0)) := by
    rw [hW]
    have := World.rowIs_alloc (w.alloc (Obj.cells (vals ps0 50).toArray 107)) #[sv (tb xs), .int .i64 0] 150 (rf (tb xs) 0) (fun i hi => by
      have hi2 : i < 2 := hi
      rcases (show i = 0 ∨ i = 1 by omega) with rfl | rfl <;> rfl)
    show World.rowIs _ _ _ _ _
    simpa using this
  have HB : Hid (Below w.heap.size w W) := bW
  have HG : Hid (Gs W) := hg.keep bW
  have HWS : Hid (W.heap.size = w.heap.size + 1 + 1) := hWs
  have HC : Hid (∀ (R : Nat) (W : World), Gs W → 9 < R → W.rowIs R 150 2 (rf (tb xs) 0) → Below w.heap.size w W → w.heap.size < W.heap.size → Calls Tryz.prog 120 #[.pointer (some ⟨R, 0, none⟩)] W fun ex w' => ∃ v, ex = .returned (row (f v) 50) ∧ (∀ j, (f v j).oneCell' = true) ∧ w'.rowIs R 150 2 (rf lx ef) ∧ Fr (fun i => i = R) W w' ∧ Qs v w') := hcall
  have HQ : Hid (∀ v w1 w2, Qs v w1 → Fr (fun i => i = w.heap.size) w1 w2 → Qs v w2) := hQ
  have HW1 : Hid (9 < w.heap.size) := hw1
  clear hr hg hb0 bW hWs hcall hQ hn hw1
  go_enter Tryz.func56, Tryz.ntmps56
  go_wp2_with fail
  refine hik.mono ?_
  rintro ex w0 ⟨rfl, hw0⟩
  subst w0
  clear hik
  go_wp2_with fail
  rw [← hW]
  clear hW hst
  have hpa := parsers_any W
  refine hpa.mono ?_
  rintro ex w1 ⟨rfl, hw1⟩
  have b1 : Below W.heap.size W w1 := by rw [hw1]; exact new_below _ _
  have q1 : w1.cell? ⟨W.heap.size, 4, none⟩ = some (.func (.func 120) #[] #[]) := by rw [hw1]; simp [go_sem]
  have B1 : Below w.heap.size w w1 := HB.out.trans (b1.mono HB.out.size)
  have hc := HC.out (w.heap.size + 1) w1 (HG.out.keep b1) (by have := HW1.out; omega) (rowIs_fr (P := fun _ => False) HR.out (Fr.ofBelow b1) (fun h => h)) B1 (by have := b1.size; have := HWS.out; omega)
  have HP1 : Hid (w1.rowIs w.heap.size 107 50 ps0) := rowIs_fr (P := fun _ => False) HP.out (Fr.ofBelow b1) (fun h => h)
  have HB1 : Hid (Below w.heap.size w w1) := B1
  clear hpa hw1 b1 B1 HB HR HP HG HC HW1
  go_wp2_with fail
  refine hc.mono ?_
  rintro ex w2 ⟨v, rfl, hone, r2, f2, qs⟩
  have HP2 : Hid (w2.rowIs w.heap.size 107 50 ps0) := rowIs_fr HP1.out f2 (by omega)
  have HF2 : Hid (Fr (fun i => i = w.heap.size + 1) w1 w2) := f2
  have HB2 : Hid (Below w.heap.size w w2) := HB1.out.trans (f2.below _ HB1.out.size (fun i hi e => by omega))
  have z2 := rowIs_vals w2 ps0 50 107
  have HQ2 : Hid (Qs v w2) := qs
  have HR2 : Hid (w2.rowIs (w.heap.size + 1) 150 2 (rf lx ef)) := r2
  have hs2 : w.heap.size + 1 < w2.heap.size := r2.lt
  clear hc q1 r2 f2 qs HP1 HF2
  have hne : (ef == 0) = false := by simp [he0]
  have hne2 : (ef != 0) = true := by simp [he0]
  go_wp2_with (first
    | (refine wpList_st rfl 107 _ _ rfl w2.heap.size rfl (f v) rfl z2 (by kernel_rfl) hone ?_; intro w3 r3 f3; have A3 : Fr (fun i => i = w2.heap.size) w2 w3 := (Fr.ofBelow (new_below w2 _)).trans f3 (fun _ _ h => h); have HR3 : Hid (w3.rowIs (w.heap.size + 1) 150 2 (rf lx ef)) := rowIs_fr HR2.out A3 (by omega); have HP3 : Hid (w3.rowIs w.heap.size 107 50 ps0) := rowIs_fr HP2.out A3 (by omega); have c3 : w3.cell? ⟨w.heap.size + 1, 1, none⟩ = some (.int .i64 ef) := HR3.out.cell (i := 1) (by omega); have HB3 : Hid (Below w.heap.size w w3) := HB2.out.trans (A3.below _ HB2.out.size (fun i hi e => by omega)); have HQ3 : Hid (Qs v w3) := HQ.out v w2 w3 HQ2.out (A3.mono' (fun i hi e => by omega)); clear A3 f3))
  have HE : Hid (ef ≠ 0) := he0
  clear he0 hne hne2 r3
  refine wp_region_noPanic ?_
  refine wp_region_held_drew (S := fun V => V.cell? ⟨w.heap.size + 1, 1, none⟩ = some (.int .i64 ef) ∧ V.cell? ⟨w.heap.size + 1, 0, none⟩ = some (sv lx) ∧ Fr (fun i => i = w.heap.size) w3 V ∧ ∃ f, V.rowIs w.heap.size 107 50 f) (by kernel_rfl) ⟨c3, HR3.out.cell (i := 0) (by omega), (Fr.refl _ _).drew, _, rowIs_fr (P := fun _ => False) HP3.out (Fr.refl _ _).drew (fun h => h)⟩ (fun hHeld => ?_)
  refine wpAnyH_take (i := 1) (oi := ⟨some 34, _, _, _, _, _⟩) (v := ?_) rfl (by kernel_rfl) (by kernel_rfl) (by kernel_rfl) (fun _ _ _ h => h) (Or.inl ⟨by rfl, ?_⟩) hHeld ?_
  rotate_left
  · (intro w' hSw; go_simp; try with_reducible rfl)
  try simp only [Act.put, List.setIfInBounds_toArray, List.set_cons_zero, List.set_cons_succ]
  refine wpAnyH_take (i := 2) (oi := ⟨some 35, _, _, _, _, _⟩) (v := ?_) rfl (by kernel_rfl) (by kernel_rfl) (by kernel_rfl) (fun _ _ _ h => h) (Or.inl ⟨by rfl, ?_⟩) hHeld ?_
  rotate_left
  · (intro w' hSw; go_simp; try with_reducible rfl)
  try simp only [Act.put, List.setIfInBounds_toArray, List.set_cons_zero, List.set_cons_succ]
  refine wpAnyH_take (i := 3) (oi := ⟨some 36, _, _, _, _, _⟩) (v := ?_) rfl (by kernel_rfl) (by kernel_rfl) (by kernel_rfl) (fun _ _ _ h => h) (Or.inl ⟨by rfl, ?_⟩) hHeld ?_
  rotate_left
  · (intro w' hSw; go_simp; try with_reducible rfl)
  try simp only [Act.put, List.setIfInBounds_toArray, List.set_cons_zero, List.set_cons_succ]
  refine wpAnyH_take (i := 4) (oi := ⟨some 37, _, _, _, _, _⟩) (v := .int .i64 ef) rfl (by kernel_rfl) (by kernel_rfl) (by kernel_rfl) (fun _ _ _ h => h) (Or.inl ⟨by rfl, ?_⟩) hHeld ?_
  · (intro w' hSw; have q := hSw.1; go_simp; try with_reducible rfl)
  try simp only [Act.put, List.setIfInBounds_toArray, List.set_cons_zero, List.set_cons_succ]
  refine wpAnyH_take (i := 0) (oi := ⟨some 33, _, _, _, _, _⟩) (v := row ps0 50) rfl (by kernel_rfl) (by kernel_rfl) (by kernel_rfl) (fun _ _ _ h => h) (Or.inl ⟨by rfl, ?_⟩) hHeld ?_
  · (intro w' hSw; go_simp; try with_reducible rfl)
  try simp only [Act.put, List.setIfInBounds_toArray, List.set_cons_zero, List.set_cons_succ]
  obtain ⟨fp, hfp⟩ := hHeld.2.2.2
  have hcs := hHeld
  refine wpAnyH_ready (rs := [5]) (by kernel_rfl) (by simp) ?_
  refine AllReadyH.cons (o := ⟨none, _, _, _, _, _⟩) rfl (fun K hK => ?_) AllReadyH.nil
  refine step_st107 (by rfl) _ _ rfl w.heap.size rfl ps0 rfl fp hfp ps0_one ?_
  intro w5 r5 f5
  have F5 : Fr (fun i => i = w.heap.size) w3 w5 := hcs.2.2.1.trans f5 (fun _ _ h => h)
  have R5 : w5.rowIs (w.heap.size + 1) 150 2 (rf lx ef) := rowIs_fr HR3.out F5 (by omega)
  refine hK.out _ _ ⟨R5.cell (i := 1) (by omega), R5.cell (i := 0) (by omega), F5, _, r5⟩ (fun hHeld => ?_)
  clear hK K
  try simp only [Act.put]
  refine wpAnyH_ready (rs := [6]) (by kernel_rfl) (by simp) ?_
  refine AllReadyH.cons (o := ⟨some 5, _, _, _, _, _⟩) rfl (fun K hK => ?_) AllReadyH.nil
  go_simp
  refine hK.out _ _ hHeld (fun hHeld => ?_)
  clear hK K
  refine wpAnyH_done (by kernel_rfl) ?_ _
  refine NoPanic.normal ?_
  have HQ5 : Hid (Qs v w5) := HQ.out v w3 w5 HQ3.out F5
  have HB5 : Hid (Below w.heap.size w w5) := HB3.out.trans (F5.below _ HB3.out.size (fun i hi e => by omega))
  clear hHeld hcs hfp f5 F5 R5
  try simp only [Act.put]
  go_wp2_with fail
  refine bodyPost_ret (results_two (fn := Tryz.f56) (p := 4) (q := 5) (ty := 107) (by kernel_rfl) _ (by rfl) r5 Tryz.underlying107 rfl (by kernel_rfl)) rfl ⟨v, rfl, HQ5.out, HB5.out⟩

theorem parse_g4 (ao : Option Addr) (n c : Nat) (xs : List Int) (w : World) (hg : Gs w) (hr : Rd w ao n c xs) (hn : n ≤ 16384) (f : Value → Nat → Value) (lx : List UInt8) (ef : Int) (Qs : Value → World → Prop)
    (hcall : ∀ (R : Nat) (W : World), Gs W → 9 < R → W.rowIs R 150 2 (rf (tb xs) 0) → Below w.heap.size w W → w.heap.size < W.heap.size → Calls Tryz.prog 120 #[.pointer (some ⟨R, 0, none⟩)] W fun ex w' => ∃ v, ex = .returned (row (f v) 50) ∧ (∀ j, (f v j).oneCell' = true) ∧ w'.rowIs R 150 2 (rf lx ef) ∧ Fr (fun i => i = R) W w' ∧ Qs v w')
    (hQ : ∀ v w1 w2, Qs v w1 → Fr (fun i => i = w.heap.size) w1 w2 → Qs v w2) :
    Calls Tryz.prog 56 #[.int .i64 4, .slice ao n c] w fun ex w' => ∃ v, ex = .returned (.tuple #[row (if ef = 0 then f v else ps0) 50, .int .i64 ef]) ∧ Qs v w' ∧ Below w.heap.size w w' := by
  by_cases he0 : ef = 0
  · subst he0
    refine (parse_z4 ao n c xs w hg hr hn f lx Qs hcall hQ).mono ?_
    rintro ex w' ⟨v, rfl, h⟩
    exact ⟨v, by rw [if_pos rfl], h⟩
  · refine (parse_e4 ao n c xs w hg hr hn f lx ef he0 Qs hcall hQ).mono ?_
    rintro ex w' ⟨v, rfl, h⟩
    exact ⟨v, by rw [if_neg he0], h⟩


end Go.Proofs.YtojgablpjdlegaaGreatDoor

/- What is asked of an object parsed: check, parents, edges, a commit, a tag, a tree. -/
namespace Go.Proofs.YtojgablpjdlegaaGreatDoor
open Go.RowKit Go.Shelf

set_option maxRecDepth 100000 in
set_option maxHeartbeats 2000000 in
theorem check_gen (k e : Int) (ao : Option Addr) (n c : Nat) (w : World) (Q : (Nat → Value) → World → Prop)
    (hpa : Calls Tryz.prog 56 #[.int .i64 k, .slice ao n c] w fun ex w' => ∃ f, ex = .returned (.tuple #[row f 50, .int .i64 e]) ∧ (∀ j, (f j).oneCell' = true) ∧ Q f w' ∧ Below w.heap.size w w') :
    Calls Tryz.prog 33 #[.int .i64 k, .slice ao n c] w fun ex w' => ex = .returned (.int .i64 e) ∧ Below w.heap.size w w' := by
  have hz := zero107
  go_enter Tryz.func33, Tryz.ntmps33
  go_wp2_with fail
  refine hpa.mono ?_
  rintro ex w1 ⟨f, rfl, hone, hq, b1⟩
  have z1 := rowIs_vals w1 ps0 50 107
  have HB1 : Hid (Below w.heap.size w w1) := b1
  have HQ : Hid (Q f w1) := hq
  clear hpa b1 hq
  go_wp2_with ((refine wpList_st rfl 107 _ _ rfl w1.heap.size rfl f rfl z1 (by kernel_rfl) hone ?_; intro w2 r2 f2; have HB2 : Hid (Below w.heap.size w w2) := HB1.out.trans ((new_fr f2).mono HB1.out.size); have HK2 : Hid (Below w1.heap.size w1 w2) := new_fr f2; clear f2))
  go_ret
  exact ⟨rfl, HB2.out⟩

set_option maxRecDepth 100000 in
set_option maxHeartbeats 2000000 in
theorem parents_gen (k e : Int) (ao : Option Addr) (n c : Nat) (w : World) (Q : (Nat → Value) → World → Prop) (hQ : ∀ f w', Q f w' → ∃ a m b, f 21 = .slice a m b)
    (hpa : Calls Tryz.prog 56 #[.int .i64 k, .slice ao n c] w fun ex w' => ∃ f, ex = .returned (.tuple #[row f 50, .int .i64 e]) ∧ (∀ j, (f j).oneCell' = true) ∧ Q f w' ∧ Below w.heap.size w w') :
    Calls Tryz.prog 35 #[.int .i64 k, .slice ao n c] w fun ex w' => ∃ f w1, ex = .returned (f 21) ∧ Q f w1 ∧ Below w1.heap.size w1 w' ∧ Below w.heap.size w w' := by
  have hz := zero107
  go_enter Tryz.func35, Tryz.ntmps35
  go_wp2_with fail
  refine hpa.mono ?_
  rintro ex w1 ⟨f, rfl, hone, hq, b1⟩
  have z1 := rowIs_vals w1 ps0 50 107
  have HB1 : Hid (Below w.heap.size w w1) := b1
  have HQ : Hid (Q f w1) := hq
  clear hpa b1 hq
  obtain ⟨pa, pm, pb, hpp⟩ := hQ f w1 HQ.out
  have HP : Hid (f 21 = .slice pa pm pb) := hpp
  clear hpp
  go_wp2_with ((refine wpList_st rfl 107 _ _ rfl w1.heap.size rfl f rfl z1 (by kernel_rfl) hone ?_; intro w2 r2 f2; have HB2 : Hid (Below w.heap.size w w2) := HB1.out.trans ((new_fr f2).mono HB1.out.size); have HK2 : Hid (Below w1.heap.size w1 w2) := new_fr f2; have c2 : w2.cell? ⟨w1.heap.size, 21, none⟩ = some (.slice pa pm pb) := (r2.cell (i := 21) (by omega)).trans (congrArg some HP.out); clear f2))
  go_ret
  exact ⟨f, w1, by rw [HP.out]; rfl, HQ.out, HK2.out, HB2.out⟩

set_option maxRecDepth 100000 in
set_option maxHeartbeats 2000000 in
theorem edges_bad (k e : Int) (he : e ≠ 0) (ao : Option Addr) (n c : Nat) (w : World) (Q : (Nat → Value) → World → Prop)
    (hpa : Calls Tryz.prog 56 #[.int .i64 k, .slice ao n c] w fun ex w' => ∃ f, ex = .returned (.tuple #[row f 50, .int .i64 e]) ∧ (∀ j, (f j).oneCell' = true) ∧ Q f w' ∧ Below w.heap.size w w') :
    Calls Tryz.prog 30 #[.int .i64 k, .slice ao n c] w fun ex w' => ex = .returned (.tuple #[nlv, .int .i64 e]) ∧ Below w.heap.size w w' := by
  have hz := zero107
  have hne : (e == 0) = false := by simp [he]
  have hne2 : (e != 0) = true := by simp [he]
  go_enter Tryz.func30, Tryz.ntmps30
  go_wp2_with fail
  refine hpa.mono ?_
  rintro ex w1 ⟨f, rfl, hone, hq, b1⟩
  have z1 := rowIs_vals w1 ps0 50 107
  have HB1 : Hid (Below w.heap.size w w1) := b1
  have HQ : Hid (Q f w1) := hq
  clear hpa b1 hq
  go_wp2_with ((refine wpList_st rfl 107 _ _ rfl w1.heap.size rfl f rfl z1 (by kernel_rfl) hone ?_; intro w2 r2 f2; have HB2 : Hid (Below w.heap.size w w2) := HB1.out.trans ((new_fr f2).mono HB1.out.size); have HK2 : Hid (Below w1.heap.size w1 w2) := new_fr f2; clear f2))
  go_ret2
  exact ⟨rfl, HB2.out⟩

set_option maxRecDepth 100000 in
set_option maxHeartbeats 2000000 in
theorem edges_gen (k : Int) (ao : Option Addr) (n c : Nat) (w : World) (Q : (Nat → Value) → World → Prop) (d : Array (List Int)) (hds : d.size < 100000) (hQ : ∀ f w', Q f w' → Is w' (f 49) d)
    (hpa : Calls Tryz.prog 56 #[.int .i64 k, .slice ao n c] w fun ex w' => ∃ f, ex = .returned (.tuple #[row f 50, .int .i64 0]) ∧ (∀ j, (f j).oneCell' = true) ∧ Q f w' ∧ Below w.heap.size w w') :
    Calls Tryz.prog 30 #[.int .i64 k, .slice ao n c] w fun ex w' => ∃ v r, ex = .returned (.tuple #[v, .int .i64 0]) ∧ Srt d r ∧ Nw w.heap.size w' v r ∧ Below w.heap.size w w' := by
  have hz := zero107
  go_enter Tryz.func30, Tryz.ntmps30
  go_wp2_with fail
  refine hpa.mono ?_
  rintro ex w1 ⟨f, rfl, hone, hq, b1⟩
  have z1 := rowIs_vals w1 ps0 50 107
  have HB1 : Hid (Below w.heap.size w w1) := b1
  have HQ : Hid (Q f w1) := hq
  clear hpa b1 hq
  have hd := hQ f w1 HQ.out
  have HD : Hid (Is w1 (f 49) d) := hd
  obtain ⟨ea, ec, hee, _⟩ := hd.sh
  have HP : Hid (f 49 = .slice ea d.size ec) := hee
  clear hee hd
  go_wp2_with ((refine wpList_st rfl 107 _ _ rfl w1.heap.size rfl f rfl z1 (by kernel_rfl) hone ?_; intro w2 r2 f2; have HB2 : Hid (Below w.heap.size w w2) := HB1.out.trans ((new_fr f2).mono HB1.out.size); have HK2 : Hid (Below w1.heap.size w1 w2) := new_fr f2; have c2 : w2.cell? ⟨w1.heap.size, 49, none⟩ = some (.slice ea d.size ec) := (r2.cell (i := 49) (by omega)).trans (congrArg some HP.out); clear f2))
  have hd2 : Is w2 (.slice ea d.size ec) d := by have := HD.out.keep HK2.out; rw [HP.out] at this; exact this
  have hso := Sort_any d.size (pdq_is d.size hds) ea ec d w2 hd2 rfl (by omega)
  clear c2 z1 hone hd2 r2 hds
  refine hso.mono ?_
  rintro ex w3 ⟨v, r, rfl, hS, hs1, hNw, b3⟩
  have HN : Hid (Nw w2.heap.size w3 v r) := hNw
  have HS : Hid (Srt d r) := hS
  have HB3 : Hid (Below w.heap.size w w3) := HB2.out.trans (b3.mono HB2.out.size)
  clear hso hS hs1 hNw b3
  go_wp2
  go_ret2
  refine ⟨v, r, rfl, HS.out, ?_, HB3.out⟩
  rcases HN.out with ⟨h0, h1⟩ | ⟨h0, b', c', h1, h2, h3, h4⟩
  · exact .inl ⟨h0, h1⟩
  · exact .inr ⟨h0, b', c', h1, h2, Nat.le_trans HB2.out.size h3, h4⟩

set_option maxRecDepth 100000 in
set_option maxHeartbeats 2000000 in
theorem decodeCommit_gen (e : Int) (ao : Option Addr) (n c : Nat) (w : World) (Q : (Nat → Value) → World → Prop) (hQ : ∀ f w1 w2, Q f w1 → Below w1.heap.size w1 w2 → Q f w2)
    (hpa : ∀ W, Below w.heap.size w W → Calls Tryz.prog 56 #[.int .i64 1, .slice ao n c] W fun ex w' => ∃ f, ex = .returned (.tuple #[row f 50, .int .i64 e]) ∧ (∀ j, (f j).oneCell' = true) ∧ Q f w' ∧ Below W.heap.size W w') :
    Calls Tryz.prog 23 #[.slice ao n c] w fun ex w' => ∃ f, ex = .returned (.tuple #[row (fun j => f (1 + j)) 24, .int .i64 e]) ∧ (∃ w1, Q f w1 ∧ Fr (fun i => i = w.heap.size) w1 w' ∧ w.heap.size < w1.heap.size) ∧ Below w.heap.size w w' := by
  have hz := zero107
  have hz2 := zero47
  have b0 := new_below w (Obj.cells (vals (cf z20 nlv [] [] []) 24).toArray 47)
  have hpa0 := hpa _ b0
  have HC : Hid ((w.alloc (Obj.cells (vals (cf z20 nlv [] [] []) 24).toArray 47)).rowIs w.heap.size 47 24 (cf z20 nlv [] [] [])) := rowIs_vals _ _ _ _
  have HB : Hid (Below w.heap.size w (w.alloc (Obj.cells (vals (cf z20 nlv [] [] []) 24).toArray 47))) := b0
  clear b0 hpa
  go_enter Tryz.func23, Tryz.ntmps23
  go_wp2_with fail
  refine hpa0.mono ?_
  rintro ex w1 ⟨f, rfl, hone, hq, b1⟩
  have c1 : w1.rowIs w.heap.size 47 24 (cf z20 nlv [] [] []) := rowIs_fr (P := fun _ => False) HC.out (Fr.ofBelow b1) (fun h => h)
  have HB1 : Hid (Below w.heap.size w w1) := HB.out.trans (b1.mono HB.out.size)
  have HQ : Hid (Q f w1) := hq
  have z1 := rowIs_vals w1 ps0 50 107
  have hs1 : w.heap.size < w1.heap.size := c1.lt
  clear hpa0 b1 HB HC hq
  go_wp2_with (first
    | (refine wpList_st rfl 47 _ _ rfl w.heap.size rfl (fun j => f (1 + j)) rfl c2 (by kernel_rfl) (fun j => hone (1 + j)) ?_; intro w3 r3 f3)
    | (refine wpList_ld rfl 47 _ rfl w1.heap.size 1 rfl _ r2 24 (by omega) Tryz.underlying47 rfl (by kernel_rfl) ?_)
    | (refine wpList_st rfl 107 _ _ rfl w1.heap.size rfl f rfl z1 (by kernel_rfl) hone ?_; intro w2 r2 f2; have A2 : Fr (fun i => i = w1.heap.size) w1 w2 := (Fr.ofBelow (new_below w1 _)).trans f2 (fun _ _ h => h); have c2 : w2.rowIs w.heap.size 47 24 (cf z20 nlv [] [] []) := rowIs_fr c1 A2 (by omega); have HB2 : Hid (Below w.heap.size w w2) := HB1.out.trans (A2.below _ HB1.out.size (fun i hi e => by omega)); have HQ2 : Hid (Q f w2) := hQ f w1 w2 HQ.out (new_fr f2); have HS2 : Hid (w.heap.size < w2.heap.size) := c2.lt; clear A2 f2))
  refine bodyPost_ret (results_two (fn := Tryz.f23) (p := 2) (q := 3) (ty := 47) (by kernel_rfl) _ (by rfl) r3 Tryz.underlying47 rfl (by kernel_rfl)) rfl ⟨f, rfl, ⟨w2, HQ2.out, f3, HS2.out⟩, HB2.out.trans (f3.below _ HB2.out.size (fun i hi e => by omega))⟩

theorem zero56 (w : World) : (zeroValue 56).run Tryz.prog w = .ok (row (tf z20 0 [] [] []) 24) w := by kernel_rfl

set_option maxRecDepth 100000 in
set_option maxHeartbeats 2000000 in
theorem decodeTag_gen (e : Int) (ao : Option Addr) (n c : Nat) (w : World) (Q : (Nat → Value) → World → Prop) (hQ : ∀ f w1 w2, Q f w1 → Below w1.heap.size w1 w2 → Q f w2)
    (hpa : ∀ W, Below w.heap.size w W → Calls Tryz.prog 56 #[.int .i64 4, .slice ao n c] W fun ex w' => ∃ f, ex = .returned (.tuple #[row f 50, .int .i64 e]) ∧ (∀ j, (f j).oneCell' = true) ∧ Q f w' ∧ Below W.heap.size W w') :
    Calls Tryz.prog 25 #[.slice ao n c] w fun ex w' => ∃ f, ex = .returned (.tuple #[row (fun j => f (25 + j)) 24, .int .i64 e]) ∧ (∃ w1, Q f w1 ∧ Fr (fun i => i = w.heap.size) w1 w' ∧ w.heap.size < w1.heap.size) ∧ Below w.heap.size w w' := by
  have hz := zero107
  have hz2 := zero56
  have b0 := new_below w (Obj.cells (vals (tf z20 0 [] [] []) 24).toArray 56)
  have hpa0 := hpa _ b0
  have HC : Hid ((w.alloc (Obj.cells (vals (tf z20 0 [] [] []) 24).toArray 56)).rowIs w.heap.size 56 24 (tf z20 0 [] [] [])) := rowIs_vals _ _ _ _
  have HB : Hid (Below w.heap.size w (w.alloc (Obj.cells (vals (tf z20 0 [] [] []) 24).toArray 56))) := b0
  clear b0 hpa
  go_enter Tryz.func25, Tryz.ntmps25
  go_wp2_with fail
  refine hpa0.mono ?_
  rintro ex w1 ⟨f, rfl, hone, hq, b1⟩
  have c1 : w1.rowIs w.heap.size 56 24 (tf z20 0 [] [] []) := rowIs_fr (P := fun _ => False) HC.out (Fr.ofBelow b1) (fun h => h)
  have HB1 : Hid (Below w.heap.size w w1) := HB.out.trans (b1.mono HB.out.size)
  have HQ : Hid (Q f w1) := hq
  have z1 := rowIs_vals w1 ps0 50 107
  have hs1 : w.heap.size < w1.heap.size := c1.lt
  clear hpa0 b1 HB HC hq
  go_wp2_with (first
    | (refine wpList_st rfl 56 _ _ rfl w.heap.size rfl (fun j => f (25 + j)) rfl c2 (by kernel_rfl) (fun j => hone (25 + j)) ?_; intro w3 r3 f3)
    | (refine wpList_ld rfl 56 _ rfl w1.heap.size 25 rfl _ r2 24 (by omega) Tryz.underlying56 rfl (by kernel_rfl) ?_)
    | (refine wpList_st rfl 107 _ _ rfl w1.heap.size rfl f rfl z1 (by kernel_rfl) hone ?_; intro w2 r2 f2; have A2 : Fr (fun i => i = w1.heap.size) w1 w2 := (Fr.ofBelow (new_below w1 _)).trans f2 (fun _ _ h => h); have c2 : w2.rowIs w.heap.size 56 24 (tf z20 0 [] [] []) := rowIs_fr c1 A2 (by omega); have HB2 : Hid (Below w.heap.size w w2) := HB1.out.trans (A2.below _ HB1.out.size (fun i hi e => by omega)); have HQ2 : Hid (Q f w2) := hQ f w1 w2 HQ.out (new_fr f2); have HS2 : Hid (w.heap.size < w2.heap.size) := c2.lt; clear A2 f2))
  refine bodyPost_ret (results_two (fn := Tryz.f25) (p := 2) (q := 3) (ty := 56) (by kernel_rfl) _ (by rfl) r3 Tryz.underlying56 rfl (by kernel_rfl)) rfl ⟨f, rfl, ⟨w2, HQ2.out, f3, HS2.out⟩, HB2.out.trans (f3.below _ HB2.out.size (fun i hi e => by omega))⟩

end Go.Proofs.YtojgablpjdlegaaGreatDoor

/- Open of what Canon wrote. -/
namespace Go.Proofs.YtojgablpjdlegaaGreatDoor
open Go.RowKit Go.Shelf

theorem index_first (z : UInt8) (r : List UInt8) : ∀ h : List UInt8, (∀ b ∈ h, b ≠ z) → Lib.index (h ++ z :: r) [z] = h.length
  | [], _ => by simp [Lib.index]
  | b :: h, hz => by
    have ih := index_first z r h (fun x hx => hz x (by simp [hx]))
    have hb : b ≠ z := hz b (by simp)
    rw [List.cons_append]
    unfold Lib.index
    rw [ih]
    have : ((h.length : Int) == -1) = false := by simp
    simp [this]
    exact fun e => absurd e.symm hb

theorem cut_first (z : UInt8) (h r : List UInt8) (hz : ∀ b ∈ h, b ≠ z) : Lib.cut (h ++ z :: r) [z] = (h, r, true) := by
  unfold Lib.cut
  rw [index_first z r h hz, if_pos (by omega)]
  simp

theorem dec_ge (n : Nat) : ∀ b ∈ Lib.decDigits n, 48 ≤ b.toNat := by
  intro b hb
  rw [Lib.decDigits_eq] at hb
  obtain ⟨t, _, rfl⟩ := List.mem_map.1 hb
  unfold Lib.dg
  have : n / 10 ^ (Lib.nDigits n - 1 - t) % 10 < 10 := Nat.mod_lt _ (by omega)
  simp
  omega

theorem wl_ge (k : Int) : ∀ b ∈ wl k, 48 ≤ b.toNat := by
  unfold wl wrd
  split
  · decide
  · split
    · decide
    · split
      · decide
      · split <;> decide

theorem kof_wl (k : Int) (hk : isK k = true) : kof (wl k) = (k, true) := by
  have h : k = 1 ∨ k = 2 ∨ k = 3 ∨ k = 4 := by
    unfold isK at hk
    simp at hk
    omega
  rcases h with rfl | rfl | rfl | rfl <;> decide +kernel

theorem ne_of_ge {b z : UInt8} (h : 48 ≤ b.toNat) (hz : z.toNat < 48) : b ≠ z := fun e => by subst e; omega

/-- What stands ahead of the nought. -/
def cnh (k : Int) (n : Nat) : List UInt8 := wl k ++ 32 :: Lib.decDigits n

theorem cnl_eq (k : Int) (n : Nat) : cnl k n = cnh k n ++ [0] := by simp [cnl, cnh]

theorem cnh_cut (k : Int) (n : Nat) : Lib.cut (cnh k n) [32] = (wl k, Lib.decDigits n, true) :=
  cut_first 32 _ _ (fun b hb => ne_of_ge (wl_ge k b hb) (by decide))

theorem cnh_nz (k : Int) (n : Nat) : ∀ b ∈ cnh k n, b ≠ 0 := by
  intro b hb
  simp [cnh] at hb
  rcases hb with h | rfl | h
  · exact ne_of_ge (wl_ge k b h) (by decide)
  · decide
  · exact ne_of_ge (dec_ge n b h) (by decide)

theorem cn_index (k : Int) (n : Nat) (xs : List Int) : Lib.index (Lib.bytesOf (tn (cnl k n) ++ xs)) (Lib.bytesOf [0]) = ((cnh k n).length : Int) := by
  have h : Lib.bytesOf (tn (cnl k n) ++ xs) = cnh k n ++ 0 :: tb xs := by
    show tb (tn (cnl k n) ++ xs) = _
    have : tb (tn (cnl k n) ++ xs) = tb (tn (cnl k n)) ++ tb xs := by simp [tb]
    rw [this, tb_tn, cnl_eq]
    simp
  rw [h]
  exact index_first 0 _ _ (cnh_nz k n)

theorem open_canon (k : Int) (hk : isK k = true) (ao : Option Addr) (L c m : Nat) (xs : List Int) (w : World) (hg : Gs w) (hr : Rd w ao L c (tn (cnl k m) ++ xs)) (hL : L ≤ 1000000) (hx : xs.length = m) (hm : m ≤ 16384) :
    Calls Tryz.prog 17 #[.slice ao L c] w fun e w' => ∃ v, e = .returned (.tuple #[.int .i64 k, v, .int .i64 0]) ∧ w'.ownsRow w.heap.size 5 1 v m (xs.map (Value.int .u8)) ∧ Below w.heap.size w w' := by
  have hl : (tn (cnl k m)).length = (cnh k m).length + 1 := by rw [tn_len, cnl_eq]; simp
  have hL2 : L = (cnh k m).length + 1 + m := by
    have := hr.len
    rw [List.length_append, hl, hx] at this
    exact this.symm
  have ht : tb ((tn (cnl k m) ++ xs).take (cnh k m).length) = cnh k m := by
    rw [List.take_append_of_le_length (by omega)]
    have : tb ((tn (cnl k m)).take (cnh k m).length) = (tb (tn (cnl k m))).take (cnh k m).length := by simp [tb]
    rw [this, tb_tn, cnl_eq]
    simp
  have h := open_ok ao L c (tn (cnl k m) ++ xs) (cnh k m).length m (wl k) (Lib.decDigits m) true k w hg hr hL (cn_index k m xs) hL2 (by rw [ht]; exact cnh_cut k m) (kof_wl k hk) rfl hm
  rw [show (tn (cnl k m) ++ xs).drop ((cnh k m).length + 1) = xs by rw [← hl]; simp] at h
  exact h

end Go.Proofs.YtojgablpjdlegaaGreatDoor
