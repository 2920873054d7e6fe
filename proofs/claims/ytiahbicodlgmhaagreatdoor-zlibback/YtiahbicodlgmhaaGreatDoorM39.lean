/- XFix, XLen, XDist: the document's own functions, walked. -/
import Derived.Test.YtiahbicodlgmhaaGreatDoorM07
/- The document's Fixed. -/
namespace Go.Proofs.YtiahbicodlgmhaaGreatDoor
open Go.RowKit

theorem fl_step (k : Nat) (f : Nat → Int) (hk : f k = fl k) (j : Nat) : (if j = k then Value.int .i64 (f k) else Value.int .i64 (if j < k then fl j else 0)) = Value.int .i64 (if j < k + 1 then fl j else 0) := by
  by_cases h : j = k
  · subst h
    rw [if_pos rfl, if_pos (by omega), hk]
  · rw [if_neg h]
    by_cases h2 : j < k
    · rw [if_pos h2, if_pos (by omega)]
    · rw [if_neg h2, if_neg (by omega)]

set_option maxRecDepth 100000 in
set_option maxHeartbeats 2000000 in
theorem xfixed_any (w : World) : Calls Tryz.prog 51 #[] w fun e w' => ∃ a d, e = .returned (.tuple #[.slice (some ⟨a, 0, none⟩) 288 288, .slice (some ⟨d, 0, none⟩) 32 32]) ∧ w'.rowIs a 3 288 (fun j => .int .i64 (fl j)) ∧ w'.rowIs d 3 32 (fun _ => .int .i64 5) ∧ Below w.heap.size w w' := by
  obtain ⟨i0, hi, hz0, hz1, hz2⟩ := info_parts Tryz.info3
  have R1 := made_row w 288
  have B1 : Below w.heap.size w (w.alloc (.cells (madeCells #[Value.int .i64 0] 288) 3)) := (Below.refl _ _).alloc (Nat.le_refl _) _
  obtain ⟨B, hB⟩ : ∃ B, B = w.heap.size := ⟨_, rfl⟩
  have HB : Hid (B = w.heap.size) := hB
  rw [← hB] at R1
  go_enter Tryz.func51, Tryz.ntmps51
  go_wp2_with (at_make; refine wpList_make_row _ rfl _ _ 59 rfl 3 i0 (.int .i64 0) Tryz.underlying59 hi hz0 hz1 rfl .i64 .i64 288 rfl rfl (by rw [hz2]; omega) (by omega) ?_; rw [← hB]; clear hB)
  go_loopw [3] (fun i wr => ∃ k : Nat, k ≤ 288 ∧ i = .int .i64 k ∧ wr.rowIs B 3 288 (fun j => .int .i64 (if j < k then fl j else 0)) ∧ Hid (Below w.heap.size w wr)) (fun i _ => 288 - (intOf i).toNat)
  case atStart => exact ⟨0, by omega, rfl, R1.congr (fun j _ => by rw [if_neg (by omega)]), B1⟩
  case round =>
    obtain ⟨k, hk, rfl, hrow, hb⟩ := hrel
    clear R1 B1
    by_cases hlt : k < 288
    · have f1 := hrow.frozen k
      have c1 := hrow.cell hlt
      have H : ∀ x : Int, x = fl k → Hid ((wr.setCell ⟨B, k, none⟩ (.int .i64 x)).rowIs B 3 288 (fun j => .int .i64 (if j < k + 1 then fl j else 0)) ∧ Below w.heap.size w (wr.setCell ⟨B, k, none⟩ (.int .i64 x))) := fun x hx =>
        ⟨(hrow.set k _).congr (fun j _ => fl_step k (fun _ => x) hx j), hb.out.setCell (by have := HB.out; show w.heap.size ≤ B; omega) _⟩
      have hkz : (k : Int) < 288 := by omega
      by_cases h1 : k < 144
      · have hh := H 8 (by rw [fl, if_pos h1])
        have q1 : (k : Int) < 144 := by omega
        clear hrow hb H
        go_wp2
        go_roundw
        case rel => exact ⟨k + 1, by omega, by go_num, hh.out.1, hh.out.2⟩
        case measure => simp [intOf]; omega
      · have q1 : ¬ (k : Int) < 144 := by omega
        by_cases h2 : k < 256
        · have hh := H 9 (by rw [fl, if_neg h1, if_pos h2])
          have q2 : (k : Int) < 256 := by omega
          clear hrow hb H
          go_wp2
          go_roundw
          case rel => exact ⟨k + 1, by omega, by go_num, hh.out.1, hh.out.2⟩
          case measure => simp [intOf]; omega
        · have q2 : ¬ (k : Int) < 256 := by omega
          by_cases h3 : k < 280
          · have hh := H 7 (by rw [fl, if_neg h1, if_neg h2, if_pos h3])
            have q3 : (k : Int) < 280 := by omega
            clear hrow hb H
            go_wp2
            go_roundw
            case rel => exact ⟨k + 1, by omega, by go_num, hh.out.1, hh.out.2⟩
            case measure => simp [intOf]; omega
          · have hh := H 8 (by rw [fl, if_neg h1, if_neg h2, if_neg h3])
            have q3 : ¬ (k : Int) < 280 := by omega
            clear hrow hb H
            go_wp2
            go_roundw
            case rel => exact ⟨k + 1, by omega, by go_num, hh.out.1, hh.out.2⟩
            case measure => simp [intOf]; omega
    · obtain rfl : k = 288 := by omega
      have hrow' := hrow.congr (g := fun j => .int .i64 (fl j)) (fun j hj => by rw [if_pos hj])
      have R2 := made_row wr 32
      have B2 : Below wr.heap.size wr (wr.alloc (.cells (madeCells #[Value.int .i64 0] 32) 3)) := (Below.refl _ _).alloc (Nat.le_refl _) _
      have B3 := hb.out.trans (B2.mono hb.out.size)
      have hrow2 := hrow'.of_block (B2.block _ hrow'.lt)
      have hne : wr.heap.size ≠ B := by have := hrow'.lt; omega
      obtain ⟨D, hD⟩ : ∃ D, D = wr.heap.size := ⟨_, rfl⟩
      have HD : Hid (D = wr.heap.size) := hD
      rw [← hD] at R2 hne
      have hDw : w.heap.size ≤ D := by have := hb.out.size; omega
      have HDw : Hid (w.heap.size ≤ D) := hDw
      have HB3 : Hid (Below w.heap.size w (wr.alloc (.cells (madeCells #[Value.int .i64 0] 32) 3))) := B3
      clear hrow hrow' hlt B2 B3 hb hDw
      go_wp2_with (at_make; refine wpList_make_row _ rfl _ _ 59 rfl 3 i0 (.int .i64 0) Tryz.underlying59 hi hz0 hz1 rfl .i64 .i64 32 rfl rfl (by rw [hz2]; omega) (by omega) ?_; rw [← hD]; clear hD)
      go_loopw [5] (fun i wz => ∃ k : Nat, k ≤ 32 ∧ i = .int .i64 k ∧ wz.rowIs D 3 32 (fun j => .int .i64 (if j < k then 5 else 0)) ∧ wz.rowIs B 3 288 (fun j => .int .i64 (fl j)) ∧ Hid (Below w.heap.size w wz)) (fun i _ => 32 - (intOf i).toNat)
      case atStart => exact ⟨0, by omega, rfl, R2.congr (fun j _ => by rw [if_neg (by omega)]), hrow2, HB3⟩
      case round =>
        obtain ⟨k, hk, rfl, hrow, hrB, hb⟩ := hrel
        clear R2 hrow2 HB3
        by_cases hlt : k < 32
        · have f1 := hrow.frozen k
          have c1 := hrow.cell hlt
          have H1 : Hid ((wr.setCell ⟨D, k, none⟩ (.int .i64 5)).rowIs D 3 32 (fun j => .int .i64 (if j < k + 1 then 5 else 0))) := (hrow.set k _).congr (fun j _ => by
            by_cases h : j = k
            · rw [if_pos h, if_pos (by omega)]
            · rw [if_neg h]
              by_cases h2 : j < k
              · rw [if_pos h2, if_pos (by omega)]
              · rw [if_neg h2, if_neg (by omega)])
          have H2 : Hid ((wr.setCell ⟨D, k, none⟩ (.int .i64 5)).rowIs B 3 288 (fun j => .int .i64 (fl j))) := World.rowIs.setOther (a := ⟨D, k, none⟩) hrB (fun e => hne e.symm) _
          have H3 : Hid (Below w.heap.size w (wr.setCell ⟨D, k, none⟩ (.int .i64 5))) := hb.out.setCell HDw.out _
          have hkz : (k : Int) < 32 := by omega
          clear hrow hb hrB
          go_wp2
          go_roundw
          case rel => exact ⟨k + 1, by omega, by go_num, H1.out, H2.out, H3⟩
          case measure => simp [intOf]; omega
        · obtain rfl : k = 32 := by omega
          clear hlt
          go_wp2
          go_ret2
          exact ⟨B, D, rfl, hrB, hrow.congr (fun j hj => by rw [if_pos hj]), hb.out⟩

end Go.Proofs.YtiahbicodlgmhaaGreatDoor

/- The document's Length, Distance. -/
namespace Go.Proofs.YtiahbicodlgmhaaGreatDoor
open Go.RowKit

def lbT : List Int := [3, 4, 5, 6, 7, 8, 9, 10, 11, 13, 15, 17, 19, 23, 27, 31, 35, 43, 51, 59, 67, 83, 99, 115, 131, 163, 195, 227, 258]
def lxT : List Int := [0, 0, 0, 0, 0, 0, 0, 0, 1, 1, 1, 1, 2, 2, 2, 2, 3, 3, 3, 3, 4, 4, 4, 4, 5, 5, 5, 5, 0]
def dbT : List Int := [1, 2, 3, 4, 5, 7, 9, 13, 17, 25, 33, 49, 65, 97, 129, 193, 257, 385, 513, 769, 1025, 1537, 2049, 3073, 4097, 6145, 8193, 12289, 16385, 24577]
def dxT : List Int := [0, 0, 0, 0, 1, 1, 2, 2, 3, 3, 4, 4, 5, 5, 6, 6, 7, 7, 8, 8, 9, 9, 10, 10, 11, 11, 12, 12, 13, 13]

theorem lb_is : ∀ k, k < 29 → lbT.getD k 0 = lb (k + 257) ∧ lxT.getD k 0 = lx (k + 257) := by decide +kernel
theorem db_is : ∀ k, k < 30 → dbT.getD k 0 = db k ∧ dxT.getD k 0 = dx k := by decide +kernel

theorem lit_row (w : World) (l : List Int) (cs : Array Value) (h : cs = (l.map (Value.int .i64)).toArray) : (w.alloc (Obj.cells cs 3)).rowIs w.heap.size 3 cs.size (fun j => .int .i64 (l.getD j 0)) := by
  subst h
  refine World.rowIs_alloc w _ 3 _ (fun i hi => ?_)
  have hi' : i < l.length := by simpa using hi
  simp [List.getD, List.getElem?_eq_getElem hi']

set_option maxRecDepth 100000 in
set_option maxHeartbeats 4000000 in
theorem xlength_no (n : Int) (w : World) (h : n < 257 ∨ 285 < n) : Calls Tryz.prog 83 #[.int .i64 n] w fun e w' => e = .returned (.tuple #[.int .i64 0, .int .i64 0, .bool false]) ∧ Below w.heap.size w w' := by
  have b2 : Below w.heap.size w ((w.alloc (Obj.cells #[Value.int IntKind.i64 3, Value.int IntKind.i64 4, Value.int IntKind.i64 5, Value.int IntKind.i64 6, Value.int IntKind.i64 7, Value.int IntKind.i64 8, Value.int IntKind.i64 9, Value.int IntKind.i64 10, Value.int IntKind.i64 11, Value.int IntKind.i64 13, Value.int IntKind.i64 15, Value.int IntKind.i64 17, Value.int IntKind.i64 19, Value.int IntKind.i64 23, Value.int IntKind.i64 27, Value.int IntKind.i64 31, Value.int IntKind.i64 35, Value.int IntKind.i64 43, Value.int IntKind.i64 51, Value.int IntKind.i64 59, Value.int IntKind.i64 67, Value.int IntKind.i64 83, Value.int IntKind.i64 99, Value.int IntKind.i64 115, Value.int IntKind.i64 131, Value.int IntKind.i64 163, Value.int IntKind.i64 195, Value.int IntKind.i64 227, Value.int IntKind.i64 258] 3)).alloc (Obj.cells #[Value.int IntKind.i64 0, Value.int IntKind.i64 0, Value.int IntKind.i64 0, Value.int IntKind.i64 0, Value.int IntKind.i64 0, Value.int IntKind.i64 0, Value.int IntKind.i64 0, Value.int IntKind.i64 0, Value.int IntKind.i64 1, Value.int IntKind.i64 1, Value.int IntKind.i64 1, Value.int IntKind.i64 1, Value.int IntKind.i64 2, Value.int IntKind.i64 2, Value.int IntKind.i64 2, Value.int IntKind.i64 2, Value.int IntKind.i64 3, Value.int IntKind.i64 3, Value.int IntKind.i64 3, Value.int IntKind.i64 3, Value.int IntKind.i64 4, Value.int IntKind.i64 4, Value.int IntKind.i64 4, Value.int IntKind.i64 4, Value.int IntKind.i64 5, Value.int IntKind.i64 5, Value.int IntKind.i64 5, Value.int IntKind.i64 5, Value.int IntKind.i64 0] 3)) := ((Below.refl _ _).alloc (Nat.le_refl _) _).alloc (by simp) _
  by_cases h1 : n < 257
  · clear h
    go_enter Tryz.func83, Tryz.ntmps83
    go_wp2
    go_ret3
    exact ⟨rfl, b2⟩
  · have h2 : 285 < n := by omega
    have d1 : decide (n < 257) = false := by simp; omega
    clear h
    go_enter Tryz.func83, Tryz.ntmps83
    go_wp2
    go_ret3
    exact ⟨rfl, b2⟩

set_option maxRecDepth 100000 in
set_option maxHeartbeats 4000000 in
theorem xlength_yes (s : Nat) (w : World) (h0 : 257 ≤ s) (h1 : s ≤ 285) : Calls Tryz.prog 83 #[.int .i64 s] w fun e w' => e = .returned (.tuple #[.int .i64 (lb s), .int .i64 (lx s), .bool true]) ∧ Below w.heap.size w w' := by
  have d1 : decide ((s : Int) < 257) = false := by simp; try omega
  have d2 : decide ((285 : Int) < s) = false := by simp; omega
  obtain ⟨k, rfl⟩ : ∃ k, s = k + 257 := ⟨s - 257, by omega⟩
  have hk : k < 29 := by omega
  obtain ⟨e1, e2⟩ := lb_is k hk
  have b2 : Below w.heap.size w ((w.alloc (Obj.cells #[Value.int IntKind.i64 3, Value.int IntKind.i64 4, Value.int IntKind.i64 5, Value.int IntKind.i64 6, Value.int IntKind.i64 7, Value.int IntKind.i64 8, Value.int IntKind.i64 9, Value.int IntKind.i64 10, Value.int IntKind.i64 11, Value.int IntKind.i64 13, Value.int IntKind.i64 15, Value.int IntKind.i64 17, Value.int IntKind.i64 19, Value.int IntKind.i64 23, Value.int IntKind.i64 27, Value.int IntKind.i64 31, Value.int IntKind.i64 35, Value.int IntKind.i64 43, Value.int IntKind.i64 51, Value.int IntKind.i64 59, Value.int IntKind.i64 67, Value.int IntKind.i64 83, Value.int IntKind.i64 99, Value.int IntKind.i64 115, Value.int IntKind.i64 131, Value.int IntKind.i64 163, Value.int IntKind.i64 195, Value.int IntKind.i64 227, Value.int IntKind.i64 258] 3)).alloc (Obj.cells #[Value.int IntKind.i64 0, Value.int IntKind.i64 0, Value.int IntKind.i64 0, Value.int IntKind.i64 0, Value.int IntKind.i64 0, Value.int IntKind.i64 0, Value.int IntKind.i64 0, Value.int IntKind.i64 0, Value.int IntKind.i64 1, Value.int IntKind.i64 1, Value.int IntKind.i64 1, Value.int IntKind.i64 1, Value.int IntKind.i64 2, Value.int IntKind.i64 2, Value.int IntKind.i64 2, Value.int IntKind.i64 2, Value.int IntKind.i64 3, Value.int IntKind.i64 3, Value.int IntKind.i64 3, Value.int IntKind.i64 3, Value.int IntKind.i64 4, Value.int IntKind.i64 4, Value.int IntKind.i64 4, Value.int IntKind.i64 4, Value.int IntKind.i64 5, Value.int IntKind.i64 5, Value.int IntKind.i64 5, Value.int IntKind.i64 5, Value.int IntKind.i64 0] 3)) := ((Below.refl _ _).alloc (Nat.le_refl _) _).alloc (by simp) _
  have r1 := (lit_row w lbT #[Value.int IntKind.i64 3, Value.int IntKind.i64 4, Value.int IntKind.i64 5, Value.int IntKind.i64 6, Value.int IntKind.i64 7, Value.int IntKind.i64 8, Value.int IntKind.i64 9, Value.int IntKind.i64 10, Value.int IntKind.i64 11, Value.int IntKind.i64 13, Value.int IntKind.i64 15, Value.int IntKind.i64 17, Value.int IntKind.i64 19, Value.int IntKind.i64 23, Value.int IntKind.i64 27, Value.int IntKind.i64 31, Value.int IntKind.i64 35, Value.int IntKind.i64 43, Value.int IntKind.i64 51, Value.int IntKind.i64 59, Value.int IntKind.i64 67, Value.int IntKind.i64 83, Value.int IntKind.i64 99, Value.int IntKind.i64 115, Value.int IntKind.i64 131, Value.int IntKind.i64 163, Value.int IntKind.i64 195, Value.int IntKind.i64 227, Value.int IntKind.i64 258] rfl).alloc (Obj.cells #[Value.int IntKind.i64 0, Value.int IntKind.i64 0, Value.int IntKind.i64 0, Value.int IntKind.i64 0, Value.int IntKind.i64 0, Value.int IntKind.i64 0, Value.int IntKind.i64 0, Value.int IntKind.i64 0, Value.int IntKind.i64 1, Value.int IntKind.i64 1, Value.int IntKind.i64 1, Value.int IntKind.i64 1, Value.int IntKind.i64 2, Value.int IntKind.i64 2, Value.int IntKind.i64 2, Value.int IntKind.i64 2, Value.int IntKind.i64 3, Value.int IntKind.i64 3, Value.int IntKind.i64 3, Value.int IntKind.i64 3, Value.int IntKind.i64 4, Value.int IntKind.i64 4, Value.int IntKind.i64 4, Value.int IntKind.i64 4, Value.int IntKind.i64 5, Value.int IntKind.i64 5, Value.int IntKind.i64 5, Value.int IntKind.i64 5, Value.int IntKind.i64 0] 3)
  have sz1 : (w.alloc (Obj.cells #[Value.int IntKind.i64 3, Value.int IntKind.i64 4, Value.int IntKind.i64 5, Value.int IntKind.i64 6, Value.int IntKind.i64 7, Value.int IntKind.i64 8, Value.int IntKind.i64 9, Value.int IntKind.i64 10, Value.int IntKind.i64 11, Value.int IntKind.i64 13, Value.int IntKind.i64 15, Value.int IntKind.i64 17, Value.int IntKind.i64 19, Value.int IntKind.i64 23, Value.int IntKind.i64 27, Value.int IntKind.i64 31, Value.int IntKind.i64 35, Value.int IntKind.i64 43, Value.int IntKind.i64 51, Value.int IntKind.i64 59, Value.int IntKind.i64 67, Value.int IntKind.i64 83, Value.int IntKind.i64 99, Value.int IntKind.i64 115, Value.int IntKind.i64 131, Value.int IntKind.i64 163, Value.int IntKind.i64 195, Value.int IntKind.i64 227, Value.int IntKind.i64 258] 3)).heap.size = w.heap.size + 1 := by simp
  have r2 := lit_row (w.alloc (Obj.cells #[Value.int IntKind.i64 3, Value.int IntKind.i64 4, Value.int IntKind.i64 5, Value.int IntKind.i64 6, Value.int IntKind.i64 7, Value.int IntKind.i64 8, Value.int IntKind.i64 9, Value.int IntKind.i64 10, Value.int IntKind.i64 11, Value.int IntKind.i64 13, Value.int IntKind.i64 15, Value.int IntKind.i64 17, Value.int IntKind.i64 19, Value.int IntKind.i64 23, Value.int IntKind.i64 27, Value.int IntKind.i64 31, Value.int IntKind.i64 35, Value.int IntKind.i64 43, Value.int IntKind.i64 51, Value.int IntKind.i64 59, Value.int IntKind.i64 67, Value.int IntKind.i64 83, Value.int IntKind.i64 99, Value.int IntKind.i64 115, Value.int IntKind.i64 131, Value.int IntKind.i64 163, Value.int IntKind.i64 195, Value.int IntKind.i64 227, Value.int IntKind.i64 258] 3)) lxT #[Value.int IntKind.i64 0, Value.int IntKind.i64 0, Value.int IntKind.i64 0, Value.int IntKind.i64 0, Value.int IntKind.i64 0, Value.int IntKind.i64 0, Value.int IntKind.i64 0, Value.int IntKind.i64 0, Value.int IntKind.i64 1, Value.int IntKind.i64 1, Value.int IntKind.i64 1, Value.int IntKind.i64 1, Value.int IntKind.i64 2, Value.int IntKind.i64 2, Value.int IntKind.i64 2, Value.int IntKind.i64 2, Value.int IntKind.i64 3, Value.int IntKind.i64 3, Value.int IntKind.i64 3, Value.int IntKind.i64 3, Value.int IntKind.i64 4, Value.int IntKind.i64 4, Value.int IntKind.i64 4, Value.int IntKind.i64 4, Value.int IntKind.i64 5, Value.int IntKind.i64 5, Value.int IntKind.i64 5, Value.int IntKind.i64 5, Value.int IntKind.i64 0] rfl
  have c1 := r1.cell (i := k) (by simpa using hk)
  have c2 := r2.cell (i := k) (by simpa using hk)
  rw [sz1] at c2
  rw [e1] at c1
  rw [e2] at c2
  obtain ⟨z, hz⟩ : ∃ z : Int, z = ((k + 257 : Nat) : Int) := ⟨_, rfl⟩
  have hzk : z - 257 = k := by omega
  have hzw : IntKind.i64.wrap (z - 257) = k := by rw [hzk]; exact wraps_i64 _ (by omega) (by omega)
  have z1 : 257 ≤ z := by omega
  have z2 : z ≤ 285 := by omega
  rw [← hz] at d1 d2 ⊢
  generalize ((lb (k + 257) : Nat) : Int) = bb at *
  generalize ((lx (k + 257) : Nat) : Int) = xx at *
  clear r1 r2 e1 e2 hz
  go_enter Tryz.func83, Tryz.ntmps83
  go_wp2_with fail
  go_region
  go_wp2
  go_ret3
  exact ⟨rfl, b2.drew⟩

end Go.Proofs.YtiahbicodlgmhaaGreatDoor

/- The document's Distance. -/
namespace Go.Proofs.YtiahbicodlgmhaaGreatDoor
open Go.RowKit

set_option maxRecDepth 100000 in
set_option maxHeartbeats 4000000 in
theorem xdistance_no (n : Int) (w : World) (h : n < 0 ∨ 29 < n) : Calls Tryz.prog 84 #[.int .i64 n] w fun e w' => e = .returned (.tuple #[.int .i64 0, .int .i64 0, .bool false]) ∧ Below w.heap.size w w' := by
  have b2 : Below w.heap.size w ((w.alloc (Obj.cells #[Value.int IntKind.i64 1, Value.int IntKind.i64 2, Value.int IntKind.i64 3, Value.int IntKind.i64 4, Value.int IntKind.i64 5, Value.int IntKind.i64 7, Value.int IntKind.i64 9, Value.int IntKind.i64 13, Value.int IntKind.i64 17, Value.int IntKind.i64 25, Value.int IntKind.i64 33, Value.int IntKind.i64 49, Value.int IntKind.i64 65, Value.int IntKind.i64 97, Value.int IntKind.i64 129, Value.int IntKind.i64 193, Value.int IntKind.i64 257, Value.int IntKind.i64 385, Value.int IntKind.i64 513, Value.int IntKind.i64 769, Value.int IntKind.i64 1025, Value.int IntKind.i64 1537, Value.int IntKind.i64 2049, Value.int IntKind.i64 3073, Value.int IntKind.i64 4097, Value.int IntKind.i64 6145, Value.int IntKind.i64 8193, Value.int IntKind.i64 12289, Value.int IntKind.i64 16385, Value.int IntKind.i64 24577] 3)).alloc (Obj.cells #[Value.int IntKind.i64 0, Value.int IntKind.i64 0, Value.int IntKind.i64 0, Value.int IntKind.i64 0, Value.int IntKind.i64 1, Value.int IntKind.i64 1, Value.int IntKind.i64 2, Value.int IntKind.i64 2, Value.int IntKind.i64 3, Value.int IntKind.i64 3, Value.int IntKind.i64 4, Value.int IntKind.i64 4, Value.int IntKind.i64 5, Value.int IntKind.i64 5, Value.int IntKind.i64 6, Value.int IntKind.i64 6, Value.int IntKind.i64 7, Value.int IntKind.i64 7, Value.int IntKind.i64 8, Value.int IntKind.i64 8, Value.int IntKind.i64 9, Value.int IntKind.i64 9, Value.int IntKind.i64 10, Value.int IntKind.i64 10, Value.int IntKind.i64 11, Value.int IntKind.i64 11, Value.int IntKind.i64 12, Value.int IntKind.i64 12, Value.int IntKind.i64 13, Value.int IntKind.i64 13] 3)) := ((Below.refl _ _).alloc (Nat.le_refl _) _).alloc (by simp) _
  by_cases h1 : n < 0
  · clear h
    go_enter Tryz.func84, Tryz.ntmps84
    go_wp2
    go_ret3
    exact ⟨rfl, b2⟩
  · have h2 : 29 < n := by omega
    have d1 : decide (n < 0) = false := by simp; omega
    clear h
    go_enter Tryz.func84, Tryz.ntmps84
    go_wp2
    go_ret3
    exact ⟨rfl, b2⟩

set_option maxRecDepth 100000 in
set_option maxHeartbeats 4000000 in
theorem xdistance_yes (k : Nat) (w : World) (hk : k < 30) : Calls Tryz.prog 84 #[.int .i64 k] w fun e w' => e = .returned (.tuple #[.int .i64 (db k), .int .i64 (dx k), .bool true]) ∧ Below w.heap.size w w' := by
  have d1 : decide ((k : Int) < 0) = false := by simp; try omega
  have d2 : decide ((29 : Int) < k) = false := by simp; omega
  obtain ⟨e1, e2⟩ := db_is k hk
  have b2 : Below w.heap.size w ((w.alloc (Obj.cells #[Value.int IntKind.i64 1, Value.int IntKind.i64 2, Value.int IntKind.i64 3, Value.int IntKind.i64 4, Value.int IntKind.i64 5, Value.int IntKind.i64 7, Value.int IntKind.i64 9, Value.int IntKind.i64 13, Value.int IntKind.i64 17, Value.int IntKind.i64 25, Value.int IntKind.i64 33, Value.int IntKind.i64 49, Value.int IntKind.i64 65, Value.int IntKind.i64 97, Value.int IntKind.i64 129, Value.int IntKind.i64 193, Value.int IntKind.i64 257, Value.int IntKind.i64 385, Value.int IntKind.i64 513, Value.int IntKind.i64 769, Value.int IntKind.i64 1025, Value.int IntKind.i64 1537, Value.int IntKind.i64 2049, Value.int IntKind.i64 3073, Value.int IntKind.i64 4097, Value.int IntKind.i64 6145, Value.int IntKind.i64 8193, Value.int IntKind.i64 12289, Value.int IntKind.i64 16385, Value.int IntKind.i64 24577] 3)).alloc (Obj.cells #[Value.int IntKind.i64 0, Value.int IntKind.i64 0, Value.int IntKind.i64 0, Value.int IntKind.i64 0, Value.int IntKind.i64 1, Value.int IntKind.i64 1, Value.int IntKind.i64 2, Value.int IntKind.i64 2, Value.int IntKind.i64 3, Value.int IntKind.i64 3, Value.int IntKind.i64 4, Value.int IntKind.i64 4, Value.int IntKind.i64 5, Value.int IntKind.i64 5, Value.int IntKind.i64 6, Value.int IntKind.i64 6, Value.int IntKind.i64 7, Value.int IntKind.i64 7, Value.int IntKind.i64 8, Value.int IntKind.i64 8, Value.int IntKind.i64 9, Value.int IntKind.i64 9, Value.int IntKind.i64 10, Value.int IntKind.i64 10, Value.int IntKind.i64 11, Value.int IntKind.i64 11, Value.int IntKind.i64 12, Value.int IntKind.i64 12, Value.int IntKind.i64 13, Value.int IntKind.i64 13] 3)) := ((Below.refl _ _).alloc (Nat.le_refl _) _).alloc (by simp) _
  have r1 := (lit_row w dbT #[Value.int IntKind.i64 1, Value.int IntKind.i64 2, Value.int IntKind.i64 3, Value.int IntKind.i64 4, Value.int IntKind.i64 5, Value.int IntKind.i64 7, Value.int IntKind.i64 9, Value.int IntKind.i64 13, Value.int IntKind.i64 17, Value.int IntKind.i64 25, Value.int IntKind.i64 33, Value.int IntKind.i64 49, Value.int IntKind.i64 65, Value.int IntKind.i64 97, Value.int IntKind.i64 129, Value.int IntKind.i64 193, Value.int IntKind.i64 257, Value.int IntKind.i64 385, Value.int IntKind.i64 513, Value.int IntKind.i64 769, Value.int IntKind.i64 1025, Value.int IntKind.i64 1537, Value.int IntKind.i64 2049, Value.int IntKind.i64 3073, Value.int IntKind.i64 4097, Value.int IntKind.i64 6145, Value.int IntKind.i64 8193, Value.int IntKind.i64 12289, Value.int IntKind.i64 16385, Value.int IntKind.i64 24577] rfl).alloc (Obj.cells #[Value.int IntKind.i64 0, Value.int IntKind.i64 0, Value.int IntKind.i64 0, Value.int IntKind.i64 0, Value.int IntKind.i64 1, Value.int IntKind.i64 1, Value.int IntKind.i64 2, Value.int IntKind.i64 2, Value.int IntKind.i64 3, Value.int IntKind.i64 3, Value.int IntKind.i64 4, Value.int IntKind.i64 4, Value.int IntKind.i64 5, Value.int IntKind.i64 5, Value.int IntKind.i64 6, Value.int IntKind.i64 6, Value.int IntKind.i64 7, Value.int IntKind.i64 7, Value.int IntKind.i64 8, Value.int IntKind.i64 8, Value.int IntKind.i64 9, Value.int IntKind.i64 9, Value.int IntKind.i64 10, Value.int IntKind.i64 10, Value.int IntKind.i64 11, Value.int IntKind.i64 11, Value.int IntKind.i64 12, Value.int IntKind.i64 12, Value.int IntKind.i64 13, Value.int IntKind.i64 13] 3)
  have sz1 : (w.alloc (Obj.cells #[Value.int IntKind.i64 1, Value.int IntKind.i64 2, Value.int IntKind.i64 3, Value.int IntKind.i64 4, Value.int IntKind.i64 5, Value.int IntKind.i64 7, Value.int IntKind.i64 9, Value.int IntKind.i64 13, Value.int IntKind.i64 17, Value.int IntKind.i64 25, Value.int IntKind.i64 33, Value.int IntKind.i64 49, Value.int IntKind.i64 65, Value.int IntKind.i64 97, Value.int IntKind.i64 129, Value.int IntKind.i64 193, Value.int IntKind.i64 257, Value.int IntKind.i64 385, Value.int IntKind.i64 513, Value.int IntKind.i64 769, Value.int IntKind.i64 1025, Value.int IntKind.i64 1537, Value.int IntKind.i64 2049, Value.int IntKind.i64 3073, Value.int IntKind.i64 4097, Value.int IntKind.i64 6145, Value.int IntKind.i64 8193, Value.int IntKind.i64 12289, Value.int IntKind.i64 16385, Value.int IntKind.i64 24577] 3)).heap.size = w.heap.size + 1 := by simp
  have r2 := lit_row (w.alloc (Obj.cells #[Value.int IntKind.i64 1, Value.int IntKind.i64 2, Value.int IntKind.i64 3, Value.int IntKind.i64 4, Value.int IntKind.i64 5, Value.int IntKind.i64 7, Value.int IntKind.i64 9, Value.int IntKind.i64 13, Value.int IntKind.i64 17, Value.int IntKind.i64 25, Value.int IntKind.i64 33, Value.int IntKind.i64 49, Value.int IntKind.i64 65, Value.int IntKind.i64 97, Value.int IntKind.i64 129, Value.int IntKind.i64 193, Value.int IntKind.i64 257, Value.int IntKind.i64 385, Value.int IntKind.i64 513, Value.int IntKind.i64 769, Value.int IntKind.i64 1025, Value.int IntKind.i64 1537, Value.int IntKind.i64 2049, Value.int IntKind.i64 3073, Value.int IntKind.i64 4097, Value.int IntKind.i64 6145, Value.int IntKind.i64 8193, Value.int IntKind.i64 12289, Value.int IntKind.i64 16385, Value.int IntKind.i64 24577] 3)) dxT #[Value.int IntKind.i64 0, Value.int IntKind.i64 0, Value.int IntKind.i64 0, Value.int IntKind.i64 0, Value.int IntKind.i64 1, Value.int IntKind.i64 1, Value.int IntKind.i64 2, Value.int IntKind.i64 2, Value.int IntKind.i64 3, Value.int IntKind.i64 3, Value.int IntKind.i64 4, Value.int IntKind.i64 4, Value.int IntKind.i64 5, Value.int IntKind.i64 5, Value.int IntKind.i64 6, Value.int IntKind.i64 6, Value.int IntKind.i64 7, Value.int IntKind.i64 7, Value.int IntKind.i64 8, Value.int IntKind.i64 8, Value.int IntKind.i64 9, Value.int IntKind.i64 9, Value.int IntKind.i64 10, Value.int IntKind.i64 10, Value.int IntKind.i64 11, Value.int IntKind.i64 11, Value.int IntKind.i64 12, Value.int IntKind.i64 12, Value.int IntKind.i64 13, Value.int IntKind.i64 13] rfl
  have c1 := r1.cell (i := k) (by simpa using hk)
  have c2 := r2.cell (i := k) (by simpa using hk)
  rw [sz1] at c2
  rw [e1] at c1
  rw [e2] at c2
  have z2 : (k : Int) ≤ 29 := by omega
  have z3 : (k : Int) < 30 := by omega
  generalize ((db k : Nat) : Int) = bb at *
  generalize ((dx k : Nat) : Int) = xx at *
  clear r1 r2 e1 e2
  go_enter Tryz.func84, Tryz.ntmps84
  go_wp2_with fail
  go_region
  go_wp2
  go_ret3
  exact ⟨rfl, b2.drew⟩

end Go.Proofs.YtiahbicodlgmhaaGreatDoor
