/- The document's Distance. -/
import Derived.Test.YtjkfmnahmbnbnaaDoorXLen
namespace Go.Proofs.YtjkfmnahmbnbnaaDoor
open Go.RowKit

set_option maxRecDepth 100000 in
set_option maxHeartbeats 4000000 in
theorem xdistance_no (n : Int) (w : World) (h : n < 0 ∨ 29 < n) : Calls Tryd.prog 13 #[.int .i64 n] w fun e w' => e = .returned (.tuple #[.int .i64 0, .int .i64 0, .bool false]) ∧ Below w.heap.size w w' := by
  have b2 : Below w.heap.size w ((w.alloc (Obj.cells #[Value.int IntKind.i64 1, Value.int IntKind.i64 2, Value.int IntKind.i64 3, Value.int IntKind.i64 4, Value.int IntKind.i64 5, Value.int IntKind.i64 7, Value.int IntKind.i64 9, Value.int IntKind.i64 13, Value.int IntKind.i64 17, Value.int IntKind.i64 25, Value.int IntKind.i64 33, Value.int IntKind.i64 49, Value.int IntKind.i64 65, Value.int IntKind.i64 97, Value.int IntKind.i64 129, Value.int IntKind.i64 193, Value.int IntKind.i64 257, Value.int IntKind.i64 385, Value.int IntKind.i64 513, Value.int IntKind.i64 769, Value.int IntKind.i64 1025, Value.int IntKind.i64 1537, Value.int IntKind.i64 2049, Value.int IntKind.i64 3073, Value.int IntKind.i64 4097, Value.int IntKind.i64 6145, Value.int IntKind.i64 8193, Value.int IntKind.i64 12289, Value.int IntKind.i64 16385, Value.int IntKind.i64 24577] 3)).alloc (Obj.cells #[Value.int IntKind.i64 0, Value.int IntKind.i64 0, Value.int IntKind.i64 0, Value.int IntKind.i64 0, Value.int IntKind.i64 1, Value.int IntKind.i64 1, Value.int IntKind.i64 2, Value.int IntKind.i64 2, Value.int IntKind.i64 3, Value.int IntKind.i64 3, Value.int IntKind.i64 4, Value.int IntKind.i64 4, Value.int IntKind.i64 5, Value.int IntKind.i64 5, Value.int IntKind.i64 6, Value.int IntKind.i64 6, Value.int IntKind.i64 7, Value.int IntKind.i64 7, Value.int IntKind.i64 8, Value.int IntKind.i64 8, Value.int IntKind.i64 9, Value.int IntKind.i64 9, Value.int IntKind.i64 10, Value.int IntKind.i64 10, Value.int IntKind.i64 11, Value.int IntKind.i64 11, Value.int IntKind.i64 12, Value.int IntKind.i64 12, Value.int IntKind.i64 13, Value.int IntKind.i64 13] 3)) := ((Below.refl _ _).alloc (Nat.le_refl _) _).alloc (by simp) _
  by_cases h1 : n < 0
  · clear h
    go_enter Tryd.func13, Tryd.ntmps13
    go_wp2
    go_ret3
    exact ⟨rfl, b2⟩
  · have h2 : 29 < n := by omega
    have d1 : decide (n < 0) = false := by simp; omega
    clear h
    go_enter Tryd.func13, Tryd.ntmps13
    go_wp2
    go_ret3
    exact ⟨rfl, b2⟩

set_option maxRecDepth 100000 in
set_option maxHeartbeats 4000000 in
theorem xdistance_yes (k : Nat) (w : World) (hk : k < 30) : Calls Tryd.prog 13 #[.int .i64 k] w fun e w' => e = .returned (.tuple #[.int .i64 (db k), .int .i64 (dx k), .bool true]) ∧ Below w.heap.size w w' := by
  have d1 : decide ((k : Int) < 0) = false := by simp; try omega
  have d2 : decide ((29 : Int) < k) = false := by simp; omega
  obtain ⟨e1, e2⟩ := db_is k hk
  have b2 : Below w.heap.size w ((w.alloc (Obj.cells #[Value.int IntKind.i64 1, Value.int IntKind.i64 2, Value.int IntKind.i64 3, Value.int IntKind.i64 4, Value.int IntKind.i64 5, Value.int IntKind.i64 7, Value.int IntKind.i64 9, Value.int IntKind.i64 13, Value.int IntKind.i64 17, Value.int IntKind.i64 25, Value.int IntKind.i64 33, Value.int IntKind.i64 49, Value.int IntKind.i64 65, Value.int IntKind.i64 97, Value.int IntKind.i64 129, Value.int IntKind.i64 193, Value.int IntKind.i64 257, Value.int IntKind.i64 385, Value.int IntKind.i64 513, Value.int IntKind.i64 769, Value.int IntKind.i64 1025, Value.int IntKind.i64 1537, Value.int IntKind.i64 2049, Value.int IntKind.i64 3073, Value.int IntKind.i64 4097, Value.int IntKind.i64 6145, Value.int IntKind.i64 8193, Value.int IntKind.i64 12289, Value.int IntKind.i64 16385, Value.int IntKind.i64 24577] 3)).alloc (Obj.cells #[Value.int IntKind.i64 0, Value.int IntKind.i64 0, Value.int IntKind.i64 0, Value.int IntKind.i64 0, Value.int IntKind.i64 1, Value.int IntKind.i64 1, Value.int IntKind.i64 2, Value.int IntKind.i64 2, Value.int IntKind.i64 3, Value.int IntKind.i64 3, Value.int IntKind.i64 4, Value.int IntKind.i64 4, Value.int IntKind.i64 5, Value.int IntKind.i64 5, Value.int IntKind.i64 6, Value.int IntKind.i64 6, Value.int IntKind.i64 7, Value.int IntKind.i64 7, Value.int IntKind.i64 8, Value.int IntKind.i64 8, Value.int IntKind.i64 9, Value.int IntKind.i64 9, Value.int IntKind.i64 10, Value.int IntKind.i64 10, Value.int IntKind.i64 11, Value.int IntKind.i64 11, Value.int IntKind.i64 12, Value.int IntKind.i64 12, Value.int IntKind.i64 13, Value.int IntKind.i64 13] 3)) := ((Below.refl _ _).alloc (Nat.le_refl _) _).alloc (by simp) _
  have r1 := (lit_row w dbT #[Value.int IntKind.i64 1, Value.int IntKind.i64 2, Value.int IntKind.i64 3, Value.int IntKind.i64 4, Value.int IntKind.i64 5, Value.int IntKind.i64 7, Value.int IntKind.i64 9, Value.int IntKind.i64 13, Value.int IntKind.i64 17, Value.int IntKind.i64 25, Value.int IntKind.i64 33, Value.int IntKind.i64 49, Value.int IntKind.i64 65, Value.int IntKind.i64 97, Value.int IntKind.i64 129, Value.int IntKind.i64 193, Value.int IntKind.i64 257, Value.int IntKind.i64 385, Value.int IntKind.i64 513, Value.int IntKind.i64 769, Value.int IntKind.i64 1025, Value.int IntKind.i64 1537, Value.int IntKind.i64 2049, Value.int IntKind.i64 3073, Value.int IntKind.i64 4097, Value.int IntKind.i64 6145, Value.int IntKind.i64 8193, Value.int IntKind.i64 12289, Value.int IntKind.i64 16385, Value.int IntKind.i64 24577] rfl).alloc (Obj.cells #[Value.int IntKind.i64 0, Value.int IntKind.i64 0, Value.int IntKind.i64 0, Value.int IntKind.i64 0, Value.int IntKind.i64 1, Value.int IntKind.i64 1, Value.int IntKind.i64 2, Value.int IntKind.i64 2, Value.int IntKind.i64 3, Value.int IntKind.i64 3, Value.int IntKind.i64 4, Value.int IntKind.i64 4, Value.int IntKind.i64 5, Value.int IntKind.i64 5, Value.int IntKind.i64 6, Value.int IntKind.i64 6, Value.int IntKind.i64 7, Value.int IntKind.i64 7, Value.int IntKind.i64 8, Value.int IntKind.i64 8, Value.int IntKind.i64 9, Value.int IntKind.i64 9, Value.int IntKind.i64 10, Value.int IntKind.i64 10, Value.int IntKind.i64 11, Value.int IntKind.i64 11, Value.int IntKind.i64 12, Value.int IntKind.i64 12, Value.int IntKind.i64 13, Value.int IntKind.i64 13] 3)
  have sz1 : (w.alloc (Obj.cells #[Value.int IntKind.i64 1, Value.int IntKind.i64 2, Value.int IntKind.i64 3, Value.int IntKind.i64 4, Value.int IntKind.i64 5, Value.int IntKind.i64 7, Value.int IntKind.i64 9, Value.int IntKind.i64 13, Value.int IntKind.i64 17, Value.int IntKind.i64 25, Value.int IntKind.i64 33, Value.int IntKind.i64 49, Value.int IntKind.i64 65, Value.int IntKind.i64 97, Value.int IntKind.i64 129, Value.int IntKind.i64 193, Value.int IntKind.i64 257, Value.int IntKind.i64 385, Value.int IntKind.i64 513, Value.int IntKind.i64 769, Value.int IntKind.i64 1025, Value.int IntKind.i64 1537, Value.int IntKind.i64 2049, Value.int IntKind.i64 3073, Value.int IntKind.i64 4097, Value.int IntKind.i64 6145, Value.int IntKind.i64 8193, Value.int IntKind.i64 12289, Value.int IntKind.i64 16385, Value.int IntKind.i64 24577] 3)).heap.size = w.heap.size + 1 := by simp
  have r2 := lit_row (w.alloc (Obj.cells #[Value.int IntKind.i64 1, Value.int IntKind.i64 2, Value.int IntKind.i64 3, Value.int IntKind.i64 4, Value.int IntKind.i64 5, Value.int IntKind.i64 7, Value.int IntKind.i64 9, Value.int IntKind.i64 13, Value.int IntKind.i64 17, Value.int IntKind.i64 25, Value.int IntKind.i64 33, Value.int IntKind.i64 49, Value.int IntKind.i64 65, Value.int IntKind.i64 97, Value.int IntKind.i64 129, Value.int IntKind.i64 193, Value.int IntKind.i64 257, Value.int IntKind.i64 385, Value.int IntKind.i64 513, Value.int IntKind.i64 769, Value.int IntKind.i64 1025, Value.int IntKind.i64 1537, Value.int IntKind.i64 2049, Value.int IntKind.i64 3073, Value.int IntKind.i64 4097, Value.int IntKind.i64 6145, Value.int IntKind.i64 8193, Value.int IntKind.i64 12289, Value.int IntKind.i64 16385, Value.int IntKind.i64 24577] 3)) dxT #[Value.int IntKind.i64 0, Value.int IntKind.i64 0, Value.int IntKind.i64 0, Value.int IntKind.i64 0, Value.int IntKind.i64 1, Value.int IntKind.i64 1, Value.int IntKind.i64 2, Value.int IntKind.i64 2, Value.int IntKind.i64 3, Value.int IntKind.i64 3, Value.int IntKind.i64 4, Value.int IntKind.i64 4, Value.int IntKind.i64 5, Value.int IntKind.i64 5, Value.int IntKind.i64 6, Value.int IntKind.i64 6, Value.int IntKind.i64 7, Value.int IntKind.i64 7, Value.int IntKind.i64 8, Value.int IntKind.i64 8, Value.int IntKind.i64 9, Value.int IntKind.i64 9, Value.int IntKind.i64 10, Value.int IntKind.i64 10, Value.int IntKind.i64 11, Value.int IntKind.i64 11, Value.int IntKind.i64 12, Value.int IntKind.i64 12, Value.int IntKind.i64 13, Value.int IntKind.i64 13] rfl
  have c1 := r1.cell (i := k) (by simpa using hk)
  have c2 := r2.cell (i := k) (by simpa using hk)
  rw [sz1] at c2
  rw [e1] at c1
  rw [e2] at c2
  have z2 : (k : Int) ≤ 29 := by omega
  have z3 : (k : Int) < 30 := by omega
  generalize ((db k : Nat) : Int) = bb at *
  generalize ((dx k : Nat) : Int) = xx at *
  clear r1 r2 e1 e2
  go_enter Tryd.func13, Tryd.ntmps13
  go_wp2_with fail
  go_region
  go_wp2
  go_ret3
  exact ⟨rfl, b2.drew⟩

end Go.Proofs.YtjkfmnahmbnbnaaDoor
