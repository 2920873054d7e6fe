/- The document's Length, Distance. -/
import Derived.Test.YtjkfmnahmbnbnaaDoorWLen
namespace Go.Proofs.YtjkfmnahmbnbnaaDoor
open Go.RowKit

def lbT : List Int := [3, 4, 5, 6, 7, 8, 9, 10, 11, 13, 15, 17, 19, 23, 27, 31, 35, 43, 51, 59, 67, 83, 99, 115, 131, 163, 195, 227, 258]
def lxT : List Int := [0, 0, 0, 0, 0, 0, 0, 0, 1, 1, 1, 1, 2, 2, 2, 2, 3, 3, 3, 3, 4, 4, 4, 4, 5, 5, 5, 5, 0]
def dbT : List Int := [1, 2, 3, 4, 5, 7, 9, 13, 17, 25, 33, 49, 65, 97, 129, 193, 257, 385, 513, 769, 1025, 1537, 2049, 3073, 4097, 6145, 8193, 12289, 16385, 24577]
def dxT : List Int := [0, 0, 0, 0, 1, 1, 2, 2, 3, 3, 4, 4, 5, 5, 6, 6, 7, 7, 8, 8, 9, 9, 10, 10, 11, 11, 12, 12, 13, 13]

theorem lb_is : ∀ k, k < 29 → lbT.getD k 0 = lb (k + 257) ∧ lxT.getD k 0 = lx (k + 257) := by decide +kernel
theorem db_is : ∀ k, k < 30 → dbT.getD k 0 = db k ∧ dxT.getD k 0 = dx k := by decide +kernel

theorem lit_row (w : World) (l : List Int) (cs : Array Value) (h : cs = (l.map (Value.int .i64)).toArray) : (w.alloc (Obj.cells cs 3)).rowIs w.heap.size 3 cs.size (fun j => .int .i64 (l.getD j 0)) := by
  subst h
  refine World.rowIs_alloc w _ 3 _ (fun i hi => ?_)
  have hi' : i < l.length := by simpa using hi
  simp [List.getD, List.getElem?_eq_getElem hi']

set_option maxRecDepth 100000 in
set_option maxHeartbeats 4000000 in
theorem xlength_no (n : Int) (w : World) (h : n < 257 ∨ 285 < n) : Calls Tryd.prog 11 #[.int .i64 n] w fun e w' => e = .returned (.tuple #[.int .i64 0, .int .i64 0, .bool false]) ∧ Below w.heap.size w w' := by
  have b2 : Below w.heap.size w ((w.alloc (Obj.cells #[Value.int IntKind.i64 3, Value.int IntKind.i64 4, Value.int IntKind.i64 5, Value.int IntKind.i64 6, Value.int IntKind.i64 7, Value.int IntKind.i64 8, Value.int IntKind.i64 9, Value.int IntKind.i64 10, Value.int IntKind.i64 11, Value.int IntKind.i64 13, Value.int IntKind.i64 15, Value.int IntKind.i64 17, Value.int IntKind.i64 19, Value.int IntKind.i64 23, Value.int IntKind.i64 27, Value.int IntKind.i64 31, Value.int IntKind.i64 35, Value.int IntKind.i64 43, Value.int IntKind.i64 51, Value.int IntKind.i64 59, Value.int IntKind.i64 67, Value.int IntKind.i64 83, Value.int IntKind.i64 99, Value.int IntKind.i64 115, Value.int IntKind.i64 131, Value.int IntKind.i64 163, Value.int IntKind.i64 195, Value.int IntKind.i64 227, Value.int IntKind.i64 258] 3)).alloc (Obj.cells #[Value.int IntKind.i64 0, Value.int IntKind.i64 0, Value.int IntKind.i64 0, Value.int IntKind.i64 0, Value.int IntKind.i64 0, Value.int IntKind.i64 0, Value.int IntKind.i64 0, Value.int IntKind.i64 0, Value.int IntKind.i64 1, Value.int IntKind.i64 1, Value.int IntKind.i64 1, Value.int IntKind.i64 1, Value.int IntKind.i64 2, Value.int IntKind.i64 2, Value.int IntKind.i64 2, Value.int IntKind.i64 2, Value.int IntKind.i64 3, Value.int IntKind.i64 3, Value.int IntKind.i64 3, Value.int IntKind.i64 3, Value.int IntKind.i64 4, Value.int IntKind.i64 4, Value.int IntKind.i64 4, Value.int IntKind.i64 4, Value.int IntKind.i64 5, Value.int IntKind.i64 5, Value.int IntKind.i64 5, Value.int IntKind.i64 5, Value.int IntKind.i64 0] 3)) := ((Below.refl _ _).alloc (Nat.le_refl _) _).alloc (by simp) _
  by_cases h1 : n < 257
  · clear h
    go_enter Tryd.func11, Tryd.ntmps11
    go_wp2
    go_ret3
    exact ⟨rfl, b2⟩
  · have h2 : 285 < n := by omega
    have d1 : decide (n < 257) = false := by simp; omega
    clear h
    go_enter Tryd.func11, Tryd.ntmps11
    go_wp2
    go_ret3
    exact ⟨rfl, b2⟩

set_option maxRecDepth 100000 in
set_option maxHeartbeats 4000000 in
theorem xlength_yes (s : Nat) (w : World) (h0 : 257 ≤ s) (h1 : s ≤ 285) : Calls Tryd.prog 11 #[.int .i64 s] w fun e w' => e = .returned (.tuple #[.int .i64 (lb s), .int .i64 (lx s), .bool true]) ∧ Below w.heap.size w w' := by
  have d1 : decide ((s : Int) < 257) = false := by simp; try omega
  have d2 : decide ((285 : Int) < s) = false := by simp; omega
  obtain ⟨k, rfl⟩ : ∃ k, s = k + 257 := ⟨s - 257, by omega⟩
  have hk : k < 29 := by omega
  obtain ⟨e1, e2⟩ := lb_is k hk
  have b2 : Below w.heap.size w ((w.alloc (Obj.cells #[Value.int IntKind.i64 3, Value.int IntKind.i64 4, Value.int IntKind.i64 5, Value.int IntKind.i64 6, Value.int IntKind.i64 7, Value.int IntKind.i64 8, Value.int IntKind.i64 9, Value.int IntKind.i64 10, Value.int IntKind.i64 11, Value.int IntKind.i64 13, Value.int IntKind.i64 15, Value.int IntKind.i64 17, Value.int IntKind.i64 19, Value.int IntKind.i64 23, Value.int IntKind.i64 27, Value.int IntKind.i64 31, Value.int IntKind.i64 35, Value.int IntKind.i64 43, Value.int IntKind.i64 51, Value.int IntKind.i64 59, Value.int IntKind.i64 67, Value.int IntKind.i64 83, Value.int IntKind.i64 99, Value.int IntKind.i64 115, Value.int IntKind.i64 131, Value.int IntKind.i64 163, Value.int IntKind.i64 195, Value.int IntKind.i64 227, Value.int IntKind.i64 258] 3)).alloc (Obj.cells #[Value.int IntKind.i64 0, Value.int IntKind.i64 0, Value.int IntKind.i64 0, Value.int IntKind.i64 0, Value.int IntKind.i64 0, Value.int IntKind.i64 0, Value.int IntKind.i64 0, Value.int IntKind.i64 0, Value.int IntKind.i64 1, Value.int IntKind.i64 1, Value.int IntKind.i64 1, Value.int IntKind.i64 1, Value.int IntKind.i64 2, Value.int IntKind.i64 2, Value.int IntKind.i64 2, Value.int IntKind.i64 2, Value.int IntKind.i64 3, Value.int IntKind.i64 3, Value.int IntKind.i64 3, Value.int IntKind.i64 3, Value.int IntKind.i64 4, Value.int IntKind.i64 4, Value.int IntKind.i64 4, Value.int IntKind.i64 4, Value.int IntKind.i64 5, Value.int IntKind.i64 5, Value.int IntKind.i64 5, Value.int IntKind.i64 5, Value.int IntKind.i64 0] 3)) := ((Below.refl _ _).alloc (Nat.le_refl _) _).alloc (by simp) _
  have r1 := (lit_row w lbT #[Value.int IntKind.i64 3, Value.int IntKind.i64 4, Value.int IntKind.i64 5, Value.int IntKind.i64 6, Value.int IntKind.i64 7, Value.int IntKind.i64 8, Value.int IntKind.i64 9, Value.int IntKind.i64 10, Value.int IntKind.i64 11, Value.int IntKind.i64 13, Value.int IntKind.i64 15, Value.int IntKind.i64 17, Value.int IntKind.i64 19, Value.int IntKind.i64 23, Value.int IntKind.i64 27, Value.int IntKind.i64 31, Value.int IntKind.i64 35, Value.int IntKind.i64 43, Value.int IntKind.i64 51, Value.int IntKind.i64 59, Value.int IntKind.i64 67, Value.int IntKind.i64 83, Value.int IntKind.i64 99, Value.int IntKind.i64 115, Value.int IntKind.i64 131, Value.int IntKind.i64 163, Value.int IntKind.i64 195, Value.int IntKind.i64 227, Value.int IntKind.i64 258] rfl).alloc (Obj.cells #[Value.int IntKind.i64 0, Value.int IntKind.i64 0, Value.int IntKind.i64 0, Value.int IntKind.i64 0, Value.int IntKind.i64 0, Value.int IntKind.i64 0, Value.int IntKind.i64 0, Value.int IntKind.i64 0, Value.int IntKind.i64 1, Value.int IntKind.i64 1, Value.int IntKind.i64 1, Value.int IntKind.i64 1, Value.int IntKind.i64 2, Value.int IntKind.i64 2, Value.int IntKind.i64 2, Value.int IntKind.i64 2, Value.int IntKind.i64 3, Value.int IntKind.i64 3, Value.int IntKind.i64 3, Value.int IntKind.i64 3, Value.int IntKind.i64 4, Value.int IntKind.i64 4, Value.int IntKind.i64 4, Value.int IntKind.i64 4, Value.int IntKind.i64 5, Value.int IntKind.i64 5, Value.int IntKind.i64 5, Value.int IntKind.i64 5, Value.int IntKind.i64 0] 3)
  have sz1 : (w.alloc (Obj.cells #[Value.int IntKind.i64 3, Value.int IntKind.i64 4, Value.int IntKind.i64 5, Value.int IntKind.i64 6, Value.int IntKind.i64 7, Value.int IntKind.i64 8, Value.int IntKind.i64 9, Value.int IntKind.i64 10, Value.int IntKind.i64 11, Value.int IntKind.i64 13, Value.int IntKind.i64 15, Value.int IntKind.i64 17, Value.int IntKind.i64 19, Value.int IntKind.i64 23, Value.int IntKind.i64 27, Value.int IntKind.i64 31, Value.int IntKind.i64 35, Value.int IntKind.i64 43, Value.int IntKind.i64 51, Value.int IntKind.i64 59, Value.int IntKind.i64 67, Value.int IntKind.i64 83, Value.int IntKind.i64 99, Value.int IntKind.i64 115, Value.int IntKind.i64 131, Value.int IntKind.i64 163, Value.int IntKind.i64 195, Value.int IntKind.i64 227, Value.int IntKind.i64 258] 3)).heap.size = w.heap.size + 1 := by simp
  have r2 := lit_row (w.alloc (Obj.cells #[Value.int IntKind.i64 3, Value.int IntKind.i64 4, Value.int IntKind.i64 5, Value.int IntKind.i64 6, Value.int IntKind.i64 7, Value.int IntKind.i64 8, Value.int IntKind.i64 9, Value.int IntKind.i64 10, Value.int IntKind.i64 11, Value.int IntKind.i64 13, Value.int IntKind.i64 15, Value.int IntKind.i64 17, Value.int IntKind.i64 19, Value.int IntKind.i64 23, Value.int IntKind.i64 27, Value.int IntKind.i64 31, Value.int IntKind.i64 35, Value.int IntKind.i64 43, Value.int IntKind.i64 51, Value.int IntKind.i64 59, Value.int IntKind.i64 67, Value.int IntKind.i64 83, Value.int IntKind.i64 99, Value.int IntKind.i64 115, Value.int IntKind.i64 131, Value.int IntKind.i64 163, Value.int IntKind.i64 195, Value.int IntKind.i64 227, Value.int IntKind.i64 258] 3)) lxT #[Value.int IntKind.i64 0, Value.int IntKind.i64 0, Value.int IntKind.i64 0, Value.int IntKind.i64 0, Value.int IntKind.i64 0, Value.int IntKind.i64 0, Value.int IntKind.i64 0, Value.int IntKind.i64 0, Value.int IntKind.i64 1, Value.int IntKind.i64 1, Value.int IntKind.i64 1, Value.int IntKind.i64 1, Value.int IntKind.i64 2, Value.int IntKind.i64 2, Value.int IntKind.i64 2, Value.int IntKind.i64 2, Value.int IntKind.i64 3, Value.int IntKind.i64 3, Value.int IntKind.i64 3, Value.int IntKind.i64 3, Value.int IntKind.i64 4, Value.int IntKind.i64 4, Value.int IntKind.i64 4, Value.int IntKind.i64 4, Value.int IntKind.i64 5, Value.int IntKind.i64 5, Value.int IntKind.i64 5, Value.int IntKind.i64 5, Value.int IntKind.i64 0] rfl
  have c1 := r1.cell (i := k) (by simpa using hk)
  have c2 := r2.cell (i := k) (by simpa using hk)
  rw [sz1] at c2
  rw [e1] at c1
  rw [e2] at c2
  obtain ⟨z, hz⟩ : ∃ z : Int, z = ((k + 257 : Nat) : Int) := ⟨_, rfl⟩
  have hzk : z - 257 = k := by omega
  have hzw : IntKind.i64.wrap (z - 257) = k := by rw [hzk]; exact wraps_i64 _ (by omega) (by omega)
  have z1 : 257 ≤ z := by omega
  have z2 : z ≤ 285 := by omega
  rw [← hz] at d1 d2 ⊢
  generalize ((lb (k + 257) : Nat) : Int) = bb at *
  generalize ((lx (k + 257) : Nat) : Int) = xx at *
  clear r1 r2 e1 e2 hz
  go_enter Tryd.func11, Tryd.ntmps11
  go_wp2_with fail
  go_region
  go_wp2
  go_ret3
  exact ⟨rfl, b2.drew⟩

end Go.Proofs.YtjkfmnahmbnbnaaDoor
