/- Bytes as a string; known. -/
import Derived.Test.YtjkfmnahmbnbnaaDoorWInf
namespace Go.Proofs.YtjkfmnahmbnbnaaDoor
open Go.RowKit

theorem Rd.str {w : World} {ao : Option Addr} {n c : Nat} {xs : List Int} (h : Rd w ao n c xs) : (convert 30 9 (.slice ao n c)).run Tryd.prog w = .ok (.string (strOfNums xs)) w := by
  cases ao with
  | none =>
    obtain ⟨rfl, rfl⟩ := h.nul rfl
    have hx : xs = [] := List.eq_nil_of_length_eq_zero h.len
    subst hx
    rw [run_convert_bytes_nil w 30 5 Tryd.underlying30 Tryd.underlying5 0 0 9 Tryd.underlying9]
    rfl
  | some ad =>
    have hl : (loadCells ad n).run Tryd.prog w = .ok (xs.map (Value.int .u8)).toArray w := by
      have := run_loadCells_list (P := Tryd.prog) w ad (xs.map (Value.int .u8)) (h.cellsOf ad rfl)
      simpa [h.len] using this
    rw [run_convert_bytes_string w 30 9 5 _ n c Tryd.underlying30 Tryd.underlying5 Tryd.underlying9, run_bytesToString w _ n c xs hl, foldl_push_bytes]
    simp [strOfNums, ByteArray.empty, ByteArray.emptyWithCapacity]
    rfl

theorem lit_rd (w : World) (l : List Int) (cs : Array Value) (h : cs = (l.map (Value.int .u8)).toArray) (hb : ∀ x ∈ l, 0 ≤ x ∧ x < 256) : Rd (w.alloc (Obj.cells cs 5)) (some ⟨w.heap.size, 0, none⟩) l.length l.length l := by
  subst h
  have hr := World.rowIs_alloc w (l.map (Value.int .u8)).toArray 5 (fun j => .int .u8 (l.getD j 0)) (fun i hi => by
    have hi' : i < l.length := by simpa using hi
    simp [List.getD, List.getElem?_eq_getElem hi'])
  refine ⟨rfl, Nat.le_refl _, (fun e => by cases e), fun ad had j hj => ?_, hb⟩
  cases had
  rw [Addr.add_lit, Nat.zero_add]
  exact hr.cell (by simpa using hj)

theorem lit_by (w : World) (l : List Int) (X : Int) (n : Nat) (cs : Array Value) (h : cs = (l.map (Value.int .u8)).toArray) (hb : by8 X n = l) : Rd (w.alloc (Obj.cells cs 5)) (some ⟨w.heap.size, 0, none⟩) n n (by8 X n) := by
  have h1 := lit_rd w l cs h (by rw [← hb]; exact by8_byt _ _)
  have h2 : l.length = n := by rw [← hb]; exact by8_len _ _
  rw [h2] at h1
  rw [hb]
  exact h1

theorem layK1 : Lay 281675 4 0 ((1, 1) :: (1, 2) :: (encs [.lit 97, .lit 97] ++ [sf 256])) :=
  ⟨by unfold Ft; decide +kernel, by decide +kernel, 0, by decide +kernel⟩

theorem layK2 : Lay 2668514687058177 7 0 ((1, 1) :: (0, 2) :: (0, 5) :: ((([122] : List Int).length : Int), 16) :: (65535 - (([122] : List Int).length : Int), 16) :: bfs [122]) :=
  ⟨by unfold Ft; decide +kernel, by decide +kernel, 9, by decide +kernel⟩

theorem layK3 : Lay 7 1 0 [(1, 1), (3, 2)] :=
  ⟨by unfold Ft; decide +kernel, by decide +kernel, 0, by decide +kernel⟩

theorem infK1 : Inf 281675 4 100 1 0 [] 0 [97, 97] 26 :=
  .fixed 0 0 [] [.lit 97, .lit 97] 0 [97, 97] 26 layK1 (by intro i hi; simp at hi; subst hi; show 97 < 256; omega) (by simp) (by decide +kernel) (by decide +kernel)

theorem infK2 : Inf 2668514687058177 7 100 1 0 [] 0 [122] 48 :=
  .last 0 0 [] [122] layK2 (by omega) (by intro x hx; simp at hx; omega) (by simp) (by simp)

theorem infK3 : Inf 7 1 100 1 0 [] 2 [] 0 := .three 0 0 [] 1 [] 0 layK3

set_option maxRecDepth 100000 in
set_option maxHeartbeats 2000000 in
theorem known_any (w : World) : Calls Tryd.prog 7 #[] w fun e w' => e = .returned (.bool true) ∧ Below w.heap.size w w' := by
  have b1 := lit_by w [75, 76, 4, 0] 281675 4 #[.int .u8 75, .int .u8 76, .int .u8 4, .int .u8 0] rfl (by decide +kernel)
  have a1 : Below w.heap.size w (w.alloc (Obj.cells #[.int .u8 75, .int .u8 76, .int .u8 4, .int .u8 0] 5)) := (Below.refl _ _).alloc (Nat.le_refl _) _
  have i1 := inflate_any _ 4 4 281675 100 1 0 [97, 97] 26 [97, 97] 4 _ b1 (by omega) (by omega) infK1 (.inl ⟨rfl, rfl, rfl⟩)
  clear b1
  go_enter Tryd.func7, Tryd.ntmps7
  go_wp2_with fail
  refine i1.mono ?_
  rintro e w1 ⟨xo, xc, rfl, r1, c1⟩
  have B1 := a1.trans (c1.mono a1.size)
  have b2 := lit_by w1 [1, 1, 0, 254, 255, 122, 9] 2668514687058177 7 #[.int .u8 1, .int .u8 1, .int .u8 0, .int .u8 254, .int .u8 255, .int .u8 122, .int .u8 9] rfl (by decide +kernel)
  have a2 : Below w1.heap.size w1 (w1.alloc (Obj.cells #[.int .u8 1, .int .u8 1, .int .u8 0, .int .u8 254, .int .u8 255, .int .u8 122, .int .u8 9] 5)) := (Below.refl _ _).alloc (Nat.le_refl _) _
  have i2 := inflate_any _ 7 7 2668514687058177 100 1 0 [122] 48 [122] 6 _ b2 (by omega) (by omega) infK2 (.inl ⟨rfl, rfl, rfl⟩)
  clear b2 i1 a1 c1
  go_wp2_with fail
  refine i2.mono ?_
  rintro e w2 ⟨yo, yc, rfl, r2, c2⟩
  have B2 := B1.trans ((a2.trans (c2.mono a2.size)).mono B1.size)
  have r1' := r1.keep (a2.trans (c2.mono a2.size))
  have b3 := lit_by w2 [7] 7 1 #[.int .u8 7] rfl (by decide +kernel)
  have a3 : Below w2.heap.size w2 (w2.alloc (Obj.cells #[.int .u8 7] 5)) := (Below.refl _ _).alloc (Nat.le_refl _) _
  have i3 := inflate_any _ 1 1 7 100 1 2 [] 0 [] 0 _ b3 (by omega) (by omega) infK3 (.inr ⟨by omega, rfl, rfl⟩)
  clear b3 i2 a2 c2 r1 B1
  go_wp2_with fail
  refine i3.mono ?_
  rintro e w3 ⟨zo, zc, rfl, r3, c3⟩
  have B3 : Hid (Below w.heap.size w w3) := B2.trans ((a3.trans (c3.mono a3.size)).mono B2.size)
  have s1 := (r1'.keep (a3.trans (c3.mono a3.size))).str
  have s2 := (r2.keep (a3.trans (c3.mono a3.size))).str
  clear i3 a3 c3 r1' r2 r3 B2
  simp only [List.length_cons, List.length_nil, Nat.zero_add] at s1 s2 ⊢
  have t1 : (strOfNums [97, 97]).toList = [97, 97] := by kernel_rfl
  have t2 : (strOfNums [122]).toList = [122] := by kernel_rfl
  go_wp2
  go_ret
  exact ⟨rfl, B3.out⟩

end Go.Proofs.YtjkfmnahmbnbnaaDoor
