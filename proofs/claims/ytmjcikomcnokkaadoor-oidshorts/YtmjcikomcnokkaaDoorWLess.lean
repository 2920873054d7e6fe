/- bytes.Compare, Less. -/
import Derived.Test.YtmjcikomcnokkaaDoorWRPar
import Derived.Lib.Bytealg
import Derived.Lib.BytesEntry
namespace Go.Proofs.YtmjcikomcnokkaaDoor
open Go.RowKit

theorem ofNat_lt (a b : Int) (h : 0 ≤ a ∧ a < 256) (g : 0 ≤ b ∧ b < 256) : (UInt8.ofNat a.toNat < UInt8.ofNat b.toNat) ↔ a < b := by
  rw [UInt8.lt_iff_toNat_lt, UInt8.toNat_ofNat', UInt8.toNat_ofNat']
  omega

theorem cmp_ltl : ∀ x y : List Int, (∀ b ∈ x, 0 ≤ b ∧ b < 256) → (∀ b ∈ y, 0 ≤ b ∧ b < 256) → decide (Lib.compareBytes (x.map fun n => UInt8.ofNat n.toNat) (y.map fun n => UInt8.ofNat n.toNat) < 0) = ltl x y
  | [], [], _, _ => rfl
  | [], _ :: _, _, _ => rfl
  | _ :: _, [], _, _ => rfl
  | a :: r, b :: s, h, g => by
    have ha := h a (by simp)
    have hb := g b (by simp)
    have i := cmp_ltl r s (fun c hc => h c (by simp [hc])) (fun c hc => g c (by simp [hc]))
    simp only [List.map_cons, Lib.compareBytes, ltl, ofNat_lt a b ha hb, ofNat_lt b a hb ha]
    by_cases h1 : a < b
    · rw [if_pos h1, if_pos h1]; rfl
    · rw [if_neg h1, if_neg h1]
      by_cases h2 : b < a
      · rw [if_pos h2, if_pos h2]; rfl
      · rw [if_neg h2, if_neg h2]; exact i

theorem Rd.bytes {w : World} {ao : Option Addr} {n c : Nat} {xs : List Int} (h : Rd w ao n c xs) : (Extern.Bytes.bytesOf (.slice ao n c)).run Tryd.prog w = .ok (strOfNums xs) w := by
  cases ao with
  | none =>
    obtain ⟨rfl, rfl⟩ := h.nul rfl
    have hx : xs = [] := List.eq_nil_of_length_eq_zero h.len
    subst hx
    rfl
  | some ad =>
    have hr := Lib.run_loadBytesX (P := Tryd.prog) w xs ad .empty (fun j x hx => by
      have hj := (List.getElem?_eq_some_iff.1 hx).1
      have hl := h.len
      rw [h.cells ad rfl j (by omega), List.getD, hx]
      rfl)
    rw [h.len] at hr
    show (Extern.Bytes.loadBytes ad n .empty).run Tryd.prog w = _
    rw [hr]
    congr 1
    apply ByteArray.ext
    simp [strOfNums, Lib.bytesOf, ByteArray.empty, ByteArray.emptyWithCapacity]
    rfl

theorem Rd.drew {w : World} {ao : Option Addr} {n c : Nat} {xs : List Int} (h : Rd w ao n c xs) : Rd w.drew ao n c xs := ⟨h.len, h.le, h.nul, h.cells, h.byt⟩

theorem run_compare {w : World} {ao bo : Option Addr} {n c m d : Nat} {xs ys : List Int} (h : Rd w ao n c xs) (g : Rd w bo m d ys) :
    (Extern.BytealgCompare.compare #[.slice ao n c, .slice bo m d]).run Tryd.prog w = .ok (.int .i64 (Lib.compareBytes (xs.map fun n => UInt8.ofNat n.toNat) (ys.map fun n => UInt8.ofNat n.toNat))) w := by
  change Sem.run Tryd.prog (do pure (goInt (Extern.BytealgCompare.cmp (← Extern.Bytes.bytesOf (.slice ao n c)) (← Extern.Bytes.bytesOf (.slice bo m d))))) w = _
  simp only [Sem.run_bind, h.bytes, g.bytes, Sem.run_pure, Result.andThen]
  rw [Lib.cmp_eq]
  rfl

theorem compare_any {w : World} {ao bo : Option Addr} {n c m d : Nat} {xs ys : List Int} (h : Rd w ao n c xs) (g : Rd w bo m d ys) :
    Calls Tryd.prog 35 #[.slice ao n c, .slice bo m d] w fun e w' => e = .returned (.int .i64 (Lib.compareBytes (xs.map fun n => UInt8.ofNat n.toNat) (ys.map fun n => UInt8.ofNat n.toNat))) ∧ w' = w := by
  have hr := run_compare h g
  generalize Lib.compareBytes (xs.map fun n => UInt8.ofNat n.toNat) (ys.map fun n => UInt8.ofNat n.toNat) = v at *
  go_enter Tryd.func35, Tryd.ntmps35
  go_wp2
  rw [run_callFunc_extern Tryd.func45 (by kernel_rfl) (by kernel_rfl) (by kernel_rfl) (e := Extern.BytealgCompare.compare) (by kernel_rfl), hr]
  simp only [Result.andThen]
  rw [Oper.upon_value]
  go_wp2
  go_ret
  exact ⟨rfl, rfl⟩

theorem id_rd {w : World} {b t : Nat} {x : List Int} (hx : IsId x) (h : w.rowIs b t 20 (cl x)) : Rd w (some ⟨b, 0, none⟩) 20 20 x := Rd.ofRow h hx.1 hx.2

set_option maxRecDepth 100000 in
theorem less_any (x y : List Int) (hx : IsId x) (hy : IsId y) (w : World) : Calls Tryd.prog 21 #[idv x, idv y] w fun e w' => e = .returned (.bool (ltl x y)) ∧ Below w.heap.size w w' := by
  have B : Hid (Below w.heap.size w ((w.alloc (.cells (vals (cl x) 20).toArray 23)).alloc (.cells (vals (cl y) 20).toArray 23))) := ((Below.refl _ _).alloc (Nat.le_refl _) _).alloc (by simp) _
  have r1 := id_rd hx ((rowIs_vals w (cl x) 20 23).alloc (.cells (vals (cl y) 20).toArray 23))
  have r2 := rowIs_vals (w.alloc (.cells (vals (cl x) 20).toArray 23)) (cl y) 20 23
  rw [show (w.alloc (.cells (vals (cl x) 20).toArray 23)).heap.size = w.heap.size + 1 by simp] at r2
  have hc := compare_any r1.drew (id_rd hy r2).drew
  have hl := cmp_ltl x y hx.2 hy.2
  generalize Lib.compareBytes (x.map fun n => UInt8.ofNat n.toNat) (y.map fun n => UInt8.ofNat n.toNat) = v at *
  rw [← hl]
  clear r1 r2 hl
  go_enter Tryd.func21, Tryd.ntmps21
  go_wp2_with fail
  go_region_with (go_at_call 35; refine hc.mono ?_; rintro e w2 ⟨rfl, rfl⟩)
  all_goals
    simp only [List.getElem_toArray, List.getElem_cons_zero, List.getElem_cons_succ, Act.put, List.setIfInBounds_toArray, List.set_cons_zero, List.set_cons_succ]
    go_wp2_with fail
    go_ret
    exact ⟨rfl, ⟨B.out.os, B.out.tape, B.out.output, B.out.size, B.out.block⟩⟩

end Go.Proofs.YtmjcikomcnokkaaDoor
