/- A hash in memory: New, Len, Twin, id. -/
import Derived.Test.YtebkgmjmjmaleaaWLow
namespace Go.Proofs.Ytebkgmjmjmaleaa
open Go.RowKit

/-- A hash's cells. -/
def hcells (s : St) (l : Nat → Int) (n : Int) (j : Nat) : Value := if j < 5 then .int .u32 (s.nth j) else if j < 69 then .int .u8 (l (j - 5)) else .int .i64 n

/-- Block R is a hash of these words, these bytes of a block, and this size. -/
def HRaw (w : World) (R : Nat) (s : St) (l : Nat → Int) (n : Int) : Prop := w.rowIs R 45 70 (hcells s l n)

theorem HRaw.size {w : World} {R : Nat} {s : St} {l : Nat → Int} {n : Int} (h : HRaw w R s l n) : w.cell? ⟨R, 69, none⟩ = some (.int .i64 n) := World.rowIs.cell h (i := 69) (by omega)

theorem HRaw.word {w : World} {R : Nat} {s : St} {l : Nat → Int} {n : Int} (h : HRaw w R s l n) (j : Nat) (hj : j < 5) : w.cell? ⟨R, j, none⟩ = some (.int .u32 (s.nth j)) := by
  have := World.rowIs.cell h (i := j) (by omega)
  simpa [hcells, hj] using this

theorem HRaw.fr {P : Nat → Prop} {w w' : World} {R : Nat} {s : St} {l : Nat → Int} {n : Int} (h : HRaw w R s l n) (hf : Fr P w w') (hb : ¬ P R) : HRaw w' R s l n := rowIs_fr h hf hb

theorem HRaw.keep {w w' : World} {R : Nat} {s : St} {l : Nat → Int} {n : Int} (h : HRaw w R s l n) (hb : Below w.heap.size w w') : HRaw w' R s l n := h.of_block (hb.block R (World.rowIs.lt h))

theorem zinfo51 : (Try.prog.info? 51).map (fun i => (i.zero, i.size)) = some (some (.agg (Array.replicate 80 (Value.int .u32 0))), 80) := by kernel_rfl
theorem zinfo45 : (Try.prog.info? 45).map (fun i => (i.zero, i.size)) = some (some (.agg (Array.replicate 5 (Value.int .u32 0) ++ Array.replicate 64 (Value.int .u8 0) ++ #[Value.int .i64 0])), 70) := by kernel_rfl
theorem zinfo43 : (Try.prog.info? 43).map (fun i => (i.zero, i.size)) = some (some (.agg (Array.replicate 64 (Value.int .u8 0))), 64) := by kernel_rfl
theorem zinfo25 : (Try.prog.info? 25).map (fun i => (i.zero, i.size)) = some (some (.agg (Array.replicate 20 (Value.int .u8 0))), 20) := by kernel_rfl
theorem zinfo24 : (Try.prog.info? 24).map (fun i => (i.zero, i.size)) = some (some (.agg (Array.replicate 20 (Value.int .u8 0))), 20) := by kernel_rfl
theorem zinfo40 : (Try.prog.info? 40).map (fun i => (i.zero, i.size)) = some (some (.agg (Array.replicate 5 (Value.int .u32 0))), 5) := by kernel_rfl

theorem size51 : (Try.prog.info? 51).map (·.size) = some 80 := (zero_of_info zinfo51).2
theorem size45 : (Try.prog.info? 45).map (·.size) = some 70 := (zero_of_info zinfo45).2
theorem size43 : (Try.prog.info? 43).map (·.size) = some 64 := (zero_of_info zinfo43).2
theorem size25 : (Try.prog.info? 25).map (·.size) = some 20 := (zero_of_info zinfo25).2
theorem size24 : (Try.prog.info? 24).map (·.size) = some 20 := (zero_of_info zinfo24).2
theorem size40 : (Try.prog.info? 40).map (·.size) = some 5 := (zero_of_info zinfo40).2

theorem rowIs_rep (w : World) (v : Value) (n : Nat) (t : TypeId) : (w.alloc (.cells (Array.replicate n v) t)).rowIs w.heap.size t n (fun _ => v) := by
  have h := World.rowIs_alloc w (Array.replicate n v) t (fun _ => v) (fun i hi => by simp at hi; simp [hi])
  simpa using h

theorem rowIs_rep2 (w : World) (v : Value) (n : Nat) (t t' : TypeId) : ((w.alloc (.cells (Array.replicate n v) t')).alloc (.cells (Array.replicate n v) t)).rowIs (w.heap.size + 1) t n (fun _ => v) := by
  have h := rowIs_rep (w.alloc (.cells (Array.replicate n v) t')) v n t
  simpa using h

def h0cells : Array Value := #[.int .u32 1732584193, .int .u32 4023233417, .int .u32 2562383102, .int .u32 271733878, .int .u32 3285377520] ++ (Array.replicate 64 (Value.int IntKind.u8 0)).push (Value.int IntKind.i64 0)

theorem h0_get (i : Nat) (hi : i < 70) : h0cells[i]? = some (hcells H0 (fun _ => 0) 0 i) := by
  unfold h0cells hcells
  by_cases h5 : i < 5
  · rcases i with _ | _ | _ | _ | _ | i <;> first | rfl | omega
  · rw [Array.getElem?_append_right (by simp; omega)]
    simp only [List.size_toArray, List.length_cons, List.length_nil]
    rw [Array.getElem?_push]
    by_cases h69 : i < 69
    · simp [h5, h69, Array.getElem?_replicate]
      rw [if_neg (by omega), if_pos (by omega)]
    · obtain rfl : i = 69 := by omega
      rfl

theorem new_any (w : World) : Calls Try.prog 10 #[] w fun e w' => e = .returned (.pointer (some ⟨w.heap.size, 0, none⟩)) ∧ HRaw w' w.heap.size H0 (fun _ => 0) 0 ∧ Below w.heap.size w w' := by
  have z45 := (zero_of_info zinfo45).1
  go_enter Try.func10, Try.ntmps10
  go_wp2
  go_ret
  refine ⟨rfl, ?_, (Below.refl _ _).alloc (Nat.le_refl _) _⟩
  exact World.rowIs_alloc w h0cells 45 _ h0_get

theorem len_any (R : Nat) (s : St) (l : Nat → Int) (n : Int) (w : World) (h : HRaw w R s l n) : Calls Try.prog 12 #[.pointer (some ⟨R, 0, none⟩)] w fun e w' => e = .returned (.int .i64 n) ∧ w' = w := by
  have c := h.size
  clear h
  go_enter Try.func12, Try.ntmps12
  go_wp2
  go_ret
  exact ⟨rfl, rfl⟩

theorem hcells_one (s : St) (l : Nat → Int) (n : Int) (j : Nat) : (hcells s l n j).oneCell' = true := by
  unfold hcells
  split
  · rfl
  · split <;> rfl

def z45c : Array Value := Array.replicate 5 (Value.int .u32 0) ++ Array.replicate 64 (Value.int .u8 0) ++ #[Value.int .i64 0]

theorem zero45 (w : World) : (zeroValue 45).run Try.prog w = .ok (.agg z45c) w := (zero_of_info zinfo45).1 w

theorem z45_row (w : World) : (w.alloc (.cells z45c 45)).rowIs w.heap.size 45 70 (fun i => z45c.getD i undef) :=
  World.rowIs_alloc w z45c 45 _ (fun i hi => by simp [Array.getD, hi])

theorem twin_any (R : Nat) (s : St) (l : Nat → Int) (n : Int) (w : World) (h : HRaw w R s l n) : Calls Try.prog 14 #[.pointer (some ⟨R, 0, none⟩)] w fun e w' => e = .returned (.pointer (some ⟨w.heap.size, 0, none⟩)) ∧ HRaw w' w.heap.size s l n ∧ Below w.heap.size w w' := by
  have z45 := zero45
  have hz := z45_row w
  go_enter Try.func14, Try.ntmps14
  go_wp2_with (first
    | (refine wpList_ld0 rfl 45 _ rfl R rfl _ h 70 (by omega) Try.underlying45 rfl size45 ?_; clear h)
    | (refine wpList_st rfl 45 _ _ rfl w.heap.size rfl (hcells s l n) rfl hz size45 (fun j => hcells_one _ _ _ _) ?_; intro w2 h2 f2))
  go_ret
  refine ⟨rfl, h2, ?_⟩
  exact ((Fr.refl (fun k => k = w.heap.size) w).alloc _ |>.trans f2 (fun _ _ e => e)).below _ (Nat.le_refl _) (fun i hi e => by omega)

theorem byt_row (s : St) (k : Nat) (f : Nat → Value) {w : World} {b : Nat} (h : w.rowIs b 25 20 (fun j => if j < k then .int .u8 (byt s j) else f j)) : (w.setCell ⟨b, k, none⟩ (.int .u8 (byt s k))).rowIs b 25 20 (fun j => if j < k + 1 then .int .u8 (byt s j) else f j) :=
  (h.set k _).congr (fun i _ => by
    by_cases e : i = k
    · subst e; simp
    · simp only [e, if_false]
      by_cases h : i < k
      · simp [h, show i < k + 1 by omega]
      · simp [h, show ¬ i < k + 1 by omega])

def sumv (s : St) : Value := row (fun j => .int .u8 (byt s j)) 20

set_option maxHeartbeats 400000 in
theorem id_any (R : Nat) (s : St) (l : Nat → Int) (n : Int) (w : World) (h : HRaw w R s l n) : Calls Try.prog 18 #[.pointer (some ⟨R, 0, none⟩)] w fun e w' => e = .returned (sumv s) ∧ Below w.heap.size w w' := by
  go_enter Try.func18, Try.ntmps18
  go_wp2
  go_loopw [5] (fun i wr => ∃ k : Nat, k ≤ 20 ∧ i = .int .i64 k ∧ wr.rowIs (w.heap.size + 1) 25 20 (fun j => if j < k then .int .u8 (byt s j) else .int .u8 0) ∧ wr.rowIs w.heap.size 25 20 (fun j => .int .u8 0) ∧ Below w.heap.size w wr)
    (fun i _ => (20 - intOf i).toNat)
  case atStart =>
    refine ⟨0, by omega, rfl, ?_, ?_, ((Below.refl _ _).alloc (Nat.le_refl _) _).alloc (by simp) _⟩
    · exact rowIs_rep2 w (Value.int .u8 0) 20 25 25
    · exact (rowIs_rep w (Value.int .u8 0) 20 25).alloc _
  case round =>
    obtain ⟨k, hk, rfl, h1, h2, hb⟩ := hrel
    by_cases hlt : k < 20
    · have hR := h.keep hb
      have cw := hR.word (k / 4) (by omega)
      have ct := h1.cell hlt
      have ft := h1.frozen k
      have h3 := byt_row s k _ h1
      have hb' : Below w.heap.size w (wr.setCell ⟨w.heap.size + 1, k, none⟩ (.int .u8 (byt s k))) := hb.setCell (by simp) _
      have h4 : (wr.setCell ⟨w.heap.size + 1, k, none⟩ (.int .u8 (byt s k))).rowIs w.heap.size 25 20 (fun j => .int .u8 0) := h2.setOther (by simp) _
      clear h hR h1 h2 hb
      go_wp2
      go_roundw
      case rel => exact ⟨k + 1, by omega, by go_num, h3, h4, hb'⟩
      case measure => simp [intOf]; omega
    · obtain rfl : k = 20 := by omega
      clear h
      go_wp2_with (first
        | (refine wpList_ld0 rfl 25 _ rfl (w.heap.size + 1) rfl _ h1 20 (by omega) Try.underlying25 rfl size25 ?_; clear h1)
        | (refine wpList_st rfl 25 _ _ rfl w.heap.size rfl (fun j => if j < 20 then .int .u8 (byt s j) else .int .u8 0) rfl h2 size25 (fun j => by split <;> rfl) ?_; intro w3 h3 f3))
      refine bodyPost_ret (results_row rfl _ rfl h3 Try.underlying25 rfl size25) rfl ⟨?_, ?_⟩
      · rw [sumv, row_congr _ (fun j => .int .u8 (byt s j)) 20 (fun i hi => by simp [hi])]
      · exact hb.trans (f3.below _ hb.size (fun i hi e => by omega))

end Go.Proofs.Ytebkgmjmjmaleaa
