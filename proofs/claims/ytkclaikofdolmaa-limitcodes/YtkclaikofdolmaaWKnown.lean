/- known: the best codes of four symbols. -/
import Derived.Test.YtkclaikofdolmaaWPlain
namespace Go.Proofs.Ytkclaikofdolmaa
open Go.RowKit

/-- The four counts. -/
def k4 : Nat → Int
  | 0 => 1
  | 1 => 1
  | 2 => 2
  | _ => 4

theorem k4_sy : sy k4 4 = [0, 1, 2, 3] := by decide
theorem k4_so : so k4 4 = [1, 1, 2, 4] := by decide
theorem k4_ok : okc k4 4 = true := by decide
theorem k4_lvs : lvs k4 4 = [.leaf 1 0, .leaf 1 1, .leaf 2 2, .leaf 4 3] := by unfold lvs; rw [k4_sy]; rfl
theorem k4_err : lerr k4 4 2 = 0 := by unfold lerr; rw [k4_ok, k4_sy]; rfl
theorem k4_lc : lc k4 4 2 = 16 := by unfold lc; rw [k4_sy, k4_so]; rfl

theorem k4_plain (L : Nat → Int) (h : Pg k4 4 L) : L 3 = 1 ∧ L 0 = 3 := by
  rcases h with ⟨h, _⟩ | ⟨_, ps, hr, hL⟩
  · rw [k4_sy] at h; simp at h
  · rw [k4_lvs] at hr
    have hd := hr.det 4 _ (List.Perm.refl _) (by simp [Ple, Pt.ct, Pt.pl]) (by simp [Pt.pl]) (by simp [Pt.pl]) (by simp)
    rw [hL 3 (by omega), hL 0 (by omega), hd]
    exact ⟨by decide, by decide⟩

theorem k4_lens (L : Nat → Int) (h : Gd k4 4 2 L) : L 0 = 2 := by
  have h0 := h.pos 0 (by omega) (by decide)
  have h1 := h.pos 1 (by omega) (by decide)
  have h2 := h.pos 2 (by omega) (by decide)
  have h3 := h.pos 3 (by omega) (by decide)
  have hk := h.full (by rw [k4_sy]; simp) 2 (by omega)
  simp only [G] at hk
  rw [if_pos (by omega), if_pos (by omega), if_pos (by omega), if_pos (by omega)] at hk
  have e : ∀ x : Int, 1 ≤ x → x ≤ 2 → (2 : Int) ^ (2 - x.toNat) = if x = 1 then 2 else 1 := fun x a b => by
    rcases (show x = 1 ∨ x = 2 by omega) with rfl | rfl <;> rfl
  rw [e _ h0.1 h0.2, e _ h1.1 h1.2, e _ h2.1 h2.2, e _ h3.1 h3.2] at hk
  by_cases q0 : L 0 = 1
  · rw [if_pos q0] at hk
    exfalso
    revert hk
    split <;> split <;> split <;> decide
  · omega

set_option maxRecDepth 100000 in
set_option maxHeartbeats 4000000 in
theorem known_any (w : World) : Calls Try.prog 7 #[] w fun e w' => e = .returned (.bool true) ∧ Below w.heap.size w w' := by
  have rr : (w.alloc (Obj.cells #[.int .i64 1, .int .i64 1, .int .i64 2, .int .i64 4] 3)).rowIs w.heap.size 3 4 (fun j => .int .i64 (k4 j)) := World.rowIs_alloc w #[.int .i64 1, .int .i64 1, .int .i64 2, .int .i64 4] 3 (fun j => .int .i64 (k4 j)) (fun i hi => by
    simp at hi
    rcases i with _ | _ | _ | _ | i <;> first | rfl | omega)
  have RI : Hid (Ri (w.alloc (Obj.cells #[.int .i64 1, .int .i64 1, .int .i64 2, .int .i64 4] 3)) (some ⟨w.heap.size, 0, none⟩) 4 4 k4) := Ri.row rr
  have B0 : Hid (Below w.heap.size w (w.alloc (Obj.cells #[.int .i64 1, .int .i64 1, .int .i64 2, .int .i64 4] 3))) := (Below.refl _ _).alloc (Nat.le_refl _) _
  clear rr
  go_enter Try.func7, Try.ntmps7
  go_wp2_with fail
  refine (plain_go _ 4 4 k4 _ RI.out k4_ok).mono ?_
  rintro e w1 ⟨B, L, rfl, hr, pg, hB, hb⟩
  obtain ⟨p3, p0⟩ := k4_plain L pg
  have c3 := hr.cell (i := 3) (by omega)
  have c0 := hr.cell (i := 0) (by omega)
  rw [p3] at c3
  rw [p0] at c0
  have RW1 : Hid (w1.rowIs B 3 4 (fun j => .int .i64 (L j))) := hr
  have R1 : Hid (Ri w1 (some ⟨w.heap.size, 0, none⟩) 4 4 k4) := RI.out.keep hb
  have B1 : Hid (Below w.heap.size w w1) := B0.out.trans (hb.mono B0.out.size)
  have C1 : Hid (w1.cell? ⟨B, 3, none⟩ = some (.int .i64 1) ∧ w1.cell? ⟨B, 0, none⟩ = some (.int .i64 3) ∧ B < w1.heap.size) := ⟨c3, c0, hr.lt⟩
  clear hr pg hB hb c3 c0 p3 p0 RI B0
  go_wp2_with fail
  refine (lens_yes _ 4 4 k4 2 w1 R1.out k4_err).mono ?_
  rintro e w2 ⟨B2, L2, rfl, hr, gd, hB, hb⟩
  have p2' := k4_lens L2 gd
  have c2 := hr.cell (i := 0) (by omega)
  rw [p2'] at c2
  have R2 : Hid (Ri w2 (some ⟨w.heap.size, 0, none⟩) 4 4 k4) := R1.out.keep hb
  have BB2 : Hid (Below w.heap.size w w2) := B1.out.trans (hb.mono B1.out.size)
  have C2 : Hid (w2.cell? ⟨B, 3, none⟩ = some (.int .i64 1) ∧ w2.cell? ⟨B, 0, none⟩ = some (.int .i64 3) ∧ w2.cell? ⟨B2, 0, none⟩ = some (.int .i64 2) ∧ B < w2.heap.size ∧ B2 < w2.heap.size) :=
    ⟨(hb.cell (p := ⟨B, 3, none⟩) C1.out.2.2).trans C1.out.1, (hb.cell (p := ⟨B, 0, none⟩) C1.out.2.2).trans C1.out.2.1, c2, by have := C1.out.2.2; have := hb.size; omega, hr.lt⟩
  clear hr gd hB hb c2 p2' R1 B1 C1
  go_wp2_with fail
  refine (least_yes _ 4 4 k4 2 w2 R2.out k4_err).mono ?_
  rintro e w3 ⟨rfl, hb⟩
  have e16 : lc k4 4 (2 : Int).toNat = 16 := k4_lc
  rw [e16]
  have d1 : w3.cell? ⟨B, 3, none⟩ = some (.int .i64 1) := (hb.cell (p := ⟨B, 3, none⟩) C2.out.2.2.2.1).trans C2.out.1
  have d2 : w3.cell? ⟨B, 0, none⟩ = some (.int .i64 3) := (hb.cell (p := ⟨B, 0, none⟩) C2.out.2.2.2.1).trans C2.out.2.1
  have d3 : w3.cell? ⟨B2, 0, none⟩ = some (.int .i64 2) := (hb.cell (p := ⟨B2, 0, none⟩) C2.out.2.2.2.2).trans C2.out.2.2.1
  have B3 : Hid (Below w.heap.size w w3) := BB2.out.trans (hb.mono BB2.out.size)
  clear hb C2 BB2 R2 e16
  go_wp2_with fail
  go_ret
  exact ⟨rfl, B3.out⟩

end Go.Proofs.Ytkclaikofdolmaa
