/- A reader in memory; New. -/
import Derived.Test.YthaibdflehnbbaaWClone
namespace Go.Proofs.Ythaibdflehnbbaa
open Go.RowKit

/-- Block R of the world w is a reader of the bytes xs (in the slice '.slice ao n c'), of which p were taken, with the fault er. -/
structure IsR (w : World) (R : Nat) (ao : Option Addr) (n c : Nat) (xs : List Int) (p : Nat) (er : Int) : Prop where
  row : w.cell? ⟨R, 0, none⟩ = some (.slice ao n c)
  pos : w.cell? ⟨R, 1, none⟩ = some (.int .i64 p)
  err : w.cell? ⟨R, 2, none⟩ = some (.int .i64 er)
  f1 : w.frozen? ⟨R, 1, none⟩ = false
  f2 : w.frozen? ⟨R, 2, none⟩ = false
  rd : Rd w ao n c xs
  sep : ∀ ad, ao = some ad → 0 < n → ad.block ≠ R
  le : p ≤ n
  lim : n ≤ 140737488351232

theorem IsR.lt {w : World} {R : Nat} {ao : Option Addr} {n c : Nat} {xs : List Int} {p : Nat} {er : Int} (h : IsR w R ao n c xs p er) : R < w.heap.size :=
  World.block_lt_of_cell? w _ h.row

theorem Rd.other {w w' : World} {ao : Option Addr} {n c : Nat} {xs : List Int} {X : Nat} (h : Rd w ao n c xs) (hg : w.grownBy w' (some X)) (hs : ∀ ad, ao = some ad → 0 < n → ad.block ≠ X) : Rd w' ao n c xs :=
  ⟨h.len, h.le, h.nul, fun ad had j hj => by
    have hc := h.cells ad had j hj
    have hbk : (ad.add j).block = ad.block := by unfold Addr.add; split <;> rfl
    exact hg.cell hc (by rw [hbk]; intro e; exact hs ad had (by omega) (by simpa using e)), h.byt⟩

/-- What is done to another block leaves the reader as it was. -/
theorem IsR.other {w w' : World} {R X : Nat} {ao : Option Addr} {n c : Nat} {xs : List Int} {p : Nat} {er : Int} (h : IsR w R ao n c xs p er) (hg : w.grownBy w' (some X)) (hne : R ≠ X)
    (hs : ∀ ad, ao = some ad → 0 < n → ad.block ≠ X) : IsR w' R ao n c xs p er := by
  have hb : w'.heap[R]? = w.heap[R]? := hg.block R h.lt (by simpa using hne)
  exact ⟨(World.cell?_of_block (w := w) (a := ⟨R, 0, none⟩) hb).trans h.row, (World.cell?_of_block (w := w) (a := ⟨R, 1, none⟩) hb).trans h.pos, (World.cell?_of_block (w := w) (a := ⟨R, 2, none⟩) hb).trans h.err,
    (World.frozen?_of_block (w := w) (a := ⟨R, 1, none⟩) hb).trans h.f1, (World.frozen?_of_block (w := w) (a := ⟨R, 2, none⟩) hb).trans h.f2, h.rd.other hg hs, h.sep, h.le, h.lim⟩

theorem IsR.keep {w w' : World} {R : Nat} {ao : Option Addr} {n c : Nat} {xs : List Int} {p : Nat} {er : Int} (h : IsR w R ao n c xs p er) (hb : Below w.heap.size w w') : IsR w' R ao n c xs p er :=
  ⟨(hb.cell h.lt).trans h.row, (hb.cell h.lt).trans h.pos, (hb.cell h.lt).trans h.err, (hb.frozen h.lt).trans h.f1, (hb.frozen h.lt).trans h.f2, h.rd.keep hb, h.sep, h.le, h.lim⟩

set_option maxHeartbeats 400000 in
theorem new_any (ao : Option Addr) (n c : Nat) (xs : List Int) (w : World) (h : Rd w ao n c xs) (hn : n ≤ 140737488351232) :
    Calls Try.prog 35 #[.slice ao n c] w fun e w' => ∃ R ao' c', e = .returned (.pointer (some ⟨R, 0, none⟩)) ∧ IsR w' R ao' n c' xs 0 0 ∧ w.heap.size ≤ R ∧
      (∀ ad, ao' = some ad → w.heap.size ≤ ad.block) ∧ Below w.heap.size w w' := by
  go_enter Try.func35, Try.ntmps35
  go_wp2_with (go_at_call 52; refine (clone_any ao n c xs w h hn).mono ?_; rintro e w1 ⟨ao', c', rfl, hr, hfr, hbel⟩)
  go_ret
  have hb1 : Below w1.heap.size w1 (w1.alloc (Obj.cells #[Value.slice ao' n c', Value.int IntKind.i64 0, Value.int IntKind.i64 0] 81)) := (Below.refl _ _).alloc (Nat.le_refl _) _
  refine ⟨w1.heap.size, ao', c', rfl, ⟨by simp, by simp, by simp, by simp, by simp, hr.keep hb1, ?_, by omega, hn⟩, hbel.size, hfr, hbel.trans (hb1.mono hbel.size)⟩
  intro ad had h0 e
  have hc := World.block_lt_of_cell? w1 _ (hr.cells ad had 0 h0)
  have hbk : (ad.add 0).block = ad.block := by unfold Addr.add; split <;> rfl
  omega

end Go.Proofs.Ythaibdflehnbbaa
