/- What a slice of bytes in memory holds, said of a world; laws on it. -/
import Derived.WalkKit
import Derived.WalkSpells
import Derived.WalkLawsBesides
namespace Go.Proofs.Ythaibdflehnbbaa
open Go.RowKit

/-- The slice value '.slice ao n c' reads as the bytes xs in the world w. -/
structure Rd (w : World) (ao : Option Addr) (n c : Nat) (xs : List Int) : Prop where
  len : xs.length = n
  le : n ≤ c
  nul : ao = none → n = 0 ∧ c = 0
  cells : ∀ ad, ao = some ad → ∀ j, j < n → w.cell? (ad.add j) = some (.int .u8 (xs.getD j 0))
  byt : ∀ x ∈ xs, 0 ≤ x ∧ x < 256

theorem Rd.nil (w : World) : Rd w none 0 0 [] := ⟨rfl, Nat.le_refl _, fun _ => ⟨rfl, rfl⟩, (fun _ h => by cases h), (fun _ h => by cases h)⟩

theorem Rd.cellsOf {w : World} {ao : Option Addr} {n c : Nat} {xs : List Int} (h : Rd w ao n c xs) :
    ∀ ad, ao = some ad → ∀ j u, (xs.map (Value.int .u8))[j]? = some u → w.cell? (ad.add j) = some u := by
  intro ad had j u hu
  have hj : j < xs.length := by
    have := (List.getElem?_eq_some_iff.1 hu).1
    simpa using this
  rw [h.cells ad had j (by have := h.len; omega)]
  rw [List.getElem?_map, List.getElem?_eq_getElem hj] at hu
  simp only [Option.map_some, Option.some.injEq] at hu
  rw [← hu]
  simp [List.getD, List.getElem?_eq_getElem hj]

/-- Where there is a byte, the address is plain. -/
theorem Rd.plain {w : World} {ao : Option Addr} {n c : Nat} {xs : List Int} (h : Rd w ao n c xs) (hn : 0 < n) :
    ∃ b off, ao = some ⟨b, off, none⟩ ∧ ∀ j, j < n → w.cell? ⟨b, off + j, none⟩ = some (.int .u8 (xs.getD j 0)) := by
  cases ao with
  | none => have := (h.nul rfl).1; omega
  | some ad =>
    obtain ⟨b, off, spot⟩ := ad
    have hc := h.cells _ rfl 0 hn
    have hspot : spot = none := by simpa [Addr.add] using World.cell?_spot hc
    subst hspot
    refine ⟨b, off, rfl, fun j hj => ?_⟩
    have := h.cells _ rfl j hj
    rwa [Addr.add_lit] at this

/-- It reads so in every world that keeps what was there. -/
theorem Rd.keep {w w' : World} {ao : Option Addr} {n c : Nat} {xs : List Int} (h : Rd w ao n c xs) (hb : Below w.heap.size w w') : Rd w' ao n c xs :=
  ⟨h.len, h.le, h.nul, fun ad had j hj => by
    have hc := h.cells ad had j hj
    rw [hb.cell (World.block_lt_of_cell? w _ hc)]
    exact hc, h.byt⟩

/-- A row of the call's own reads as its cells. -/
theorem Rd.ofOwn {w : World} {base g n c : Nat} {xs : List Int} (h : w.ownsRow base 5 1 (.slice (some ⟨g, 0, none⟩) n c) n (xs.map (Value.int .u8))) (hb : ∀ x ∈ xs, 0 ≤ x ∧ x < 256) :
    Rd w (some ⟨g, 0, none⟩) n c xs := by
  have hl : xs.length = n := by simpa using h.1
  refine ⟨hl, ?_, (fun e => by cases e), fun ad had j hj => ?_, hb⟩
  · rcases h.2 with ⟨e, _⟩ | ⟨g', cap, cur, e, _, _, hle, _⟩
    · cases e
    · cases e; exact hle
  · cases had
    have := h.cells (g := g) rfl j (.int .u8 (xs.getD j 0)) (by simp [List.getD, List.getElem?_eq_getElem (show j < xs.length by omega)])
    simpa using this

end Go.Proofs.Ythaibdflehnbbaa
