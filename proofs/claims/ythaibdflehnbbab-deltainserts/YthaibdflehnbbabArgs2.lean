/- Slices of slices that came in. -/
import Derived.Test.YthaibdflehnbbabArgs
namespace Go.Proofs.Ythaibdflehnbbab
open Go.RowKit

/-- A slice of slices of bytes that came in. -/
def IsRows (w : World) (a : Option Addr) (len : Nat) : Prop :=
  ∃ (A : Nat → Option Addr) (L C : Nat → Nat) (Z : Nat → List Int), ∀ j, j < len → (∃ b off, a = some ⟨b, off, none⟩ ∧ w.cell? ⟨b, off + j, none⟩ = some (.slice (A j) (L j) (C j))) ∧ Rd w (A j) (L j) (C j) (Z j)

end Go.Proofs.Ythaibdflehnbbab
