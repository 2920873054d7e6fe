/-
  DERIVED. GIVEN WITH THE SEED: THE CARDS: each row of YtojgablpjdlegabGreatDoorRows.lean that lists a variable, with what it lists TIED to the program's text (the seventh form; the later family's looks); each row that meets fmt, with fmt's text TOLD by the authors' own Lean function (tested against real Go, not proved from fmt's source: count such statements apart). THE CARD IS WHAT COUNTS. Prove the row's statement (the work); the ties are given (YtojgablpjdlegabGreatDoorTie.lean); close each card by the builder's one call (the guide's Derived/Test/ToyasCard.lean, 'card_holds'). Laid BY PROGRAM, IN A SANDBOX (cutbox-door.mjs). By AI agents, Wed Nov 11 2026. No macro, syntax, notation, axiom, sorry.
-/
import Derived.Test.YtojgablpjdlegabGreatDoorRows
import GoSem.ClaimSeven
namespace Go.Proofs.YtojgablpjdlegabGreatDoor
namespace Rows

/-- THE TIED CARD OF 'trovelaw12.ObjectEdges'. -/
def objectEdgesCard : Claim7 := { stood := { row := objectEdgesRow, standIns := [], harness := (true, "c6554d9064da29782589dbe9aeeb9d847b6f21e3e1af7eabf15901e882afef98"), looks := true }, kinds := [], alts := [], laidByText := true, laidKinds := [.data, .data, .data, .data, .sentinel, .sentinel, .data, .data, .pinned], laidTests := true, laidLooks := .later }
def ObjectEdgesCardSaid : Prop := Claim7.holds Tryz.pinned (.plain (OpenSpec.ofChange objectEdgesSpec)) objectEdgesCard

/-- THE SECOND FORM's CARD OF 'trovelaw12.ObjectEdges'. -/
def objectEdgesUptoCard : Claim7 := { stood := { row := objectEdgesUptoRow, standIns := [], harness := (true, "c6554d9064da29782589dbe9aeeb9d847b6f21e3e1af7eabf15901e882afef98"), looks := true }, kinds := [], alts := [], laidByText := true, laidKinds := [.data, .data, .data, .data, .sentinel, .sentinel, .data, .data, .pinned], laidTests := true, laidLooks := .later }
def ObjectEdgesUptoCardSaid : Prop := Claim7.holds Tryz.pinned (.plain (OpenSpec.upto objectEdgesSpec)) objectEdgesUptoCard
end Rows
end Go.Proofs.YtojgablpjdlegabGreatDoor
