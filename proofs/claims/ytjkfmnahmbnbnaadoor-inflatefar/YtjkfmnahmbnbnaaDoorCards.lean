/-
  DERIVED. GIVEN WITH THE SEED: THE CARDS: each row of YtjkfmnahmbnbnaaDoorRows.lean that lists a variable, with what it lists TIED to the program's text (the seventh form; the later family's looks); each row that meets fmt, with fmt's text TOLD by the authors' own Lean function (tested against real Go, not proved from fmt's source: count such statements apart). THE CARD IS WHAT COUNTS. Prove the row's statement (the work); the ties are given (YtjkfmnahmbnbnaaDoorTie.lean); close each card by the builder's one call (the guide's Derived/Test/ToyasCard.lean, 'card_holds'). Laid BY PROGRAM, IN A SANDBOX (cutbox-door.mjs). By AI agents, Wed Nov 11 2026. No macro, syntax, notation, axiom, sorry.
-/
import Derived.Test.YtjkfmnahmbnbnaaDoorRows
import GoSem.ClaimSeven
namespace Go.Proofs.YtjkfmnahmbnbnaaDoor
namespace Rows

/-- THE TIED CARD OF 'trovelaw7.InflateTables'. -/
def inflateTablesCard : Claim7 := { stood := { row := inflateTablesRow, standIns := [], harness := (true, "756ea9ef42b0a41e935fbeb94f90bba26a723b95ad63e1451e5ffe010a5796a0"), looks := false }, kinds := [], alts := [], laidByText := true, laidKinds := [.data], laidTests := true, laidLooks := .later }
def InflateTablesCardSaid : Prop := Claim7.holds Tryd.pinned (.plain (OpenSpec.ofChange inflateTablesSpec)) inflateTablesCard

/-- THE TIED CARD OF 'trovelaw7.InflateMade'. -/
def inflateMadeCard : Claim7 := { stood := { row := inflateMadeRow, standIns := [], harness := (true, "756ea9ef42b0a41e935fbeb94f90bba26a723b95ad63e1451e5ffe010a5796a0"), looks := false }, kinds := [], alts := [], laidByText := true, laidKinds := [.data], laidTests := true, laidLooks := .later }
def InflateMadeCardSaid : Prop := Claim7.holds Tryd.pinned (.plain (OpenSpec.ofChange inflateMadeSpec)) inflateMadeCard

/-- THE TIED CARD OF 'trovelaw7.InflateStored'. -/
def inflateStoredCard : Claim7 := { stood := { row := inflateStoredRow, standIns := [], harness := (true, "756ea9ef42b0a41e935fbeb94f90bba26a723b95ad63e1451e5ffe010a5796a0"), looks := false }, kinds := [], alts := [], laidByText := true, laidKinds := [.data], laidTests := true, laidLooks := .later }
def InflateStoredCardSaid : Prop := Claim7.holds Tryd.pinned (.plain (OpenSpec.ofChange inflateStoredSpec)) inflateStoredCard

/-- THE TIED CARD OF 'trovelaw7.InflateFar'. -/
def inflateFarCard : Claim7 := { stood := { row := inflateFarRow, standIns := [], harness := (true, "756ea9ef42b0a41e935fbeb94f90bba26a723b95ad63e1451e5ffe010a5796a0"), looks := false }, kinds := [], alts := [], laidByText := true, laidKinds := [.data], laidTests := true, laidLooks := .later }
def InflateFarCardSaid : Prop := Claim7.holds Tryd.pinned (.plain (OpenSpec.ofChange inflateFarSpec)) inflateFarCard

/-- THE SECOND FORM's CARD OF 'trovelaw7.InflateTables'. -/
def inflateTablesUptoCard : Claim7 := { stood := { row := inflateTablesUptoRow, standIns := [], harness := (true, "756ea9ef42b0a41e935fbeb94f90bba26a723b95ad63e1451e5ffe010a5796a0"), looks := false }, kinds := [], alts := [], laidByText := true, laidKinds := [.data], laidTests := true, laidLooks := .later }
def InflateTablesUptoCardSaid : Prop := Claim7.holds Tryd.pinned (.plain (OpenSpec.upto inflateTablesSpec)) inflateTablesUptoCard

/-- THE SECOND FORM's CARD OF 'trovelaw7.InflateMade'. -/
def inflateMadeUptoCard : Claim7 := { stood := { row := inflateMadeUptoRow, standIns := [], harness := (true, "756ea9ef42b0a41e935fbeb94f90bba26a723b95ad63e1451e5ffe010a5796a0"), looks := false }, kinds := [], alts := [], laidByText := true, laidKinds := [.data], laidTests := true, laidLooks := .later }
def InflateMadeUptoCardSaid : Prop := Claim7.holds Tryd.pinned (.plain (OpenSpec.upto inflateMadeSpec)) inflateMadeUptoCard

/-- THE SECOND FORM's CARD OF 'trovelaw7.InflateStored'. -/
def inflateStoredUptoCard : Claim7 := { stood := { row := inflateStoredUptoRow, standIns := [], harness := (true, "756ea9ef42b0a41e935fbeb94f90bba26a723b95ad63e1451e5ffe010a5796a0"), looks := false }, kinds := [], alts := [], laidByText := true, laidKinds := [.data], laidTests := true, laidLooks := .later }
def InflateStoredUptoCardSaid : Prop := Claim7.holds Tryd.pinned (.plain (OpenSpec.upto inflateStoredSpec)) inflateStoredUptoCard

/-- THE SECOND FORM's CARD OF 'trovelaw7.InflateFar'. -/
def inflateFarUptoCard : Claim7 := { stood := { row := inflateFarUptoRow, standIns := [], harness := (true, "756ea9ef42b0a41e935fbeb94f90bba26a723b95ad63e1451e5ffe010a5796a0"), looks := false }, kinds := [], alts := [], laidByText := true, laidKinds := [.data], laidTests := true, laidLooks := .later }
def InflateFarUptoCardSaid : Prop := Claim7.holds Tryd.pinned (.plain (OpenSpec.upto inflateFarSpec)) inflateFarUptoCard
end Rows
end Go.Proofs.YtjkfmnahmbnbnaaDoor
