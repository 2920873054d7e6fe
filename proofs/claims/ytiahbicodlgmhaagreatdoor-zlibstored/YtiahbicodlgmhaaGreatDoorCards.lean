/-
  DERIVED. GIVEN WITH THE SEED: THE CARDS: each row of YtiahbicodlgmhaaGreatDoorRows.lean that lists a variable, with what it lists TIED to the program's text (the seventh form; the later family's looks); each row that meets fmt, with fmt's text TOLD by the authors' own Lean function (tested against real Go, not proved from fmt's source: count such statements apart). THE CARD IS WHAT COUNTS. Prove the row's statement (the work); the ties are given (YtiahbicodlgmhaaGreatDoorTie.lean); close each card by the builder's one call (the guide's Derived/Test/ToyasCard.lean, 'card_holds'). Laid BY PROGRAM, IN A SANDBOX (cutbox-door.mjs). By AI agents, Wed Nov 11 2026. No macro, syntax, notation, axiom, sorry.
-/
import Derived.Test.YtiahbicodlgmhaaGreatDoorRows
import GoSem.ClaimSeven
namespace Go.Proofs.YtiahbicodlgmhaaGreatDoor
namespace Rows

/-- THE TIED CARD OF 'trovelaw9.ZlibBytes'. -/
def zlibBytesCard : Claim7 := { stood := { row := zlibBytesRow, standIns := [], harness := (true, "5414ea04bd81f948324fa44216929ce53c4136e1bc3f474c4f7238df1e15f4cd"), looks := true }, kinds := [], alts := [], laidByText := true, laidKinds := [.data, .data], laidTests := true, laidLooks := .later }
def ZlibBytesCardSaid : Prop := Claim7.holds Tryz.pinned (.plain (OpenSpec.ofChange zlibBytesSpec)) zlibBytesCard

/-- THE TIED CARD OF 'trovelaw9.ZlibBack'. -/
def zlibBackCard : Claim7 := { stood := { row := zlibBackRow, standIns := [], harness := (true, "5414ea04bd81f948324fa44216929ce53c4136e1bc3f474c4f7238df1e15f4cd"), looks := true }, kinds := [], alts := [], laidByText := true, laidKinds := [.data, .data], laidTests := true, laidLooks := .later }
def ZlibBackCardSaid : Prop := Claim7.holds Tryz.pinned (.plain (OpenSpec.ofChange zlibBackSpec)) zlibBackCard

/-- THE TIED CARD OF 'trovelaw9.ZlibStored'. -/
def zlibStoredCard : Claim7 := { stood := { row := zlibStoredRow, standIns := [], harness := (true, "5414ea04bd81f948324fa44216929ce53c4136e1bc3f474c4f7238df1e15f4cd"), looks := true }, kinds := [], alts := [], laidByText := true, laidKinds := [.data, .data], laidTests := true, laidLooks := .later }
def ZlibStoredCardSaid : Prop := Claim7.holds Tryz.pinned (.plain (OpenSpec.ofChange zlibStoredSpec)) zlibStoredCard

/-- THE TIED CARD OF 'trovelaw9.ZlibSmall'. -/
def zlibSmallCard : Claim7 := { stood := { row := zlibSmallRow, standIns := [], harness := (true, "5414ea04bd81f948324fa44216929ce53c4136e1bc3f474c4f7238df1e15f4cd"), looks := true }, kinds := [], alts := [], laidByText := true, laidKinds := [.data, .data], laidTests := true, laidLooks := .later }
def ZlibSmallCardSaid : Prop := Claim7.holds Tryz.pinned (.plain (OpenSpec.ofChange zlibSmallSpec)) zlibSmallCard

/-- THE TIED CARD OF 'trovelaw9.ZlibBounds'. -/
def zlibBoundsCard : Claim7 := { stood := { row := zlibBoundsRow, standIns := [], harness := (true, "5414ea04bd81f948324fa44216929ce53c4136e1bc3f474c4f7238df1e15f4cd"), looks := true }, kinds := [], alts := [], laidByText := true, laidKinds := [.data, .data], laidTests := true, laidLooks := .later }
def ZlibBoundsCardSaid : Prop := Claim7.holds Tryz.pinned (.plain (OpenSpec.ofChange zlibBoundsSpec)) zlibBoundsCard

/-- THE SECOND FORM's CARD OF 'trovelaw9.ZlibBytes'. -/
def zlibBytesUptoCard : Claim7 := { stood := { row := zlibBytesUptoRow, standIns := [], harness := (true, "5414ea04bd81f948324fa44216929ce53c4136e1bc3f474c4f7238df1e15f4cd"), looks := true }, kinds := [], alts := [], laidByText := true, laidKinds := [.data, .data], laidTests := true, laidLooks := .later }
def ZlibBytesUptoCardSaid : Prop := Claim7.holds Tryz.pinned (.plain (OpenSpec.upto zlibBytesSpec)) zlibBytesUptoCard

/-- THE SECOND FORM's CARD OF 'trovelaw9.ZlibBack'. -/
def zlibBackUptoCard : Claim7 := { stood := { row := zlibBackUptoRow, standIns := [], harness := (true, "5414ea04bd81f948324fa44216929ce53c4136e1bc3f474c4f7238df1e15f4cd"), looks := true }, kinds := [], alts := [], laidByText := true, laidKinds := [.data, .data], laidTests := true, laidLooks := .later }
def ZlibBackUptoCardSaid : Prop := Claim7.holds Tryz.pinned (.plain (OpenSpec.upto zlibBackSpec)) zlibBackUptoCard

/-- THE SECOND FORM's CARD OF 'trovelaw9.ZlibStored'. -/
def zlibStoredUptoCard : Claim7 := { stood := { row := zlibStoredUptoRow, standIns := [], harness := (true, "5414ea04bd81f948324fa44216929ce53c4136e1bc3f474c4f7238df1e15f4cd"), looks := true }, kinds := [], alts := [], laidByText := true, laidKinds := [.data, .data], laidTests := true, laidLooks := .later }
def ZlibStoredUptoCardSaid : Prop := Claim7.holds Tryz.pinned (.plain (OpenSpec.upto zlibStoredSpec)) zlibStoredUptoCard

/-- THE SECOND FORM's CARD OF 'trovelaw9.ZlibSmall'. -/
def zlibSmallUptoCard : Claim7 := { stood := { row := zlibSmallUptoRow, standIns := [], harness := (true, "5414ea04bd81f948324fa44216929ce53c4136e1bc3f474c4f7238df1e15f4cd"), looks := true }, kinds := [], alts := [], laidByText := true, laidKinds := [.data, .data], laidTests := true, laidLooks := .later }
def ZlibSmallUptoCardSaid : Prop := Claim7.holds Tryz.pinned (.plain (OpenSpec.upto zlibSmallSpec)) zlibSmallUptoCard

/-- THE SECOND FORM's CARD OF 'trovelaw9.ZlibBounds'. -/
def zlibBoundsUptoCard : Claim7 := { stood := { row := zlibBoundsUptoRow, standIns := [], harness := (true, "5414ea04bd81f948324fa44216929ce53c4136e1bc3f474c4f7238df1e15f4cd"), looks := true }, kinds := [], alts := [], laidByText := true, laidKinds := [.data, .data], laidTests := true, laidLooks := .later }
def ZlibBoundsUptoCardSaid : Prop := Claim7.holds Tryz.pinned (.plain (OpenSpec.upto zlibBoundsSpec)) zlibBoundsUptoCard
end Rows
end Go.Proofs.YtiahbicodlgmhaaGreatDoor
