/-
  DERIVED. GIVEN WITH THE SEED: THE CARDS: each row of YtmjcikomcnokkaaDoorRows.lean that lists a variable, with what it lists TIED to the program's text (the seventh form; the later family's looks); each row that meets fmt, with fmt's text TOLD by the authors' own Lean function (tested against real Go, not proved from fmt's source: count such statements apart). THE CARD IS WHAT COUNTS. Prove the row's statement (the work); the ties are given (YtmjcikomcnokkaaDoorTie.lean); close each card by the builder's one call (the guide's Derived/Test/ToyasCard.lean, 'card_holds'). Laid BY PROGRAM, IN A SANDBOX (cutbox-door.mjs). By AI agents, Wed Nov 11 2026. No macro, syntax, notation, axiom, sorry.
-/
import Derived.Test.YtmjcikomcnokkaaDoorRows
import GoSem.ClaimSeven
namespace Go.Proofs.YtmjcikomcnokkaaDoor
namespace Rows

/-- THE TIED CARD OF 'trovelaw11.OidTexts'. -/
def oidTextsCard : Claim7 := { stood := { row := oidTextsRow, standIns := [], harness := (true, "a2274542fb373237a44861a54b64e7f0c2e76335c61970837f651182ba5c2c16"), looks := false }, kinds := [], alts := [], laidByText := true, laidKinds := [.data, .pinned], laidTests := true, laidLooks := .later }
def OidTextsCardSaid : Prop := Claim7.holds Tryd.pinned (.plain (OpenSpec.ofChange oidTextsSpec)) oidTextsCard

/-- THE TIED CARD OF 'trovelaw11.OidRows'. -/
def oidRowsCard : Claim7 := { stood := { row := oidRowsRow, standIns := [], harness := (true, "a2274542fb373237a44861a54b64e7f0c2e76335c61970837f651182ba5c2c16"), looks := false }, kinds := [], alts := [], laidByText := true, laidKinds := [.data, .pinned], laidTests := true, laidLooks := .later }
def OidRowsCardSaid : Prop := Claim7.holds Tryd.pinned (.plain (OpenSpec.ofChange oidRowsSpec)) oidRowsCard

/-- THE TIED CARD OF 'trovelaw11.OidShorts'. -/
def oidShortsCard : Claim7 := { stood := { row := oidShortsRow, standIns := [], harness := (true, "a2274542fb373237a44861a54b64e7f0c2e76335c61970837f651182ba5c2c16"), looks := false }, kinds := [], alts := [], laidByText := true, laidKinds := [.data, .pinned], laidTests := true, laidLooks := .later }
def OidShortsCardSaid : Prop := Claim7.holds Tryd.pinned (.plain (OpenSpec.ofChange oidShortsSpec)) oidShortsCard

/-- THE TIED CARD OF 'trovelaw11.OidOrder'. -/
def oidOrderCard : Claim7 := { stood := { row := oidOrderRow, standIns := [], harness := (true, "a2274542fb373237a44861a54b64e7f0c2e76335c61970837f651182ba5c2c16"), looks := false }, kinds := [], alts := [], laidByText := true, laidKinds := [.data, .pinned], laidTests := true, laidLooks := .later }
def OidOrderCardSaid : Prop := Claim7.holds Tryd.pinned (.plain (OpenSpec.ofChange oidOrderSpec)) oidOrderCard

/-- THE TIED CARD OF 'trovelaw11.OidCounts'. -/
def oidCountsCard : Claim7 := { stood := { row := oidCountsRow, standIns := [], harness := (true, "a2274542fb373237a44861a54b64e7f0c2e76335c61970837f651182ba5c2c16"), looks := false }, kinds := [], alts := [], laidByText := true, laidKinds := [.data, .pinned], laidTests := true, laidLooks := .later }
def OidCountsCardSaid : Prop := Claim7.holds Tryd.pinned (.plain (OpenSpec.ofChange oidCountsSpec)) oidCountsCard

/-- THE SECOND FORM's CARD OF 'trovelaw11.OidTexts'. -/
def oidTextsUptoCard : Claim7 := { stood := { row := oidTextsUptoRow, standIns := [], harness := (true, "a2274542fb373237a44861a54b64e7f0c2e76335c61970837f651182ba5c2c16"), looks := false }, kinds := [], alts := [], laidByText := true, laidKinds := [.data, .pinned], laidTests := true, laidLooks := .later }
def OidTextsUptoCardSaid : Prop := Claim7.holds Tryd.pinned (.plain (OpenSpec.upto oidTextsSpec)) oidTextsUptoCard

/-- THE SECOND FORM's CARD OF 'trovelaw11.OidRows'. -/
def oidRowsUptoCard : Claim7 := { stood := { row := oidRowsUptoRow, standIns := [], harness := (true, "a2274542fb373237a44861a54b64e7f0c2e76335c61970837f651182ba5c2c16"), looks := false }, kinds := [], alts := [], laidByText := true, laidKinds := [.data, .pinned], laidTests := true, laidLooks := .later }
def OidRowsUptoCardSaid : Prop := Claim7.holds Tryd.pinned (.plain (OpenSpec.upto oidRowsSpec)) oidRowsUptoCard

/-- THE SECOND FORM's CARD OF 'trovelaw11.OidShorts'. -/
def oidShortsUptoCard : Claim7 := { stood := { row := oidShortsUptoRow, standIns := [], harness := (true, "a2274542fb373237a44861a54b64e7f0c2e76335c61970837f651182ba5c2c16"), looks := false }, kinds := [], alts := [], laidByText := true, laidKinds := [.data, .pinned], laidTests := true, laidLooks := .later }
def OidShortsUptoCardSaid : Prop := Claim7.holds Tryd.pinned (.plain (OpenSpec.upto oidShortsSpec)) oidShortsUptoCard

/-- THE SECOND FORM's CARD OF 'trovelaw11.OidOrder'. -/
def oidOrderUptoCard : Claim7 := { stood := { row := oidOrderUptoRow, standIns := [], harness := (true, "a2274542fb373237a44861a54b64e7f0c2e76335c61970837f651182ba5c2c16"), looks := false }, kinds := [], alts := [], laidByText := true, laidKinds := [.data, .pinned], laidTests := true, laidLooks := .later }
def OidOrderUptoCardSaid : Prop := Claim7.holds Tryd.pinned (.plain (OpenSpec.upto oidOrderSpec)) oidOrderUptoCard

/-- THE SECOND FORM's CARD OF 'trovelaw11.OidCounts'. -/
def oidCountsUptoCard : Claim7 := { stood := { row := oidCountsUptoRow, standIns := [], harness := (true, "a2274542fb373237a44861a54b64e7f0c2e76335c61970837f651182ba5c2c16"), looks := false }, kinds := [], alts := [], laidByText := true, laidKinds := [.data, .pinned], laidTests := true, laidLooks := .later }
def OidCountsUptoCardSaid : Prop := Claim7.holds Tryd.pinned (.plain (OpenSpec.upto oidCountsSpec)) oidCountsUptoCard
end Rows
end Go.Proofs.YtmjcikomcnokkaaDoor
