/-
  NARROWER THAN 'FOR EVERY INPUT', by the rows' own cells (each row's printed sentence says how): InflateTables: laid · InflateMade: laid · InflateStored: laid · InflateFar: laid.
  DERIVED. THE GIVEN ROWS OF THIS SEAT. 4 by the template 'for every input the law returns true; each argument reads behind the call as it read before'; 0 by the template 'total and deterministic' (their statements: YtjkfmnahmbnbnaaDoorTotals.lean).
  GIVEN WITH THE SEED: the statements are not yours to turn. If you find one false, say at which input.
  Laid BY PROGRAM, IN A SANDBOX (cutbox-rows.mjs): the forced cells as the released guide's own fill.sh prints them over the translation c1898b4e25def930… (all of the seat's roots in one cut). By AI agents, Wed Nov 11 2026. No macro, syntax, notation, axiom, sorry.
-/
import Derived.Test.YtjkfmnahmbnbnaaDoorChecked
import GoSem.Claim
import GoSem.ClaimJoined
import GoSem.ClaimMapViews
import Derived.JoinedTies
import Derived.KernelRfl
namespace Go.Proofs.YtjkfmnahmbnbnaaDoor
/- THE CELL 'sum', in the pinned program and in every row, IS THE sha256 OF THE DUMP (.gsa) THAT YtjkfmnahmbnbnaaDoorProg.lean LOADS. Nothing in Lean hashes anything: it is a label: what it is worth is what the hold of that sum in a sandbox is worth. -/
noncomputable def Tryd.pinned : Pinned := { name := "ytjkfmnahmbnbnaadoor", sum := "c1898b4e25def930b59829225ef9b181fe2b1c67ed0a56b3972920871ace8a55", checked := Tryd.checked }
namespace Rows
def none {H : Type} : Left H := { results := [], args := [] }

/- WHAT THE LISTED PACKAGE-LEVEL VARIABLES READ AS WHEN THE CALL BEGINS. Each datum BY PROGRAM (the guide's laid-datum.mjs) off the statement by which the dump's own 'gosem.cut.vars' lays the variable. In a bare row this is a premise. The card (YtjkfmnahmbnbnaaDoorCards.lean) ties it to the program's text. -/
def laid_trove_inflate_lengthOrder {H : Type} : DataW H := .agg [.lit (.int .i64 16), .lit (.int .i64 17), .lit (.int .i64 18), .lit (.int .i64 0), .lit (.int .i64 8), .lit (.int .i64 7), .lit (.int .i64 9), .lit (.int .i64 6), .lit (.int .i64 10), .lit (.int .i64 5), .lit (.int .i64 11), .lit (.int .i64 4), .lit (.int .i64 12), .lit (.int .i64 3), .lit (.int .i64 13), .lit (.int .i64 2), .lit (.int .i64 14), .lit (.int .i64 1), .lit (.int .i64 15)]

/-- 'trovelaw7.InflateTables': WHATEVER THE INPUT: true; the input reads as it did. -/
def inflateTablesSpec : ChangeSpec := { name := "inflateTables", fn := fun _ => fun
  | [d] => { results := [.lit (.bool true)], args := [d] }
  | _ => none }
def inflateTablesRow : OpenClaim := { program := "ytjkfmnahmbnbnaadoor", sum := "c1898b4e25def930b59829225ef9b181fe2b1c67ed0a56b3972920871ace8a55", func := "trove/trovelaw7.InflateTables", spec := "inflateTables", unfollowed := true, recurses := true, named := ["trove/inflate.lengthOrder"], apart := false, laid := [("trove/inflate.lengthOrder", laid_trove_inflate_lengthOrder)] }
def InflateTablesSaid : Prop := inflateTablesRow.holds Tryd.pinned (OpenSpec.ofChange inflateTablesSpec)

/-- ITS FALSE NEIGHBOUR: 'it returns false'. Refute it at one input. -/
def inflateTablesWrong : ChangeSpec := { name := "inflateTables", fn := fun _ => fun
  | [d] => { results := [.lit (.bool false)], args := [d] }
  | _ => none }
def InflateTablesWrongFalsely : Prop := inflateTablesRow.holds Tryd.pinned (OpenSpec.ofChange inflateTablesWrong)

/-- 'trovelaw7.InflateMade': WHATEVER THE INPUT: true; the input reads as it did. -/
def inflateMadeSpec : ChangeSpec := { name := "inflateMade", fn := fun _ => fun
  | [d] => { results := [.lit (.bool true)], args := [d] }
  | _ => none }
def inflateMadeRow : OpenClaim := { program := "ytjkfmnahmbnbnaadoor", sum := "c1898b4e25def930b59829225ef9b181fe2b1c67ed0a56b3972920871ace8a55", func := "trove/trovelaw7.InflateMade", spec := "inflateMade", unfollowed := true, recurses := true, named := ["trove/inflate.lengthOrder"], apart := false, laid := [("trove/inflate.lengthOrder", laid_trove_inflate_lengthOrder)] }
def InflateMadeSaid : Prop := inflateMadeRow.holds Tryd.pinned (OpenSpec.ofChange inflateMadeSpec)

/-- ITS FALSE NEIGHBOUR: 'it returns false'. Refute it at one input. -/
def inflateMadeWrong : ChangeSpec := { name := "inflateMade", fn := fun _ => fun
  | [d] => { results := [.lit (.bool false)], args := [d] }
  | _ => none }
def InflateMadeWrongFalsely : Prop := inflateMadeRow.holds Tryd.pinned (OpenSpec.ofChange inflateMadeWrong)

/-- 'trovelaw7.InflateStored': WHATEVER THE INPUT: true; the input reads as it did. -/
def inflateStoredSpec : ChangeSpec := { name := "inflateStored", fn := fun _ => fun
  | [d1, d2] => { results := [.lit (.bool true)], args := [d1, d2] }
  | _ => none }
def inflateStoredRow : OpenClaim := { program := "ytjkfmnahmbnbnaadoor", sum := "c1898b4e25def930b59829225ef9b181fe2b1c67ed0a56b3972920871ace8a55", func := "trove/trovelaw7.InflateStored", spec := "inflateStored", unfollowed := true, recurses := true, named := ["trove/inflate.lengthOrder"], apart := false, laid := [("trove/inflate.lengthOrder", laid_trove_inflate_lengthOrder)] }
def InflateStoredSaid : Prop := inflateStoredRow.holds Tryd.pinned (OpenSpec.ofChange inflateStoredSpec)

/-- ITS FALSE NEIGHBOUR: 'it returns false'. Refute it at one input. -/
def inflateStoredWrong : ChangeSpec := { name := "inflateStored", fn := fun _ => fun
  | [d1, d2] => { results := [.lit (.bool false)], args := [d1, d2] }
  | _ => none }
def InflateStoredWrongFalsely : Prop := inflateStoredRow.holds Tryd.pinned (OpenSpec.ofChange inflateStoredWrong)

/-- 'trovelaw7.InflateFar': WHATEVER THE INPUT: true; the input reads as it did. -/
def inflateFarSpec : ChangeSpec := { name := "inflateFar", fn := fun _ => fun
  | [d1, d2, d3] => { results := [.lit (.bool true)], args := [d1, d2, d3] }
  | _ => none }
def inflateFarRow : OpenClaim := { program := "ytjkfmnahmbnbnaadoor", sum := "c1898b4e25def930b59829225ef9b181fe2b1c67ed0a56b3972920871ace8a55", func := "trove/trovelaw7.InflateFar", spec := "inflateFar", unfollowed := true, recurses := true, named := ["trove/inflate.lengthOrder"], apart := false, laid := [("trove/inflate.lengthOrder", laid_trove_inflate_lengthOrder)] }
def InflateFarSaid : Prop := inflateFarRow.holds Tryd.pinned (OpenSpec.ofChange inflateFarSpec)

/-- ITS FALSE NEIGHBOUR: 'it returns false'. Refute it at one input. -/
def inflateFarWrong : ChangeSpec := { name := "inflateFar", fn := fun _ => fun
  | [d1, d2, d3] => { results := [.lit (.bool false)], args := [d1, d2, d3] }
  | _ => none }
def InflateFarWrongFalsely : Prop := inflateFarRow.holds Tryd.pinned (OpenSpec.ofChange inflateFarWrong)

/- THE SECOND FORM. 'bulk': how many values and letters a reading holds, each counted each time it is reached (what is shared counts as often as it is met; a slice's spare places count too). A statement '..UptoSaid' is the law's where the arguments, and the package variables that the reading takes, are together of bulk at most 1048576: NARROWER than '..Said'. Prove '..Said' where nothing that the law and all that it calls make is longer than what came in: it says more and counts as full. Else prove '..UptoSaid'. A law counts once. -/
mutual
def uptoBulk {H : Type} : DataW H → Nat
  | .lit (.string bytes) => bytes.length + 1
  | .lit _ => 1
  | .nil => 1
  | .ptr d => uptoBulk d + 1
  | .slice elems spare => uptoBulkAll elems + uptoBulkAll spare + 1
  | .agg parts => uptoBulkAll parts + 1
  | .iface _ d => uptoBulk d + 1
  | .map entries => uptoBulkEntries entries + 1
  | .held _ => 1
def uptoBulkAll {H : Type} : List (DataW H) → Nat
  | [] => 0
  | d :: r => uptoBulk d + uptoBulkAll r
def uptoBulkEntries {H : Type} : List (Lit × DataW H) → Nat
  | [] => 0
  | x :: r => uptoBulkEntry x + uptoBulkEntries r
def uptoBulkEntry {H : Type} : Lit × DataW H → Nat
  | (.string bytes, d) => bytes.length + uptoBulk d + 1
  | (_, d) => uptoBulk d + 1
 end
def uptoSmall : (H : Type) → List (DataW H) → Bool := fun _ ds => decide (uptoBulkAll ds ≤ 1048576)
def OpenSpec.upto (s : _root_.Go.ChangeSpec) : _root_.Go.OpenSpec := { _root_.Go.OpenSpec.ofChange s with cond := some uptoSmall }

/-- 'trovelaw7.InflateTables', WHERE WHAT IT READS IS OF BULK AT MOST 1048576: true; the input reads as it did. -/
def inflateTablesUptoRow : OpenClaim := { program := "ytjkfmnahmbnbnaadoor", sum := "c1898b4e25def930b59829225ef9b181fe2b1c67ed0a56b3972920871ace8a55", func := "trove/trovelaw7.InflateTables", spec := "inflateTables", unfollowed := true, recurses := true, named := ["trove/inflate.lengthOrder"], apart := false, laid := [("trove/inflate.lengthOrder", laid_trove_inflate_lengthOrder)], narrowed := true }
def InflateTablesUptoSaid : Prop := inflateTablesUptoRow.holds Tryd.pinned (OpenSpec.upto inflateTablesSpec)

/-- 'trovelaw7.InflateMade', WHERE WHAT IT READS IS OF BULK AT MOST 1048576: true; the input reads as it did. -/
def inflateMadeUptoRow : OpenClaim := { program := "ytjkfmnahmbnbnaadoor", sum := "c1898b4e25def930b59829225ef9b181fe2b1c67ed0a56b3972920871ace8a55", func := "trove/trovelaw7.InflateMade", spec := "inflateMade", unfollowed := true, recurses := true, named := ["trove/inflate.lengthOrder"], apart := false, laid := [("trove/inflate.lengthOrder", laid_trove_inflate_lengthOrder)], narrowed := true }
def InflateMadeUptoSaid : Prop := inflateMadeUptoRow.holds Tryd.pinned (OpenSpec.upto inflateMadeSpec)

/-- 'trovelaw7.InflateStored', WHERE WHAT IT READS IS OF BULK AT MOST 1048576: true; the input reads as it did. -/
def inflateStoredUptoRow : OpenClaim := { program := "ytjkfmnahmbnbnaadoor", sum := "c1898b4e25def930b59829225ef9b181fe2b1c67ed0a56b3972920871ace8a55", func := "trove/trovelaw7.InflateStored", spec := "inflateStored", unfollowed := true, recurses := true, named := ["trove/inflate.lengthOrder"], apart := false, laid := [("trove/inflate.lengthOrder", laid_trove_inflate_lengthOrder)], narrowed := true }
def InflateStoredUptoSaid : Prop := inflateStoredUptoRow.holds Tryd.pinned (OpenSpec.upto inflateStoredSpec)

/-- 'trovelaw7.InflateFar', WHERE WHAT IT READS IS OF BULK AT MOST 1048576: true; the input reads as it did. -/
def inflateFarUptoRow : OpenClaim := { program := "ytjkfmnahmbnbnaadoor", sum := "c1898b4e25def930b59829225ef9b181fe2b1c67ed0a56b3972920871ace8a55", func := "trove/trovelaw7.InflateFar", spec := "inflateFar", unfollowed := true, recurses := true, named := ["trove/inflate.lengthOrder"], apart := false, laid := [("trove/inflate.lengthOrder", laid_trove_inflate_lengthOrder)], narrowed := true }
def InflateFarUptoSaid : Prop := inflateFarUptoRow.holds Tryd.pinned (OpenSpec.upto inflateFarSpec)

end Rows
end Go.Proofs.YtjkfmnahmbnbnaaDoor
