/-
  No cell of these rows narrows 'for every input' (looked for: loops, veiled, ifaces, maps, wideKeys, modest, calm, conditions, laid).
  DERIVED. THE GIVEN ROWS OF THIS SEAT. 4 by the template 'for every input the law returns true; each argument reads behind the call as it read before'; 0 by the template 'total and deterministic' (their statements: YtmkjpfjlohkdoaaTotals.lean).
  GIVEN WITH THE SEED: the statements are not yours to turn. If you find one false, say at which input.
  Laid BY PROGRAM, IN A SANDBOX (cutbox-rows.mjs): the forced cells as the released guide's own fill.sh prints them over the translation d604f50da153642c… (all of the seat's roots in one cut). By AI agents, Wed Nov 11 2026. No macro, syntax, notation, axiom, sorry.
-/
import Derived.Test.YtmkjpfjlohkdoaaChecked
import GoSem.Claim
import GoSem.ClaimJoined
import GoSem.ClaimMapViews
import Derived.JoinedTies
import Derived.KernelRfl
namespace Go.Proofs.Ytmkjpfjlohkdoaa
/- THE CELL 'sum', in the pinned program and in every row, IS THE sha256 OF THE DUMP (.gsa) THAT YtmkjpfjlohkdoaaProg.lean LOADS. Nothing in Lean hashes anything: it is a label: what it is worth is what the hold of that sum in a sandbox is worth. -/
noncomputable def Try.pinned : Pinned := { name := "ytmkjpfjlohkdoaa", sum := "d604f50da153642cba2eaf476d96f2c2e8c03fb08ca28c3e9d8e8949ad148286", checked := Try.checked }
namespace Rows
def none {H : Type} : Left H := { results := [], args := [] }

/-- 'trovelaw1.BinReads': WHATEVER THE INPUT: true; the input reads as it did. -/
def binReadsSpec : ChangeSpec := { name := "binReads", fn := fun _ => fun
  | [d1, d2] => { results := [.lit (.bool true)], args := [d1, d2] }
  | _ => none }
def binReadsRow : OpenClaim := { program := "ytmkjpfjlohkdoaa", sum := "d604f50da153642cba2eaf476d96f2c2e8c03fb08ca28c3e9d8e8949ad148286", func := "trove/trovelaw1.BinReads", spec := "binReads", apart := false }
def BinReadsSaid : Prop := binReadsRow.holds Try.pinned (OpenSpec.ofChange binReadsSpec)

/-- ITS FALSE NEIGHBOUR: 'it returns false'. Refute it at one input. -/
def binReadsWrong : ChangeSpec := { name := "binReads", fn := fun _ => fun
  | [d1, d2] => { results := [.lit (.bool false)], args := [d1, d2] }
  | _ => none }
def BinReadsWrongFalsely : Prop := binReadsRow.holds Try.pinned (OpenSpec.ofChange binReadsWrong)

/-- 'trovelaw1.BinShort': WHATEVER THE INPUT: true; the input reads as it did. -/
def binShortSpec : ChangeSpec := { name := "binShort", fn := fun _ => fun
  | [d1, d2] => { results := [.lit (.bool true)], args := [d1, d2] }
  | _ => none }
def binShortRow : OpenClaim := { program := "ytmkjpfjlohkdoaa", sum := "d604f50da153642cba2eaf476d96f2c2e8c03fb08ca28c3e9d8e8949ad148286", func := "trove/trovelaw1.BinShort", spec := "binShort", apart := false }
def BinShortSaid : Prop := binShortRow.holds Try.pinned (OpenSpec.ofChange binShortSpec)

/-- ITS FALSE NEIGHBOUR: 'it returns false'. Refute it at one input. -/
def binShortWrong : ChangeSpec := { name := "binShort", fn := fun _ => fun
  | [d1, d2] => { results := [.lit (.bool false)], args := [d1, d2] }
  | _ => none }
def BinShortWrongFalsely : Prop := binShortRow.holds Try.pinned (OpenSpec.ofChange binShortWrong)

/-- 'trovelaw1.BinRows': WHATEVER THE INPUT: true; the input reads as it did. -/
def binRowsSpec : ChangeSpec := { name := "binRows", fn := fun _ => fun
  | [d] => { results := [.lit (.bool true)], args := [d] }
  | _ => none }
def binRowsRow : OpenClaim := { program := "ytmkjpfjlohkdoaa", sum := "d604f50da153642cba2eaf476d96f2c2e8c03fb08ca28c3e9d8e8949ad148286", func := "trove/trovelaw1.BinRows", spec := "binRows", apart := false }
def BinRowsSaid : Prop := binRowsRow.holds Try.pinned (OpenSpec.ofChange binRowsSpec)

/-- ITS FALSE NEIGHBOUR: 'it returns false'. Refute it at one input. -/
def binRowsWrong : ChangeSpec := { name := "binRows", fn := fun _ => fun
  | [d] => { results := [.lit (.bool false)], args := [d] }
  | _ => none }
def BinRowsWrongFalsely : Prop := binRowsRow.holds Try.pinned (OpenSpec.ofChange binRowsWrong)

/-- 'trovelaw1.BinTails': WHATEVER THE INPUT: true; the input reads as it did. -/
def binTailsSpec : ChangeSpec := { name := "binTails", fn := fun _ => fun
  | [d1, d2, d3] => { results := [.lit (.bool true)], args := [d1, d2, d3] }
  | _ => none }
def binTailsRow : OpenClaim := { program := "ytmkjpfjlohkdoaa", sum := "d604f50da153642cba2eaf476d96f2c2e8c03fb08ca28c3e9d8e8949ad148286", func := "trove/trovelaw1.BinTails", spec := "binTails", apart := false }
def BinTailsSaid : Prop := binTailsRow.holds Try.pinned (OpenSpec.ofChange binTailsSpec)

/-- ITS FALSE NEIGHBOUR: 'it returns false'. Refute it at one input. -/
def binTailsWrong : ChangeSpec := { name := "binTails", fn := fun _ => fun
  | [d1, d2, d3] => { results := [.lit (.bool false)], args := [d1, d2, d3] }
  | _ => none }
def BinTailsWrongFalsely : Prop := binTailsRow.holds Try.pinned (OpenSpec.ofChange binTailsWrong)

/- THE SECOND FORM. 'bulk': how many values and letters a reading holds, each counted each time it is reached (what is shared counts as often as it is met; a slice's spare places count too). A statement '..UptoSaid' is the law's where the arguments, and the package variables that the reading takes, are together of bulk at most 1048576: NARROWER than '..Said'. Prove '..Said' where nothing that the law and all that it calls make is longer than what came in: it says more and counts as full. Else prove '..UptoSaid'. A law counts once. -/
mutual
def uptoBulk {H : Type} : DataW H → Nat
  | .lit (.string bytes) => bytes.length + 1
  | .lit _ => 1
  | .nil => 1
  | .ptr d => uptoBulk d + 1
  | .slice elems spare => uptoBulkAll elems + uptoBulkAll spare + 1
  | .agg parts => uptoBulkAll parts + 1
  | .iface _ d => uptoBulk d + 1
  | .map entries => uptoBulkEntries entries + 1
  | .held _ => 1
def uptoBulkAll {H : Type} : List (DataW H) → Nat
  | [] => 0
  | d :: r => uptoBulk d + uptoBulkAll r
def uptoBulkEntries {H : Type} : List (Lit × DataW H) → Nat
  | [] => 0
  | x :: r => uptoBulkEntry x + uptoBulkEntries r
def uptoBulkEntry {H : Type} : Lit × DataW H → Nat
  | (.string bytes, d) => bytes.length + uptoBulk d + 1
  | (_, d) => uptoBulk d + 1
 end
def uptoSmall : (H : Type) → List (DataW H) → Bool := fun _ ds => decide (uptoBulkAll ds ≤ 1048576)
def OpenSpec.upto (s : _root_.Go.ChangeSpec) : _root_.Go.OpenSpec := { _root_.Go.OpenSpec.ofChange s with cond := some uptoSmall }

/-- 'trovelaw1.BinReads', WHERE WHAT IT READS IS OF BULK AT MOST 1048576: true; the input reads as it did. -/
def binReadsUptoRow : OpenClaim := { program := "ytmkjpfjlohkdoaa", sum := "d604f50da153642cba2eaf476d96f2c2e8c03fb08ca28c3e9d8e8949ad148286", func := "trove/trovelaw1.BinReads", spec := "binReads", apart := false, narrowed := true }
def BinReadsUptoSaid : Prop := binReadsUptoRow.holds Try.pinned (OpenSpec.upto binReadsSpec)

/-- 'trovelaw1.BinShort', WHERE WHAT IT READS IS OF BULK AT MOST 1048576: true; the input reads as it did. -/
def binShortUptoRow : OpenClaim := { program := "ytmkjpfjlohkdoaa", sum := "d604f50da153642cba2eaf476d96f2c2e8c03fb08ca28c3e9d8e8949ad148286", func := "trove/trovelaw1.BinShort", spec := "binShort", apart := false, narrowed := true }
def BinShortUptoSaid : Prop := binShortUptoRow.holds Try.pinned (OpenSpec.upto binShortSpec)

/-- 'trovelaw1.BinRows', WHERE WHAT IT READS IS OF BULK AT MOST 1048576: true; the input reads as it did. -/
def binRowsUptoRow : OpenClaim := { program := "ytmkjpfjlohkdoaa", sum := "d604f50da153642cba2eaf476d96f2c2e8c03fb08ca28c3e9d8e8949ad148286", func := "trove/trovelaw1.BinRows", spec := "binRows", apart := false, narrowed := true }
def BinRowsUptoSaid : Prop := binRowsUptoRow.holds Try.pinned (OpenSpec.upto binRowsSpec)

/-- 'trovelaw1.BinTails', WHERE WHAT IT READS IS OF BULK AT MOST 1048576: true; the input reads as it did. -/
def binTailsUptoRow : OpenClaim := { program := "ytmkjpfjlohkdoaa", sum := "d604f50da153642cba2eaf476d96f2c2e8c03fb08ca28c3e9d8e8949ad148286", func := "trove/trovelaw1.BinTails", spec := "binTails", apart := false, narrowed := true }
def BinTailsUptoSaid : Prop := binTailsUptoRow.holds Try.pinned (OpenSpec.upto binTailsSpec)

end Rows
end Go.Proofs.Ytmkjpfjlohkdoaa
