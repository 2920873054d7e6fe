/-
  NARROWER THAN 'FOR EVERY INPUT', by the rows' own cells (each row's printed sentence says how): ZlibBytes: laid · ZlibBack: laid · ZlibStored: laid · ZlibSmall: laid · ZlibBounds: laid.
  DERIVED. THE GIVEN ROWS OF THIS SEAT. 5 by the template 'for every input the law returns true; each argument reads behind the call as it read before'; 0 by the template 'total and deterministic' (their statements: YtiahbicodlgmhaaGreatDoorTotals.lean).
  GIVEN WITH THE SEED: the statements are not yours to turn. If you find one false, say at which input.
  Laid BY PROGRAM, IN A SANDBOX (cutbox-rows.mjs): the forced cells as the released guide's own fill.sh prints them over the translation d9636797b382036f… (all of the seat's roots in one cut). By AI agents, Wed Nov 11 2026. No macro, syntax, notation, axiom, sorry.
-/
import Derived.Test.YtiahbicodlgmhaaGreatDoorChecked
import GoSem.Claim
import GoSem.ClaimJoined
import GoSem.ClaimMapViews
import Derived.JoinedTies
import Derived.KernelRfl
namespace Go.Proofs.YtiahbicodlgmhaaGreatDoor
/- THE CELL 'sum', in the pinned program and in every row, IS THE sha256 OF THE DUMP (.gsa) THAT YtiahbicodlgmhaaGreatDoorProg.lean LOADS. Nothing in Lean hashes anything: it is a label: what it is worth is what the hold of that sum in a sandbox is worth. -/
noncomputable def Tryz.pinned : Pinned := { name := "ytiahbicodlgmhaagreatdoor", sum := "d9636797b382036f3598a0703b1e90b93e1cd6ed72217a44c146022e88c6c259", checked := Tryz.checked }
namespace Rows
def none {H : Type} : Left H := { results := [], args := [] }

/- WHAT THE LISTED PACKAGE-LEVEL VARIABLES READ AS WHEN THE CALL BEGINS. Each datum BY PROGRAM (the guide's laid-datum.mjs) off the statement by which the dump's own 'gosem.cut.vars' lays the variable. In a bare row this is a premise. The card (YtiahbicodlgmhaaGreatDoorCards.lean) ties it to the program's text. -/
def laid_trove_inflate_lengthOrder {H : Type} : DataW H := .agg [.lit (.int .i64 16), .lit (.int .i64 17), .lit (.int .i64 18), .lit (.int .i64 0), .lit (.int .i64 8), .lit (.int .i64 7), .lit (.int .i64 9), .lit (.int .i64 6), .lit (.int .i64 10), .lit (.int .i64 5), .lit (.int .i64 11), .lit (.int .i64 4), .lit (.int .i64 12), .lit (.int .i64 3), .lit (.int .i64 13), .lit (.int .i64 2), .lit (.int .i64 14), .lit (.int .i64 1), .lit (.int .i64 15)]
def laid_trove_zlib_lengthOrder {H : Type} : DataW H := .agg [.lit (.int .i64 16), .lit (.int .i64 17), .lit (.int .i64 18), .lit (.int .i64 0), .lit (.int .i64 8), .lit (.int .i64 7), .lit (.int .i64 9), .lit (.int .i64 6), .lit (.int .i64 10), .lit (.int .i64 5), .lit (.int .i64 11), .lit (.int .i64 4), .lit (.int .i64 12), .lit (.int .i64 3), .lit (.int .i64 13), .lit (.int .i64 2), .lit (.int .i64 14), .lit (.int .i64 1), .lit (.int .i64 15)]

/-- 'trovelaw9.ZlibBytes': WHATEVER THE INPUT: true; the input reads as it did. -/
def zlibBytesSpec : ChangeSpec := { name := "zlibBytes", fn := fun _ => fun
  | [d1, d2] => { results := [.lit (.bool true)], args := [d1, d2] }
  | _ => none }
def zlibBytesRow : OpenClaim := { program := "ytiahbicodlgmhaagreatdoor", sum := "d9636797b382036f3598a0703b1e90b93e1cd6ed72217a44c146022e88c6c259", func := "trove/trovelaw9.ZlibBytes", spec := "zlibBytes", unfollowed := true, recurses := true, named := ["trove/zlib.lengthOrder", "trove/inflate.lengthOrder"], apart := false, laid := [("trove/inflate.lengthOrder", laid_trove_inflate_lengthOrder), ("trove/zlib.lengthOrder", laid_trove_zlib_lengthOrder)] }
def ZlibBytesSaid : Prop := zlibBytesRow.holds Tryz.pinned (OpenSpec.ofChange zlibBytesSpec)

/-- ITS FALSE NEIGHBOUR: 'it returns false'. Refute it at one input. -/
def zlibBytesWrong : ChangeSpec := { name := "zlibBytes", fn := fun _ => fun
  | [d1, d2] => { results := [.lit (.bool false)], args := [d1, d2] }
  | _ => none }
def ZlibBytesWrongFalsely : Prop := zlibBytesRow.holds Tryz.pinned (OpenSpec.ofChange zlibBytesWrong)

/-- 'trovelaw9.ZlibBack': WHATEVER THE INPUT: true; the input reads as it did. -/
def zlibBackSpec : ChangeSpec := { name := "zlibBack", fn := fun _ => fun
  | [d1, d2, d3] => { results := [.lit (.bool true)], args := [d1, d2, d3] }
  | _ => none }
def zlibBackRow : OpenClaim := { program := "ytiahbicodlgmhaagreatdoor", sum := "d9636797b382036f3598a0703b1e90b93e1cd6ed72217a44c146022e88c6c259", func := "trove/trovelaw9.ZlibBack", spec := "zlibBack", unfollowed := true, recurses := true, named := ["trove/zlib.lengthOrder", "trove/inflate.lengthOrder"], apart := false, laid := [("trove/inflate.lengthOrder", laid_trove_inflate_lengthOrder), ("trove/zlib.lengthOrder", laid_trove_zlib_lengthOrder)] }
def ZlibBackSaid : Prop := zlibBackRow.holds Tryz.pinned (OpenSpec.ofChange zlibBackSpec)

/-- ITS FALSE NEIGHBOUR: 'it returns false'. Refute it at one input. -/
def zlibBackWrong : ChangeSpec := { name := "zlibBack", fn := fun _ => fun
  | [d1, d2, d3] => { results := [.lit (.bool false)], args := [d1, d2, d3] }
  | _ => none }
def ZlibBackWrongFalsely : Prop := zlibBackRow.holds Tryz.pinned (OpenSpec.ofChange zlibBackWrong)

/-- 'trovelaw9.ZlibStored': WHATEVER THE INPUT: true; the input reads as it did. -/
def zlibStoredSpec : ChangeSpec := { name := "zlibStored", fn := fun _ => fun
  | [d1, d2] => { results := [.lit (.bool true)], args := [d1, d2] }
  | _ => none }
def zlibStoredRow : OpenClaim := { program := "ytiahbicodlgmhaagreatdoor", sum := "d9636797b382036f3598a0703b1e90b93e1cd6ed72217a44c146022e88c6c259", func := "trove/trovelaw9.ZlibStored", spec := "zlibStored", unfollowed := true, recurses := true, named := ["trove/zlib.lengthOrder", "trove/inflate.lengthOrder"], apart := false, laid := [("trove/inflate.lengthOrder", laid_trove_inflate_lengthOrder), ("trove/zlib.lengthOrder", laid_trove_zlib_lengthOrder)] }
def ZlibStoredSaid : Prop := zlibStoredRow.holds Tryz.pinned (OpenSpec.ofChange zlibStoredSpec)

/-- ITS FALSE NEIGHBOUR: 'it returns false'. Refute it at one input. -/
def zlibStoredWrong : ChangeSpec := { name := "zlibStored", fn := fun _ => fun
  | [d1, d2] => { results := [.lit (.bool false)], args := [d1, d2] }
  | _ => none }
def ZlibStoredWrongFalsely : Prop := zlibStoredRow.holds Tryz.pinned (OpenSpec.ofChange zlibStoredWrong)

/-- 'trovelaw9.ZlibSmall': WHATEVER THE INPUT: true; the input reads as it did. -/
def zlibSmallSpec : ChangeSpec := { name := "zlibSmall", fn := fun _ => fun
  | [d1, d2, d3] => { results := [.lit (.bool true)], args := [d1, d2, d3] }
  | _ => none }
def zlibSmallRow : OpenClaim := { program := "ytiahbicodlgmhaagreatdoor", sum := "d9636797b382036f3598a0703b1e90b93e1cd6ed72217a44c146022e88c6c259", func := "trove/trovelaw9.ZlibSmall", spec := "zlibSmall", unfollowed := true, recurses := true, named := ["trove/zlib.lengthOrder", "trove/inflate.lengthOrder"], apart := false, laid := [("trove/inflate.lengthOrder", laid_trove_inflate_lengthOrder), ("trove/zlib.lengthOrder", laid_trove_zlib_lengthOrder)] }
def ZlibSmallSaid : Prop := zlibSmallRow.holds Tryz.pinned (OpenSpec.ofChange zlibSmallSpec)

/-- ITS FALSE NEIGHBOUR: 'it returns false'. Refute it at one input. -/
def zlibSmallWrong : ChangeSpec := { name := "zlibSmall", fn := fun _ => fun
  | [d1, d2, d3] => { results := [.lit (.bool false)], args := [d1, d2, d3] }
  | _ => none }
def ZlibSmallWrongFalsely : Prop := zlibSmallRow.holds Tryz.pinned (OpenSpec.ofChange zlibSmallWrong)

/-- 'trovelaw9.ZlibBounds': WHATEVER THE INPUT: true; the input reads as it did. -/
def zlibBoundsSpec : ChangeSpec := { name := "zlibBounds", fn := fun _ => fun
  | [d1, d2, d3] => { results := [.lit (.bool true)], args := [d1, d2, d3] }
  | _ => none }
def zlibBoundsRow : OpenClaim := { program := "ytiahbicodlgmhaagreatdoor", sum := "d9636797b382036f3598a0703b1e90b93e1cd6ed72217a44c146022e88c6c259", func := "trove/trovelaw9.ZlibBounds", spec := "zlibBounds", unfollowed := true, recurses := true, named := ["trove/zlib.lengthOrder", "trove/inflate.lengthOrder"], apart := false, laid := [("trove/inflate.lengthOrder", laid_trove_inflate_lengthOrder), ("trove/zlib.lengthOrder", laid_trove_zlib_lengthOrder)] }
def ZlibBoundsSaid : Prop := zlibBoundsRow.holds Tryz.pinned (OpenSpec.ofChange zlibBoundsSpec)

/-- ITS FALSE NEIGHBOUR: 'it returns false'. Refute it at one input. -/
def zlibBoundsWrong : ChangeSpec := { name := "zlibBounds", fn := fun _ => fun
  | [d1, d2, d3] => { results := [.lit (.bool false)], args := [d1, d2, d3] }
  | _ => none }
def ZlibBoundsWrongFalsely : Prop := zlibBoundsRow.holds Tryz.pinned (OpenSpec.ofChange zlibBoundsWrong)

/- THE SECOND FORM. 'bulk': how many values and letters a reading holds, each counted each time it is reached (what is shared counts as often as it is met; a slice's spare places count too). A statement '..UptoSaid' is the law's where the arguments, and the package variables that the reading takes, are together of bulk at most 1048576: NARROWER than '..Said'. Prove '..Said' where nothing that the law and all that it calls make is longer than what came in: it says more and counts as full. Else prove '..UptoSaid'. A law counts once. -/
mutual
def uptoBulk {H : Type} : DataW H → Nat
  | .lit (.string bytes) => bytes.length + 1
  | .lit _ => 1
  | .nil => 1
  | .ptr d => uptoBulk d + 1
  | .slice elems spare => uptoBulkAll elems + uptoBulkAll spare + 1
  | .agg parts => uptoBulkAll parts + 1
  | .iface _ d => uptoBulk d + 1
  | .map entries => uptoBulkEntries entries + 1
  | .held _ => 1
def uptoBulkAll {H : Type} : List (DataW H) → Nat
  | [] => 0
  | d :: r => uptoBulk d + uptoBulkAll r
def uptoBulkEntries {H : Type} : List (Lit × DataW H) → Nat
  | [] => 0
  | x :: r => uptoBulkEntry x + uptoBulkEntries r
def uptoBulkEntry {H : Type} : Lit × DataW H → Nat
  | (.string bytes, d) => bytes.length + uptoBulk d + 1
  | (_, d) => uptoBulk d + 1
 end
def uptoSmall : (H : Type) → List (DataW H) → Bool := fun _ ds => decide (uptoBulkAll ds ≤ 1048576)
def OpenSpec.upto (s : _root_.Go.ChangeSpec) : _root_.Go.OpenSpec := { _root_.Go.OpenSpec.ofChange s with cond := some uptoSmall }

/-- 'trovelaw9.ZlibBytes', WHERE WHAT IT READS IS OF BULK AT MOST 1048576: true; the input reads as it did. -/
def zlibBytesUptoRow : OpenClaim := { program := "ytiahbicodlgmhaagreatdoor", sum := "d9636797b382036f3598a0703b1e90b93e1cd6ed72217a44c146022e88c6c259", func := "trove/trovelaw9.ZlibBytes", spec := "zlibBytes", unfollowed := true, recurses := true, named := ["trove/zlib.lengthOrder", "trove/inflate.lengthOrder"], apart := false, laid := [("trove/inflate.lengthOrder", laid_trove_inflate_lengthOrder), ("trove/zlib.lengthOrder", laid_trove_zlib_lengthOrder)], narrowed := true }
def ZlibBytesUptoSaid : Prop := zlibBytesUptoRow.holds Tryz.pinned (OpenSpec.upto zlibBytesSpec)

/-- 'trovelaw9.ZlibBack', WHERE WHAT IT READS IS OF BULK AT MOST 1048576: true; the input reads as it did. -/
def zlibBackUptoRow : OpenClaim := { program := "ytiahbicodlgmhaagreatdoor", sum := "d9636797b382036f3598a0703b1e90b93e1cd6ed72217a44c146022e88c6c259", func := "trove/trovelaw9.ZlibBack", spec := "zlibBack", unfollowed := true, recurses := true, named := ["trove/zlib.lengthOrder", "trove/inflate.lengthOrder"], apart := false, laid := [("trove/inflate.lengthOrder", laid_trove_inflate_lengthOrder), ("trove/zlib.lengthOrder", laid_trove_zlib_lengthOrder)], narrowed := true }
def ZlibBackUptoSaid : Prop := zlibBackUptoRow.holds Tryz.pinned (OpenSpec.upto zlibBackSpec)

/-- 'trovelaw9.ZlibStored', WHERE WHAT IT READS IS OF BULK AT MOST 1048576: true; the input reads as it did. -/
def zlibStoredUptoRow : OpenClaim := { program := "ytiahbicodlgmhaagreatdoor", sum := "d9636797b382036f3598a0703b1e90b93e1cd6ed72217a44c146022e88c6c259", func := "trove/trovelaw9.ZlibStored", spec := "zlibStored", unfollowed := true, recurses := true, named := ["trove/zlib.lengthOrder", "trove/inflate.lengthOrder"], apart := false, laid := [("trove/inflate.lengthOrder", laid_trove_inflate_lengthOrder), ("trove/zlib.lengthOrder", laid_trove_zlib_lengthOrder)], narrowed := true }
def ZlibStoredUptoSaid : Prop := zlibStoredUptoRow.holds Tryz.pinned (OpenSpec.upto zlibStoredSpec)

/-- 'trovelaw9.ZlibSmall', WHERE WHAT IT READS IS OF BULK AT MOST 1048576: true; the input reads as it did. -/
def zlibSmallUptoRow : OpenClaim := { program := "ytiahbicodlgmhaagreatdoor", sum := "d9636797b382036f3598a0703b1e90b93e1cd6ed72217a44c146022e88c6c259", func := "trove/trovelaw9.ZlibSmall", spec := "zlibSmall", unfollowed := true, recurses := true, named := ["trove/zlib.lengthOrder", "trove/inflate.lengthOrder"], apart := false, laid := [("trove/inflate.lengthOrder", laid_trove_inflate_lengthOrder), ("trove/zlib.lengthOrder", laid_trove_zlib_lengthOrder)], narrowed := true }
def ZlibSmallUptoSaid : Prop := zlibSmallUptoRow.holds Tryz.pinned (OpenSpec.upto zlibSmallSpec)

/-- 'trovelaw9.ZlibBounds', WHERE WHAT IT READS IS OF BULK AT MOST 1048576: true; the input reads as it did. -/
def zlibBoundsUptoRow : OpenClaim := { program := "ytiahbicodlgmhaagreatdoor", sum := "d9636797b382036f3598a0703b1e90b93e1cd6ed72217a44c146022e88c6c259", func := "trove/trovelaw9.ZlibBounds", spec := "zlibBounds", unfollowed := true, recurses := true, named := ["trove/zlib.lengthOrder", "trove/inflate.lengthOrder"], apart := false, laid := [("trove/inflate.lengthOrder", laid_trove_inflate_lengthOrder), ("trove/zlib.lengthOrder", laid_trove_zlib_lengthOrder)], narrowed := true }
def ZlibBoundsUptoSaid : Prop := zlibBoundsUptoRow.holds Tryz.pinned (OpenSpec.upto zlibBoundsSpec)

end Rows
end Go.Proofs.YtiahbicodlgmhaaGreatDoor
