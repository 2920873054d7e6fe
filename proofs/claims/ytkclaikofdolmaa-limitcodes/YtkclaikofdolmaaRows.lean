/-
  No cell of these rows narrows 'for every input' (looked for: loops, veiled, ifaces, maps, wideKeys, modest, calm, conditions, laid).
  DERIVED. THE GIVEN ROWS OF THIS SEAT. 4 by the template 'for every input the law returns true; each argument reads behind the call as it read before'; 0 by the template 'total and deterministic' (their statements: YtkclaikofdolmaaTotals.lean).
  GIVEN WITH THE SEED: the statements are not yours to turn. If you find one false, say at which input.
  Laid BY PROGRAM, IN A SANDBOX (cutbox-rows.mjs): the forced cells as the released guide's own fill.sh prints them over the translation 3727e9a4af53d054… (all of the seat's roots in one cut). By AI agents, Wed Nov 11 2026. No macro, syntax, notation, axiom, sorry.
-/
import Derived.Test.YtkclaikofdolmaaChecked
import GoSem.Claim
import GoSem.ClaimJoined
import GoSem.ClaimMapViews
import Derived.JoinedTies
import Derived.KernelRfl
namespace Go.Proofs.Ytkclaikofdolmaa
/- THE CELL 'sum', in the pinned program and in every row, IS THE sha256 OF THE DUMP (.gsa) THAT YtkclaikofdolmaaProg.lean LOADS. Nothing in Lean hashes anything: it is a label: what it is worth is what the hold of that sum in a sandbox is worth. -/
noncomputable def Try.pinned : Pinned := { name := "ytkclaikofdolmaa", sum := "3727e9a4af53d054ca5c715d69ab0840f6d84c9d858fdbf9df00e7ed1bba57fc", checked := Try.checked }
namespace Rows
def none {H : Type} : Left H := { results := [], args := [] }

/-- 'trovelaw6.LimitBest': WHATEVER THE INPUT: true; the input reads as it did. -/
def limitBestSpec : ChangeSpec := { name := "limitBest", fn := fun _ => fun
  | [d1, d2] => { results := [.lit (.bool true)], args := [d1, d2] }
  | _ => none }
def limitBestRow : OpenClaim := { program := "ytkclaikofdolmaa", sum := "3727e9a4af53d054ca5c715d69ab0840f6d84c9d858fdbf9df00e7ed1bba57fc", func := "trove/trovelaw6.LimitBest", spec := "limitBest", unfollowed := true, recurses := true, apart := false }
def LimitBestSaid : Prop := limitBestRow.holds Try.pinned (OpenSpec.ofChange limitBestSpec)

/-- ITS FALSE NEIGHBOUR: 'it returns false'. Refute it at one input. -/
def limitBestWrong : ChangeSpec := { name := "limitBest", fn := fun _ => fun
  | [d1, d2] => { results := [.lit (.bool false)], args := [d1, d2] }
  | _ => none }
def LimitBestWrongFalsely : Prop := limitBestRow.holds Try.pinned (OpenSpec.ofChange limitBestWrong)

/-- 'trovelaw6.LimitPlain': WHATEVER THE INPUT: true; the input reads as it did. -/
def limitPlainSpec : ChangeSpec := { name := "limitPlain", fn := fun _ => fun
  | [d] => { results := [.lit (.bool true)], args := [d] }
  | _ => none }
def limitPlainRow : OpenClaim := { program := "ytkclaikofdolmaa", sum := "3727e9a4af53d054ca5c715d69ab0840f6d84c9d858fdbf9df00e7ed1bba57fc", func := "trove/trovelaw6.LimitPlain", spec := "limitPlain", unfollowed := true, recurses := true, apart := false }
def LimitPlainSaid : Prop := limitPlainRow.holds Try.pinned (OpenSpec.ofChange limitPlainSpec)

/-- ITS FALSE NEIGHBOUR: 'it returns false'. Refute it at one input. -/
def limitPlainWrong : ChangeSpec := { name := "limitPlain", fn := fun _ => fun
  | [d] => { results := [.lit (.bool false)], args := [d] }
  | _ => none }
def LimitPlainWrongFalsely : Prop := limitPlainRow.holds Try.pinned (OpenSpec.ofChange limitPlainWrong)

/-- 'trovelaw6.LimitWider': WHATEVER THE INPUT: true; the input reads as it did. -/
def limitWiderSpec : ChangeSpec := { name := "limitWider", fn := fun _ => fun
  | [d1, d2, d3] => { results := [.lit (.bool true)], args := [d1, d2, d3] }
  | _ => none }
def limitWiderRow : OpenClaim := { program := "ytkclaikofdolmaa", sum := "3727e9a4af53d054ca5c715d69ab0840f6d84c9d858fdbf9df00e7ed1bba57fc", func := "trove/trovelaw6.LimitWider", spec := "limitWider", unfollowed := true, recurses := true, apart := false }
def LimitWiderSaid : Prop := limitWiderRow.holds Try.pinned (OpenSpec.ofChange limitWiderSpec)

/-- ITS FALSE NEIGHBOUR: 'it returns false'. Refute it at one input. -/
def limitWiderWrong : ChangeSpec := { name := "limitWider", fn := fun _ => fun
  | [d1, d2, d3] => { results := [.lit (.bool false)], args := [d1, d2, d3] }
  | _ => none }
def LimitWiderWrongFalsely : Prop := limitWiderRow.holds Try.pinned (OpenSpec.ofChange limitWiderWrong)

/-- 'trovelaw6.LimitCodes': WHATEVER THE INPUT: true; the input reads as it did. -/
def limitCodesSpec : ChangeSpec := { name := "limitCodes", fn := fun _ => fun
  | [d1, d2] => { results := [.lit (.bool true)], args := [d1, d2] }
  | _ => none }
def limitCodesRow : OpenClaim := { program := "ytkclaikofdolmaa", sum := "3727e9a4af53d054ca5c715d69ab0840f6d84c9d858fdbf9df00e7ed1bba57fc", func := "trove/trovelaw6.LimitCodes", spec := "limitCodes", unfollowed := true, recurses := true, apart := false }
def LimitCodesSaid : Prop := limitCodesRow.holds Try.pinned (OpenSpec.ofChange limitCodesSpec)

/-- ITS FALSE NEIGHBOUR: 'it returns false'. Refute it at one input. -/
def limitCodesWrong : ChangeSpec := { name := "limitCodes", fn := fun _ => fun
  | [d1, d2] => { results := [.lit (.bool false)], args := [d1, d2] }
  | _ => none }
def LimitCodesWrongFalsely : Prop := limitCodesRow.holds Try.pinned (OpenSpec.ofChange limitCodesWrong)

/- THE SECOND FORM. 'bulk': how many values and letters a reading holds, each counted each time it is reached (what is shared counts as often as it is met; a slice's spare places count too). A statement '..UptoSaid' is the law's where the arguments, and the package variables that the reading takes, are together of bulk at most 1048576: NARROWER than '..Said'. Prove '..Said' where nothing that the law and all that it calls make is longer than what came in: it says more and counts as full. Else prove '..UptoSaid'. A law counts once. -/
mutual
def uptoBulk {H : Type} : DataW H → Nat
  | .lit (.string bytes) => bytes.length + 1
  | .lit _ => 1
  | .nil => 1
  | .ptr d => uptoBulk d + 1
  | .slice elems spare => uptoBulkAll elems + uptoBulkAll spare + 1
  | .agg parts => uptoBulkAll parts + 1
  | .iface _ d => uptoBulk d + 1
  | .map entries => uptoBulkEntries entries + 1
  | .held _ => 1
def uptoBulkAll {H : Type} : List (DataW H) → Nat
  | [] => 0
  | d :: r => uptoBulk d + uptoBulkAll r
def uptoBulkEntries {H : Type} : List (Lit × DataW H) → Nat
  | [] => 0
  | x :: r => uptoBulkEntry x + uptoBulkEntries r
def uptoBulkEntry {H : Type} : Lit × DataW H → Nat
  | (.string bytes, d) => bytes.length + uptoBulk d + 1
  | (_, d) => uptoBulk d + 1
 end
def uptoSmall : (H : Type) → List (DataW H) → Bool := fun _ ds => decide (uptoBulkAll ds ≤ 1048576)
def OpenSpec.upto (s : _root_.Go.ChangeSpec) : _root_.Go.OpenSpec := { _root_.Go.OpenSpec.ofChange s with cond := some uptoSmall }

/-- 'trovelaw6.LimitBest', WHERE WHAT IT READS IS OF BULK AT MOST 1048576: true; the input reads as it did. -/
def limitBestUptoRow : OpenClaim := { program := "ytkclaikofdolmaa", sum := "3727e9a4af53d054ca5c715d69ab0840f6d84c9d858fdbf9df00e7ed1bba57fc", func := "trove/trovelaw6.LimitBest", spec := "limitBest", unfollowed := true, recurses := true, apart := false, narrowed := true }
def LimitBestUptoSaid : Prop := limitBestUptoRow.holds Try.pinned (OpenSpec.upto limitBestSpec)

/-- 'trovelaw6.LimitPlain', WHERE WHAT IT READS IS OF BULK AT MOST 1048576: true; the input reads as it did. -/
def limitPlainUptoRow : OpenClaim := { program := "ytkclaikofdolmaa", sum := "3727e9a4af53d054ca5c715d69ab0840f6d84c9d858fdbf9df00e7ed1bba57fc", func := "trove/trovelaw6.LimitPlain", spec := "limitPlain", unfollowed := true, recurses := true, apart := false, narrowed := true }
def LimitPlainUptoSaid : Prop := limitPlainUptoRow.holds Try.pinned (OpenSpec.upto limitPlainSpec)

/-- 'trovelaw6.LimitWider', WHERE WHAT IT READS IS OF BULK AT MOST 1048576: true; the input reads as it did. -/
def limitWiderUptoRow : OpenClaim := { program := "ytkclaikofdolmaa", sum := "3727e9a4af53d054ca5c715d69ab0840f6d84c9d858fdbf9df00e7ed1bba57fc", func := "trove/trovelaw6.LimitWider", spec := "limitWider", unfollowed := true, recurses := true, apart := false, narrowed := true }
def LimitWiderUptoSaid : Prop := limitWiderUptoRow.holds Try.pinned (OpenSpec.upto limitWiderSpec)

/-- 'trovelaw6.LimitCodes', WHERE WHAT IT READS IS OF BULK AT MOST 1048576: true; the input reads as it did. -/
def limitCodesUptoRow : OpenClaim := { program := "ytkclaikofdolmaa", sum := "3727e9a4af53d054ca5c715d69ab0840f6d84c9d858fdbf9df00e7ed1bba57fc", func := "trove/trovelaw6.LimitCodes", spec := "limitCodes", unfollowed := true, recurses := true, apart := false, narrowed := true }
def LimitCodesUptoSaid : Prop := limitCodesUptoRow.holds Try.pinned (OpenSpec.upto limitCodesSpec)

end Rows
end Go.Proofs.Ytkclaikofdolmaa
