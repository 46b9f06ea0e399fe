/-
  No cell of these rows narrows 'for every input' (looked for: loops, veiled, ifaces, maps, wideKeys, modest, calm, conditions, laid).
  DERIVED. THE GIVEN ROWS OF THIS SEAT. 4 by the template 'for every input the law returns true; each argument reads behind the call as it read before'; 0 by the template 'total and deterministic' (their statements: YtlokhnhmiojpnaaTotals.lean).
  GIVEN WITH THE SEED: the statements are not yours to turn. If you find one false, say at which input.
  Laid BY PROGRAM, IN A SANDBOX (cutbox-rows.mjs): the forced cells as the released guide's own fill.sh prints them over the translation 536c3220a20edcfb… (all of the seat's roots in one cut). By AI agents, Wed Nov 11 2026. No macro, syntax, notation, axiom, sorry.
-/
import Derived.Test.YtlokhnhmiojpnaaChecked
import GoSem.Claim
import GoSem.ClaimJoined
import GoSem.ClaimMapViews
import Derived.JoinedTies
import Derived.KernelRfl
namespace Go.Proofs.Ytlokhnhmiojpnaa
/- THE CELL 'sum', in the pinned program and in every row, IS THE sha256 OF THE DUMP (.gsa) THAT YtlokhnhmiojpnaaProg.lean LOADS. Nothing in Lean hashes anything: it is a label: what it is worth is what the hold of that sum in a sandbox is worth. -/
noncomputable def Try.pinned : Pinned := { name := "ytlokhnhmiojpnaa", sum := "536c3220a20edcfb5aeb65d51f1f1684c8acf88b4fcb0955345619054c57f461", checked := Try.checked }
namespace Rows
def none {H : Type} : Left H := { results := [], args := [] }

/-- 'laws.FnBoth': WHATEVER THE INPUT: true; the input reads as it did. -/
def fnBothSpec : ChangeSpec := { name := "fnBoth", fn := fun _ => fun
  | [d1, d2] => { results := [.lit (.bool true)], args := [d1, d2] }
  | _ => none }
def fnBothRow : OpenClaim := { program := "ytlokhnhmiojpnaa", sum := "536c3220a20edcfb5aeb65d51f1f1684c8acf88b4fcb0955345619054c57f461", func := "loop.example/flexquorum/laws.FnBoth", spec := "fnBoth", unfollowed := true, recurses := true, apart := false }
def FnBothSaid : Prop := fnBothRow.holds Try.pinned (OpenSpec.ofChange fnBothSpec)

/-- ITS FALSE NEIGHBOUR: 'it returns false'. Refute it at one input. -/
def fnBothWrong : ChangeSpec := { name := "fnBoth", fn := fun _ => fun
  | [d1, d2] => { results := [.lit (.bool false)], args := [d1, d2] }
  | _ => none }
def FnBothWrongFalsely : Prop := fnBothRow.holds Try.pinned (OpenSpec.ofChange fnBothWrong)

/-- 'laws.FnTransversals': WHATEVER THE INPUT: true; the input reads as it did. -/
def fnTransversalsSpec : ChangeSpec := { name := "fnTransversals", fn := fun _ => fun
  | [d1, d2] => { results := [.lit (.bool true)], args := [d1, d2] }
  | _ => none }
def fnTransversalsRow : OpenClaim := { program := "ytlokhnhmiojpnaa", sum := "536c3220a20edcfb5aeb65d51f1f1684c8acf88b4fcb0955345619054c57f461", func := "loop.example/flexquorum/laws.FnTransversals", spec := "fnTransversals", unfollowed := true, recurses := true, apart := false }
def FnTransversalsSaid : Prop := fnTransversalsRow.holds Try.pinned (OpenSpec.ofChange fnTransversalsSpec)

/-- ITS FALSE NEIGHBOUR: 'it returns false'. Refute it at one input. -/
def fnTransversalsWrong : ChangeSpec := { name := "fnTransversals", fn := fun _ => fun
  | [d1, d2] => { results := [.lit (.bool false)], args := [d1, d2] }
  | _ => none }
def FnTransversalsWrongFalsely : Prop := fnTransversalsRow.holds Try.pinned (OpenSpec.ofChange fnTransversalsWrong)

/-- 'laws.FnHasQuorum': WHATEVER THE INPUT: true; the input reads as it did. -/
def fnHasQuorumSpec : ChangeSpec := { name := "fnHasQuorum", fn := fun _ => fun
  | [d1, d2] => { results := [.lit (.bool true)], args := [d1, d2] }
  | _ => none }
def fnHasQuorumRow : OpenClaim := { program := "ytlokhnhmiojpnaa", sum := "536c3220a20edcfb5aeb65d51f1f1684c8acf88b4fcb0955345619054c57f461", func := "loop.example/flexquorum/laws.FnHasQuorum", spec := "fnHasQuorum", recurses := true, apart := false }
def FnHasQuorumSaid : Prop := fnHasQuorumRow.holds Try.pinned (OpenSpec.ofChange fnHasQuorumSpec)

/-- ITS FALSE NEIGHBOUR: 'it returns false'. Refute it at one input. -/
def fnHasQuorumWrong : ChangeSpec := { name := "fnHasQuorum", fn := fun _ => fun
  | [d1, d2] => { results := [.lit (.bool false)], args := [d1, d2] }
  | _ => none }
def FnHasQuorumWrongFalsely : Prop := fnHasQuorumRow.holds Try.pinned (OpenSpec.ofChange fnHasQuorumWrong)

/-- 'laws.FnWeightsFamily': WHATEVER THE INPUT: true; the input reads as it did. -/
def fnWeightsFamilySpec : ChangeSpec := { name := "fnWeightsFamily", fn := fun _ => fun
  | [d1, d2] => { results := [.lit (.bool true)], args := [d1, d2] }
  | _ => none }
def fnWeightsFamilyRow : OpenClaim := { program := "ytlokhnhmiojpnaa", sum := "536c3220a20edcfb5aeb65d51f1f1684c8acf88b4fcb0955345619054c57f461", func := "loop.example/flexquorum/laws.FnWeightsFamily", spec := "fnWeightsFamily", unfollowed := true, recurses := true, apart := false }
def FnWeightsFamilySaid : Prop := fnWeightsFamilyRow.holds Try.pinned (OpenSpec.ofChange fnWeightsFamilySpec)

/-- ITS FALSE NEIGHBOUR: 'it returns false'. Refute it at one input. -/
def fnWeightsFamilyWrong : ChangeSpec := { name := "fnWeightsFamily", fn := fun _ => fun
  | [d1, d2] => { results := [.lit (.bool false)], args := [d1, d2] }
  | _ => none }
def FnWeightsFamilyWrongFalsely : Prop := fnWeightsFamilyRow.holds Try.pinned (OpenSpec.ofChange fnWeightsFamilyWrong)

/- THE SECOND FORM. 'bulk': how many values and letters a reading holds, each counted each time it is reached (what is shared counts as often as it is met; a slice's spare places count too). A statement '..UptoSaid' is the law's where the arguments, and the package variables that the reading takes, are together of bulk at most 1048576: NARROWER than '..Said'. Prove '..Said' where nothing that the law and all that it calls make is longer than what came in: it says more and counts as full. Else prove '..UptoSaid'. A law counts once. -/
mutual
def uptoBulk {H : Type} : DataW H → Nat
  | .lit (.string bytes) => bytes.length + 1
  | .lit _ => 1
  | .nil => 1
  | .ptr d => uptoBulk d + 1
  | .slice elems spare => uptoBulkAll elems + uptoBulkAll spare + 1
  | .agg parts => uptoBulkAll parts + 1
  | .iface _ d => uptoBulk d + 1
  | .map entries => uptoBulkEntries entries + 1
  | .held _ => 1
def uptoBulkAll {H : Type} : List (DataW H) → Nat
  | [] => 0
  | d :: r => uptoBulk d + uptoBulkAll r
def uptoBulkEntries {H : Type} : List (Lit × DataW H) → Nat
  | [] => 0
  | x :: r => uptoBulkEntry x + uptoBulkEntries r
def uptoBulkEntry {H : Type} : Lit × DataW H → Nat
  | (.string bytes, d) => bytes.length + uptoBulk d + 1
  | (_, d) => uptoBulk d + 1
 end
def uptoSmall : (H : Type) → List (DataW H) → Bool := fun _ ds => decide (uptoBulkAll ds ≤ 1048576)
def OpenSpec.upto (s : _root_.Go.ChangeSpec) : _root_.Go.OpenSpec := { _root_.Go.OpenSpec.ofChange s with cond := some uptoSmall }

/-- 'laws.FnBoth', WHERE WHAT IT READS IS OF BULK AT MOST 1048576: true; the input reads as it did. -/
def fnBothUptoRow : OpenClaim := { program := "ytlokhnhmiojpnaa", sum := "536c3220a20edcfb5aeb65d51f1f1684c8acf88b4fcb0955345619054c57f461", func := "loop.example/flexquorum/laws.FnBoth", spec := "fnBoth", unfollowed := true, recurses := true, apart := false, narrowed := true }
def FnBothUptoSaid : Prop := fnBothUptoRow.holds Try.pinned (OpenSpec.upto fnBothSpec)

/-- 'laws.FnTransversals', WHERE WHAT IT READS IS OF BULK AT MOST 1048576: true; the input reads as it did. -/
def fnTransversalsUptoRow : OpenClaim := { program := "ytlokhnhmiojpnaa", sum := "536c3220a20edcfb5aeb65d51f1f1684c8acf88b4fcb0955345619054c57f461", func := "loop.example/flexquorum/laws.FnTransversals", spec := "fnTransversals", unfollowed := true, recurses := true, apart := false, narrowed := true }
def FnTransversalsUptoSaid : Prop := fnTransversalsUptoRow.holds Try.pinned (OpenSpec.upto fnTransversalsSpec)

/-- 'laws.FnHasQuorum', WHERE WHAT IT READS IS OF BULK AT MOST 1048576: true; the input reads as it did. -/
def fnHasQuorumUptoRow : OpenClaim := { program := "ytlokhnhmiojpnaa", sum := "536c3220a20edcfb5aeb65d51f1f1684c8acf88b4fcb0955345619054c57f461", func := "loop.example/flexquorum/laws.FnHasQuorum", spec := "fnHasQuorum", recurses := true, apart := false, narrowed := true }
def FnHasQuorumUptoSaid : Prop := fnHasQuorumUptoRow.holds Try.pinned (OpenSpec.upto fnHasQuorumSpec)

/-- 'laws.FnWeightsFamily', WHERE WHAT IT READS IS OF BULK AT MOST 1048576: true; the input reads as it did. -/
def fnWeightsFamilyUptoRow : OpenClaim := { program := "ytlokhnhmiojpnaa", sum := "536c3220a20edcfb5aeb65d51f1f1684c8acf88b4fcb0955345619054c57f461", func := "loop.example/flexquorum/laws.FnWeightsFamily", spec := "fnWeightsFamily", unfollowed := true, recurses := true, apart := false, narrowed := true }
def FnWeightsFamilyUptoSaid : Prop := fnWeightsFamilyUptoRow.holds Try.pinned (OpenSpec.upto fnWeightsFamilySpec)

end Rows
end Go.Proofs.Ytlokhnhmiojpnaa
