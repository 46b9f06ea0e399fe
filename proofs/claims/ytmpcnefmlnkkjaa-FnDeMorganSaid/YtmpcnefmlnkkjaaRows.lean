/-
  No cell of these rows narrows 'for every input' (looked for: loops, veiled, ifaces, maps, wideKeys, modest, calm, conditions, laid).
  DERIVED. THE GIVEN ROWS OF THIS SEAT. 10 by the template 'for every input the law returns true; each argument reads behind the call as it read before'; 0 by the template 'total and deterministic' (their statements: YtmpcnefmlnkkjaaTotals.lean).
  GIVEN WITH THE SEED: the statements are not yours to turn. If you find one false, say at which input.
  Laid BY PROGRAM, IN A SANDBOX (cutbox-rows.mjs): the forced cells as the released guide's own fill.sh prints them over the translation 439566d5d727c64f… (all of the seat's roots in one cut). By AI agents, Wed Nov 11 2026. No macro, syntax, notation, axiom, sorry.
-/
import Derived.Test.YtmpcnefmlnkkjaaChecked
import GoSem.Claim
import GoSem.ClaimJoined
import GoSem.ClaimMapViews
import Derived.JoinedTies
import Derived.KernelRfl
namespace Go.Proofs.Ytmpcnefmlnkkjaa
/- THE CELL 'sum', in the pinned program and in every row, IS THE sha256 OF THE DUMP (.gsa) THAT YtmpcnefmlnkkjaaProg.lean LOADS. Nothing in Lean hashes anything: it is a label: what it is worth is what the hold of that sum in a sandbox is worth. -/
noncomputable def Try.pinned : Pinned := { name := "ytmpcnefmlnkkjaa", sum := "439566d5d727c64fafde3e59829a03823a74fb912fc0766e14675e40ba5b437f", checked := Try.checked }
namespace Rows
def none {H : Type} : Left H := { results := [], args := [] }

/-- 'laws.FnMinimizeUpward': WHATEVER THE INPUT: true; the input reads as it did. -/
def fnMinimizeUpwardSpec : ChangeSpec := { name := "fnMinimizeUpward", fn := fun _ => fun
  | [d1, d2] => { results := [.lit (.bool true)], args := [d1, d2] }
  | _ => none }
def fnMinimizeUpwardRow : OpenClaim := { program := "ytmpcnefmlnkkjaa", sum := "439566d5d727c64fafde3e59829a03823a74fb912fc0766e14675e40ba5b437f", func := "loop.example/flexquorum/laws.FnMinimizeUpward", spec := "fnMinimizeUpward", unfollowed := true, recurses := true, apart := false }
def FnMinimizeUpwardSaid : Prop := fnMinimizeUpwardRow.holds Try.pinned (OpenSpec.ofChange fnMinimizeUpwardSpec)

/-- ITS FALSE NEIGHBOUR: 'it returns false'. Refute it at one input. -/
def fnMinimizeUpwardWrong : ChangeSpec := { name := "fnMinimizeUpward", fn := fun _ => fun
  | [d1, d2] => { results := [.lit (.bool false)], args := [d1, d2] }
  | _ => none }
def FnMinimizeUpwardWrongFalsely : Prop := fnMinimizeUpwardRow.holds Try.pinned (OpenSpec.ofChange fnMinimizeUpwardWrong)

/-- 'laws.FnFamilyOfExpr': WHATEVER THE INPUT: true; the input reads as it did. -/
def fnFamilyOfExprSpec : ChangeSpec := { name := "fnFamilyOfExpr", fn := fun _ => fun
  | [d1, d2] => { results := [.lit (.bool true)], args := [d1, d2] }
  | _ => none }
def fnFamilyOfExprRow : OpenClaim := { program := "ytmpcnefmlnkkjaa", sum := "439566d5d727c64fafde3e59829a03823a74fb912fc0766e14675e40ba5b437f", func := "loop.example/flexquorum/laws.FnFamilyOfExpr", spec := "fnFamilyOfExpr", unfollowed := true, recurses := true, apart := false }
def FnFamilyOfExprSaid : Prop := fnFamilyOfExprRow.holds Try.pinned (OpenSpec.ofChange fnFamilyOfExprSpec)

/-- ITS FALSE NEIGHBOUR: 'it returns false'. Refute it at one input. -/
def fnFamilyOfExprWrong : ChangeSpec := { name := "fnFamilyOfExpr", fn := fun _ => fun
  | [d1, d2] => { results := [.lit (.bool false)], args := [d1, d2] }
  | _ => none }
def FnFamilyOfExprWrongFalsely : Prop := fnFamilyOfExprRow.holds Try.pinned (OpenSpec.ofChange fnFamilyOfExprWrong)

/-- 'laws.FnEither': WHATEVER THE INPUT: true; the input reads as it did. -/
def fnEitherSpec : ChangeSpec := { name := "fnEither", fn := fun _ => fun
  | [d1, d2] => { results := [.lit (.bool true)], args := [d1, d2] }
  | _ => none }
def fnEitherRow : OpenClaim := { program := "ytmpcnefmlnkkjaa", sum := "439566d5d727c64fafde3e59829a03823a74fb912fc0766e14675e40ba5b437f", func := "loop.example/flexquorum/laws.FnEither", spec := "fnEither", unfollowed := true, recurses := true, apart := false }
def FnEitherSaid : Prop := fnEitherRow.holds Try.pinned (OpenSpec.ofChange fnEitherSpec)

/-- ITS FALSE NEIGHBOUR: 'it returns false'. Refute it at one input. -/
def fnEitherWrong : ChangeSpec := { name := "fnEither", fn := fun _ => fun
  | [d1, d2] => { results := [.lit (.bool false)], args := [d1, d2] }
  | _ => none }
def FnEitherWrongFalsely : Prop := fnEitherRow.holds Try.pinned (OpenSpec.ofChange fnEitherWrong)

/-- 'laws.FnTransversals': WHATEVER THE INPUT: true; the input reads as it did. -/
def fnTransversalsSpec : ChangeSpec := { name := "fnTransversals", fn := fun _ => fun
  | [d1, d2] => { results := [.lit (.bool true)], args := [d1, d2] }
  | _ => none }
def fnTransversalsRow : OpenClaim := { program := "ytmpcnefmlnkkjaa", sum := "439566d5d727c64fafde3e59829a03823a74fb912fc0766e14675e40ba5b437f", func := "loop.example/flexquorum/laws.FnTransversals", spec := "fnTransversals", unfollowed := true, recurses := true, apart := false }
def FnTransversalsSaid : Prop := fnTransversalsRow.holds Try.pinned (OpenSpec.ofChange fnTransversalsSpec)

/-- ITS FALSE NEIGHBOUR: 'it returns false'. Refute it at one input. -/
def fnTransversalsWrong : ChangeSpec := { name := "fnTransversals", fn := fun _ => fun
  | [d1, d2] => { results := [.lit (.bool false)], args := [d1, d2] }
  | _ => none }
def FnTransversalsWrongFalsely : Prop := fnTransversalsRow.holds Try.pinned (OpenSpec.ofChange fnTransversalsWrong)

/-- 'laws.FnDeMorgan': WHATEVER THE INPUT: true; the input reads as it did. -/
def fnDeMorganSpec : ChangeSpec := { name := "fnDeMorgan", fn := fun _ => fun
  | [d] => { results := [.lit (.bool true)], args := [d] }
  | _ => none }
def fnDeMorganRow : OpenClaim := { program := "ytmpcnefmlnkkjaa", sum := "439566d5d727c64fafde3e59829a03823a74fb912fc0766e14675e40ba5b437f", func := "loop.example/flexquorum/laws.FnDeMorgan", spec := "fnDeMorgan", unfollowed := true, recurses := true, apart := false }
def FnDeMorganSaid : Prop := fnDeMorganRow.holds Try.pinned (OpenSpec.ofChange fnDeMorganSpec)

/-- ITS FALSE NEIGHBOUR: 'it returns false'. Refute it at one input. -/
def fnDeMorganWrong : ChangeSpec := { name := "fnDeMorgan", fn := fun _ => fun
  | [d] => { results := [.lit (.bool false)], args := [d] }
  | _ => none }
def FnDeMorganWrongFalsely : Prop := fnDeMorganRow.holds Try.pinned (OpenSpec.ofChange fnDeMorganWrong)

/-- 'laws.FnHasQuorum': WHATEVER THE INPUT: true; the input reads as it did. -/
def fnHasQuorumSpec : ChangeSpec := { name := "fnHasQuorum", fn := fun _ => fun
  | [d1, d2] => { results := [.lit (.bool true)], args := [d1, d2] }
  | _ => none }
def fnHasQuorumRow : OpenClaim := { program := "ytmpcnefmlnkkjaa", sum := "439566d5d727c64fafde3e59829a03823a74fb912fc0766e14675e40ba5b437f", func := "loop.example/flexquorum/laws.FnHasQuorum", spec := "fnHasQuorum", recurses := true, apart := false }
def FnHasQuorumSaid : Prop := fnHasQuorumRow.holds Try.pinned (OpenSpec.ofChange fnHasQuorumSpec)

/-- ITS FALSE NEIGHBOUR: 'it returns false'. Refute it at one input. -/
def fnHasQuorumWrong : ChangeSpec := { name := "fnHasQuorum", fn := fun _ => fun
  | [d1, d2] => { results := [.lit (.bool false)], args := [d1, d2] }
  | _ => none }
def FnHasQuorumWrongFalsely : Prop := fnHasQuorumRow.holds Try.pinned (OpenSpec.ofChange fnHasQuorumWrong)

/-- 'laws.FnFamilyValid': WHATEVER THE INPUT: true; the input reads as it did. -/
def fnFamilyValidSpec : ChangeSpec := { name := "fnFamilyValid", fn := fun _ => fun
  | [d1, d2] => { results := [.lit (.bool true)], args := [d1, d2] }
  | _ => none }
def fnFamilyValidRow : OpenClaim := { program := "ytmpcnefmlnkkjaa", sum := "439566d5d727c64fafde3e59829a03823a74fb912fc0766e14675e40ba5b437f", func := "loop.example/flexquorum/laws.FnFamilyValid", spec := "fnFamilyValid", recurses := true, apart := false }
def FnFamilyValidSaid : Prop := fnFamilyValidRow.holds Try.pinned (OpenSpec.ofChange fnFamilyValidSpec)

/-- ITS FALSE NEIGHBOUR: 'it returns false'. Refute it at one input. -/
def fnFamilyValidWrong : ChangeSpec := { name := "fnFamilyValid", fn := fun _ => fun
  | [d1, d2] => { results := [.lit (.bool false)], args := [d1, d2] }
  | _ => none }
def FnFamilyValidWrongFalsely : Prop := fnFamilyValidRow.holds Try.pinned (OpenSpec.ofChange fnFamilyValidWrong)

/-- 'laws.FnDistributeFamilies': WHATEVER THE INPUT: true; the input reads as it did. -/
def fnDistributeFamiliesSpec : ChangeSpec := { name := "fnDistributeFamilies", fn := fun _ => fun
  | [d1, d2] => { results := [.lit (.bool true)], args := [d1, d2] }
  | _ => none }
def fnDistributeFamiliesRow : OpenClaim := { program := "ytmpcnefmlnkkjaa", sum := "439566d5d727c64fafde3e59829a03823a74fb912fc0766e14675e40ba5b437f", func := "loop.example/flexquorum/laws.FnDistributeFamilies", spec := "fnDistributeFamilies", unfollowed := true, recurses := true, apart := false }
def FnDistributeFamiliesSaid : Prop := fnDistributeFamiliesRow.holds Try.pinned (OpenSpec.ofChange fnDistributeFamiliesSpec)

/-- ITS FALSE NEIGHBOUR: 'it returns false'. Refute it at one input. -/
def fnDistributeFamiliesWrong : ChangeSpec := { name := "fnDistributeFamilies", fn := fun _ => fun
  | [d1, d2] => { results := [.lit (.bool false)], args := [d1, d2] }
  | _ => none }
def FnDistributeFamiliesWrongFalsely : Prop := fnDistributeFamiliesRow.holds Try.pinned (OpenSpec.ofChange fnDistributeFamiliesWrong)

/-- 'laws.FnWeightsValid': WHATEVER THE INPUT: true; the input reads as it did. -/
def fnWeightsValidSpec : ChangeSpec := { name := "fnWeightsValid", fn := fun _ => fun
  | [d1, d2] => { results := [.lit (.bool true)], args := [d1, d2] }
  | _ => none }
def fnWeightsValidRow : OpenClaim := { program := "ytmpcnefmlnkkjaa", sum := "439566d5d727c64fafde3e59829a03823a74fb912fc0766e14675e40ba5b437f", func := "loop.example/flexquorum/laws.FnWeightsValid", spec := "fnWeightsValid", apart := false }
def FnWeightsValidSaid : Prop := fnWeightsValidRow.holds Try.pinned (OpenSpec.ofChange fnWeightsValidSpec)

/-- ITS FALSE NEIGHBOUR: 'it returns false'. Refute it at one input. -/
def fnWeightsValidWrong : ChangeSpec := { name := "fnWeightsValid", fn := fun _ => fun
  | [d1, d2] => { results := [.lit (.bool false)], args := [d1, d2] }
  | _ => none }
def FnWeightsValidWrongFalsely : Prop := fnWeightsValidRow.holds Try.pinned (OpenSpec.ofChange fnWeightsValidWrong)

/-- 'laws.FnWeightsScale': WHATEVER THE INPUT: true; the input reads as it did. -/
def fnWeightsScaleSpec : ChangeSpec := { name := "fnWeightsScale", fn := fun _ => fun
  | [d] => { results := [.lit (.bool true)], args := [d] }
  | _ => none }
def fnWeightsScaleRow : OpenClaim := { program := "ytmpcnefmlnkkjaa", sum := "439566d5d727c64fafde3e59829a03823a74fb912fc0766e14675e40ba5b437f", func := "loop.example/flexquorum/laws.FnWeightsScale", spec := "fnWeightsScale", unfollowed := true, recurses := true, apart := false }
def FnWeightsScaleSaid : Prop := fnWeightsScaleRow.holds Try.pinned (OpenSpec.ofChange fnWeightsScaleSpec)

/-- ITS FALSE NEIGHBOUR: 'it returns false'. Refute it at one input. -/
def fnWeightsScaleWrong : ChangeSpec := { name := "fnWeightsScale", fn := fun _ => fun
  | [d] => { results := [.lit (.bool false)], args := [d] }
  | _ => none }
def FnWeightsScaleWrongFalsely : Prop := fnWeightsScaleRow.holds Try.pinned (OpenSpec.ofChange fnWeightsScaleWrong)

/- THE SECOND FORM. 'bulk': how many values and letters a reading holds, each counted each time it is reached (what is shared counts as often as it is met; a slice's spare places count too). A statement '..UptoSaid' is the law's where the arguments, and the package variables that the reading takes, are together of bulk at most 1048576: NARROWER than '..Said'. Prove '..Said' where nothing that the law and all that it calls make is longer than what came in: it says more and counts as full. Else prove '..UptoSaid'. A law counts once. -/
mutual
def uptoBulk {H : Type} : DataW H → Nat
  | .lit (.string bytes) => bytes.length + 1
  | .lit _ => 1
  | .nil => 1
  | .ptr d => uptoBulk d + 1
  | .slice elems spare => uptoBulkAll elems + uptoBulkAll spare + 1
  | .agg parts => uptoBulkAll parts + 1
  | .iface _ d => uptoBulk d + 1
  | .map entries => uptoBulkEntries entries + 1
  | .held _ => 1
def uptoBulkAll {H : Type} : List (DataW H) → Nat
  | [] => 0
  | d :: r => uptoBulk d + uptoBulkAll r
def uptoBulkEntries {H : Type} : List (Lit × DataW H) → Nat
  | [] => 0
  | x :: r => uptoBulkEntry x + uptoBulkEntries r
def uptoBulkEntry {H : Type} : Lit × DataW H → Nat
  | (.string bytes, d) => bytes.length + uptoBulk d + 1
  | (_, d) => uptoBulk d + 1
 end
def uptoSmall : (H : Type) → List (DataW H) → Bool := fun _ ds => decide (uptoBulkAll ds ≤ 1048576)
def OpenSpec.upto (s : _root_.Go.ChangeSpec) : _root_.Go.OpenSpec := { _root_.Go.OpenSpec.ofChange s with cond := some uptoSmall }

/-- 'laws.FnMinimizeUpward', WHERE WHAT IT READS IS OF BULK AT MOST 1048576: true; the input reads as it did. -/
def fnMinimizeUpwardUptoRow : OpenClaim := { program := "ytmpcnefmlnkkjaa", sum := "439566d5d727c64fafde3e59829a03823a74fb912fc0766e14675e40ba5b437f", func := "loop.example/flexquorum/laws.FnMinimizeUpward", spec := "fnMinimizeUpward", unfollowed := true, recurses := true, apart := false, narrowed := true }
def FnMinimizeUpwardUptoSaid : Prop := fnMinimizeUpwardUptoRow.holds Try.pinned (OpenSpec.upto fnMinimizeUpwardSpec)

/-- 'laws.FnFamilyOfExpr', WHERE WHAT IT READS IS OF BULK AT MOST 1048576: true; the input reads as it did. -/
def fnFamilyOfExprUptoRow : OpenClaim := { program := "ytmpcnefmlnkkjaa", sum := "439566d5d727c64fafde3e59829a03823a74fb912fc0766e14675e40ba5b437f", func := "loop.example/flexquorum/laws.FnFamilyOfExpr", spec := "fnFamilyOfExpr", unfollowed := true, recurses := true, apart := false, narrowed := true }
def FnFamilyOfExprUptoSaid : Prop := fnFamilyOfExprUptoRow.holds Try.pinned (OpenSpec.upto fnFamilyOfExprSpec)

/-- 'laws.FnEither', WHERE WHAT IT READS IS OF BULK AT MOST 1048576: true; the input reads as it did. -/
def fnEitherUptoRow : OpenClaim := { program := "ytmpcnefmlnkkjaa", sum := "439566d5d727c64fafde3e59829a03823a74fb912fc0766e14675e40ba5b437f", func := "loop.example/flexquorum/laws.FnEither", spec := "fnEither", unfollowed := true, recurses := true, apart := false, narrowed := true }
def FnEitherUptoSaid : Prop := fnEitherUptoRow.holds Try.pinned (OpenSpec.upto fnEitherSpec)

/-- 'laws.FnTransversals', WHERE WHAT IT READS IS OF BULK AT MOST 1048576: true; the input reads as it did. -/
def fnTransversalsUptoRow : OpenClaim := { program := "ytmpcnefmlnkkjaa", sum := "439566d5d727c64fafde3e59829a03823a74fb912fc0766e14675e40ba5b437f", func := "loop.example/flexquorum/laws.FnTransversals", spec := "fnTransversals", unfollowed := true, recurses := true, apart := false, narrowed := true }
def FnTransversalsUptoSaid : Prop := fnTransversalsUptoRow.holds Try.pinned (OpenSpec.upto fnTransversalsSpec)

/-- 'laws.FnDeMorgan', WHERE WHAT IT READS IS OF BULK AT MOST 1048576: true; the input reads as it did. -/
def fnDeMorganUptoRow : OpenClaim := { program := "ytmpcnefmlnkkjaa", sum := "439566d5d727c64fafde3e59829a03823a74fb912fc0766e14675e40ba5b437f", func := "loop.example/flexquorum/laws.FnDeMorgan", spec := "fnDeMorgan", unfollowed := true, recurses := true, apart := false, narrowed := true }
def FnDeMorganUptoSaid : Prop := fnDeMorganUptoRow.holds Try.pinned (OpenSpec.upto fnDeMorganSpec)

/-- 'laws.FnHasQuorum', WHERE WHAT IT READS IS OF BULK AT MOST 1048576: true; the input reads as it did. -/
def fnHasQuorumUptoRow : OpenClaim := { program := "ytmpcnefmlnkkjaa", sum := "439566d5d727c64fafde3e59829a03823a74fb912fc0766e14675e40ba5b437f", func := "loop.example/flexquorum/laws.FnHasQuorum", spec := "fnHasQuorum", recurses := true, apart := false, narrowed := true }
def FnHasQuorumUptoSaid : Prop := fnHasQuorumUptoRow.holds Try.pinned (OpenSpec.upto fnHasQuorumSpec)

/-- 'laws.FnFamilyValid', WHERE WHAT IT READS IS OF BULK AT MOST 1048576: true; the input reads as it did. -/
def fnFamilyValidUptoRow : OpenClaim := { program := "ytmpcnefmlnkkjaa", sum := "439566d5d727c64fafde3e59829a03823a74fb912fc0766e14675e40ba5b437f", func := "loop.example/flexquorum/laws.FnFamilyValid", spec := "fnFamilyValid", recurses := true, apart := false, narrowed := true }
def FnFamilyValidUptoSaid : Prop := fnFamilyValidUptoRow.holds Try.pinned (OpenSpec.upto fnFamilyValidSpec)

/-- 'laws.FnDistributeFamilies', WHERE WHAT IT READS IS OF BULK AT MOST 1048576: true; the input reads as it did. -/
def fnDistributeFamiliesUptoRow : OpenClaim := { program := "ytmpcnefmlnkkjaa", sum := "439566d5d727c64fafde3e59829a03823a74fb912fc0766e14675e40ba5b437f", func := "loop.example/flexquorum/laws.FnDistributeFamilies", spec := "fnDistributeFamilies", unfollowed := true, recurses := true, apart := false, narrowed := true }
def FnDistributeFamiliesUptoSaid : Prop := fnDistributeFamiliesUptoRow.holds Try.pinned (OpenSpec.upto fnDistributeFamiliesSpec)

/-- 'laws.FnWeightsValid', WHERE WHAT IT READS IS OF BULK AT MOST 1048576: true; the input reads as it did. -/
def fnWeightsValidUptoRow : OpenClaim := { program := "ytmpcnefmlnkkjaa", sum := "439566d5d727c64fafde3e59829a03823a74fb912fc0766e14675e40ba5b437f", func := "loop.example/flexquorum/laws.FnWeightsValid", spec := "fnWeightsValid", apart := false, narrowed := true }
def FnWeightsValidUptoSaid : Prop := fnWeightsValidUptoRow.holds Try.pinned (OpenSpec.upto fnWeightsValidSpec)

/-- 'laws.FnWeightsScale', WHERE WHAT IT READS IS OF BULK AT MOST 1048576: true; the input reads as it did. -/
def fnWeightsScaleUptoRow : OpenClaim := { program := "ytmpcnefmlnkkjaa", sum := "439566d5d727c64fafde3e59829a03823a74fb912fc0766e14675e40ba5b437f", func := "loop.example/flexquorum/laws.FnWeightsScale", spec := "fnWeightsScale", unfollowed := true, recurses := true, apart := false, narrowed := true }
def FnWeightsScaleUptoSaid : Prop := fnWeightsScaleUptoRow.holds Try.pinned (OpenSpec.upto fnWeightsScaleSpec)

end Rows
end Go.Proofs.Ytmpcnefmlnkkjaa
