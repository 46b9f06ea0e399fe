/-
  No cell of these rows narrows 'for every input' (looked for: loops, veiled, ifaces, maps, wideKeys, modest, calm, conditions, laid).
  DERIVED. THE GIVEN ROWS OF THIS SEAT. 11 by the template 'for every input the law returns true; each argument reads behind the call as it read before'; 0 by the template 'total and deterministic' (their statements: YtdanecbjmboehaaTotals.lean).
  GIVEN WITH THE SEED: the statements are not yours to turn. If you find one false, say at which input.
  Laid BY PROGRAM, IN A SANDBOX (cutbox-rows.mjs): the forced cells as the released guide's own fill.sh prints them over the translation abf34fbf6280d700… (all of the seat's roots in one cut). By AI agents, Wed Nov 11 2026. No macro, syntax, notation, axiom, sorry.
-/
import Derived.Test.YtdanecbjmboehaaChecked
import GoSem.Claim
import GoSem.ClaimJoined
import GoSem.ClaimMapViews
import Derived.JoinedTies
import Derived.KernelRfl
namespace Go.Proofs.Ytdanecbjmboehaa
/- THE CELL 'sum', in the pinned program and in every row, IS THE sha256 OF THE DUMP (.gsa) THAT YtdanecbjmboehaaProg.lean LOADS. Nothing in Lean hashes anything: it is a label: what it is worth is what the hold of that sum in a sandbox is worth. -/
noncomputable def Try.pinned : Pinned := { name := "ytdanecbjmboehaa", sum := "abf34fbf6280d7007f6d2f81356d0949d8449350828d9b0f19767f9a7253a791", checked := Try.checked }
namespace Rows
def none {H : Type} : Left H := { results := [], args := [] }

/-- 'laws.FnMinimizeIdempotent': WHATEVER THE INPUT: true; the input reads as it did. -/
def fnMinimizeIdempotentSpec : ChangeSpec := { name := "fnMinimizeIdempotent", fn := fun _ => fun
  | [d] => { results := [.lit (.bool true)], args := [d] }
  | _ => none }
def fnMinimizeIdempotentRow : OpenClaim := { program := "ytdanecbjmboehaa", sum := "abf34fbf6280d7007f6d2f81356d0949d8449350828d9b0f19767f9a7253a791", func := "loop.example/flexquorum/laws.FnMinimizeIdempotent", spec := "fnMinimizeIdempotent", unfollowed := true, recurses := true, apart := false }
def FnMinimizeIdempotentSaid : Prop := fnMinimizeIdempotentRow.holds Try.pinned (OpenSpec.ofChange fnMinimizeIdempotentSpec)

/-- ITS FALSE NEIGHBOUR: 'it returns false'. Refute it at one input. -/
def fnMinimizeIdempotentWrong : ChangeSpec := { name := "fnMinimizeIdempotent", fn := fun _ => fun
  | [d] => { results := [.lit (.bool false)], args := [d] }
  | _ => none }
def FnMinimizeIdempotentWrongFalsely : Prop := fnMinimizeIdempotentRow.holds Try.pinned (OpenSpec.ofChange fnMinimizeIdempotentWrong)

/-- 'laws.FnDualTransversals': WHATEVER THE INPUT: true; the input reads as it did. -/
def fnDualTransversalsSpec : ChangeSpec := { name := "fnDualTransversals", fn := fun _ => fun
  | [d] => { results := [.lit (.bool true)], args := [d] }
  | _ => none }
def fnDualTransversalsRow : OpenClaim := { program := "ytdanecbjmboehaa", sum := "abf34fbf6280d7007f6d2f81356d0949d8449350828d9b0f19767f9a7253a791", func := "loop.example/flexquorum/laws.FnDualTransversals", spec := "fnDualTransversals", unfollowed := true, recurses := true, apart := false }
def FnDualTransversalsSaid : Prop := fnDualTransversalsRow.holds Try.pinned (OpenSpec.ofChange fnDualTransversalsSpec)

/-- ITS FALSE NEIGHBOUR: 'it returns false'. Refute it at one input. -/
def fnDualTransversalsWrong : ChangeSpec := { name := "fnDualTransversals", fn := fun _ => fun
  | [d] => { results := [.lit (.bool false)], args := [d] }
  | _ => none }
def FnDualTransversalsWrongFalsely : Prop := fnDualTransversalsRow.holds Try.pinned (OpenSpec.ofChange fnDualTransversalsWrong)

/-- 'laws.FnTransversalsTwice': WHATEVER THE INPUT: true; the input reads as it did. -/
def fnTransversalsTwiceSpec : ChangeSpec := { name := "fnTransversalsTwice", fn := fun _ => fun
  | [d] => { results := [.lit (.bool true)], args := [d] }
  | _ => none }
def fnTransversalsTwiceRow : OpenClaim := { program := "ytdanecbjmboehaa", sum := "abf34fbf6280d7007f6d2f81356d0949d8449350828d9b0f19767f9a7253a791", func := "loop.example/flexquorum/laws.FnTransversalsTwice", spec := "fnTransversalsTwice", unfollowed := true, recurses := true, apart := false }
def FnTransversalsTwiceSaid : Prop := fnTransversalsTwiceRow.holds Try.pinned (OpenSpec.ofChange fnTransversalsTwiceSpec)

/-- ITS FALSE NEIGHBOUR: 'it returns false'. Refute it at one input. -/
def fnTransversalsTwiceWrong : ChangeSpec := { name := "fnTransversalsTwice", fn := fun _ => fun
  | [d] => { results := [.lit (.bool false)], args := [d] }
  | _ => none }
def FnTransversalsTwiceWrongFalsely : Prop := fnTransversalsTwiceRow.holds Try.pinned (OpenSpec.ofChange fnTransversalsTwiceWrong)

/-- 'laws.FnQuorumsMinimal': WHATEVER THE INPUT: true; the input reads as it did. -/
def fnQuorumsMinimalSpec : ChangeSpec := { name := "fnQuorumsMinimal", fn := fun _ => fun
  | [d] => { results := [.lit (.bool true)], args := [d] }
  | _ => none }
def fnQuorumsMinimalRow : OpenClaim := { program := "ytdanecbjmboehaa", sum := "abf34fbf6280d7007f6d2f81356d0949d8449350828d9b0f19767f9a7253a791", func := "loop.example/flexquorum/laws.FnQuorumsMinimal", spec := "fnQuorumsMinimal", recurses := true, apart := false }
def FnQuorumsMinimalSaid : Prop := fnQuorumsMinimalRow.holds Try.pinned (OpenSpec.ofChange fnQuorumsMinimalSpec)

/-- ITS FALSE NEIGHBOUR: 'it returns false'. Refute it at one input. -/
def fnQuorumsMinimalWrong : ChangeSpec := { name := "fnQuorumsMinimal", fn := fun _ => fun
  | [d] => { results := [.lit (.bool false)], args := [d] }
  | _ => none }
def FnQuorumsMinimalWrongFalsely : Prop := fnQuorumsMinimalRow.holds Try.pinned (OpenSpec.ofChange fnQuorumsMinimalWrong)

/-- 'laws.FnExactFamilyValid': WHATEVER THE INPUT: true; the input reads as it did. -/
def fnExactFamilyValidSpec : ChangeSpec := { name := "fnExactFamilyValid", fn := fun _ => fun
  | [d] => { results := [.lit (.bool true)], args := [d] }
  | _ => none }
def fnExactFamilyValidRow : OpenClaim := { program := "ytdanecbjmboehaa", sum := "abf34fbf6280d7007f6d2f81356d0949d8449350828d9b0f19767f9a7253a791", func := "loop.example/flexquorum/laws.FnExactFamilyValid", spec := "fnExactFamilyValid", apart := false }
def FnExactFamilyValidSaid : Prop := fnExactFamilyValidRow.holds Try.pinned (OpenSpec.ofChange fnExactFamilyValidSpec)

/-- ITS FALSE NEIGHBOUR: 'it returns false'. Refute it at one input. -/
def fnExactFamilyValidWrong : ChangeSpec := { name := "fnExactFamilyValid", fn := fun _ => fun
  | [d] => { results := [.lit (.bool false)], args := [d] }
  | _ => none }
def FnExactFamilyValidWrongFalsely : Prop := fnExactFamilyValidRow.holds Try.pinned (OpenSpec.ofChange fnExactFamilyValidWrong)

/-- 'laws.FnExactFamilyMinimize': WHATEVER THE INPUT: true; the input reads as it did. -/
def fnExactFamilyMinimizeSpec : ChangeSpec := { name := "fnExactFamilyMinimize", fn := fun _ => fun
  | [d] => { results := [.lit (.bool true)], args := [d] }
  | _ => none }
def fnExactFamilyMinimizeRow : OpenClaim := { program := "ytdanecbjmboehaa", sum := "abf34fbf6280d7007f6d2f81356d0949d8449350828d9b0f19767f9a7253a791", func := "loop.example/flexquorum/laws.FnExactFamilyMinimize", spec := "fnExactFamilyMinimize", unfollowed := true, recurses := true, apart := false }
def FnExactFamilyMinimizeSaid : Prop := fnExactFamilyMinimizeRow.holds Try.pinned (OpenSpec.ofChange fnExactFamilyMinimizeSpec)

/-- ITS FALSE NEIGHBOUR: 'it returns false'. Refute it at one input. -/
def fnExactFamilyMinimizeWrong : ChangeSpec := { name := "fnExactFamilyMinimize", fn := fun _ => fun
  | [d] => { results := [.lit (.bool false)], args := [d] }
  | _ => none }
def FnExactFamilyMinimizeWrongFalsely : Prop := fnExactFamilyMinimizeRow.holds Try.pinned (OpenSpec.ofChange fnExactFamilyMinimizeWrong)

/-- 'laws.FnExactFamilyHasQuorum': WHATEVER THE INPUT: true; the input reads as it did. -/
def fnExactFamilyHasQuorumSpec : ChangeSpec := { name := "fnExactFamilyHasQuorum", fn := fun _ => fun
  | [d1, d2] => { results := [.lit (.bool true)], args := [d1, d2] }
  | _ => none }
def fnExactFamilyHasQuorumRow : OpenClaim := { program := "ytdanecbjmboehaa", sum := "abf34fbf6280d7007f6d2f81356d0949d8449350828d9b0f19767f9a7253a791", func := "loop.example/flexquorum/laws.FnExactFamilyHasQuorum", spec := "fnExactFamilyHasQuorum", apart := false }
def FnExactFamilyHasQuorumSaid : Prop := fnExactFamilyHasQuorumRow.holds Try.pinned (OpenSpec.ofChange fnExactFamilyHasQuorumSpec)

/-- ITS FALSE NEIGHBOUR: 'it returns false'. Refute it at one input. -/
def fnExactFamilyHasQuorumWrong : ChangeSpec := { name := "fnExactFamilyHasQuorum", fn := fun _ => fun
  | [d1, d2] => { results := [.lit (.bool false)], args := [d1, d2] }
  | _ => none }
def FnExactFamilyHasQuorumWrongFalsely : Prop := fnExactFamilyHasQuorumRow.holds Try.pinned (OpenSpec.ofChange fnExactFamilyHasQuorumWrong)

/-- 'laws.FnExactFamilyOfExpr': WHATEVER THE INPUT: true; the input reads as it did. -/
def fnExactFamilyOfExprSpec : ChangeSpec := { name := "fnExactFamilyOfExpr", fn := fun _ => fun
  | [d] => { results := [.lit (.bool true)], args := [d] }
  | _ => none }
def fnExactFamilyOfExprRow : OpenClaim := { program := "ytdanecbjmboehaa", sum := "abf34fbf6280d7007f6d2f81356d0949d8449350828d9b0f19767f9a7253a791", func := "loop.example/flexquorum/laws.FnExactFamilyOfExpr", spec := "fnExactFamilyOfExpr", unfollowed := true, recurses := true, apart := false }
def FnExactFamilyOfExprSaid : Prop := fnExactFamilyOfExprRow.holds Try.pinned (OpenSpec.ofChange fnExactFamilyOfExprSpec)

/-- ITS FALSE NEIGHBOUR: 'it returns false'. Refute it at one input. -/
def fnExactFamilyOfExprWrong : ChangeSpec := { name := "fnExactFamilyOfExpr", fn := fun _ => fun
  | [d] => { results := [.lit (.bool false)], args := [d] }
  | _ => none }
def FnExactFamilyOfExprWrongFalsely : Prop := fnExactFamilyOfExprRow.holds Try.pinned (OpenSpec.ofChange fnExactFamilyOfExprWrong)

/-- 'laws.FnExactFamilyEither': WHATEVER THE INPUT: true; the input reads as it did. -/
def fnExactFamilyEitherSpec : ChangeSpec := { name := "fnExactFamilyEither", fn := fun _ => fun
  | [d1, d2] => { results := [.lit (.bool true)], args := [d1, d2] }
  | _ => none }
def fnExactFamilyEitherRow : OpenClaim := { program := "ytdanecbjmboehaa", sum := "abf34fbf6280d7007f6d2f81356d0949d8449350828d9b0f19767f9a7253a791", func := "loop.example/flexquorum/laws.FnExactFamilyEither", spec := "fnExactFamilyEither", unfollowed := true, recurses := true, apart := false }
def FnExactFamilyEitherSaid : Prop := fnExactFamilyEitherRow.holds Try.pinned (OpenSpec.ofChange fnExactFamilyEitherSpec)

/-- ITS FALSE NEIGHBOUR: 'it returns false'. Refute it at one input. -/
def fnExactFamilyEitherWrong : ChangeSpec := { name := "fnExactFamilyEither", fn := fun _ => fun
  | [d1, d2] => { results := [.lit (.bool false)], args := [d1, d2] }
  | _ => none }
def FnExactFamilyEitherWrongFalsely : Prop := fnExactFamilyEitherRow.holds Try.pinned (OpenSpec.ofChange fnExactFamilyEitherWrong)

/-- 'laws.FnExactFamilyBoth': WHATEVER THE INPUT: true; the input reads as it did. -/
def fnExactFamilyBothSpec : ChangeSpec := { name := "fnExactFamilyBoth", fn := fun _ => fun
  | [d1, d2] => { results := [.lit (.bool true)], args := [d1, d2] }
  | _ => none }
def fnExactFamilyBothRow : OpenClaim := { program := "ytdanecbjmboehaa", sum := "abf34fbf6280d7007f6d2f81356d0949d8449350828d9b0f19767f9a7253a791", func := "loop.example/flexquorum/laws.FnExactFamilyBoth", spec := "fnExactFamilyBoth", unfollowed := true, recurses := true, apart := false }
def FnExactFamilyBothSaid : Prop := fnExactFamilyBothRow.holds Try.pinned (OpenSpec.ofChange fnExactFamilyBothSpec)

/-- ITS FALSE NEIGHBOUR: 'it returns false'. Refute it at one input. -/
def fnExactFamilyBothWrong : ChangeSpec := { name := "fnExactFamilyBoth", fn := fun _ => fun
  | [d1, d2] => { results := [.lit (.bool false)], args := [d1, d2] }
  | _ => none }
def FnExactFamilyBothWrongFalsely : Prop := fnExactFamilyBothRow.holds Try.pinned (OpenSpec.ofChange fnExactFamilyBothWrong)

/-- 'laws.FnExactFamilyTransversals': WHATEVER THE INPUT: true; the input reads as it did. -/
def fnExactFamilyTransversalsSpec : ChangeSpec := { name := "fnExactFamilyTransversals", fn := fun _ => fun
  | [d] => { results := [.lit (.bool true)], args := [d] }
  | _ => none }
def fnExactFamilyTransversalsRow : OpenClaim := { program := "ytdanecbjmboehaa", sum := "abf34fbf6280d7007f6d2f81356d0949d8449350828d9b0f19767f9a7253a791", func := "loop.example/flexquorum/laws.FnExactFamilyTransversals", spec := "fnExactFamilyTransversals", unfollowed := true, recurses := true, apart := false }
def FnExactFamilyTransversalsSaid : Prop := fnExactFamilyTransversalsRow.holds Try.pinned (OpenSpec.ofChange fnExactFamilyTransversalsSpec)

/-- ITS FALSE NEIGHBOUR: 'it returns false'. Refute it at one input. -/
def fnExactFamilyTransversalsWrong : ChangeSpec := { name := "fnExactFamilyTransversals", fn := fun _ => fun
  | [d] => { results := [.lit (.bool false)], args := [d] }
  | _ => none }
def FnExactFamilyTransversalsWrongFalsely : Prop := fnExactFamilyTransversalsRow.holds Try.pinned (OpenSpec.ofChange fnExactFamilyTransversalsWrong)

/- THE SECOND FORM. 'bulk': how many values and letters a reading holds, each counted each time it is reached (what is shared counts as often as it is met; a slice's spare places count too). A statement '..UptoSaid' is the law's where the arguments, and the package variables that the reading takes, are together of bulk at most 1048576: NARROWER than '..Said'. Prove '..Said' where nothing that the law and all that it calls make is longer than what came in: it says more and counts as full. Else prove '..UptoSaid'. A law counts once. -/
mutual
def uptoBulk {H : Type} : DataW H → Nat
  | .lit (.string bytes) => bytes.length + 1
  | .lit _ => 1
  | .nil => 1
  | .ptr d => uptoBulk d + 1
  | .slice elems spare => uptoBulkAll elems + uptoBulkAll spare + 1
  | .agg parts => uptoBulkAll parts + 1
  | .iface _ d => uptoBulk d + 1
  | .map entries => uptoBulkEntries entries + 1
  | .held _ => 1
def uptoBulkAll {H : Type} : List (DataW H) → Nat
  | [] => 0
  | d :: r => uptoBulk d + uptoBulkAll r
def uptoBulkEntries {H : Type} : List (Lit × DataW H) → Nat
  | [] => 0
  | x :: r => uptoBulkEntry x + uptoBulkEntries r
def uptoBulkEntry {H : Type} : Lit × DataW H → Nat
  | (.string bytes, d) => bytes.length + uptoBulk d + 1
  | (_, d) => uptoBulk d + 1
 end
def uptoSmall : (H : Type) → List (DataW H) → Bool := fun _ ds => decide (uptoBulkAll ds ≤ 1048576)
def OpenSpec.upto (s : _root_.Go.ChangeSpec) : _root_.Go.OpenSpec := { _root_.Go.OpenSpec.ofChange s with cond := some uptoSmall }

/-- 'laws.FnMinimizeIdempotent', WHERE WHAT IT READS IS OF BULK AT MOST 1048576: true; the input reads as it did. -/
def fnMinimizeIdempotentUptoRow : OpenClaim := { program := "ytdanecbjmboehaa", sum := "abf34fbf6280d7007f6d2f81356d0949d8449350828d9b0f19767f9a7253a791", func := "loop.example/flexquorum/laws.FnMinimizeIdempotent", spec := "fnMinimizeIdempotent", unfollowed := true, recurses := true, apart := false, narrowed := true }
def FnMinimizeIdempotentUptoSaid : Prop := fnMinimizeIdempotentUptoRow.holds Try.pinned (OpenSpec.upto fnMinimizeIdempotentSpec)

/-- 'laws.FnDualTransversals', WHERE WHAT IT READS IS OF BULK AT MOST 1048576: true; the input reads as it did. -/
def fnDualTransversalsUptoRow : OpenClaim := { program := "ytdanecbjmboehaa", sum := "abf34fbf6280d7007f6d2f81356d0949d8449350828d9b0f19767f9a7253a791", func := "loop.example/flexquorum/laws.FnDualTransversals", spec := "fnDualTransversals", unfollowed := true, recurses := true, apart := false, narrowed := true }
def FnDualTransversalsUptoSaid : Prop := fnDualTransversalsUptoRow.holds Try.pinned (OpenSpec.upto fnDualTransversalsSpec)

/-- 'laws.FnTransversalsTwice', WHERE WHAT IT READS IS OF BULK AT MOST 1048576: true; the input reads as it did. -/
def fnTransversalsTwiceUptoRow : OpenClaim := { program := "ytdanecbjmboehaa", sum := "abf34fbf6280d7007f6d2f81356d0949d8449350828d9b0f19767f9a7253a791", func := "loop.example/flexquorum/laws.FnTransversalsTwice", spec := "fnTransversalsTwice", unfollowed := true, recurses := true, apart := false, narrowed := true }
def FnTransversalsTwiceUptoSaid : Prop := fnTransversalsTwiceUptoRow.holds Try.pinned (OpenSpec.upto fnTransversalsTwiceSpec)

/-- 'laws.FnQuorumsMinimal', WHERE WHAT IT READS IS OF BULK AT MOST 1048576: true; the input reads as it did. -/
def fnQuorumsMinimalUptoRow : OpenClaim := { program := "ytdanecbjmboehaa", sum := "abf34fbf6280d7007f6d2f81356d0949d8449350828d9b0f19767f9a7253a791", func := "loop.example/flexquorum/laws.FnQuorumsMinimal", spec := "fnQuorumsMinimal", recurses := true, apart := false, narrowed := true }
def FnQuorumsMinimalUptoSaid : Prop := fnQuorumsMinimalUptoRow.holds Try.pinned (OpenSpec.upto fnQuorumsMinimalSpec)

/-- 'laws.FnExactFamilyValid', WHERE WHAT IT READS IS OF BULK AT MOST 1048576: true; the input reads as it did. -/
def fnExactFamilyValidUptoRow : OpenClaim := { program := "ytdanecbjmboehaa", sum := "abf34fbf6280d7007f6d2f81356d0949d8449350828d9b0f19767f9a7253a791", func := "loop.example/flexquorum/laws.FnExactFamilyValid", spec := "fnExactFamilyValid", apart := false, narrowed := true }
def FnExactFamilyValidUptoSaid : Prop := fnExactFamilyValidUptoRow.holds Try.pinned (OpenSpec.upto fnExactFamilyValidSpec)

/-- 'laws.FnExactFamilyMinimize', WHERE WHAT IT READS IS OF BULK AT MOST 1048576: true; the input reads as it did. -/
def fnExactFamilyMinimizeUptoRow : OpenClaim := { program := "ytdanecbjmboehaa", sum := "abf34fbf6280d7007f6d2f81356d0949d8449350828d9b0f19767f9a7253a791", func := "loop.example/flexquorum/laws.FnExactFamilyMinimize", spec := "fnExactFamilyMinimize", unfollowed := true, recurses := true, apart := false, narrowed := true }
def FnExactFamilyMinimizeUptoSaid : Prop := fnExactFamilyMinimizeUptoRow.holds Try.pinned (OpenSpec.upto fnExactFamilyMinimizeSpec)

/-- 'laws.FnExactFamilyHasQuorum', WHERE WHAT IT READS IS OF BULK AT MOST 1048576: true; the input reads as it did. -/
def fnExactFamilyHasQuorumUptoRow : OpenClaim := { program := "ytdanecbjmboehaa", sum := "abf34fbf6280d7007f6d2f81356d0949d8449350828d9b0f19767f9a7253a791", func := "loop.example/flexquorum/laws.FnExactFamilyHasQuorum", spec := "fnExactFamilyHasQuorum", apart := false, narrowed := true }
def FnExactFamilyHasQuorumUptoSaid : Prop := fnExactFamilyHasQuorumUptoRow.holds Try.pinned (OpenSpec.upto fnExactFamilyHasQuorumSpec)

/-- 'laws.FnExactFamilyOfExpr', WHERE WHAT IT READS IS OF BULK AT MOST 1048576: true; the input reads as it did. -/
def fnExactFamilyOfExprUptoRow : OpenClaim := { program := "ytdanecbjmboehaa", sum := "abf34fbf6280d7007f6d2f81356d0949d8449350828d9b0f19767f9a7253a791", func := "loop.example/flexquorum/laws.FnExactFamilyOfExpr", spec := "fnExactFamilyOfExpr", unfollowed := true, recurses := true, apart := false, narrowed := true }
def FnExactFamilyOfExprUptoSaid : Prop := fnExactFamilyOfExprUptoRow.holds Try.pinned (OpenSpec.upto fnExactFamilyOfExprSpec)

/-- 'laws.FnExactFamilyEither', WHERE WHAT IT READS IS OF BULK AT MOST 1048576: true; the input reads as it did. -/
def fnExactFamilyEitherUptoRow : OpenClaim := { program := "ytdanecbjmboehaa", sum := "abf34fbf6280d7007f6d2f81356d0949d8449350828d9b0f19767f9a7253a791", func := "loop.example/flexquorum/laws.FnExactFamilyEither", spec := "fnExactFamilyEither", unfollowed := true, recurses := true, apart := false, narrowed := true }
def FnExactFamilyEitherUptoSaid : Prop := fnExactFamilyEitherUptoRow.holds Try.pinned (OpenSpec.upto fnExactFamilyEitherSpec)

/-- 'laws.FnExactFamilyBoth', WHERE WHAT IT READS IS OF BULK AT MOST 1048576: true; the input reads as it did. -/
def fnExactFamilyBothUptoRow : OpenClaim := { program := "ytdanecbjmboehaa", sum := "abf34fbf6280d7007f6d2f81356d0949d8449350828d9b0f19767f9a7253a791", func := "loop.example/flexquorum/laws.FnExactFamilyBoth", spec := "fnExactFamilyBoth", unfollowed := true, recurses := true, apart := false, narrowed := true }
def FnExactFamilyBothUptoSaid : Prop := fnExactFamilyBothUptoRow.holds Try.pinned (OpenSpec.upto fnExactFamilyBothSpec)

/-- 'laws.FnExactFamilyTransversals', WHERE WHAT IT READS IS OF BULK AT MOST 1048576: true; the input reads as it did. -/
def fnExactFamilyTransversalsUptoRow : OpenClaim := { program := "ytdanecbjmboehaa", sum := "abf34fbf6280d7007f6d2f81356d0949d8449350828d9b0f19767f9a7253a791", func := "loop.example/flexquorum/laws.FnExactFamilyTransversals", spec := "fnExactFamilyTransversals", unfollowed := true, recurses := true, apart := false, narrowed := true }
def FnExactFamilyTransversalsUptoSaid : Prop := fnExactFamilyTransversalsUptoRow.holds Try.pinned (OpenSpec.upto fnExactFamilyTransversalsSpec)

end Rows
end Go.Proofs.Ytdanecbjmboehaa
