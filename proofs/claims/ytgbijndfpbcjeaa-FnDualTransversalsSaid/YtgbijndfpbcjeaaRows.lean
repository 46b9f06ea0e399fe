/-
  No cell of these rows narrows 'for every input' (looked for: loops, veiled, ifaces, maps, wideKeys, modest, calm, conditions, laid).
  DERIVED. THE GIVEN ROWS OF THIS SEAT. 12 by the template 'for every input the law returns true; each argument reads behind the call as it read before'; 0 by the template 'total and deterministic' (their statements: YtgbijndfpbcjeaaTotals.lean).
  GIVEN WITH THE SEED: the statements are not yours to turn. If you find one false, say at which input.
  Laid BY PROGRAM, IN A SANDBOX (cutbox-rows.mjs): the forced cells as the released guide's own fill.sh prints them over the translation c0372fe57e89367e… (all of the seat's roots in one cut). By AI agents, Wed Nov 11 2026. No macro, syntax, notation, axiom, sorry.
-/
import Derived.Test.YtgbijndfpbcjeaaChecked
import GoSem.Claim
import GoSem.ClaimJoined
import GoSem.ClaimMapViews
import Derived.JoinedTies
import Derived.KernelRfl
namespace Go.Proofs.Ytgbijndfpbcjeaa
/- THE CELL 'sum', in the pinned program and in every row, IS THE sha256 OF THE DUMP (.gsa) THAT YtgbijndfpbcjeaaProg.lean LOADS. Nothing in Lean hashes anything: it is a label: what it is worth is what the hold of that sum in a sandbox is worth. -/
noncomputable def Try.pinned : Pinned := { name := "ytgbijndfpbcjeaa", sum := "c0372fe57e89367e89714827af72337c676f5d2a1cde73538446367123a9b653", checked := Try.checked }
namespace Rows
def none {H : Type} : Left H := { results := [], args := [] }

/-- 'laws.FnMinimizeIdempotent': WHATEVER THE INPUT: true; the input reads as it did. -/
def fnMinimizeIdempotentSpec : ChangeSpec := { name := "fnMinimizeIdempotent", fn := fun _ => fun
  | [d] => { results := [.lit (.bool true)], args := [d] }
  | _ => none }
def fnMinimizeIdempotentRow : OpenClaim := { program := "ytgbijndfpbcjeaa", sum := "c0372fe57e89367e89714827af72337c676f5d2a1cde73538446367123a9b653", func := "loop.example/flexquorum/laws.FnMinimizeIdempotent", spec := "fnMinimizeIdempotent", unfollowed := true, recurses := true, apart := false }
def FnMinimizeIdempotentSaid : Prop := fnMinimizeIdempotentRow.holds Try.pinned (OpenSpec.ofChange fnMinimizeIdempotentSpec)

/-- ITS FALSE NEIGHBOUR: 'it returns false'. Refute it at one input. -/
def fnMinimizeIdempotentWrong : ChangeSpec := { name := "fnMinimizeIdempotent", fn := fun _ => fun
  | [d] => { results := [.lit (.bool false)], args := [d] }
  | _ => none }
def FnMinimizeIdempotentWrongFalsely : Prop := fnMinimizeIdempotentRow.holds Try.pinned (OpenSpec.ofChange fnMinimizeIdempotentWrong)

/-- 'laws.FnDualTransversals': WHATEVER THE INPUT: true; the input reads as it did. -/
def fnDualTransversalsSpec : ChangeSpec := { name := "fnDualTransversals", fn := fun _ => fun
  | [d] => { results := [.lit (.bool true)], args := [d] }
  | _ => none }
def fnDualTransversalsRow : OpenClaim := { program := "ytgbijndfpbcjeaa", sum := "c0372fe57e89367e89714827af72337c676f5d2a1cde73538446367123a9b653", func := "loop.example/flexquorum/laws.FnDualTransversals", spec := "fnDualTransversals", unfollowed := true, recurses := true, apart := false }
def FnDualTransversalsSaid : Prop := fnDualTransversalsRow.holds Try.pinned (OpenSpec.ofChange fnDualTransversalsSpec)

/-- ITS FALSE NEIGHBOUR: 'it returns false'. Refute it at one input. -/
def fnDualTransversalsWrong : ChangeSpec := { name := "fnDualTransversals", fn := fun _ => fun
  | [d] => { results := [.lit (.bool false)], args := [d] }
  | _ => none }
def FnDualTransversalsWrongFalsely : Prop := fnDualTransversalsRow.holds Try.pinned (OpenSpec.ofChange fnDualTransversalsWrong)

/-- 'laws.FnTransversalsTwice': WHATEVER THE INPUT: true; the input reads as it did. -/
def fnTransversalsTwiceSpec : ChangeSpec := { name := "fnTransversalsTwice", fn := fun _ => fun
  | [d] => { results := [.lit (.bool true)], args := [d] }
  | _ => none }
def fnTransversalsTwiceRow : OpenClaim := { program := "ytgbijndfpbcjeaa", sum := "c0372fe57e89367e89714827af72337c676f5d2a1cde73538446367123a9b653", func := "loop.example/flexquorum/laws.FnTransversalsTwice", spec := "fnTransversalsTwice", unfollowed := true, recurses := true, apart := false }
def FnTransversalsTwiceSaid : Prop := fnTransversalsTwiceRow.holds Try.pinned (OpenSpec.ofChange fnTransversalsTwiceSpec)

/-- ITS FALSE NEIGHBOUR: 'it returns false'. Refute it at one input. -/
def fnTransversalsTwiceWrong : ChangeSpec := { name := "fnTransversalsTwice", fn := fun _ => fun
  | [d] => { results := [.lit (.bool false)], args := [d] }
  | _ => none }
def FnTransversalsTwiceWrongFalsely : Prop := fnTransversalsTwiceRow.holds Try.pinned (OpenSpec.ofChange fnTransversalsTwiceWrong)

/-- 'laws.FnQuorumsMinimal': WHATEVER THE INPUT: true; the input reads as it did. -/
def fnQuorumsMinimalSpec : ChangeSpec := { name := "fnQuorumsMinimal", fn := fun _ => fun
  | [d] => { results := [.lit (.bool true)], args := [d] }
  | _ => none }
def fnQuorumsMinimalRow : OpenClaim := { program := "ytgbijndfpbcjeaa", sum := "c0372fe57e89367e89714827af72337c676f5d2a1cde73538446367123a9b653", func := "loop.example/flexquorum/laws.FnQuorumsMinimal", spec := "fnQuorumsMinimal", recurses := true, apart := false }
def FnQuorumsMinimalSaid : Prop := fnQuorumsMinimalRow.holds Try.pinned (OpenSpec.ofChange fnQuorumsMinimalSpec)

/-- ITS FALSE NEIGHBOUR: 'it returns false'. Refute it at one input. -/
def fnQuorumsMinimalWrong : ChangeSpec := { name := "fnQuorumsMinimal", fn := fun _ => fun
  | [d] => { results := [.lit (.bool false)], args := [d] }
  | _ => none }
def FnQuorumsMinimalWrongFalsely : Prop := fnQuorumsMinimalRow.holds Try.pinned (OpenSpec.ofChange fnQuorumsMinimalWrong)

/-- 'laws.FnMajorityMeets': WHATEVER THE INPUT: true; the input reads as it did. -/
def fnMajorityMeetsSpec : ChangeSpec := { name := "fnMajorityMeets", fn := fun _ => fun
  | [d] => { results := [.lit (.bool true)], args := [d] }
  | _ => none }
def fnMajorityMeetsRow : OpenClaim := { program := "ytgbijndfpbcjeaa", sum := "c0372fe57e89367e89714827af72337c676f5d2a1cde73538446367123a9b653", func := "loop.example/flexquorum/laws.FnMajorityMeets", spec := "fnMajorityMeets", unfollowed := true, recurses := true, apart := false }
def FnMajorityMeetsSaid : Prop := fnMajorityMeetsRow.holds Try.pinned (OpenSpec.ofChange fnMajorityMeetsSpec)

/-- ITS FALSE NEIGHBOUR: 'it returns false'. Refute it at one input. -/
def fnMajorityMeetsWrong : ChangeSpec := { name := "fnMajorityMeets", fn := fun _ => fun
  | [d] => { results := [.lit (.bool false)], args := [d] }
  | _ => none }
def FnMajorityMeetsWrongFalsely : Prop := fnMajorityMeetsRow.holds Try.pinned (OpenSpec.ofChange fnMajorityMeetsWrong)

/-- 'laws.FnWeightsTight': WHATEVER THE INPUT: true; the input reads as it did. -/
def fnWeightsTightSpec : ChangeSpec := { name := "fnWeightsTight", fn := fun _ => fun
  | [d] => { results := [.lit (.bool true)], args := [d] }
  | _ => none }
def fnWeightsTightRow : OpenClaim := { program := "ytgbijndfpbcjeaa", sum := "c0372fe57e89367e89714827af72337c676f5d2a1cde73538446367123a9b653", func := "loop.example/flexquorum/laws.FnWeightsTight", spec := "fnWeightsTight", unfollowed := true, recurses := true, apart := false }
def FnWeightsTightSaid : Prop := fnWeightsTightRow.holds Try.pinned (OpenSpec.ofChange fnWeightsTightSpec)

/-- ITS FALSE NEIGHBOUR: 'it returns false'. Refute it at one input. -/
def fnWeightsTightWrong : ChangeSpec := { name := "fnWeightsTight", fn := fun _ => fun
  | [d] => { results := [.lit (.bool false)], args := [d] }
  | _ => none }
def FnWeightsTightWrongFalsely : Prop := fnWeightsTightRow.holds Try.pinned (OpenSpec.ofChange fnWeightsTightWrong)

/-- 'laws.FnExactFamilyOfExpr': WHATEVER THE INPUT: true; the input reads as it did. -/
def fnExactFamilyOfExprSpec : ChangeSpec := { name := "fnExactFamilyOfExpr", fn := fun _ => fun
  | [d] => { results := [.lit (.bool true)], args := [d] }
  | _ => none }
def fnExactFamilyOfExprRow : OpenClaim := { program := "ytgbijndfpbcjeaa", sum := "c0372fe57e89367e89714827af72337c676f5d2a1cde73538446367123a9b653", func := "loop.example/flexquorum/laws.FnExactFamilyOfExpr", spec := "fnExactFamilyOfExpr", unfollowed := true, recurses := true, apart := false }
def FnExactFamilyOfExprSaid : Prop := fnExactFamilyOfExprRow.holds Try.pinned (OpenSpec.ofChange fnExactFamilyOfExprSpec)

/-- ITS FALSE NEIGHBOUR: 'it returns false'. Refute it at one input. -/
def fnExactFamilyOfExprWrong : ChangeSpec := { name := "fnExactFamilyOfExpr", fn := fun _ => fun
  | [d] => { results := [.lit (.bool false)], args := [d] }
  | _ => none }
def FnExactFamilyOfExprWrongFalsely : Prop := fnExactFamilyOfExprRow.holds Try.pinned (OpenSpec.ofChange fnExactFamilyOfExprWrong)

/-- 'laws.FnExactFamilyTransversals': WHATEVER THE INPUT: true; the input reads as it did. -/
def fnExactFamilyTransversalsSpec : ChangeSpec := { name := "fnExactFamilyTransversals", fn := fun _ => fun
  | [d] => { results := [.lit (.bool true)], args := [d] }
  | _ => none }
def fnExactFamilyTransversalsRow : OpenClaim := { program := "ytgbijndfpbcjeaa", sum := "c0372fe57e89367e89714827af72337c676f5d2a1cde73538446367123a9b653", func := "loop.example/flexquorum/laws.FnExactFamilyTransversals", spec := "fnExactFamilyTransversals", unfollowed := true, recurses := true, apart := false }
def FnExactFamilyTransversalsSaid : Prop := fnExactFamilyTransversalsRow.holds Try.pinned (OpenSpec.ofChange fnExactFamilyTransversalsSpec)

/-- ITS FALSE NEIGHBOUR: 'it returns false'. Refute it at one input. -/
def fnExactFamilyTransversalsWrong : ChangeSpec := { name := "fnExactFamilyTransversals", fn := fun _ => fun
  | [d] => { results := [.lit (.bool false)], args := [d] }
  | _ => none }
def FnExactFamilyTransversalsWrongFalsely : Prop := fnExactFamilyTransversalsRow.holds Try.pinned (OpenSpec.ofChange fnExactFamilyTransversalsWrong)

/-- 'laws.FnExactWeightsValid': WHATEVER THE INPUT: true; the input reads as it did. -/
def fnExactWeightsValidSpec : ChangeSpec := { name := "fnExactWeightsValid", fn := fun _ => fun
  | [d] => { results := [.lit (.bool true)], args := [d] }
  | _ => none }
def fnExactWeightsValidRow : OpenClaim := { program := "ytgbijndfpbcjeaa", sum := "c0372fe57e89367e89714827af72337c676f5d2a1cde73538446367123a9b653", func := "loop.example/flexquorum/laws.FnExactWeightsValid", spec := "fnExactWeightsValid", apart := false }
def FnExactWeightsValidSaid : Prop := fnExactWeightsValidRow.holds Try.pinned (OpenSpec.ofChange fnExactWeightsValidSpec)

/-- ITS FALSE NEIGHBOUR: 'it returns false'. Refute it at one input. -/
def fnExactWeightsValidWrong : ChangeSpec := { name := "fnExactWeightsValid", fn := fun _ => fun
  | [d] => { results := [.lit (.bool false)], args := [d] }
  | _ => none }
def FnExactWeightsValidWrongFalsely : Prop := fnExactWeightsValidRow.holds Try.pinned (OpenSpec.ofChange fnExactWeightsValidWrong)

/-- 'laws.FnExactWeightsSum': WHATEVER THE INPUT: true; the input reads as it did. -/
def fnExactWeightsSumSpec : ChangeSpec := { name := "fnExactWeightsSum", fn := fun _ => fun
  | [d1, d2] => { results := [.lit (.bool true)], args := [d1, d2] }
  | _ => none }
def fnExactWeightsSumRow : OpenClaim := { program := "ytgbijndfpbcjeaa", sum := "c0372fe57e89367e89714827af72337c676f5d2a1cde73538446367123a9b653", func := "loop.example/flexquorum/laws.FnExactWeightsSum", spec := "fnExactWeightsSum", apart := false }
def FnExactWeightsSumSaid : Prop := fnExactWeightsSumRow.holds Try.pinned (OpenSpec.ofChange fnExactWeightsSumSpec)

/-- ITS FALSE NEIGHBOUR: 'it returns false'. Refute it at one input. -/
def fnExactWeightsSumWrong : ChangeSpec := { name := "fnExactWeightsSum", fn := fun _ => fun
  | [d1, d2] => { results := [.lit (.bool false)], args := [d1, d2] }
  | _ => none }
def FnExactWeightsSumWrongFalsely : Prop := fnExactWeightsSumRow.holds Try.pinned (OpenSpec.ofChange fnExactWeightsSumWrong)

/-- 'laws.FnExactWeightsFamily': WHATEVER THE INPUT: true; the input reads as it did. -/
def fnExactWeightsFamilySpec : ChangeSpec := { name := "fnExactWeightsFamily", fn := fun _ => fun
  | [d1, d2] => { results := [.lit (.bool true)], args := [d1, d2] }
  | _ => none }
def fnExactWeightsFamilyRow : OpenClaim := { program := "ytgbijndfpbcjeaa", sum := "c0372fe57e89367e89714827af72337c676f5d2a1cde73538446367123a9b653", func := "loop.example/flexquorum/laws.FnExactWeightsFamily", spec := "fnExactWeightsFamily", unfollowed := true, recurses := true, apart := false }
def FnExactWeightsFamilySaid : Prop := fnExactWeightsFamilyRow.holds Try.pinned (OpenSpec.ofChange fnExactWeightsFamilySpec)

/-- ITS FALSE NEIGHBOUR: 'it returns false'. Refute it at one input. -/
def fnExactWeightsFamilyWrong : ChangeSpec := { name := "fnExactWeightsFamily", fn := fun _ => fun
  | [d1, d2] => { results := [.lit (.bool false)], args := [d1, d2] }
  | _ => none }
def FnExactWeightsFamilyWrongFalsely : Prop := fnExactWeightsFamilyRow.holds Try.pinned (OpenSpec.ofChange fnExactWeightsFamilyWrong)

/-- 'laws.FnExactWeightsMajority': WHATEVER THE INPUT: true; the input reads as it did. -/
def fnExactWeightsMajoritySpec : ChangeSpec := { name := "fnExactWeightsMajority", fn := fun _ => fun
  | [d] => { results := [.lit (.bool true)], args := [d] }
  | _ => none }
def fnExactWeightsMajorityRow : OpenClaim := { program := "ytgbijndfpbcjeaa", sum := "c0372fe57e89367e89714827af72337c676f5d2a1cde73538446367123a9b653", func := "loop.example/flexquorum/laws.FnExactWeightsMajority", spec := "fnExactWeightsMajority", apart := false }
def FnExactWeightsMajoritySaid : Prop := fnExactWeightsMajorityRow.holds Try.pinned (OpenSpec.ofChange fnExactWeightsMajoritySpec)

/-- ITS FALSE NEIGHBOUR: 'it returns false'. Refute it at one input. -/
def fnExactWeightsMajorityWrong : ChangeSpec := { name := "fnExactWeightsMajority", fn := fun _ => fun
  | [d] => { results := [.lit (.bool false)], args := [d] }
  | _ => none }
def FnExactWeightsMajorityWrongFalsely : Prop := fnExactWeightsMajorityRow.holds Try.pinned (OpenSpec.ofChange fnExactWeightsMajorityWrong)

/- THE SECOND FORM. 'bulk': how many values and letters a reading holds, each counted each time it is reached (what is shared counts as often as it is met; a slice's spare places count too). A statement '..UptoSaid' is the law's where the arguments, and the package variables that the reading takes, are together of bulk at most 1048576: NARROWER than '..Said'. Prove '..Said' where nothing that the law and all that it calls make is longer than what came in: it says more and counts as full. Else prove '..UptoSaid'. A law counts once. -/
mutual
def uptoBulk {H : Type} : DataW H → Nat
  | .lit (.string bytes) => bytes.length + 1
  | .lit _ => 1
  | .nil => 1
  | .ptr d => uptoBulk d + 1
  | .slice elems spare => uptoBulkAll elems + uptoBulkAll spare + 1
  | .agg parts => uptoBulkAll parts + 1
  | .iface _ d => uptoBulk d + 1
  | .map entries => uptoBulkEntries entries + 1
  | .held _ => 1
def uptoBulkAll {H : Type} : List (DataW H) → Nat
  | [] => 0
  | d :: r => uptoBulk d + uptoBulkAll r
def uptoBulkEntries {H : Type} : List (Lit × DataW H) → Nat
  | [] => 0
  | x :: r => uptoBulkEntry x + uptoBulkEntries r
def uptoBulkEntry {H : Type} : Lit × DataW H → Nat
  | (.string bytes, d) => bytes.length + uptoBulk d + 1
  | (_, d) => uptoBulk d + 1
 end
def uptoSmall : (H : Type) → List (DataW H) → Bool := fun _ ds => decide (uptoBulkAll ds ≤ 1048576)
def OpenSpec.upto (s : _root_.Go.ChangeSpec) : _root_.Go.OpenSpec := { _root_.Go.OpenSpec.ofChange s with cond := some uptoSmall }

/-- 'laws.FnMinimizeIdempotent', WHERE WHAT IT READS IS OF BULK AT MOST 1048576: true; the input reads as it did. -/
def fnMinimizeIdempotentUptoRow : OpenClaim := { program := "ytgbijndfpbcjeaa", sum := "c0372fe57e89367e89714827af72337c676f5d2a1cde73538446367123a9b653", func := "loop.example/flexquorum/laws.FnMinimizeIdempotent", spec := "fnMinimizeIdempotent", unfollowed := true, recurses := true, apart := false, narrowed := true }
def FnMinimizeIdempotentUptoSaid : Prop := fnMinimizeIdempotentUptoRow.holds Try.pinned (OpenSpec.upto fnMinimizeIdempotentSpec)

/-- 'laws.FnDualTransversals', WHERE WHAT IT READS IS OF BULK AT MOST 1048576: true; the input reads as it did. -/
def fnDualTransversalsUptoRow : OpenClaim := { program := "ytgbijndfpbcjeaa", sum := "c0372fe57e89367e89714827af72337c676f5d2a1cde73538446367123a9b653", func := "loop.example/flexquorum/laws.FnDualTransversals", spec := "fnDualTransversals", unfollowed := true, recurses := true, apart := false, narrowed := true }
def FnDualTransversalsUptoSaid : Prop := fnDualTransversalsUptoRow.holds Try.pinned (OpenSpec.upto fnDualTransversalsSpec)

/-- 'laws.FnTransversalsTwice', WHERE WHAT IT READS IS OF BULK AT MOST 1048576: true; the input reads as it did. -/
def fnTransversalsTwiceUptoRow : OpenClaim := { program := "ytgbijndfpbcjeaa", sum := "c0372fe57e89367e89714827af72337c676f5d2a1cde73538446367123a9b653", func := "loop.example/flexquorum/laws.FnTransversalsTwice", spec := "fnTransversalsTwice", unfollowed := true, recurses := true, apart := false, narrowed := true }
def FnTransversalsTwiceUptoSaid : Prop := fnTransversalsTwiceUptoRow.holds Try.pinned (OpenSpec.upto fnTransversalsTwiceSpec)

/-- 'laws.FnQuorumsMinimal', WHERE WHAT IT READS IS OF BULK AT MOST 1048576: true; the input reads as it did. -/
def fnQuorumsMinimalUptoRow : OpenClaim := { program := "ytgbijndfpbcjeaa", sum := "c0372fe57e89367e89714827af72337c676f5d2a1cde73538446367123a9b653", func := "loop.example/flexquorum/laws.FnQuorumsMinimal", spec := "fnQuorumsMinimal", recurses := true, apart := false, narrowed := true }
def FnQuorumsMinimalUptoSaid : Prop := fnQuorumsMinimalUptoRow.holds Try.pinned (OpenSpec.upto fnQuorumsMinimalSpec)

/-- 'laws.FnMajorityMeets', WHERE WHAT IT READS IS OF BULK AT MOST 1048576: true; the input reads as it did. -/
def fnMajorityMeetsUptoRow : OpenClaim := { program := "ytgbijndfpbcjeaa", sum := "c0372fe57e89367e89714827af72337c676f5d2a1cde73538446367123a9b653", func := "loop.example/flexquorum/laws.FnMajorityMeets", spec := "fnMajorityMeets", unfollowed := true, recurses := true, apart := false, narrowed := true }
def FnMajorityMeetsUptoSaid : Prop := fnMajorityMeetsUptoRow.holds Try.pinned (OpenSpec.upto fnMajorityMeetsSpec)

/-- 'laws.FnWeightsTight', WHERE WHAT IT READS IS OF BULK AT MOST 1048576: true; the input reads as it did. -/
def fnWeightsTightUptoRow : OpenClaim := { program := "ytgbijndfpbcjeaa", sum := "c0372fe57e89367e89714827af72337c676f5d2a1cde73538446367123a9b653", func := "loop.example/flexquorum/laws.FnWeightsTight", spec := "fnWeightsTight", unfollowed := true, recurses := true, apart := false, narrowed := true }
def FnWeightsTightUptoSaid : Prop := fnWeightsTightUptoRow.holds Try.pinned (OpenSpec.upto fnWeightsTightSpec)

/-- 'laws.FnExactFamilyOfExpr', WHERE WHAT IT READS IS OF BULK AT MOST 1048576: true; the input reads as it did. -/
def fnExactFamilyOfExprUptoRow : OpenClaim := { program := "ytgbijndfpbcjeaa", sum := "c0372fe57e89367e89714827af72337c676f5d2a1cde73538446367123a9b653", func := "loop.example/flexquorum/laws.FnExactFamilyOfExpr", spec := "fnExactFamilyOfExpr", unfollowed := true, recurses := true, apart := false, narrowed := true }
def FnExactFamilyOfExprUptoSaid : Prop := fnExactFamilyOfExprUptoRow.holds Try.pinned (OpenSpec.upto fnExactFamilyOfExprSpec)

/-- 'laws.FnExactFamilyTransversals', WHERE WHAT IT READS IS OF BULK AT MOST 1048576: true; the input reads as it did. -/
def fnExactFamilyTransversalsUptoRow : OpenClaim := { program := "ytgbijndfpbcjeaa", sum := "c0372fe57e89367e89714827af72337c676f5d2a1cde73538446367123a9b653", func := "loop.example/flexquorum/laws.FnExactFamilyTransversals", spec := "fnExactFamilyTransversals", unfollowed := true, recurses := true, apart := false, narrowed := true }
def FnExactFamilyTransversalsUptoSaid : Prop := fnExactFamilyTransversalsUptoRow.holds Try.pinned (OpenSpec.upto fnExactFamilyTransversalsSpec)

/-- 'laws.FnExactWeightsValid', WHERE WHAT IT READS IS OF BULK AT MOST 1048576: true; the input reads as it did. -/
def fnExactWeightsValidUptoRow : OpenClaim := { program := "ytgbijndfpbcjeaa", sum := "c0372fe57e89367e89714827af72337c676f5d2a1cde73538446367123a9b653", func := "loop.example/flexquorum/laws.FnExactWeightsValid", spec := "fnExactWeightsValid", apart := false, narrowed := true }
def FnExactWeightsValidUptoSaid : Prop := fnExactWeightsValidUptoRow.holds Try.pinned (OpenSpec.upto fnExactWeightsValidSpec)

/-- 'laws.FnExactWeightsSum', WHERE WHAT IT READS IS OF BULK AT MOST 1048576: true; the input reads as it did. -/
def fnExactWeightsSumUptoRow : OpenClaim := { program := "ytgbijndfpbcjeaa", sum := "c0372fe57e89367e89714827af72337c676f5d2a1cde73538446367123a9b653", func := "loop.example/flexquorum/laws.FnExactWeightsSum", spec := "fnExactWeightsSum", apart := false, narrowed := true }
def FnExactWeightsSumUptoSaid : Prop := fnExactWeightsSumUptoRow.holds Try.pinned (OpenSpec.upto fnExactWeightsSumSpec)

/-- 'laws.FnExactWeightsFamily', WHERE WHAT IT READS IS OF BULK AT MOST 1048576: true; the input reads as it did. -/
def fnExactWeightsFamilyUptoRow : OpenClaim := { program := "ytgbijndfpbcjeaa", sum := "c0372fe57e89367e89714827af72337c676f5d2a1cde73538446367123a9b653", func := "loop.example/flexquorum/laws.FnExactWeightsFamily", spec := "fnExactWeightsFamily", unfollowed := true, recurses := true, apart := false, narrowed := true }
def FnExactWeightsFamilyUptoSaid : Prop := fnExactWeightsFamilyUptoRow.holds Try.pinned (OpenSpec.upto fnExactWeightsFamilySpec)

/-- 'laws.FnExactWeightsMajority', WHERE WHAT IT READS IS OF BULK AT MOST 1048576: true; the input reads as it did. -/
def fnExactWeightsMajorityUptoRow : OpenClaim := { program := "ytgbijndfpbcjeaa", sum := "c0372fe57e89367e89714827af72337c676f5d2a1cde73538446367123a9b653", func := "loop.example/flexquorum/laws.FnExactWeightsMajority", spec := "fnExactWeightsMajority", apart := false, narrowed := true }
def FnExactWeightsMajorityUptoSaid : Prop := fnExactWeightsMajorityUptoRow.holds Try.pinned (OpenSpec.upto fnExactWeightsMajoritySpec)

end Rows
end Go.Proofs.Ytgbijndfpbcjeaa
