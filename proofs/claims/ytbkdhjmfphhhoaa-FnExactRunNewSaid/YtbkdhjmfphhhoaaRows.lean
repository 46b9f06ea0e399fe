/-
  No cell of these rows narrows 'for every input' (looked for: loops, veiled, ifaces, maps, wideKeys, modest, calm, conditions, laid).
  DERIVED. THE GIVEN ROWS OF THIS SEAT. 12 by the template 'for every input the law returns true; each argument reads behind the call as it read before'; 0 by the template 'total and deterministic' (their statements: YtbkdhjmfphhhoaaTotals.lean).
  GIVEN WITH THE SEED: the statements are not yours to turn. If you find one false, say at which input.
  Laid BY PROGRAM, IN A SANDBOX (cutbox-rows.mjs): the forced cells as the released guide's own fill.sh prints them over the translation 172800bd2cddc8ed… (all of the seat's roots in one cut). By AI agents, Wed Nov 11 2026. No macro, syntax, notation, axiom, sorry.
-/
import Derived.Test.YtbkdhjmfphhhoaaChecked
import GoSem.Claim
import GoSem.ClaimJoined
import GoSem.ClaimMapViews
import Derived.JoinedTies
import Derived.KernelRfl
namespace Go.Proofs.Ytbkdhjmfphhhoaa
/- THE CELL 'sum', in the pinned program and in every row, IS THE sha256 OF THE DUMP (.gsa) THAT YtbkdhjmfphhhoaaProg.lean LOADS. Nothing in Lean hashes anything: it is a label: what it is worth is what the hold of that sum in a sandbox is worth. -/
noncomputable def Try.pinned : Pinned := { name := "ytbkdhjmfphhhoaa", sum := "172800bd2cddc8ed3c10677f202e3e23bb5e772b552a466d2387bd0c9032a51d", checked := Try.checked }
namespace Rows
def none {H : Type} : Left H := { results := [], args := [] }

/-- 'laws.FnRunNew': WHATEVER THE INPUT: true; the input reads as it did. -/
def fnRunNewSpec : ChangeSpec := { name := "fnRunNew", fn := fun _ => fun
  | [d] => { results := [.lit (.bool true)], args := [d] }
  | _ => none }
def fnRunNewRow : OpenClaim := { program := "ytbkdhjmfphhhoaa", sum := "172800bd2cddc8ed3c10677f202e3e23bb5e772b552a466d2387bd0c9032a51d", func := "loop.example/flexquorum/laws.FnRunNew", spec := "fnRunNew", recurses := true, apart := false }
def FnRunNewSaid : Prop := fnRunNewRow.holds Try.pinned (OpenSpec.ofChange fnRunNewSpec)

/-- ITS FALSE NEIGHBOUR: 'it returns false'. Refute it at one input. -/
def fnRunNewWrong : ChangeSpec := { name := "fnRunNew", fn := fun _ => fun
  | [d] => { results := [.lit (.bool false)], args := [d] }
  | _ => none }
def FnRunNewWrongFalsely : Prop := fnRunNewRow.holds Try.pinned (OpenSpec.ofChange fnRunNewWrong)

/-- 'laws.FnRunPrepareValue': WHATEVER THE INPUT: true; the input reads as it did. -/
def fnRunPrepareValueSpec : ChangeSpec := { name := "fnRunPrepareValue", fn := fun _ => fun
  | [d] => { results := [.lit (.bool true)], args := [d] }
  | _ => none }
def fnRunPrepareValueRow : OpenClaim := { program := "ytbkdhjmfphhhoaa", sum := "172800bd2cddc8ed3c10677f202e3e23bb5e772b552a466d2387bd0c9032a51d", func := "loop.example/flexquorum/laws.FnRunPrepareValue", spec := "fnRunPrepareValue", unfollowed := true, recurses := true, apart := false }
def FnRunPrepareValueSaid : Prop := fnRunPrepareValueRow.holds Try.pinned (OpenSpec.ofChange fnRunPrepareValueSpec)

/-- ITS FALSE NEIGHBOUR: 'it returns false'. Refute it at one input. -/
def fnRunPrepareValueWrong : ChangeSpec := { name := "fnRunPrepareValue", fn := fun _ => fun
  | [d] => { results := [.lit (.bool false)], args := [d] }
  | _ => none }
def FnRunPrepareValueWrongFalsely : Prop := fnRunPrepareValueRow.holds Try.pinned (OpenSpec.ofChange fnRunPrepareValueWrong)

/-- 'laws.FnAcceptTwice': WHATEVER THE INPUT: true; the input reads as it did. -/
def fnAcceptTwiceSpec : ChangeSpec := { name := "fnAcceptTwice", fn := fun _ => fun
  | [d] => { results := [.lit (.bool true)], args := [d] }
  | _ => none }
def fnAcceptTwiceRow : OpenClaim := { program := "ytbkdhjmfphhhoaa", sum := "172800bd2cddc8ed3c10677f202e3e23bb5e772b552a466d2387bd0c9032a51d", func := "loop.example/flexquorum/laws.FnAcceptTwice", spec := "fnAcceptTwice", unfollowed := true, recurses := true, apart := false }
def FnAcceptTwiceSaid : Prop := fnAcceptTwiceRow.holds Try.pinned (OpenSpec.ofChange fnAcceptTwiceSpec)

/-- ITS FALSE NEIGHBOUR: 'it returns false'. Refute it at one input. -/
def fnAcceptTwiceWrong : ChangeSpec := { name := "fnAcceptTwice", fn := fun _ => fun
  | [d] => { results := [.lit (.bool false)], args := [d] }
  | _ => none }
def FnAcceptTwiceWrongFalsely : Prop := fnAcceptTwiceRow.holds Try.pinned (OpenSpec.ofChange fnAcceptTwiceWrong)

/-- 'laws.FnScriptSteps': WHATEVER THE INPUT: true; the input reads as it did. -/
def fnScriptStepsSpec : ChangeSpec := { name := "fnScriptSteps", fn := fun _ => fun
  | [d1, d2] => { results := [.lit (.bool true)], args := [d1, d2] }
  | _ => none }
def fnScriptStepsRow : OpenClaim := { program := "ytbkdhjmfphhhoaa", sum := "172800bd2cddc8ed3c10677f202e3e23bb5e772b552a466d2387bd0c9032a51d", func := "loop.example/flexquorum/laws.FnScriptSteps", spec := "fnScriptSteps", unfollowed := true, recurses := true, apart := false }
def FnScriptStepsSaid : Prop := fnScriptStepsRow.holds Try.pinned (OpenSpec.ofChange fnScriptStepsSpec)

/-- ITS FALSE NEIGHBOUR: 'it returns false'. Refute it at one input. -/
def fnScriptStepsWrong : ChangeSpec := { name := "fnScriptSteps", fn := fun _ => fun
  | [d1, d2] => { results := [.lit (.bool false)], args := [d1, d2] }
  | _ => none }
def FnScriptStepsWrongFalsely : Prop := fnScriptStepsRow.holds Try.pinned (OpenSpec.ofChange fnScriptStepsWrong)

/-- 'laws.FnRunValid': WHATEVER THE INPUT: true; the input reads as it did. -/
def fnRunValidSpec : ChangeSpec := { name := "fnRunValid", fn := fun _ => fun
  | [d] => { results := [.lit (.bool true)], args := [d] }
  | _ => none }
def fnRunValidRow : OpenClaim := { program := "ytbkdhjmfphhhoaa", sum := "172800bd2cddc8ed3c10677f202e3e23bb5e772b552a466d2387bd0c9032a51d", func := "loop.example/flexquorum/laws.FnRunValid", spec := "fnRunValid", unfollowed := true, recurses := true, apart := false }
def FnRunValidSaid : Prop := fnRunValidRow.holds Try.pinned (OpenSpec.ofChange fnRunValidSpec)

/-- ITS FALSE NEIGHBOUR: 'it returns false'. Refute it at one input. -/
def fnRunValidWrong : ChangeSpec := { name := "fnRunValid", fn := fun _ => fun
  | [d] => { results := [.lit (.bool false)], args := [d] }
  | _ => none }
def FnRunValidWrongFalsely : Prop := fnRunValidRow.holds Try.pinned (OpenSpec.ofChange fnRunValidWrong)

/-- 'laws.FnVotesPromised': WHATEVER THE INPUT: true; the input reads as it did. -/
def fnVotesPromisedSpec : ChangeSpec := { name := "fnVotesPromised", fn := fun _ => fun
  | [d] => { results := [.lit (.bool true)], args := [d] }
  | _ => none }
def fnVotesPromisedRow : OpenClaim := { program := "ytbkdhjmfphhhoaa", sum := "172800bd2cddc8ed3c10677f202e3e23bb5e772b552a466d2387bd0c9032a51d", func := "loop.example/flexquorum/laws.FnVotesPromised", spec := "fnVotesPromised", unfollowed := true, recurses := true, apart := false }
def FnVotesPromisedSaid : Prop := fnVotesPromisedRow.holds Try.pinned (OpenSpec.ofChange fnVotesPromisedSpec)

/-- ITS FALSE NEIGHBOUR: 'it returns false'. Refute it at one input. -/
def fnVotesPromisedWrong : ChangeSpec := { name := "fnVotesPromised", fn := fun _ => fun
  | [d] => { results := [.lit (.bool false)], args := [d] }
  | _ => none }
def FnVotesPromisedWrongFalsely : Prop := fnVotesPromisedRow.holds Try.pinned (OpenSpec.ofChange fnVotesPromisedWrong)

/-- 'laws.FnExactRunNew': WHATEVER THE INPUT: true; the input reads as it did. -/
def fnExactRunNewSpec : ChangeSpec := { name := "fnExactRunNew", fn := fun _ => fun
  | [d] => { results := [.lit (.bool true)], args := [d] }
  | _ => none }
def fnExactRunNewRow : OpenClaim := { program := "ytbkdhjmfphhhoaa", sum := "172800bd2cddc8ed3c10677f202e3e23bb5e772b552a466d2387bd0c9032a51d", func := "loop.example/flexquorum/laws.FnExactRunNew", spec := "fnExactRunNew", apart := false }
def FnExactRunNewSaid : Prop := fnExactRunNewRow.holds Try.pinned (OpenSpec.ofChange fnExactRunNewSpec)

/-- ITS FALSE NEIGHBOUR: 'it returns false'. Refute it at one input. -/
def fnExactRunNewWrong : ChangeSpec := { name := "fnExactRunNew", fn := fun _ => fun
  | [d] => { results := [.lit (.bool false)], args := [d] }
  | _ => none }
def FnExactRunNewWrongFalsely : Prop := fnExactRunNewRow.holds Try.pinned (OpenSpec.ofChange fnExactRunNewWrong)

/-- 'laws.FnExactRunValid': WHATEVER THE INPUT: true; the input reads as it did. -/
def fnExactRunValidSpec : ChangeSpec := { name := "fnExactRunValid", fn := fun _ => fun
  | [d] => { results := [.lit (.bool true)], args := [d] }
  | _ => none }
def fnExactRunValidRow : OpenClaim := { program := "ytbkdhjmfphhhoaa", sum := "172800bd2cddc8ed3c10677f202e3e23bb5e772b552a466d2387bd0c9032a51d", func := "loop.example/flexquorum/laws.FnExactRunValid", spec := "fnExactRunValid", apart := false }
def FnExactRunValidSaid : Prop := fnExactRunValidRow.holds Try.pinned (OpenSpec.ofChange fnExactRunValidSpec)

/-- ITS FALSE NEIGHBOUR: 'it returns false'. Refute it at one input. -/
def fnExactRunValidWrong : ChangeSpec := { name := "fnExactRunValid", fn := fun _ => fun
  | [d] => { results := [.lit (.bool false)], args := [d] }
  | _ => none }
def FnExactRunValidWrongFalsely : Prop := fnExactRunValidRow.holds Try.pinned (OpenSpec.ofChange fnExactRunValidWrong)

/-- 'laws.FnExactRunPrepare': WHATEVER THE INPUT: true; the input reads as it did. -/
def fnExactRunPrepareSpec : ChangeSpec := { name := "fnExactRunPrepare", fn := fun _ => fun
  | [d1, d2, d3, d4] => { results := [.lit (.bool true)], args := [d1, d2, d3, d4] }
  | _ => none }
def fnExactRunPrepareRow : OpenClaim := { program := "ytbkdhjmfphhhoaa", sum := "172800bd2cddc8ed3c10677f202e3e23bb5e772b552a466d2387bd0c9032a51d", func := "loop.example/flexquorum/laws.FnExactRunPrepare", spec := "fnExactRunPrepare", unfollowed := true, recurses := true, apart := false }
def FnExactRunPrepareSaid : Prop := fnExactRunPrepareRow.holds Try.pinned (OpenSpec.ofChange fnExactRunPrepareSpec)

/-- ITS FALSE NEIGHBOUR: 'it returns false'. Refute it at one input. -/
def fnExactRunPrepareWrong : ChangeSpec := { name := "fnExactRunPrepare", fn := fun _ => fun
  | [d1, d2, d3, d4] => { results := [.lit (.bool false)], args := [d1, d2, d3, d4] }
  | _ => none }
def FnExactRunPrepareWrongFalsely : Prop := fnExactRunPrepareRow.holds Try.pinned (OpenSpec.ofChange fnExactRunPrepareWrong)

/-- 'laws.FnExactRunAccept': WHATEVER THE INPUT: true; the input reads as it did. -/
def fnExactRunAcceptSpec : ChangeSpec := { name := "fnExactRunAccept", fn := fun _ => fun
  | [d1, d2, d3] => { results := [.lit (.bool true)], args := [d1, d2, d3] }
  | _ => none }
def fnExactRunAcceptRow : OpenClaim := { program := "ytbkdhjmfphhhoaa", sum := "172800bd2cddc8ed3c10677f202e3e23bb5e772b552a466d2387bd0c9032a51d", func := "loop.example/flexquorum/laws.FnExactRunAccept", spec := "fnExactRunAccept", unfollowed := true, recurses := true, apart := false }
def FnExactRunAcceptSaid : Prop := fnExactRunAcceptRow.holds Try.pinned (OpenSpec.ofChange fnExactRunAcceptSpec)

/-- ITS FALSE NEIGHBOUR: 'it returns false'. Refute it at one input. -/
def fnExactRunAcceptWrong : ChangeSpec := { name := "fnExactRunAccept", fn := fun _ => fun
  | [d1, d2, d3] => { results := [.lit (.bool false)], args := [d1, d2, d3] }
  | _ => none }
def FnExactRunAcceptWrongFalsely : Prop := fnExactRunAcceptRow.holds Try.pinned (OpenSpec.ofChange fnExactRunAcceptWrong)

/-- 'laws.FnExactRunChosen': WHATEVER THE INPUT: true; the input reads as it did. -/
def fnExactRunChosenSpec : ChangeSpec := { name := "fnExactRunChosen", fn := fun _ => fun
  | [d] => { results := [.lit (.bool true)], args := [d] }
  | _ => none }
def fnExactRunChosenRow : OpenClaim := { program := "ytbkdhjmfphhhoaa", sum := "172800bd2cddc8ed3c10677f202e3e23bb5e772b552a466d2387bd0c9032a51d", func := "loop.example/flexquorum/laws.FnExactRunChosen", spec := "fnExactRunChosen", recurses := true, apart := false }
def FnExactRunChosenSaid : Prop := fnExactRunChosenRow.holds Try.pinned (OpenSpec.ofChange fnExactRunChosenSpec)

/-- ITS FALSE NEIGHBOUR: 'it returns false'. Refute it at one input. -/
def fnExactRunChosenWrong : ChangeSpec := { name := "fnExactRunChosen", fn := fun _ => fun
  | [d] => { results := [.lit (.bool false)], args := [d] }
  | _ => none }
def FnExactRunChosenWrongFalsely : Prop := fnExactRunChosenRow.holds Try.pinned (OpenSpec.ofChange fnExactRunChosenWrong)

/-- 'laws.FnExactRunScript': WHATEVER THE INPUT: true; the input reads as it did. -/
def fnExactRunScriptSpec : ChangeSpec := { name := "fnExactRunScript", fn := fun _ => fun
  | [d1, d2] => { results := [.lit (.bool true)], args := [d1, d2] }
  | _ => none }
def fnExactRunScriptRow : OpenClaim := { program := "ytbkdhjmfphhhoaa", sum := "172800bd2cddc8ed3c10677f202e3e23bb5e772b552a466d2387bd0c9032a51d", func := "loop.example/flexquorum/laws.FnExactRunScript", spec := "fnExactRunScript", unfollowed := true, recurses := true, apart := false }
def FnExactRunScriptSaid : Prop := fnExactRunScriptRow.holds Try.pinned (OpenSpec.ofChange fnExactRunScriptSpec)

/-- ITS FALSE NEIGHBOUR: 'it returns false'. Refute it at one input. -/
def fnExactRunScriptWrong : ChangeSpec := { name := "fnExactRunScript", fn := fun _ => fun
  | [d1, d2] => { results := [.lit (.bool false)], args := [d1, d2] }
  | _ => none }
def FnExactRunScriptWrongFalsely : Prop := fnExactRunScriptRow.holds Try.pinned (OpenSpec.ofChange fnExactRunScriptWrong)

/- THE SECOND FORM. 'bulk': how many values and letters a reading holds, each counted each time it is reached (what is shared counts as often as it is met; a slice's spare places count too). A statement '..UptoSaid' is the law's where the arguments, and the package variables that the reading takes, are together of bulk at most 1048576: NARROWER than '..Said'. Prove '..Said' where nothing that the law and all that it calls make is longer than what came in: it says more and counts as full. Else prove '..UptoSaid'. A law counts once. -/
mutual
def uptoBulk {H : Type} : DataW H → Nat
  | .lit (.string bytes) => bytes.length + 1
  | .lit _ => 1
  | .nil => 1
  | .ptr d => uptoBulk d + 1
  | .slice elems spare => uptoBulkAll elems + uptoBulkAll spare + 1
  | .agg parts => uptoBulkAll parts + 1
  | .iface _ d => uptoBulk d + 1
  | .map entries => uptoBulkEntries entries + 1
  | .held _ => 1
def uptoBulkAll {H : Type} : List (DataW H) → Nat
  | [] => 0
  | d :: r => uptoBulk d + uptoBulkAll r
def uptoBulkEntries {H : Type} : List (Lit × DataW H) → Nat
  | [] => 0
  | x :: r => uptoBulkEntry x + uptoBulkEntries r
def uptoBulkEntry {H : Type} : Lit × DataW H → Nat
  | (.string bytes, d) => bytes.length + uptoBulk d + 1
  | (_, d) => uptoBulk d + 1
 end
def uptoSmall : (H : Type) → List (DataW H) → Bool := fun _ ds => decide (uptoBulkAll ds ≤ 1048576)
def OpenSpec.upto (s : _root_.Go.ChangeSpec) : _root_.Go.OpenSpec := { _root_.Go.OpenSpec.ofChange s with cond := some uptoSmall }

/-- 'laws.FnRunNew', WHERE WHAT IT READS IS OF BULK AT MOST 1048576: true; the input reads as it did. -/
def fnRunNewUptoRow : OpenClaim := { program := "ytbkdhjmfphhhoaa", sum := "172800bd2cddc8ed3c10677f202e3e23bb5e772b552a466d2387bd0c9032a51d", func := "loop.example/flexquorum/laws.FnRunNew", spec := "fnRunNew", recurses := true, apart := false, narrowed := true }
def FnRunNewUptoSaid : Prop := fnRunNewUptoRow.holds Try.pinned (OpenSpec.upto fnRunNewSpec)

/-- 'laws.FnRunPrepareValue', WHERE WHAT IT READS IS OF BULK AT MOST 1048576: true; the input reads as it did. -/
def fnRunPrepareValueUptoRow : OpenClaim := { program := "ytbkdhjmfphhhoaa", sum := "172800bd2cddc8ed3c10677f202e3e23bb5e772b552a466d2387bd0c9032a51d", func := "loop.example/flexquorum/laws.FnRunPrepareValue", spec := "fnRunPrepareValue", unfollowed := true, recurses := true, apart := false, narrowed := true }
def FnRunPrepareValueUptoSaid : Prop := fnRunPrepareValueUptoRow.holds Try.pinned (OpenSpec.upto fnRunPrepareValueSpec)

/-- 'laws.FnAcceptTwice', WHERE WHAT IT READS IS OF BULK AT MOST 1048576: true; the input reads as it did. -/
def fnAcceptTwiceUptoRow : OpenClaim := { program := "ytbkdhjmfphhhoaa", sum := "172800bd2cddc8ed3c10677f202e3e23bb5e772b552a466d2387bd0c9032a51d", func := "loop.example/flexquorum/laws.FnAcceptTwice", spec := "fnAcceptTwice", unfollowed := true, recurses := true, apart := false, narrowed := true }
def FnAcceptTwiceUptoSaid : Prop := fnAcceptTwiceUptoRow.holds Try.pinned (OpenSpec.upto fnAcceptTwiceSpec)

/-- 'laws.FnScriptSteps', WHERE WHAT IT READS IS OF BULK AT MOST 1048576: true; the input reads as it did. -/
def fnScriptStepsUptoRow : OpenClaim := { program := "ytbkdhjmfphhhoaa", sum := "172800bd2cddc8ed3c10677f202e3e23bb5e772b552a466d2387bd0c9032a51d", func := "loop.example/flexquorum/laws.FnScriptSteps", spec := "fnScriptSteps", unfollowed := true, recurses := true, apart := false, narrowed := true }
def FnScriptStepsUptoSaid : Prop := fnScriptStepsUptoRow.holds Try.pinned (OpenSpec.upto fnScriptStepsSpec)

/-- 'laws.FnRunValid', WHERE WHAT IT READS IS OF BULK AT MOST 1048576: true; the input reads as it did. -/
def fnRunValidUptoRow : OpenClaim := { program := "ytbkdhjmfphhhoaa", sum := "172800bd2cddc8ed3c10677f202e3e23bb5e772b552a466d2387bd0c9032a51d", func := "loop.example/flexquorum/laws.FnRunValid", spec := "fnRunValid", unfollowed := true, recurses := true, apart := false, narrowed := true }
def FnRunValidUptoSaid : Prop := fnRunValidUptoRow.holds Try.pinned (OpenSpec.upto fnRunValidSpec)

/-- 'laws.FnVotesPromised', WHERE WHAT IT READS IS OF BULK AT MOST 1048576: true; the input reads as it did. -/
def fnVotesPromisedUptoRow : OpenClaim := { program := "ytbkdhjmfphhhoaa", sum := "172800bd2cddc8ed3c10677f202e3e23bb5e772b552a466d2387bd0c9032a51d", func := "loop.example/flexquorum/laws.FnVotesPromised", spec := "fnVotesPromised", unfollowed := true, recurses := true, apart := false, narrowed := true }
def FnVotesPromisedUptoSaid : Prop := fnVotesPromisedUptoRow.holds Try.pinned (OpenSpec.upto fnVotesPromisedSpec)

/-- 'laws.FnExactRunNew', WHERE WHAT IT READS IS OF BULK AT MOST 1048576: true; the input reads as it did. -/
def fnExactRunNewUptoRow : OpenClaim := { program := "ytbkdhjmfphhhoaa", sum := "172800bd2cddc8ed3c10677f202e3e23bb5e772b552a466d2387bd0c9032a51d", func := "loop.example/flexquorum/laws.FnExactRunNew", spec := "fnExactRunNew", apart := false, narrowed := true }
def FnExactRunNewUptoSaid : Prop := fnExactRunNewUptoRow.holds Try.pinned (OpenSpec.upto fnExactRunNewSpec)

/-- 'laws.FnExactRunValid', WHERE WHAT IT READS IS OF BULK AT MOST 1048576: true; the input reads as it did. -/
def fnExactRunValidUptoRow : OpenClaim := { program := "ytbkdhjmfphhhoaa", sum := "172800bd2cddc8ed3c10677f202e3e23bb5e772b552a466d2387bd0c9032a51d", func := "loop.example/flexquorum/laws.FnExactRunValid", spec := "fnExactRunValid", apart := false, narrowed := true }
def FnExactRunValidUptoSaid : Prop := fnExactRunValidUptoRow.holds Try.pinned (OpenSpec.upto fnExactRunValidSpec)

/-- 'laws.FnExactRunPrepare', WHERE WHAT IT READS IS OF BULK AT MOST 1048576: true; the input reads as it did. -/
def fnExactRunPrepareUptoRow : OpenClaim := { program := "ytbkdhjmfphhhoaa", sum := "172800bd2cddc8ed3c10677f202e3e23bb5e772b552a466d2387bd0c9032a51d", func := "loop.example/flexquorum/laws.FnExactRunPrepare", spec := "fnExactRunPrepare", unfollowed := true, recurses := true, apart := false, narrowed := true }
def FnExactRunPrepareUptoSaid : Prop := fnExactRunPrepareUptoRow.holds Try.pinned (OpenSpec.upto fnExactRunPrepareSpec)

/-- 'laws.FnExactRunAccept', WHERE WHAT IT READS IS OF BULK AT MOST 1048576: true; the input reads as it did. -/
def fnExactRunAcceptUptoRow : OpenClaim := { program := "ytbkdhjmfphhhoaa", sum := "172800bd2cddc8ed3c10677f202e3e23bb5e772b552a466d2387bd0c9032a51d", func := "loop.example/flexquorum/laws.FnExactRunAccept", spec := "fnExactRunAccept", unfollowed := true, recurses := true, apart := false, narrowed := true }
def FnExactRunAcceptUptoSaid : Prop := fnExactRunAcceptUptoRow.holds Try.pinned (OpenSpec.upto fnExactRunAcceptSpec)

/-- 'laws.FnExactRunChosen', WHERE WHAT IT READS IS OF BULK AT MOST 1048576: true; the input reads as it did. -/
def fnExactRunChosenUptoRow : OpenClaim := { program := "ytbkdhjmfphhhoaa", sum := "172800bd2cddc8ed3c10677f202e3e23bb5e772b552a466d2387bd0c9032a51d", func := "loop.example/flexquorum/laws.FnExactRunChosen", spec := "fnExactRunChosen", recurses := true, apart := false, narrowed := true }
def FnExactRunChosenUptoSaid : Prop := fnExactRunChosenUptoRow.holds Try.pinned (OpenSpec.upto fnExactRunChosenSpec)

/-- 'laws.FnExactRunScript', WHERE WHAT IT READS IS OF BULK AT MOST 1048576: true; the input reads as it did. -/
def fnExactRunScriptUptoRow : OpenClaim := { program := "ytbkdhjmfphhhoaa", sum := "172800bd2cddc8ed3c10677f202e3e23bb5e772b552a466d2387bd0c9032a51d", func := "loop.example/flexquorum/laws.FnExactRunScript", spec := "fnExactRunScript", unfollowed := true, recurses := true, apart := false, narrowed := true }
def FnExactRunScriptUptoSaid : Prop := fnExactRunScriptUptoRow.holds Try.pinned (OpenSpec.upto fnExactRunScriptSpec)

end Rows
end Go.Proofs.Ytbkdhjmfphhhoaa
