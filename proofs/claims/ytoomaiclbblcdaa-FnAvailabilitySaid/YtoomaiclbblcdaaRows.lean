/-
  No cell of these rows narrows 'for every input' (looked for: loops, veiled, ifaces, maps, wideKeys, modest, calm, conditions, laid).
  DERIVED. THE GIVEN ROWS OF THIS SEAT. 14 by the template 'for every input the law returns true; each argument reads behind the call as it read before'; 0 by the template 'total and deterministic' (their statements: YtoomaiclbblcdaaTotals.lean).
  GIVEN WITH THE SEED: the statements are not yours to turn. If you find one false, say at which input.
  Laid BY PROGRAM, IN A SANDBOX (cutbox-rows.mjs): the forced cells as the released guide's own fill.sh prints them over the translation 275348407922c96f… (all of the seat's roots in one cut). By AI agents, Wed Nov 11 2026. No macro, syntax, notation, axiom, sorry.
-/
import Derived.Test.YtoomaiclbblcdaaChecked
import GoSem.Claim
import GoSem.ClaimJoined
import GoSem.ClaimMapViews
import Derived.JoinedTies
import Derived.KernelRfl
namespace Go.Proofs.Ytoomaiclbblcdaa
/- THE CELL 'sum', in the pinned program and in every row, IS THE sha256 OF THE DUMP (.gsa) THAT YtoomaiclbblcdaaProg.lean LOADS. Nothing in Lean hashes anything: it is a label: what it is worth is what the hold of that sum in a sandbox is worth. -/
noncomputable def Try.pinned : Pinned := { name := "ytoomaiclbblcdaa", sum := "275348407922c96fb7fc8031ec988086c386ee718ab6cf3e4d06fbec1f0ada26", checked := Try.checked }
namespace Rows
def none {H : Type} : Left H := { results := [], args := [] }

/-- 'laws.FnResilience': WHATEVER THE INPUT: true; the input reads as it did. -/
def fnResilienceSpec : ChangeSpec := { name := "fnResilience", fn := fun _ => fun
  | [d] => { results := [.lit (.bool true)], args := [d] }
  | _ => none }
def fnResilienceRow : OpenClaim := { program := "ytoomaiclbblcdaa", sum := "275348407922c96fb7fc8031ec988086c386ee718ab6cf3e4d06fbec1f0ada26", func := "loop.example/flexquorum/laws.FnResilience", spec := "fnResilience", unfollowed := true, recurses := true, apart := false }
def FnResilienceSaid : Prop := fnResilienceRow.holds Try.pinned (OpenSpec.ofChange fnResilienceSpec)

/-- ITS FALSE NEIGHBOUR: 'it returns false'. Refute it at one input. -/
def fnResilienceWrong : ChangeSpec := { name := "fnResilience", fn := fun _ => fun
  | [d] => { results := [.lit (.bool false)], args := [d] }
  | _ => none }
def FnResilienceWrongFalsely : Prop := fnResilienceRow.holds Try.pinned (OpenSpec.ofChange fnResilienceWrong)

/-- 'laws.FnResilienceTransversal': WHATEVER THE INPUT: true; the input reads as it did. -/
def fnResilienceTransversalSpec : ChangeSpec := { name := "fnResilienceTransversal", fn := fun _ => fun
  | [d] => { results := [.lit (.bool true)], args := [d] }
  | _ => none }
def fnResilienceTransversalRow : OpenClaim := { program := "ytoomaiclbblcdaa", sum := "275348407922c96fb7fc8031ec988086c386ee718ab6cf3e4d06fbec1f0ada26", func := "loop.example/flexquorum/laws.FnResilienceTransversal", spec := "fnResilienceTransversal", unfollowed := true, recurses := true, apart := false }
def FnResilienceTransversalSaid : Prop := fnResilienceTransversalRow.holds Try.pinned (OpenSpec.ofChange fnResilienceTransversalSpec)

/-- ITS FALSE NEIGHBOUR: 'it returns false'. Refute it at one input. -/
def fnResilienceTransversalWrong : ChangeSpec := { name := "fnResilienceTransversal", fn := fun _ => fun
  | [d] => { results := [.lit (.bool false)], args := [d] }
  | _ => none }
def FnResilienceTransversalWrongFalsely : Prop := fnResilienceTransversalRow.holds Try.pinned (OpenSpec.ofChange fnResilienceTransversalWrong)

/-- 'laws.FnAvailability': WHATEVER THE INPUT: true; the input reads as it did. -/
def fnAvailabilitySpec : ChangeSpec := { name := "fnAvailability", fn := fun _ => fun
  | [d] => { results := [.lit (.bool true)], args := [d] }
  | _ => none }
def fnAvailabilityRow : OpenClaim := { program := "ytoomaiclbblcdaa", sum := "275348407922c96fb7fc8031ec988086c386ee718ab6cf3e4d06fbec1f0ada26", func := "loop.example/flexquorum/laws.FnAvailability", spec := "fnAvailability", unfollowed := true, recurses := true, apart := false }
def FnAvailabilitySaid : Prop := fnAvailabilityRow.holds Try.pinned (OpenSpec.ofChange fnAvailabilitySpec)

/-- ITS FALSE NEIGHBOUR: 'it returns false'. Refute it at one input. -/
def fnAvailabilityWrong : ChangeSpec := { name := "fnAvailability", fn := fun _ => fun
  | [d] => { results := [.lit (.bool false)], args := [d] }
  | _ => none }
def FnAvailabilityWrongFalsely : Prop := fnAvailabilityRow.holds Try.pinned (OpenSpec.ofChange fnAvailabilityWrong)

/-- 'laws.FnAvailabilityDual': WHATEVER THE INPUT: true; the input reads as it did. -/
def fnAvailabilityDualSpec : ChangeSpec := { name := "fnAvailabilityDual", fn := fun _ => fun
  | [d] => { results := [.lit (.bool true)], args := [d] }
  | _ => none }
def fnAvailabilityDualRow : OpenClaim := { program := "ytoomaiclbblcdaa", sum := "275348407922c96fb7fc8031ec988086c386ee718ab6cf3e4d06fbec1f0ada26", func := "loop.example/flexquorum/laws.FnAvailabilityDual", spec := "fnAvailabilityDual", unfollowed := true, recurses := true, apart := false }
def FnAvailabilityDualSaid : Prop := fnAvailabilityDualRow.holds Try.pinned (OpenSpec.ofChange fnAvailabilityDualSpec)

/-- ITS FALSE NEIGHBOUR: 'it returns false'. Refute it at one input. -/
def fnAvailabilityDualWrong : ChangeSpec := { name := "fnAvailabilityDual", fn := fun _ => fun
  | [d] => { results := [.lit (.bool false)], args := [d] }
  | _ => none }
def FnAvailabilityDualWrongFalsely : Prop := fnAvailabilityDualRow.holds Try.pinned (OpenSpec.ofChange fnAvailabilityDualWrong)

/-- 'laws.FnSmallestQuorum': WHATEVER THE INPUT: true; the input reads as it did. -/
def fnSmallestQuorumSpec : ChangeSpec := { name := "fnSmallestQuorum", fn := fun _ => fun
  | [d] => { results := [.lit (.bool true)], args := [d] }
  | _ => none }
def fnSmallestQuorumRow : OpenClaim := { program := "ytoomaiclbblcdaa", sum := "275348407922c96fb7fc8031ec988086c386ee718ab6cf3e4d06fbec1f0ada26", func := "loop.example/flexquorum/laws.FnSmallestQuorum", spec := "fnSmallestQuorum", recurses := true, apart := false }
def FnSmallestQuorumSaid : Prop := fnSmallestQuorumRow.holds Try.pinned (OpenSpec.ofChange fnSmallestQuorumSpec)

/-- ITS FALSE NEIGHBOUR: 'it returns false'. Refute it at one input. -/
def fnSmallestQuorumWrong : ChangeSpec := { name := "fnSmallestQuorum", fn := fun _ => fun
  | [d] => { results := [.lit (.bool false)], args := [d] }
  | _ => none }
def FnSmallestQuorumWrongFalsely : Prop := fnSmallestQuorumRow.holds Try.pinned (OpenSpec.ofChange fnSmallestQuorumWrong)

/-- 'laws.FnCritical': WHATEVER THE INPUT: true; the input reads as it did. -/
def fnCriticalSpec : ChangeSpec := { name := "fnCritical", fn := fun _ => fun
  | [d] => { results := [.lit (.bool true)], args := [d] }
  | _ => none }
def fnCriticalRow : OpenClaim := { program := "ytoomaiclbblcdaa", sum := "275348407922c96fb7fc8031ec988086c386ee718ab6cf3e4d06fbec1f0ada26", func := "loop.example/flexquorum/laws.FnCritical", spec := "fnCritical", recurses := true, apart := false }
def FnCriticalSaid : Prop := fnCriticalRow.holds Try.pinned (OpenSpec.ofChange fnCriticalSpec)

/-- ITS FALSE NEIGHBOUR: 'it returns false'. Refute it at one input. -/
def fnCriticalWrong : ChangeSpec := { name := "fnCritical", fn := fun _ => fun
  | [d] => { results := [.lit (.bool false)], args := [d] }
  | _ => none }
def FnCriticalWrongFalsely : Prop := fnCriticalRow.holds Try.pinned (OpenSpec.ofChange fnCriticalWrong)

/-- 'laws.FnCriticalTransversal': WHATEVER THE INPUT: true; the input reads as it did. -/
def fnCriticalTransversalSpec : ChangeSpec := { name := "fnCriticalTransversal", fn := fun _ => fun
  | [d] => { results := [.lit (.bool true)], args := [d] }
  | _ => none }
def fnCriticalTransversalRow : OpenClaim := { program := "ytoomaiclbblcdaa", sum := "275348407922c96fb7fc8031ec988086c386ee718ab6cf3e4d06fbec1f0ada26", func := "loop.example/flexquorum/laws.FnCriticalTransversal", spec := "fnCriticalTransversal", unfollowed := true, recurses := true, apart := false }
def FnCriticalTransversalSaid : Prop := fnCriticalTransversalRow.holds Try.pinned (OpenSpec.ofChange fnCriticalTransversalSpec)

/-- ITS FALSE NEIGHBOUR: 'it returns false'. Refute it at one input. -/
def fnCriticalTransversalWrong : ChangeSpec := { name := "fnCriticalTransversal", fn := fun _ => fun
  | [d] => { results := [.lit (.bool false)], args := [d] }
  | _ => none }
def FnCriticalTransversalWrongFalsely : Prop := fnCriticalTransversalRow.holds Try.pinned (OpenSpec.ofChange fnCriticalTransversalWrong)

/-- 'laws.FnSurvives': WHATEVER THE INPUT: true; the input reads as it did. -/
def fnSurvivesSpec : ChangeSpec := { name := "fnSurvives", fn := fun _ => fun
  | [d1, d2] => { results := [.lit (.bool true)], args := [d1, d2] }
  | _ => none }
def fnSurvivesRow : OpenClaim := { program := "ytoomaiclbblcdaa", sum := "275348407922c96fb7fc8031ec988086c386ee718ab6cf3e4d06fbec1f0ada26", func := "loop.example/flexquorum/laws.FnSurvives", spec := "fnSurvives", recurses := true, apart := false }
def FnSurvivesSaid : Prop := fnSurvivesRow.holds Try.pinned (OpenSpec.ofChange fnSurvivesSpec)

/-- ITS FALSE NEIGHBOUR: 'it returns false'. Refute it at one input. -/
def fnSurvivesWrong : ChangeSpec := { name := "fnSurvives", fn := fun _ => fun
  | [d1, d2] => { results := [.lit (.bool false)], args := [d1, d2] }
  | _ => none }
def FnSurvivesWrongFalsely : Prop := fnSurvivesRow.holds Try.pinned (OpenSpec.ofChange fnSurvivesWrong)

/-- 'laws.FnSurvivesResilience': WHATEVER THE INPUT: true; the input reads as it did. -/
def fnSurvivesResilienceSpec : ChangeSpec := { name := "fnSurvivesResilience", fn := fun _ => fun
  | [d1, d2] => { results := [.lit (.bool true)], args := [d1, d2] }
  | _ => none }
def fnSurvivesResilienceRow : OpenClaim := { program := "ytoomaiclbblcdaa", sum := "275348407922c96fb7fc8031ec988086c386ee718ab6cf3e4d06fbec1f0ada26", func := "loop.example/flexquorum/laws.FnSurvivesResilience", spec := "fnSurvivesResilience", unfollowed := true, recurses := true, apart := false }
def FnSurvivesResilienceSaid : Prop := fnSurvivesResilienceRow.holds Try.pinned (OpenSpec.ofChange fnSurvivesResilienceSpec)

/-- ITS FALSE NEIGHBOUR: 'it returns false'. Refute it at one input. -/
def fnSurvivesResilienceWrong : ChangeSpec := { name := "fnSurvivesResilience", fn := fun _ => fun
  | [d1, d2] => { results := [.lit (.bool false)], args := [d1, d2] }
  | _ => none }
def FnSurvivesResilienceWrongFalsely : Prop := fnSurvivesResilienceRow.holds Try.pinned (OpenSpec.ofChange fnSurvivesResilienceWrong)

/-- 'laws.FnExactResilience': WHATEVER THE INPUT: true; the input reads as it did. -/
def fnExactResilienceSpec : ChangeSpec := { name := "fnExactResilience", fn := fun _ => fun
  | [d1, d2] => { results := [.lit (.bool true)], args := [d1, d2] }
  | _ => none }
def fnExactResilienceRow : OpenClaim := { program := "ytoomaiclbblcdaa", sum := "275348407922c96fb7fc8031ec988086c386ee718ab6cf3e4d06fbec1f0ada26", func := "loop.example/flexquorum/laws.FnExactResilience", spec := "fnExactResilience", unfollowed := true, recurses := true, apart := false }
def FnExactResilienceSaid : Prop := fnExactResilienceRow.holds Try.pinned (OpenSpec.ofChange fnExactResilienceSpec)

/-- ITS FALSE NEIGHBOUR: 'it returns false'. Refute it at one input. -/
def fnExactResilienceWrong : ChangeSpec := { name := "fnExactResilience", fn := fun _ => fun
  | [d1, d2] => { results := [.lit (.bool false)], args := [d1, d2] }
  | _ => none }
def FnExactResilienceWrongFalsely : Prop := fnExactResilienceRow.holds Try.pinned (OpenSpec.ofChange fnExactResilienceWrong)

/-- 'laws.FnExactAvailability': WHATEVER THE INPUT: true; the input reads as it did. -/
def fnExactAvailabilitySpec : ChangeSpec := { name := "fnExactAvailability", fn := fun _ => fun
  | [d1, d2] => { results := [.lit (.bool true)], args := [d1, d2] }
  | _ => none }
def fnExactAvailabilityRow : OpenClaim := { program := "ytoomaiclbblcdaa", sum := "275348407922c96fb7fc8031ec988086c386ee718ab6cf3e4d06fbec1f0ada26", func := "loop.example/flexquorum/laws.FnExactAvailability", spec := "fnExactAvailability", unfollowed := true, recurses := true, apart := false }
def FnExactAvailabilitySaid : Prop := fnExactAvailabilityRow.holds Try.pinned (OpenSpec.ofChange fnExactAvailabilitySpec)

/-- ITS FALSE NEIGHBOUR: 'it returns false'. Refute it at one input. -/
def fnExactAvailabilityWrong : ChangeSpec := { name := "fnExactAvailability", fn := fun _ => fun
  | [d1, d2] => { results := [.lit (.bool false)], args := [d1, d2] }
  | _ => none }
def FnExactAvailabilityWrongFalsely : Prop := fnExactAvailabilityRow.holds Try.pinned (OpenSpec.ofChange fnExactAvailabilityWrong)

/-- 'laws.FnExactSmallestQuorum': WHATEVER THE INPUT: true; the input reads as it did. -/
def fnExactSmallestQuorumSpec : ChangeSpec := { name := "fnExactSmallestQuorum", fn := fun _ => fun
  | [d] => { results := [.lit (.bool true)], args := [d] }
  | _ => none }
def fnExactSmallestQuorumRow : OpenClaim := { program := "ytoomaiclbblcdaa", sum := "275348407922c96fb7fc8031ec988086c386ee718ab6cf3e4d06fbec1f0ada26", func := "loop.example/flexquorum/laws.FnExactSmallestQuorum", spec := "fnExactSmallestQuorum", apart := false }
def FnExactSmallestQuorumSaid : Prop := fnExactSmallestQuorumRow.holds Try.pinned (OpenSpec.ofChange fnExactSmallestQuorumSpec)

/-- ITS FALSE NEIGHBOUR: 'it returns false'. Refute it at one input. -/
def fnExactSmallestQuorumWrong : ChangeSpec := { name := "fnExactSmallestQuorum", fn := fun _ => fun
  | [d] => { results := [.lit (.bool false)], args := [d] }
  | _ => none }
def FnExactSmallestQuorumWrongFalsely : Prop := fnExactSmallestQuorumRow.holds Try.pinned (OpenSpec.ofChange fnExactSmallestQuorumWrong)

/-- 'laws.FnExactCriticalMembers': WHATEVER THE INPUT: true; the input reads as it did. -/
def fnExactCriticalMembersSpec : ChangeSpec := { name := "fnExactCriticalMembers", fn := fun _ => fun
  | [d] => { results := [.lit (.bool true)], args := [d] }
  | _ => none }
def fnExactCriticalMembersRow : OpenClaim := { program := "ytoomaiclbblcdaa", sum := "275348407922c96fb7fc8031ec988086c386ee718ab6cf3e4d06fbec1f0ada26", func := "loop.example/flexquorum/laws.FnExactCriticalMembers", spec := "fnExactCriticalMembers", apart := false }
def FnExactCriticalMembersSaid : Prop := fnExactCriticalMembersRow.holds Try.pinned (OpenSpec.ofChange fnExactCriticalMembersSpec)

/-- ITS FALSE NEIGHBOUR: 'it returns false'. Refute it at one input. -/
def fnExactCriticalMembersWrong : ChangeSpec := { name := "fnExactCriticalMembers", fn := fun _ => fun
  | [d] => { results := [.lit (.bool false)], args := [d] }
  | _ => none }
def FnExactCriticalMembersWrongFalsely : Prop := fnExactCriticalMembersRow.holds Try.pinned (OpenSpec.ofChange fnExactCriticalMembersWrong)

/-- 'laws.FnExactSurvives': WHATEVER THE INPUT: true; the input reads as it did. -/
def fnExactSurvivesSpec : ChangeSpec := { name := "fnExactSurvives", fn := fun _ => fun
  | [d1, d2] => { results := [.lit (.bool true)], args := [d1, d2] }
  | _ => none }
def fnExactSurvivesRow : OpenClaim := { program := "ytoomaiclbblcdaa", sum := "275348407922c96fb7fc8031ec988086c386ee718ab6cf3e4d06fbec1f0ada26", func := "loop.example/flexquorum/laws.FnExactSurvives", spec := "fnExactSurvives", apart := false }
def FnExactSurvivesSaid : Prop := fnExactSurvivesRow.holds Try.pinned (OpenSpec.ofChange fnExactSurvivesSpec)

/-- ITS FALSE NEIGHBOUR: 'it returns false'. Refute it at one input. -/
def fnExactSurvivesWrong : ChangeSpec := { name := "fnExactSurvives", fn := fun _ => fun
  | [d1, d2] => { results := [.lit (.bool false)], args := [d1, d2] }
  | _ => none }
def FnExactSurvivesWrongFalsely : Prop := fnExactSurvivesRow.holds Try.pinned (OpenSpec.ofChange fnExactSurvivesWrong)

/- THE SECOND FORM. 'bulk': how many values and letters a reading holds, each counted each time it is reached (what is shared counts as often as it is met; a slice's spare places count too). A statement '..UptoSaid' is the law's where the arguments, and the package variables that the reading takes, are together of bulk at most 1048576: NARROWER than '..Said'. Prove '..Said' where nothing that the law and all that it calls make is longer than what came in: it says more and counts as full. Else prove '..UptoSaid'. A law counts once. -/
mutual
def uptoBulk {H : Type} : DataW H → Nat
  | .lit (.string bytes) => bytes.length + 1
  | .lit _ => 1
  | .nil => 1
  | .ptr d => uptoBulk d + 1
  | .slice elems spare => uptoBulkAll elems + uptoBulkAll spare + 1
  | .agg parts => uptoBulkAll parts + 1
  | .iface _ d => uptoBulk d + 1
  | .map entries => uptoBulkEntries entries + 1
  | .held _ => 1
def uptoBulkAll {H : Type} : List (DataW H) → Nat
  | [] => 0
  | d :: r => uptoBulk d + uptoBulkAll r
def uptoBulkEntries {H : Type} : List (Lit × DataW H) → Nat
  | [] => 0
  | x :: r => uptoBulkEntry x + uptoBulkEntries r
def uptoBulkEntry {H : Type} : Lit × DataW H → Nat
  | (.string bytes, d) => bytes.length + uptoBulk d + 1
  | (_, d) => uptoBulk d + 1
 end
def uptoSmall : (H : Type) → List (DataW H) → Bool := fun _ ds => decide (uptoBulkAll ds ≤ 1048576)
def OpenSpec.upto (s : _root_.Go.ChangeSpec) : _root_.Go.OpenSpec := { _root_.Go.OpenSpec.ofChange s with cond := some uptoSmall }

/-- 'laws.FnResilience', WHERE WHAT IT READS IS OF BULK AT MOST 1048576: true; the input reads as it did. -/
def fnResilienceUptoRow : OpenClaim := { program := "ytoomaiclbblcdaa", sum := "275348407922c96fb7fc8031ec988086c386ee718ab6cf3e4d06fbec1f0ada26", func := "loop.example/flexquorum/laws.FnResilience", spec := "fnResilience", unfollowed := true, recurses := true, apart := false, narrowed := true }
def FnResilienceUptoSaid : Prop := fnResilienceUptoRow.holds Try.pinned (OpenSpec.upto fnResilienceSpec)

/-- 'laws.FnResilienceTransversal', WHERE WHAT IT READS IS OF BULK AT MOST 1048576: true; the input reads as it did. -/
def fnResilienceTransversalUptoRow : OpenClaim := { program := "ytoomaiclbblcdaa", sum := "275348407922c96fb7fc8031ec988086c386ee718ab6cf3e4d06fbec1f0ada26", func := "loop.example/flexquorum/laws.FnResilienceTransversal", spec := "fnResilienceTransversal", unfollowed := true, recurses := true, apart := false, narrowed := true }
def FnResilienceTransversalUptoSaid : Prop := fnResilienceTransversalUptoRow.holds Try.pinned (OpenSpec.upto fnResilienceTransversalSpec)

/-- 'laws.FnAvailability', WHERE WHAT IT READS IS OF BULK AT MOST 1048576: true; the input reads as it did. -/
def fnAvailabilityUptoRow : OpenClaim := { program := "ytoomaiclbblcdaa", sum := "275348407922c96fb7fc8031ec988086c386ee718ab6cf3e4d06fbec1f0ada26", func := "loop.example/flexquorum/laws.FnAvailability", spec := "fnAvailability", unfollowed := true, recurses := true, apart := false, narrowed := true }
def FnAvailabilityUptoSaid : Prop := fnAvailabilityUptoRow.holds Try.pinned (OpenSpec.upto fnAvailabilitySpec)

/-- 'laws.FnAvailabilityDual', WHERE WHAT IT READS IS OF BULK AT MOST 1048576: true; the input reads as it did. -/
def fnAvailabilityDualUptoRow : OpenClaim := { program := "ytoomaiclbblcdaa", sum := "275348407922c96fb7fc8031ec988086c386ee718ab6cf3e4d06fbec1f0ada26", func := "loop.example/flexquorum/laws.FnAvailabilityDual", spec := "fnAvailabilityDual", unfollowed := true, recurses := true, apart := false, narrowed := true }
def FnAvailabilityDualUptoSaid : Prop := fnAvailabilityDualUptoRow.holds Try.pinned (OpenSpec.upto fnAvailabilityDualSpec)

/-- 'laws.FnSmallestQuorum', WHERE WHAT IT READS IS OF BULK AT MOST 1048576: true; the input reads as it did. -/
def fnSmallestQuorumUptoRow : OpenClaim := { program := "ytoomaiclbblcdaa", sum := "275348407922c96fb7fc8031ec988086c386ee718ab6cf3e4d06fbec1f0ada26", func := "loop.example/flexquorum/laws.FnSmallestQuorum", spec := "fnSmallestQuorum", recurses := true, apart := false, narrowed := true }
def FnSmallestQuorumUptoSaid : Prop := fnSmallestQuorumUptoRow.holds Try.pinned (OpenSpec.upto fnSmallestQuorumSpec)

/-- 'laws.FnCritical', WHERE WHAT IT READS IS OF BULK AT MOST 1048576: true; the input reads as it did. -/
def fnCriticalUptoRow : OpenClaim := { program := "ytoomaiclbblcdaa", sum := "275348407922c96fb7fc8031ec988086c386ee718ab6cf3e4d06fbec1f0ada26", func := "loop.example/flexquorum/laws.FnCritical", spec := "fnCritical", recurses := true, apart := false, narrowed := true }
def FnCriticalUptoSaid : Prop := fnCriticalUptoRow.holds Try.pinned (OpenSpec.upto fnCriticalSpec)

/-- 'laws.FnCriticalTransversal', WHERE WHAT IT READS IS OF BULK AT MOST 1048576: true; the input reads as it did. -/
def fnCriticalTransversalUptoRow : OpenClaim := { program := "ytoomaiclbblcdaa", sum := "275348407922c96fb7fc8031ec988086c386ee718ab6cf3e4d06fbec1f0ada26", func := "loop.example/flexquorum/laws.FnCriticalTransversal", spec := "fnCriticalTransversal", unfollowed := true, recurses := true, apart := false, narrowed := true }
def FnCriticalTransversalUptoSaid : Prop := fnCriticalTransversalUptoRow.holds Try.pinned (OpenSpec.upto fnCriticalTransversalSpec)

/-- 'laws.FnSurvives', WHERE WHAT IT READS IS OF BULK AT MOST 1048576: true; the input reads as it did. -/
def fnSurvivesUptoRow : OpenClaim := { program := "ytoomaiclbblcdaa", sum := "275348407922c96fb7fc8031ec988086c386ee718ab6cf3e4d06fbec1f0ada26", func := "loop.example/flexquorum/laws.FnSurvives", spec := "fnSurvives", recurses := true, apart := false, narrowed := true }
def FnSurvivesUptoSaid : Prop := fnSurvivesUptoRow.holds Try.pinned (OpenSpec.upto fnSurvivesSpec)

/-- 'laws.FnSurvivesResilience', WHERE WHAT IT READS IS OF BULK AT MOST 1048576: true; the input reads as it did. -/
def fnSurvivesResilienceUptoRow : OpenClaim := { program := "ytoomaiclbblcdaa", sum := "275348407922c96fb7fc8031ec988086c386ee718ab6cf3e4d06fbec1f0ada26", func := "loop.example/flexquorum/laws.FnSurvivesResilience", spec := "fnSurvivesResilience", unfollowed := true, recurses := true, apart := false, narrowed := true }
def FnSurvivesResilienceUptoSaid : Prop := fnSurvivesResilienceUptoRow.holds Try.pinned (OpenSpec.upto fnSurvivesResilienceSpec)

/-- 'laws.FnExactResilience', WHERE WHAT IT READS IS OF BULK AT MOST 1048576: true; the input reads as it did. -/
def fnExactResilienceUptoRow : OpenClaim := { program := "ytoomaiclbblcdaa", sum := "275348407922c96fb7fc8031ec988086c386ee718ab6cf3e4d06fbec1f0ada26", func := "loop.example/flexquorum/laws.FnExactResilience", spec := "fnExactResilience", unfollowed := true, recurses := true, apart := false, narrowed := true }
def FnExactResilienceUptoSaid : Prop := fnExactResilienceUptoRow.holds Try.pinned (OpenSpec.upto fnExactResilienceSpec)

/-- 'laws.FnExactAvailability', WHERE WHAT IT READS IS OF BULK AT MOST 1048576: true; the input reads as it did. -/
def fnExactAvailabilityUptoRow : OpenClaim := { program := "ytoomaiclbblcdaa", sum := "275348407922c96fb7fc8031ec988086c386ee718ab6cf3e4d06fbec1f0ada26", func := "loop.example/flexquorum/laws.FnExactAvailability", spec := "fnExactAvailability", unfollowed := true, recurses := true, apart := false, narrowed := true }
def FnExactAvailabilityUptoSaid : Prop := fnExactAvailabilityUptoRow.holds Try.pinned (OpenSpec.upto fnExactAvailabilitySpec)

/-- 'laws.FnExactSmallestQuorum', WHERE WHAT IT READS IS OF BULK AT MOST 1048576: true; the input reads as it did. -/
def fnExactSmallestQuorumUptoRow : OpenClaim := { program := "ytoomaiclbblcdaa", sum := "275348407922c96fb7fc8031ec988086c386ee718ab6cf3e4d06fbec1f0ada26", func := "loop.example/flexquorum/laws.FnExactSmallestQuorum", spec := "fnExactSmallestQuorum", apart := false, narrowed := true }
def FnExactSmallestQuorumUptoSaid : Prop := fnExactSmallestQuorumUptoRow.holds Try.pinned (OpenSpec.upto fnExactSmallestQuorumSpec)

/-- 'laws.FnExactCriticalMembers', WHERE WHAT IT READS IS OF BULK AT MOST 1048576: true; the input reads as it did. -/
def fnExactCriticalMembersUptoRow : OpenClaim := { program := "ytoomaiclbblcdaa", sum := "275348407922c96fb7fc8031ec988086c386ee718ab6cf3e4d06fbec1f0ada26", func := "loop.example/flexquorum/laws.FnExactCriticalMembers", spec := "fnExactCriticalMembers", apart := false, narrowed := true }
def FnExactCriticalMembersUptoSaid : Prop := fnExactCriticalMembersUptoRow.holds Try.pinned (OpenSpec.upto fnExactCriticalMembersSpec)

/-- 'laws.FnExactSurvives', WHERE WHAT IT READS IS OF BULK AT MOST 1048576: true; the input reads as it did. -/
def fnExactSurvivesUptoRow : OpenClaim := { program := "ytoomaiclbblcdaa", sum := "275348407922c96fb7fc8031ec988086c386ee718ab6cf3e4d06fbec1f0ada26", func := "loop.example/flexquorum/laws.FnExactSurvives", spec := "fnExactSurvives", apart := false, narrowed := true }
def FnExactSurvivesUptoSaid : Prop := fnExactSurvivesUptoRow.holds Try.pinned (OpenSpec.upto fnExactSurvivesSpec)

end Rows
end Go.Proofs.Ytoomaiclbblcdaa
