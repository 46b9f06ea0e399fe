/-
  No cell of these rows narrows 'for every input' (looked for: loops, veiled, ifaces, maps, wideKeys, modest, calm, conditions, laid).
  DERIVED. THE GIVEN ROWS OF THIS SEAT. 11 by the template 'for every input the law returns true; each argument reads behind the call as it read before'; 0 by the template 'total and deterministic' (their statements: YtlbhkeijfcpffaaTotals.lean).
  GIVEN WITH THE SEED: the statements are not yours to turn. If you find one false, say at which input.
  Laid BY PROGRAM, IN A SANDBOX (cutbox-rows.mjs): the forced cells as the released guide's own fill.sh prints them over the translation 25b011ae689c6269… (all of the seat's roots in one cut). By AI agents, Wed Nov 11 2026. No macro, syntax, notation, axiom, sorry.
-/
import Derived.Test.YtlbhkeijfcpffaaChecked
import GoSem.Claim
import GoSem.ClaimJoined
import GoSem.ClaimMapViews
import Derived.JoinedTies
import Derived.KernelRfl
namespace Go.Proofs.Ytlbhkeijfcpffaa
/- THE CELL 'sum', in the pinned program and in every row, IS THE sha256 OF THE DUMP (.gsa) THAT YtlbhkeijfcpffaaProg.lean LOADS. Nothing in Lean hashes anything: it is a label: what it is worth is what the hold of that sum in a sandbox is worth. -/
noncomputable def Try.pinned : Pinned := { name := "ytlbhkeijfcpffaa", sum := "25b011ae689c62698b0bb7a20d45851906e5229f7d7d1f2db6ae4e96cb4278dd", checked := Try.checked }
namespace Rows
def none {H : Type} : Left H := { results := [], args := [] }

/-- 'laws.FnUnionMembers': WHATEVER THE INPUT: true; the input reads as it did. -/
def fnUnionMembersSpec : ChangeSpec := { name := "fnUnionMembers", fn := fun _ => fun
  | [d] => { results := [.lit (.bool true)], args := [d] }
  | _ => none }
def fnUnionMembersRow : OpenClaim := { program := "ytlbhkeijfcpffaa", sum := "25b011ae689c62698b0bb7a20d45851906e5229f7d7d1f2db6ae4e96cb4278dd", func := "loop.example/flexquorum/laws.FnUnionMembers", spec := "fnUnionMembers", apart := false }
def FnUnionMembersSaid : Prop := fnUnionMembersRow.holds Try.pinned (OpenSpec.ofChange fnUnionMembersSpec)

/-- ITS FALSE NEIGHBOUR: 'it returns false'. Refute it at one input. -/
def fnUnionMembersWrong : ChangeSpec := { name := "fnUnionMembers", fn := fun _ => fun
  | [d] => { results := [.lit (.bool false)], args := [d] }
  | _ => none }
def FnUnionMembersWrongFalsely : Prop := fnUnionMembersRow.holds Try.pinned (OpenSpec.ofChange fnUnionMembersWrong)

/-- 'laws.FnUnionLaws': WHATEVER THE INPUT: true; the input reads as it did. -/
def fnUnionLawsSpec : ChangeSpec := { name := "fnUnionLaws", fn := fun _ => fun
  | [d1, d2] => { results := [.lit (.bool true)], args := [d1, d2] }
  | _ => none }
def fnUnionLawsRow : OpenClaim := { program := "ytlbhkeijfcpffaa", sum := "25b011ae689c62698b0bb7a20d45851906e5229f7d7d1f2db6ae4e96cb4278dd", func := "loop.example/flexquorum/laws.FnUnionLaws", spec := "fnUnionLaws", apart := false }
def FnUnionLawsSaid : Prop := fnUnionLawsRow.holds Try.pinned (OpenSpec.ofChange fnUnionLawsSpec)

/-- ITS FALSE NEIGHBOUR: 'it returns false'. Refute it at one input. -/
def fnUnionLawsWrong : ChangeSpec := { name := "fnUnionLaws", fn := fun _ => fun
  | [d1, d2] => { results := [.lit (.bool false)], args := [d1, d2] }
  | _ => none }
def FnUnionLawsWrongFalsely : Prop := fnUnionLawsRow.holds Try.pinned (OpenSpec.ofChange fnUnionLawsWrong)

/-- 'laws.FnIntersectMembers': WHATEVER THE INPUT: true; the input reads as it did. -/
def fnIntersectMembersSpec : ChangeSpec := { name := "fnIntersectMembers", fn := fun _ => fun
  | [d] => { results := [.lit (.bool true)], args := [d] }
  | _ => none }
def fnIntersectMembersRow : OpenClaim := { program := "ytlbhkeijfcpffaa", sum := "25b011ae689c62698b0bb7a20d45851906e5229f7d7d1f2db6ae4e96cb4278dd", func := "loop.example/flexquorum/laws.FnIntersectMembers", spec := "fnIntersectMembers", apart := false }
def FnIntersectMembersSaid : Prop := fnIntersectMembersRow.holds Try.pinned (OpenSpec.ofChange fnIntersectMembersSpec)

/-- ITS FALSE NEIGHBOUR: 'it returns false'. Refute it at one input. -/
def fnIntersectMembersWrong : ChangeSpec := { name := "fnIntersectMembers", fn := fun _ => fun
  | [d] => { results := [.lit (.bool false)], args := [d] }
  | _ => none }
def FnIntersectMembersWrongFalsely : Prop := fnIntersectMembersRow.holds Try.pinned (OpenSpec.ofChange fnIntersectMembersWrong)

/-- 'laws.FnDistributive': WHATEVER THE INPUT: true; the input reads as it did. -/
def fnDistributiveSpec : ChangeSpec := { name := "fnDistributive", fn := fun _ => fun
  | [d1, d2] => { results := [.lit (.bool true)], args := [d1, d2] }
  | _ => none }
def fnDistributiveRow : OpenClaim := { program := "ytlbhkeijfcpffaa", sum := "25b011ae689c62698b0bb7a20d45851906e5229f7d7d1f2db6ae4e96cb4278dd", func := "loop.example/flexquorum/laws.FnDistributive", spec := "fnDistributive", apart := false }
def FnDistributiveSaid : Prop := fnDistributiveRow.holds Try.pinned (OpenSpec.ofChange fnDistributiveSpec)

/-- ITS FALSE NEIGHBOUR: 'it returns false'. Refute it at one input. -/
def fnDistributiveWrong : ChangeSpec := { name := "fnDistributive", fn := fun _ => fun
  | [d1, d2] => { results := [.lit (.bool false)], args := [d1, d2] }
  | _ => none }
def FnDistributiveWrongFalsely : Prop := fnDistributiveRow.holds Try.pinned (OpenSpec.ofChange fnDistributiveWrong)

/-- 'laws.FnMinusMembers': WHATEVER THE INPUT: true; the input reads as it did. -/
def fnMinusMembersSpec : ChangeSpec := { name := "fnMinusMembers", fn := fun _ => fun
  | [d] => { results := [.lit (.bool true)], args := [d] }
  | _ => none }
def fnMinusMembersRow : OpenClaim := { program := "ytlbhkeijfcpffaa", sum := "25b011ae689c62698b0bb7a20d45851906e5229f7d7d1f2db6ae4e96cb4278dd", func := "loop.example/flexquorum/laws.FnMinusMembers", spec := "fnMinusMembers", apart := false }
def FnMinusMembersSaid : Prop := fnMinusMembersRow.holds Try.pinned (OpenSpec.ofChange fnMinusMembersSpec)

/-- ITS FALSE NEIGHBOUR: 'it returns false'. Refute it at one input. -/
def fnMinusMembersWrong : ChangeSpec := { name := "fnMinusMembers", fn := fun _ => fun
  | [d] => { results := [.lit (.bool false)], args := [d] }
  | _ => none }
def FnMinusMembersWrongFalsely : Prop := fnMinusMembersRow.holds Try.pinned (OpenSpec.ofChange fnMinusMembersWrong)

/-- 'laws.FnSubset': WHATEVER THE INPUT: true; the input reads as it did. -/
def fnSubsetSpec : ChangeSpec := { name := "fnSubset", fn := fun _ => fun
  | [d] => { results := [.lit (.bool true)], args := [d] }
  | _ => none }
def fnSubsetRow : OpenClaim := { program := "ytlbhkeijfcpffaa", sum := "25b011ae689c62698b0bb7a20d45851906e5229f7d7d1f2db6ae4e96cb4278dd", func := "loop.example/flexquorum/laws.FnSubset", spec := "fnSubset", apart := false }
def FnSubsetSaid : Prop := fnSubsetRow.holds Try.pinned (OpenSpec.ofChange fnSubsetSpec)

/-- ITS FALSE NEIGHBOUR: 'it returns false'. Refute it at one input. -/
def fnSubsetWrong : ChangeSpec := { name := "fnSubset", fn := fun _ => fun
  | [d] => { results := [.lit (.bool false)], args := [d] }
  | _ => none }
def FnSubsetWrongFalsely : Prop := fnSubsetRow.holds Try.pinned (OpenSpec.ofChange fnSubsetWrong)

/-- 'laws.FnSubsetTransitive': WHATEVER THE INPUT: true; the input reads as it did. -/
def fnSubsetTransitiveSpec : ChangeSpec := { name := "fnSubsetTransitive", fn := fun _ => fun
  | [d1, d2] => { results := [.lit (.bool true)], args := [d1, d2] }
  | _ => none }
def fnSubsetTransitiveRow : OpenClaim := { program := "ytlbhkeijfcpffaa", sum := "25b011ae689c62698b0bb7a20d45851906e5229f7d7d1f2db6ae4e96cb4278dd", func := "loop.example/flexquorum/laws.FnSubsetTransitive", spec := "fnSubsetTransitive", apart := false }
def FnSubsetTransitiveSaid : Prop := fnSubsetTransitiveRow.holds Try.pinned (OpenSpec.ofChange fnSubsetTransitiveSpec)

/-- ITS FALSE NEIGHBOUR: 'it returns false'. Refute it at one input. -/
def fnSubsetTransitiveWrong : ChangeSpec := { name := "fnSubsetTransitive", fn := fun _ => fun
  | [d1, d2] => { results := [.lit (.bool false)], args := [d1, d2] }
  | _ => none }
def FnSubsetTransitiveWrongFalsely : Prop := fnSubsetTransitiveRow.holds Try.pinned (OpenSpec.ofChange fnSubsetTransitiveWrong)

/-- 'laws.FnMaskRoundTrip': WHATEVER THE INPUT: true; the input reads as it did. -/
def fnMaskRoundTripSpec : ChangeSpec := { name := "fnMaskRoundTrip", fn := fun _ => fun
  | [d1, d2] => { results := [.lit (.bool true)], args := [d1, d2] }
  | _ => none }
def fnMaskRoundTripRow : OpenClaim := { program := "ytlbhkeijfcpffaa", sum := "25b011ae689c62698b0bb7a20d45851906e5229f7d7d1f2db6ae4e96cb4278dd", func := "loop.example/flexquorum/laws.FnMaskRoundTrip", spec := "fnMaskRoundTrip", apart := false }
def FnMaskRoundTripSaid : Prop := fnMaskRoundTripRow.holds Try.pinned (OpenSpec.ofChange fnMaskRoundTripSpec)

/-- ITS FALSE NEIGHBOUR: 'it returns false'. Refute it at one input. -/
def fnMaskRoundTripWrong : ChangeSpec := { name := "fnMaskRoundTrip", fn := fun _ => fun
  | [d1, d2] => { results := [.lit (.bool false)], args := [d1, d2] }
  | _ => none }
def FnMaskRoundTripWrongFalsely : Prop := fnMaskRoundTripRow.holds Try.pinned (OpenSpec.ofChange fnMaskRoundTripWrong)

/-- 'laws.FnMaskValues': WHATEVER THE INPUT: true; the input reads as it did. -/
def fnMaskValuesSpec : ChangeSpec := { name := "fnMaskValues", fn := fun _ => fun
  | [d] => { results := [.lit (.bool true)], args := [d] }
  | _ => none }
def fnMaskValuesRow : OpenClaim := { program := "ytlbhkeijfcpffaa", sum := "25b011ae689c62698b0bb7a20d45851906e5229f7d7d1f2db6ae4e96cb4278dd", func := "loop.example/flexquorum/laws.FnMaskValues", spec := "fnMaskValues", apart := false }
def FnMaskValuesSaid : Prop := fnMaskValuesRow.holds Try.pinned (OpenSpec.ofChange fnMaskValuesSpec)

/-- ITS FALSE NEIGHBOUR: 'it returns false'. Refute it at one input. -/
def fnMaskValuesWrong : ChangeSpec := { name := "fnMaskValues", fn := fun _ => fun
  | [d] => { results := [.lit (.bool false)], args := [d] }
  | _ => none }
def FnMaskValuesWrongFalsely : Prop := fnMaskValuesRow.holds Try.pinned (OpenSpec.ofChange fnMaskValuesWrong)

/-- 'laws.FnContains': WHATEVER THE INPUT: true; the input reads as it did. -/
def fnContainsSpec : ChangeSpec := { name := "fnContains", fn := fun _ => fun
  | [d] => { results := [.lit (.bool true)], args := [d] }
  | _ => none }
def fnContainsRow : OpenClaim := { program := "ytlbhkeijfcpffaa", sum := "25b011ae689c62698b0bb7a20d45851906e5229f7d7d1f2db6ae4e96cb4278dd", func := "loop.example/flexquorum/laws.FnContains", spec := "fnContains", apart := false }
def FnContainsSaid : Prop := fnContainsRow.holds Try.pinned (OpenSpec.ofChange fnContainsSpec)

/-- ITS FALSE NEIGHBOUR: 'it returns false'. Refute it at one input. -/
def fnContainsWrong : ChangeSpec := { name := "fnContains", fn := fun _ => fun
  | [d] => { results := [.lit (.bool false)], args := [d] }
  | _ => none }
def FnContainsWrongFalsely : Prop := fnContainsRow.holds Try.pinned (OpenSpec.ofChange fnContainsWrong)

/-- 'laws.FnSetOrder': WHATEVER THE INPUT: true; the input reads as it did. -/
def fnSetOrderSpec : ChangeSpec := { name := "fnSetOrder", fn := fun _ => fun
  | [d] => { results := [.lit (.bool true)], args := [d] }
  | _ => none }
def fnSetOrderRow : OpenClaim := { program := "ytlbhkeijfcpffaa", sum := "25b011ae689c62698b0bb7a20d45851906e5229f7d7d1f2db6ae4e96cb4278dd", func := "loop.example/flexquorum/laws.FnSetOrder", spec := "fnSetOrder", apart := false }
def FnSetOrderSaid : Prop := fnSetOrderRow.holds Try.pinned (OpenSpec.ofChange fnSetOrderSpec)

/-- ITS FALSE NEIGHBOUR: 'it returns false'. Refute it at one input. -/
def fnSetOrderWrong : ChangeSpec := { name := "fnSetOrder", fn := fun _ => fun
  | [d] => { results := [.lit (.bool false)], args := [d] }
  | _ => none }
def FnSetOrderWrongFalsely : Prop := fnSetOrderRow.holds Try.pinned (OpenSpec.ofChange fnSetOrderWrong)

/- THE SECOND FORM. 'bulk': how many values and letters a reading holds, each counted each time it is reached (what is shared counts as often as it is met; a slice's spare places count too). A statement '..UptoSaid' is the law's where the arguments, and the package variables that the reading takes, are together of bulk at most 1048576: NARROWER than '..Said'. Prove '..Said' where nothing that the law and all that it calls make is longer than what came in: it says more and counts as full. Else prove '..UptoSaid'. A law counts once. -/
mutual
def uptoBulk {H : Type} : DataW H → Nat
  | .lit (.string bytes) => bytes.length + 1
  | .lit _ => 1
  | .nil => 1
  | .ptr d => uptoBulk d + 1
  | .slice elems spare => uptoBulkAll elems + uptoBulkAll spare + 1
  | .agg parts => uptoBulkAll parts + 1
  | .iface _ d => uptoBulk d + 1
  | .map entries => uptoBulkEntries entries + 1
  | .held _ => 1
def uptoBulkAll {H : Type} : List (DataW H) → Nat
  | [] => 0
  | d :: r => uptoBulk d + uptoBulkAll r
def uptoBulkEntries {H : Type} : List (Lit × DataW H) → Nat
  | [] => 0
  | x :: r => uptoBulkEntry x + uptoBulkEntries r
def uptoBulkEntry {H : Type} : Lit × DataW H → Nat
  | (.string bytes, d) => bytes.length + uptoBulk d + 1
  | (_, d) => uptoBulk d + 1
 end
def uptoSmall : (H : Type) → List (DataW H) → Bool := fun _ ds => decide (uptoBulkAll ds ≤ 1048576)
def OpenSpec.upto (s : _root_.Go.ChangeSpec) : _root_.Go.OpenSpec := { _root_.Go.OpenSpec.ofChange s with cond := some uptoSmall }

/-- 'laws.FnUnionMembers', WHERE WHAT IT READS IS OF BULK AT MOST 1048576: true; the input reads as it did. -/
def fnUnionMembersUptoRow : OpenClaim := { program := "ytlbhkeijfcpffaa", sum := "25b011ae689c62698b0bb7a20d45851906e5229f7d7d1f2db6ae4e96cb4278dd", func := "loop.example/flexquorum/laws.FnUnionMembers", spec := "fnUnionMembers", apart := false, narrowed := true }
def FnUnionMembersUptoSaid : Prop := fnUnionMembersUptoRow.holds Try.pinned (OpenSpec.upto fnUnionMembersSpec)

/-- 'laws.FnUnionLaws', WHERE WHAT IT READS IS OF BULK AT MOST 1048576: true; the input reads as it did. -/
def fnUnionLawsUptoRow : OpenClaim := { program := "ytlbhkeijfcpffaa", sum := "25b011ae689c62698b0bb7a20d45851906e5229f7d7d1f2db6ae4e96cb4278dd", func := "loop.example/flexquorum/laws.FnUnionLaws", spec := "fnUnionLaws", apart := false, narrowed := true }
def FnUnionLawsUptoSaid : Prop := fnUnionLawsUptoRow.holds Try.pinned (OpenSpec.upto fnUnionLawsSpec)

/-- 'laws.FnIntersectMembers', WHERE WHAT IT READS IS OF BULK AT MOST 1048576: true; the input reads as it did. -/
def fnIntersectMembersUptoRow : OpenClaim := { program := "ytlbhkeijfcpffaa", sum := "25b011ae689c62698b0bb7a20d45851906e5229f7d7d1f2db6ae4e96cb4278dd", func := "loop.example/flexquorum/laws.FnIntersectMembers", spec := "fnIntersectMembers", apart := false, narrowed := true }
def FnIntersectMembersUptoSaid : Prop := fnIntersectMembersUptoRow.holds Try.pinned (OpenSpec.upto fnIntersectMembersSpec)

/-- 'laws.FnDistributive', WHERE WHAT IT READS IS OF BULK AT MOST 1048576: true; the input reads as it did. -/
def fnDistributiveUptoRow : OpenClaim := { program := "ytlbhkeijfcpffaa", sum := "25b011ae689c62698b0bb7a20d45851906e5229f7d7d1f2db6ae4e96cb4278dd", func := "loop.example/flexquorum/laws.FnDistributive", spec := "fnDistributive", apart := false, narrowed := true }
def FnDistributiveUptoSaid : Prop := fnDistributiveUptoRow.holds Try.pinned (OpenSpec.upto fnDistributiveSpec)

/-- 'laws.FnMinusMembers', WHERE WHAT IT READS IS OF BULK AT MOST 1048576: true; the input reads as it did. -/
def fnMinusMembersUptoRow : OpenClaim := { program := "ytlbhkeijfcpffaa", sum := "25b011ae689c62698b0bb7a20d45851906e5229f7d7d1f2db6ae4e96cb4278dd", func := "loop.example/flexquorum/laws.FnMinusMembers", spec := "fnMinusMembers", apart := false, narrowed := true }
def FnMinusMembersUptoSaid : Prop := fnMinusMembersUptoRow.holds Try.pinned (OpenSpec.upto fnMinusMembersSpec)

/-- 'laws.FnSubset', WHERE WHAT IT READS IS OF BULK AT MOST 1048576: true; the input reads as it did. -/
def fnSubsetUptoRow : OpenClaim := { program := "ytlbhkeijfcpffaa", sum := "25b011ae689c62698b0bb7a20d45851906e5229f7d7d1f2db6ae4e96cb4278dd", func := "loop.example/flexquorum/laws.FnSubset", spec := "fnSubset", apart := false, narrowed := true }
def FnSubsetUptoSaid : Prop := fnSubsetUptoRow.holds Try.pinned (OpenSpec.upto fnSubsetSpec)

/-- 'laws.FnSubsetTransitive', WHERE WHAT IT READS IS OF BULK AT MOST 1048576: true; the input reads as it did. -/
def fnSubsetTransitiveUptoRow : OpenClaim := { program := "ytlbhkeijfcpffaa", sum := "25b011ae689c62698b0bb7a20d45851906e5229f7d7d1f2db6ae4e96cb4278dd", func := "loop.example/flexquorum/laws.FnSubsetTransitive", spec := "fnSubsetTransitive", apart := false, narrowed := true }
def FnSubsetTransitiveUptoSaid : Prop := fnSubsetTransitiveUptoRow.holds Try.pinned (OpenSpec.upto fnSubsetTransitiveSpec)

/-- 'laws.FnMaskRoundTrip', WHERE WHAT IT READS IS OF BULK AT MOST 1048576: true; the input reads as it did. -/
def fnMaskRoundTripUptoRow : OpenClaim := { program := "ytlbhkeijfcpffaa", sum := "25b011ae689c62698b0bb7a20d45851906e5229f7d7d1f2db6ae4e96cb4278dd", func := "loop.example/flexquorum/laws.FnMaskRoundTrip", spec := "fnMaskRoundTrip", apart := false, narrowed := true }
def FnMaskRoundTripUptoSaid : Prop := fnMaskRoundTripUptoRow.holds Try.pinned (OpenSpec.upto fnMaskRoundTripSpec)

/-- 'laws.FnMaskValues', WHERE WHAT IT READS IS OF BULK AT MOST 1048576: true; the input reads as it did. -/
def fnMaskValuesUptoRow : OpenClaim := { program := "ytlbhkeijfcpffaa", sum := "25b011ae689c62698b0bb7a20d45851906e5229f7d7d1f2db6ae4e96cb4278dd", func := "loop.example/flexquorum/laws.FnMaskValues", spec := "fnMaskValues", apart := false, narrowed := true }
def FnMaskValuesUptoSaid : Prop := fnMaskValuesUptoRow.holds Try.pinned (OpenSpec.upto fnMaskValuesSpec)

/-- 'laws.FnContains', WHERE WHAT IT READS IS OF BULK AT MOST 1048576: true; the input reads as it did. -/
def fnContainsUptoRow : OpenClaim := { program := "ytlbhkeijfcpffaa", sum := "25b011ae689c62698b0bb7a20d45851906e5229f7d7d1f2db6ae4e96cb4278dd", func := "loop.example/flexquorum/laws.FnContains", spec := "fnContains", apart := false, narrowed := true }
def FnContainsUptoSaid : Prop := fnContainsUptoRow.holds Try.pinned (OpenSpec.upto fnContainsSpec)

/-- 'laws.FnSetOrder', WHERE WHAT IT READS IS OF BULK AT MOST 1048576: true; the input reads as it did. -/
def fnSetOrderUptoRow : OpenClaim := { program := "ytlbhkeijfcpffaa", sum := "25b011ae689c62698b0bb7a20d45851906e5229f7d7d1f2db6ae4e96cb4278dd", func := "loop.example/flexquorum/laws.FnSetOrder", spec := "fnSetOrder", apart := false, narrowed := true }
def FnSetOrderUptoSaid : Prop := fnSetOrderUptoRow.holds Try.pinned (OpenSpec.upto fnSetOrderSpec)

end Rows
end Go.Proofs.Ytlbhkeijfcpffaa
