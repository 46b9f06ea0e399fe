/-
  No cell of these rows narrows 'for every input' (looked for: loops, veiled, ifaces, maps, wideKeys, modest, calm, conditions, laid).
  DERIVED. THE GIVEN ROWS OF THIS SEAT. 8 by the template 'for every input the law returns true; each argument reads behind the call as it read before'; 0 by the template 'total and deterministic' (their statements: YthgfhnjdefbdfaaTotals.lean).
  GIVEN WITH THE SEED: the statements are not yours to turn. If you find one false, say at which input.
  Laid BY PROGRAM, IN A SANDBOX (cutbox-rows.mjs): the forced cells as the released guide's own fill.sh prints them over the translation f7b4a88a16c247f7… (all of the seat's roots in one cut). By AI agents, Wed Nov 11 2026. No macro, syntax, notation, axiom, sorry.
-/
import Derived.Test.YthgfhnjdefbdfaaChecked
import GoSem.Claim
import GoSem.ClaimJoined
import GoSem.ClaimMapViews
import Derived.JoinedTies
import Derived.KernelRfl
namespace Go.Proofs.Ythgfhnjdefbdfaa
/- THE CELL 'sum', in the pinned program and in every row, IS THE sha256 OF THE DUMP (.gsa) THAT YthgfhnjdefbdfaaProg.lean LOADS. Nothing in Lean hashes anything: it is a label: what it is worth is what the hold of that sum in a sandbox is worth. -/
noncomputable def Try.pinned : Pinned := { name := "ythgfhnjdefbdfaa", sum := "f7b4a88a16c247f79f822bc959c2359a0a0977bab0d2686008718bbb0fde2bb6", checked := Try.checked }
namespace Rows
def none {H : Type} : Left H := { results := [], args := [] }

/-- 'laws.FnExactSetValid': WHATEVER THE INPUT: true; the input reads as it did. -/
def fnExactSetValidSpec : ChangeSpec := { name := "fnExactSetValid", fn := fun _ => fun
  | [d] => { results := [.lit (.bool true)], args := [d] }
  | _ => none }
def fnExactSetValidRow : OpenClaim := { program := "ythgfhnjdefbdfaa", sum := "f7b4a88a16c247f79f822bc959c2359a0a0977bab0d2686008718bbb0fde2bb6", func := "loop.example/flexquorum/laws.FnExactSetValid", spec := "fnExactSetValid", apart := false }
def FnExactSetValidSaid : Prop := fnExactSetValidRow.holds Try.pinned (OpenSpec.ofChange fnExactSetValidSpec)

/-- ITS FALSE NEIGHBOUR: 'it returns false'. Refute it at one input. -/
def fnExactSetValidWrong : ChangeSpec := { name := "fnExactSetValid", fn := fun _ => fun
  | [d] => { results := [.lit (.bool false)], args := [d] }
  | _ => none }
def FnExactSetValidWrongFalsely : Prop := fnExactSetValidRow.holds Try.pinned (OpenSpec.ofChange fnExactSetValidWrong)

/-- 'laws.FnExactSetContains': WHATEVER THE INPUT: true; the input reads as it did. -/
def fnExactSetContainsSpec : ChangeSpec := { name := "fnExactSetContains", fn := fun _ => fun
  | [d1, d2] => { results := [.lit (.bool true)], args := [d1, d2] }
  | _ => none }
def fnExactSetContainsRow : OpenClaim := { program := "ythgfhnjdefbdfaa", sum := "f7b4a88a16c247f79f822bc959c2359a0a0977bab0d2686008718bbb0fde2bb6", func := "loop.example/flexquorum/laws.FnExactSetContains", spec := "fnExactSetContains", apart := false }
def FnExactSetContainsSaid : Prop := fnExactSetContainsRow.holds Try.pinned (OpenSpec.ofChange fnExactSetContainsSpec)

/-- ITS FALSE NEIGHBOUR: 'it returns false'. Refute it at one input. -/
def fnExactSetContainsWrong : ChangeSpec := { name := "fnExactSetContains", fn := fun _ => fun
  | [d1, d2] => { results := [.lit (.bool false)], args := [d1, d2] }
  | _ => none }
def FnExactSetContainsWrongFalsely : Prop := fnExactSetContainsRow.holds Try.pinned (OpenSpec.ofChange fnExactSetContainsWrong)

/-- 'laws.FnExactSetUnion': WHATEVER THE INPUT: true; the input reads as it did. -/
def fnExactSetUnionSpec : ChangeSpec := { name := "fnExactSetUnion", fn := fun _ => fun
  | [d1, d2] => { results := [.lit (.bool true)], args := [d1, d2] }
  | _ => none }
def fnExactSetUnionRow : OpenClaim := { program := "ythgfhnjdefbdfaa", sum := "f7b4a88a16c247f79f822bc959c2359a0a0977bab0d2686008718bbb0fde2bb6", func := "loop.example/flexquorum/laws.FnExactSetUnion", spec := "fnExactSetUnion", apart := false }
def FnExactSetUnionSaid : Prop := fnExactSetUnionRow.holds Try.pinned (OpenSpec.ofChange fnExactSetUnionSpec)

/-- ITS FALSE NEIGHBOUR: 'it returns false'. Refute it at one input. -/
def fnExactSetUnionWrong : ChangeSpec := { name := "fnExactSetUnion", fn := fun _ => fun
  | [d1, d2] => { results := [.lit (.bool false)], args := [d1, d2] }
  | _ => none }
def FnExactSetUnionWrongFalsely : Prop := fnExactSetUnionRow.holds Try.pinned (OpenSpec.ofChange fnExactSetUnionWrong)

/-- 'laws.FnExactSetIntersect': WHATEVER THE INPUT: true; the input reads as it did. -/
def fnExactSetIntersectSpec : ChangeSpec := { name := "fnExactSetIntersect", fn := fun _ => fun
  | [d1, d2] => { results := [.lit (.bool true)], args := [d1, d2] }
  | _ => none }
def fnExactSetIntersectRow : OpenClaim := { program := "ythgfhnjdefbdfaa", sum := "f7b4a88a16c247f79f822bc959c2359a0a0977bab0d2686008718bbb0fde2bb6", func := "loop.example/flexquorum/laws.FnExactSetIntersect", spec := "fnExactSetIntersect", apart := false }
def FnExactSetIntersectSaid : Prop := fnExactSetIntersectRow.holds Try.pinned (OpenSpec.ofChange fnExactSetIntersectSpec)

/-- ITS FALSE NEIGHBOUR: 'it returns false'. Refute it at one input. -/
def fnExactSetIntersectWrong : ChangeSpec := { name := "fnExactSetIntersect", fn := fun _ => fun
  | [d1, d2] => { results := [.lit (.bool false)], args := [d1, d2] }
  | _ => none }
def FnExactSetIntersectWrongFalsely : Prop := fnExactSetIntersectRow.holds Try.pinned (OpenSpec.ofChange fnExactSetIntersectWrong)

/-- 'laws.FnExactSetMinus': WHATEVER THE INPUT: true; the input reads as it did. -/
def fnExactSetMinusSpec : ChangeSpec := { name := "fnExactSetMinus", fn := fun _ => fun
  | [d1, d2] => { results := [.lit (.bool true)], args := [d1, d2] }
  | _ => none }
def fnExactSetMinusRow : OpenClaim := { program := "ythgfhnjdefbdfaa", sum := "f7b4a88a16c247f79f822bc959c2359a0a0977bab0d2686008718bbb0fde2bb6", func := "loop.example/flexquorum/laws.FnExactSetMinus", spec := "fnExactSetMinus", apart := false }
def FnExactSetMinusSaid : Prop := fnExactSetMinusRow.holds Try.pinned (OpenSpec.ofChange fnExactSetMinusSpec)

/-- ITS FALSE NEIGHBOUR: 'it returns false'. Refute it at one input. -/
def fnExactSetMinusWrong : ChangeSpec := { name := "fnExactSetMinus", fn := fun _ => fun
  | [d1, d2] => { results := [.lit (.bool false)], args := [d1, d2] }
  | _ => none }
def FnExactSetMinusWrongFalsely : Prop := fnExactSetMinusRow.holds Try.pinned (OpenSpec.ofChange fnExactSetMinusWrong)

/-- 'laws.FnExactSetSubset': WHATEVER THE INPUT: true; the input reads as it did. -/
def fnExactSetSubsetSpec : ChangeSpec := { name := "fnExactSetSubset", fn := fun _ => fun
  | [d1, d2] => { results := [.lit (.bool true)], args := [d1, d2] }
  | _ => none }
def fnExactSetSubsetRow : OpenClaim := { program := "ythgfhnjdefbdfaa", sum := "f7b4a88a16c247f79f822bc959c2359a0a0977bab0d2686008718bbb0fde2bb6", func := "loop.example/flexquorum/laws.FnExactSetSubset", spec := "fnExactSetSubset", apart := false }
def FnExactSetSubsetSaid : Prop := fnExactSetSubsetRow.holds Try.pinned (OpenSpec.ofChange fnExactSetSubsetSpec)

/-- ITS FALSE NEIGHBOUR: 'it returns false'. Refute it at one input. -/
def fnExactSetSubsetWrong : ChangeSpec := { name := "fnExactSetSubset", fn := fun _ => fun
  | [d1, d2] => { results := [.lit (.bool false)], args := [d1, d2] }
  | _ => none }
def FnExactSetSubsetWrongFalsely : Prop := fnExactSetSubsetRow.holds Try.pinned (OpenSpec.ofChange fnExactSetSubsetWrong)

/-- 'laws.FnExactSetMask': WHATEVER THE INPUT: true; the input reads as it did. -/
def fnExactSetMaskSpec : ChangeSpec := { name := "fnExactSetMask", fn := fun _ => fun
  | [d] => { results := [.lit (.bool true)], args := [d] }
  | _ => none }
def fnExactSetMaskRow : OpenClaim := { program := "ythgfhnjdefbdfaa", sum := "f7b4a88a16c247f79f822bc959c2359a0a0977bab0d2686008718bbb0fde2bb6", func := "loop.example/flexquorum/laws.FnExactSetMask", spec := "fnExactSetMask", apart := false }
def FnExactSetMaskSaid : Prop := fnExactSetMaskRow.holds Try.pinned (OpenSpec.ofChange fnExactSetMaskSpec)

/-- ITS FALSE NEIGHBOUR: 'it returns false'. Refute it at one input. -/
def fnExactSetMaskWrong : ChangeSpec := { name := "fnExactSetMask", fn := fun _ => fun
  | [d] => { results := [.lit (.bool false)], args := [d] }
  | _ => none }
def FnExactSetMaskWrongFalsely : Prop := fnExactSetMaskRow.holds Try.pinned (OpenSpec.ofChange fnExactSetMaskWrong)

/-- 'laws.FnExactSetOfMask': WHATEVER THE INPUT: true; the input reads as it did. -/
def fnExactSetOfMaskSpec : ChangeSpec := { name := "fnExactSetOfMask", fn := fun _ => fun
  | [d] => { results := [.lit (.bool true)], args := [d] }
  | _ => none }
def fnExactSetOfMaskRow : OpenClaim := { program := "ythgfhnjdefbdfaa", sum := "f7b4a88a16c247f79f822bc959c2359a0a0977bab0d2686008718bbb0fde2bb6", func := "loop.example/flexquorum/laws.FnExactSetOfMask", spec := "fnExactSetOfMask", apart := false }
def FnExactSetOfMaskSaid : Prop := fnExactSetOfMaskRow.holds Try.pinned (OpenSpec.ofChange fnExactSetOfMaskSpec)

/-- ITS FALSE NEIGHBOUR: 'it returns false'. Refute it at one input. -/
def fnExactSetOfMaskWrong : ChangeSpec := { name := "fnExactSetOfMask", fn := fun _ => fun
  | [d] => { results := [.lit (.bool false)], args := [d] }
  | _ => none }
def FnExactSetOfMaskWrongFalsely : Prop := fnExactSetOfMaskRow.holds Try.pinned (OpenSpec.ofChange fnExactSetOfMaskWrong)

/- THE SECOND FORM. 'bulk': how many values and letters a reading holds, each counted each time it is reached (what is shared counts as often as it is met; a slice's spare places count too). A statement '..UptoSaid' is the law's where the arguments, and the package variables that the reading takes, are together of bulk at most 1048576: NARROWER than '..Said'. Prove '..Said' where nothing that the law and all that it calls make is longer than what came in: it says more and counts as full. Else prove '..UptoSaid'. A law counts once. -/
mutual
def uptoBulk {H : Type} : DataW H → Nat
  | .lit (.string bytes) => bytes.length + 1
  | .lit _ => 1
  | .nil => 1
  | .ptr d => uptoBulk d + 1
  | .slice elems spare => uptoBulkAll elems + uptoBulkAll spare + 1
  | .agg parts => uptoBulkAll parts + 1
  | .iface _ d => uptoBulk d + 1
  | .map entries => uptoBulkEntries entries + 1
  | .held _ => 1
def uptoBulkAll {H : Type} : List (DataW H) → Nat
  | [] => 0
  | d :: r => uptoBulk d + uptoBulkAll r
def uptoBulkEntries {H : Type} : List (Lit × DataW H) → Nat
  | [] => 0
  | x :: r => uptoBulkEntry x + uptoBulkEntries r
def uptoBulkEntry {H : Type} : Lit × DataW H → Nat
  | (.string bytes, d) => bytes.length + uptoBulk d + 1
  | (_, d) => uptoBulk d + 1
 end
def uptoSmall : (H : Type) → List (DataW H) → Bool := fun _ ds => decide (uptoBulkAll ds ≤ 1048576)
def OpenSpec.upto (s : _root_.Go.ChangeSpec) : _root_.Go.OpenSpec := { _root_.Go.OpenSpec.ofChange s with cond := some uptoSmall }

/-- 'laws.FnExactSetValid', WHERE WHAT IT READS IS OF BULK AT MOST 1048576: true; the input reads as it did. -/
def fnExactSetValidUptoRow : OpenClaim := { program := "ythgfhnjdefbdfaa", sum := "f7b4a88a16c247f79f822bc959c2359a0a0977bab0d2686008718bbb0fde2bb6", func := "loop.example/flexquorum/laws.FnExactSetValid", spec := "fnExactSetValid", apart := false, narrowed := true }
def FnExactSetValidUptoSaid : Prop := fnExactSetValidUptoRow.holds Try.pinned (OpenSpec.upto fnExactSetValidSpec)

/-- 'laws.FnExactSetContains', WHERE WHAT IT READS IS OF BULK AT MOST 1048576: true; the input reads as it did. -/
def fnExactSetContainsUptoRow : OpenClaim := { program := "ythgfhnjdefbdfaa", sum := "f7b4a88a16c247f79f822bc959c2359a0a0977bab0d2686008718bbb0fde2bb6", func := "loop.example/flexquorum/laws.FnExactSetContains", spec := "fnExactSetContains", apart := false, narrowed := true }
def FnExactSetContainsUptoSaid : Prop := fnExactSetContainsUptoRow.holds Try.pinned (OpenSpec.upto fnExactSetContainsSpec)

/-- 'laws.FnExactSetUnion', WHERE WHAT IT READS IS OF BULK AT MOST 1048576: true; the input reads as it did. -/
def fnExactSetUnionUptoRow : OpenClaim := { program := "ythgfhnjdefbdfaa", sum := "f7b4a88a16c247f79f822bc959c2359a0a0977bab0d2686008718bbb0fde2bb6", func := "loop.example/flexquorum/laws.FnExactSetUnion", spec := "fnExactSetUnion", apart := false, narrowed := true }
def FnExactSetUnionUptoSaid : Prop := fnExactSetUnionUptoRow.holds Try.pinned (OpenSpec.upto fnExactSetUnionSpec)

/-- 'laws.FnExactSetIntersect', WHERE WHAT IT READS IS OF BULK AT MOST 1048576: true; the input reads as it did. -/
def fnExactSetIntersectUptoRow : OpenClaim := { program := "ythgfhnjdefbdfaa", sum := "f7b4a88a16c247f79f822bc959c2359a0a0977bab0d2686008718bbb0fde2bb6", func := "loop.example/flexquorum/laws.FnExactSetIntersect", spec := "fnExactSetIntersect", apart := false, narrowed := true }
def FnExactSetIntersectUptoSaid : Prop := fnExactSetIntersectUptoRow.holds Try.pinned (OpenSpec.upto fnExactSetIntersectSpec)

/-- 'laws.FnExactSetMinus', WHERE WHAT IT READS IS OF BULK AT MOST 1048576: true; the input reads as it did. -/
def fnExactSetMinusUptoRow : OpenClaim := { program := "ythgfhnjdefbdfaa", sum := "f7b4a88a16c247f79f822bc959c2359a0a0977bab0d2686008718bbb0fde2bb6", func := "loop.example/flexquorum/laws.FnExactSetMinus", spec := "fnExactSetMinus", apart := false, narrowed := true }
def FnExactSetMinusUptoSaid : Prop := fnExactSetMinusUptoRow.holds Try.pinned (OpenSpec.upto fnExactSetMinusSpec)

/-- 'laws.FnExactSetSubset', WHERE WHAT IT READS IS OF BULK AT MOST 1048576: true; the input reads as it did. -/
def fnExactSetSubsetUptoRow : OpenClaim := { program := "ythgfhnjdefbdfaa", sum := "f7b4a88a16c247f79f822bc959c2359a0a0977bab0d2686008718bbb0fde2bb6", func := "loop.example/flexquorum/laws.FnExactSetSubset", spec := "fnExactSetSubset", apart := false, narrowed := true }
def FnExactSetSubsetUptoSaid : Prop := fnExactSetSubsetUptoRow.holds Try.pinned (OpenSpec.upto fnExactSetSubsetSpec)

/-- 'laws.FnExactSetMask', WHERE WHAT IT READS IS OF BULK AT MOST 1048576: true; the input reads as it did. -/
def fnExactSetMaskUptoRow : OpenClaim := { program := "ythgfhnjdefbdfaa", sum := "f7b4a88a16c247f79f822bc959c2359a0a0977bab0d2686008718bbb0fde2bb6", func := "loop.example/flexquorum/laws.FnExactSetMask", spec := "fnExactSetMask", apart := false, narrowed := true }
def FnExactSetMaskUptoSaid : Prop := fnExactSetMaskUptoRow.holds Try.pinned (OpenSpec.upto fnExactSetMaskSpec)

/-- 'laws.FnExactSetOfMask', WHERE WHAT IT READS IS OF BULK AT MOST 1048576: true; the input reads as it did. -/
def fnExactSetOfMaskUptoRow : OpenClaim := { program := "ythgfhnjdefbdfaa", sum := "f7b4a88a16c247f79f822bc959c2359a0a0977bab0d2686008718bbb0fde2bb6", func := "loop.example/flexquorum/laws.FnExactSetOfMask", spec := "fnExactSetOfMask", apart := false, narrowed := true }
def FnExactSetOfMaskUptoSaid : Prop := fnExactSetOfMaskUptoRow.holds Try.pinned (OpenSpec.upto fnExactSetOfMaskSpec)

end Rows
end Go.Proofs.Ythgfhnjdefbdfaa
