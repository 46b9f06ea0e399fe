/-
  No cell of these rows narrows 'for every input' (looked for: loops, veiled, ifaces, maps, wideKeys, modest, calm, conditions, laid).
  DERIVED. THE GIVEN ROWS OF THIS SEAT. 6 by the template 'for every input the law returns true; each argument reads behind the call as it read before'; 0 by the template 'total and deterministic' (their statements: YtmkoliebgibecaaTotals.lean).
  GIVEN WITH THE SEED: the statements are not yours to turn. If you find one false, say at which input.
  Laid BY PROGRAM, IN A SANDBOX (cutbox-rows.mjs): the forced cells as the released guide's own fill.sh prints them over the translation d145d1ad67b993a6… (all of the seat's roots in one cut). By AI agents, Wed Nov 11 2026. No macro, syntax, notation, axiom, sorry.
-/
import Derived.Test.YtmkoliebgibecaaChecked
import GoSem.Claim
import GoSem.ClaimJoined
import GoSem.ClaimMapViews
import Derived.JoinedTies
import Derived.KernelRfl
namespace Go.Proofs.Ytmkoliebgibecaa
/- THE CELL 'sum', in the pinned program and in every row, IS THE sha256 OF THE DUMP (.gsa) THAT YtmkoliebgibecaaProg.lean LOADS. Nothing in Lean hashes anything: it is a label: what it is worth is what the hold of that sum in a sandbox is worth. -/
noncomputable def Try.pinned : Pinned := { name := "ytmkoliebgibecaa", sum := "d145d1ad67b993a64a5f03f56e1055f566237f78655948f764aaf68a5153b83c", checked := Try.checked }
namespace Rows
def none {H : Type} : Left H := { results := [], args := [] }

/-- 'laws.FnBothSelf': WHATEVER THE INPUT: true; the input reads as it did. -/
def fnBothSelfSpec : ChangeSpec := { name := "fnBothSelf", fn := fun _ => fun
  | [d] => { results := [.lit (.bool true)], args := [d] }
  | _ => none }
def fnBothSelfRow : OpenClaim := { program := "ytmkoliebgibecaa", sum := "d145d1ad67b993a64a5f03f56e1055f566237f78655948f764aaf68a5153b83c", func := "loop.example/flexquorum/laws.FnBothSelf", spec := "fnBothSelf", unfollowed := true, recurses := true, apart := false }
def FnBothSelfSaid : Prop := fnBothSelfRow.holds Try.pinned (OpenSpec.ofChange fnBothSelfSpec)

/-- ITS FALSE NEIGHBOUR: 'it returns false'. Refute it at one input. -/
def fnBothSelfWrong : ChangeSpec := { name := "fnBothSelf", fn := fun _ => fun
  | [d] => { results := [.lit (.bool false)], args := [d] }
  | _ => none }
def FnBothSelfWrongFalsely : Prop := fnBothSelfRow.holds Try.pinned (OpenSpec.ofChange fnBothSelfWrong)

/-- 'laws.FnAbsorb': WHATEVER THE INPUT: true; the input reads as it did. -/
def fnAbsorbSpec : ChangeSpec := { name := "fnAbsorb", fn := fun _ => fun
  | [d] => { results := [.lit (.bool true)], args := [d] }
  | _ => none }
def fnAbsorbRow : OpenClaim := { program := "ytmkoliebgibecaa", sum := "d145d1ad67b993a64a5f03f56e1055f566237f78655948f764aaf68a5153b83c", func := "loop.example/flexquorum/laws.FnAbsorb", spec := "fnAbsorb", unfollowed := true, recurses := true, apart := false }
def FnAbsorbSaid : Prop := fnAbsorbRow.holds Try.pinned (OpenSpec.ofChange fnAbsorbSpec)

/-- ITS FALSE NEIGHBOUR: 'it returns false'. Refute it at one input. -/
def fnAbsorbWrong : ChangeSpec := { name := "fnAbsorb", fn := fun _ => fun
  | [d] => { results := [.lit (.bool false)], args := [d] }
  | _ => none }
def FnAbsorbWrongFalsely : Prop := fnAbsorbRow.holds Try.pinned (OpenSpec.ofChange fnAbsorbWrong)

/-- 'laws.FnWeightsSum': WHATEVER THE INPUT: true; the input reads as it did. -/
def fnWeightsSumSpec : ChangeSpec := { name := "fnWeightsSum", fn := fun _ => fun
  | [d1, d2] => { results := [.lit (.bool true)], args := [d1, d2] }
  | _ => none }
def fnWeightsSumRow : OpenClaim := { program := "ytmkoliebgibecaa", sum := "d145d1ad67b993a64a5f03f56e1055f566237f78655948f764aaf68a5153b83c", func := "loop.example/flexquorum/laws.FnWeightsSum", spec := "fnWeightsSum", apart := false }
def FnWeightsSumSaid : Prop := fnWeightsSumRow.holds Try.pinned (OpenSpec.ofChange fnWeightsSumSpec)

/-- ITS FALSE NEIGHBOUR: 'it returns false'. Refute it at one input. -/
def fnWeightsSumWrong : ChangeSpec := { name := "fnWeightsSum", fn := fun _ => fun
  | [d1, d2] => { results := [.lit (.bool false)], args := [d1, d2] }
  | _ => none }
def FnWeightsSumWrongFalsely : Prop := fnWeightsSumRow.holds Try.pinned (OpenSpec.ofChange fnWeightsSumWrong)

/-- 'laws.FnWeightsDual': WHATEVER THE INPUT: true; the input reads as it did. -/
def fnWeightsDualSpec : ChangeSpec := { name := "fnWeightsDual", fn := fun _ => fun
  | [d] => { results := [.lit (.bool true)], args := [d] }
  | _ => none }
def fnWeightsDualRow : OpenClaim := { program := "ytmkoliebgibecaa", sum := "d145d1ad67b993a64a5f03f56e1055f566237f78655948f764aaf68a5153b83c", func := "loop.example/flexquorum/laws.FnWeightsDual", spec := "fnWeightsDual", unfollowed := true, recurses := true, apart := false }
def FnWeightsDualSaid : Prop := fnWeightsDualRow.holds Try.pinned (OpenSpec.ofChange fnWeightsDualSpec)

/-- ITS FALSE NEIGHBOUR: 'it returns false'. Refute it at one input. -/
def fnWeightsDualWrong : ChangeSpec := { name := "fnWeightsDual", fn := fun _ => fun
  | [d] => { results := [.lit (.bool false)], args := [d] }
  | _ => none }
def FnWeightsDualWrongFalsely : Prop := fnWeightsDualRow.holds Try.pinned (OpenSpec.ofChange fnWeightsDualWrong)

/-- 'laws.FnMajority': WHATEVER THE INPUT: true; the input reads as it did. -/
def fnMajoritySpec : ChangeSpec := { name := "fnMajority", fn := fun _ => fun
  | [d] => { results := [.lit (.bool true)], args := [d] }
  | _ => none }
def fnMajorityRow : OpenClaim := { program := "ytmkoliebgibecaa", sum := "d145d1ad67b993a64a5f03f56e1055f566237f78655948f764aaf68a5153b83c", func := "loop.example/flexquorum/laws.FnMajority", spec := "fnMajority", apart := false }
def FnMajoritySaid : Prop := fnMajorityRow.holds Try.pinned (OpenSpec.ofChange fnMajoritySpec)

/-- ITS FALSE NEIGHBOUR: 'it returns false'. Refute it at one input. -/
def fnMajorityWrong : ChangeSpec := { name := "fnMajority", fn := fun _ => fun
  | [d] => { results := [.lit (.bool false)], args := [d] }
  | _ => none }
def FnMajorityWrongFalsely : Prop := fnMajorityRow.holds Try.pinned (OpenSpec.ofChange fnMajorityWrong)

/-- 'laws.FnWeightsMore': WHATEVER THE INPUT: true; the input reads as it did. -/
def fnWeightsMoreSpec : ChangeSpec := { name := "fnWeightsMore", fn := fun _ => fun
  | [d] => { results := [.lit (.bool true)], args := [d] }
  | _ => none }
def fnWeightsMoreRow : OpenClaim := { program := "ytmkoliebgibecaa", sum := "d145d1ad67b993a64a5f03f56e1055f566237f78655948f764aaf68a5153b83c", func := "loop.example/flexquorum/laws.FnWeightsMore", spec := "fnWeightsMore", unfollowed := true, recurses := true, apart := false }
def FnWeightsMoreSaid : Prop := fnWeightsMoreRow.holds Try.pinned (OpenSpec.ofChange fnWeightsMoreSpec)

/-- ITS FALSE NEIGHBOUR: 'it returns false'. Refute it at one input. -/
def fnWeightsMoreWrong : ChangeSpec := { name := "fnWeightsMore", fn := fun _ => fun
  | [d] => { results := [.lit (.bool false)], args := [d] }
  | _ => none }
def FnWeightsMoreWrongFalsely : Prop := fnWeightsMoreRow.holds Try.pinned (OpenSpec.ofChange fnWeightsMoreWrong)

/- THE SECOND FORM. 'bulk': how many values and letters a reading holds, each counted each time it is reached (what is shared counts as often as it is met; a slice's spare places count too). A statement '..UptoSaid' is the law's where the arguments, and the package variables that the reading takes, are together of bulk at most 1048576: NARROWER than '..Said'. Prove '..Said' where nothing that the law and all that it calls make is longer than what came in: it says more and counts as full. Else prove '..UptoSaid'. A law counts once. -/
mutual
def uptoBulk {H : Type} : DataW H → Nat
  | .lit (.string bytes) => bytes.length + 1
  | .lit _ => 1
  | .nil => 1
  | .ptr d => uptoBulk d + 1
  | .slice elems spare => uptoBulkAll elems + uptoBulkAll spare + 1
  | .agg parts => uptoBulkAll parts + 1
  | .iface _ d => uptoBulk d + 1
  | .map entries => uptoBulkEntries entries + 1
  | .held _ => 1
def uptoBulkAll {H : Type} : List (DataW H) → Nat
  | [] => 0
  | d :: r => uptoBulk d + uptoBulkAll r
def uptoBulkEntries {H : Type} : List (Lit × DataW H) → Nat
  | [] => 0
  | x :: r => uptoBulkEntry x + uptoBulkEntries r
def uptoBulkEntry {H : Type} : Lit × DataW H → Nat
  | (.string bytes, d) => bytes.length + uptoBulk d + 1
  | (_, d) => uptoBulk d + 1
 end
def uptoSmall : (H : Type) → List (DataW H) → Bool := fun _ ds => decide (uptoBulkAll ds ≤ 1048576)
def OpenSpec.upto (s : _root_.Go.ChangeSpec) : _root_.Go.OpenSpec := { _root_.Go.OpenSpec.ofChange s with cond := some uptoSmall }

/-- 'laws.FnBothSelf', WHERE WHAT IT READS IS OF BULK AT MOST 1048576: true; the input reads as it did. -/
def fnBothSelfUptoRow : OpenClaim := { program := "ytmkoliebgibecaa", sum := "d145d1ad67b993a64a5f03f56e1055f566237f78655948f764aaf68a5153b83c", func := "loop.example/flexquorum/laws.FnBothSelf", spec := "fnBothSelf", unfollowed := true, recurses := true, apart := false, narrowed := true }
def FnBothSelfUptoSaid : Prop := fnBothSelfUptoRow.holds Try.pinned (OpenSpec.upto fnBothSelfSpec)

/-- 'laws.FnAbsorb', WHERE WHAT IT READS IS OF BULK AT MOST 1048576: true; the input reads as it did. -/
def fnAbsorbUptoRow : OpenClaim := { program := "ytmkoliebgibecaa", sum := "d145d1ad67b993a64a5f03f56e1055f566237f78655948f764aaf68a5153b83c", func := "loop.example/flexquorum/laws.FnAbsorb", spec := "fnAbsorb", unfollowed := true, recurses := true, apart := false, narrowed := true }
def FnAbsorbUptoSaid : Prop := fnAbsorbUptoRow.holds Try.pinned (OpenSpec.upto fnAbsorbSpec)

/-- 'laws.FnWeightsSum', WHERE WHAT IT READS IS OF BULK AT MOST 1048576: true; the input reads as it did. -/
def fnWeightsSumUptoRow : OpenClaim := { program := "ytmkoliebgibecaa", sum := "d145d1ad67b993a64a5f03f56e1055f566237f78655948f764aaf68a5153b83c", func := "loop.example/flexquorum/laws.FnWeightsSum", spec := "fnWeightsSum", apart := false, narrowed := true }
def FnWeightsSumUptoSaid : Prop := fnWeightsSumUptoRow.holds Try.pinned (OpenSpec.upto fnWeightsSumSpec)

/-- 'laws.FnWeightsDual', WHERE WHAT IT READS IS OF BULK AT MOST 1048576: true; the input reads as it did. -/
def fnWeightsDualUptoRow : OpenClaim := { program := "ytmkoliebgibecaa", sum := "d145d1ad67b993a64a5f03f56e1055f566237f78655948f764aaf68a5153b83c", func := "loop.example/flexquorum/laws.FnWeightsDual", spec := "fnWeightsDual", unfollowed := true, recurses := true, apart := false, narrowed := true }
def FnWeightsDualUptoSaid : Prop := fnWeightsDualUptoRow.holds Try.pinned (OpenSpec.upto fnWeightsDualSpec)

/-- 'laws.FnMajority', WHERE WHAT IT READS IS OF BULK AT MOST 1048576: true; the input reads as it did. -/
def fnMajorityUptoRow : OpenClaim := { program := "ytmkoliebgibecaa", sum := "d145d1ad67b993a64a5f03f56e1055f566237f78655948f764aaf68a5153b83c", func := "loop.example/flexquorum/laws.FnMajority", spec := "fnMajority", apart := false, narrowed := true }
def FnMajorityUptoSaid : Prop := fnMajorityUptoRow.holds Try.pinned (OpenSpec.upto fnMajoritySpec)

/-- 'laws.FnWeightsMore', WHERE WHAT IT READS IS OF BULK AT MOST 1048576: true; the input reads as it did. -/
def fnWeightsMoreUptoRow : OpenClaim := { program := "ytmkoliebgibecaa", sum := "d145d1ad67b993a64a5f03f56e1055f566237f78655948f764aaf68a5153b83c", func := "loop.example/flexquorum/laws.FnWeightsMore", spec := "fnWeightsMore", unfollowed := true, recurses := true, apart := false, narrowed := true }
def FnWeightsMoreUptoSaid : Prop := fnWeightsMoreUptoRow.holds Try.pinned (OpenSpec.upto fnWeightsMoreSpec)

end Rows
end Go.Proofs.Ytmkoliebgibecaa
