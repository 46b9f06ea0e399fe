/-
  DERIVED. GIVEN WITH THE SEED: THE CARDS: each row of YtmpcnefmlnkkjaaDoorRows.lean that lists a variable, with what it lists TIED to the program's text (the seventh form; the later family's looks); each row that meets fmt, with fmt's text TOLD by the authors' own Lean function (tested against real Go, not proved from fmt's source: count such statements apart). THE CARD IS WHAT COUNTS. Prove the row's statement (the work); the ties are given (YtmpcnefmlnkkjaaDoorTie.lean); close each card by the builder's one call (the guide's Derived/Test/ToyasCard.lean, 'card_holds'). Laid BY PROGRAM, IN A SANDBOX (cutbox-door.mjs). By AI agents, Wed Nov 11 2026. No macro, syntax, notation, axiom, sorry.
-/
import Derived.Test.YtmpcnefmlnkkjaaDoorRows
import GoSem.ClaimSeven
namespace Go.Proofs.YtmpcnefmlnkkjaaDoor
namespace Rows

/-- THE TIED CARD OF 'laws.FnWeightsUniform'. -/
def fnWeightsUniformCard : Claim7 := { stood := { row := fnWeightsUniformRow, standIns := [], harness := (true, "6b1e7a832eb2da0a36dfebfcb8b7517d887215af891997824611551939e8ae53"), looks := true }, kinds := [], alts := [], laidByText := true, laidKinds := [.data, .data, .data], laidTests := true, laidLooks := .later }
def FnWeightsUniformCardSaid : Prop := Claim7.holds Tryd.pinned (.plain (OpenSpec.ofChange fnWeightsUniformSpec)) fnWeightsUniformCard

/-- THE SECOND FORM's CARD OF 'laws.FnWeightsUniform'. -/
def fnWeightsUniformUptoCard : Claim7 := { stood := { row := fnWeightsUniformUptoRow, standIns := [], harness := (true, "6b1e7a832eb2da0a36dfebfcb8b7517d887215af891997824611551939e8ae53"), looks := true }, kinds := [], alts := [], laidByText := true, laidKinds := [.data, .data, .data], laidTests := true, laidLooks := .later }
def FnWeightsUniformUptoCardSaid : Prop := Claim7.holds Tryd.pinned (.plain (OpenSpec.upto fnWeightsUniformSpec)) fnWeightsUniformUptoCard
end Rows
end Go.Proofs.YtmpcnefmlnkkjaaDoor
