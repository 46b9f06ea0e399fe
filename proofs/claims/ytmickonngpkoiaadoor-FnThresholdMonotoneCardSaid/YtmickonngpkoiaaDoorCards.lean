/-
  DERIVED. GIVEN WITH THE SEED: THE CARDS: each row of YtmickonngpkoiaaDoorRows.lean that lists a variable, with what it lists TIED to the program's text (the seventh form; the later family's looks); each row that meets fmt, with fmt's text TOLD by the authors' own Lean function (tested against real Go, not proved from fmt's source: count such statements apart). THE CARD IS WHAT COUNTS. Prove the row's statement (the work); the ties are given (YtmickonngpkoiaaDoorTie.lean); close each card by the builder's one call (the guide's Derived/Test/ToyasCard.lean, 'card_holds'). Laid BY PROGRAM, IN A SANDBOX (cutbox-door.mjs). By AI agents, Wed Nov 11 2026. No macro, syntax, notation, axiom, sorry.
-/
import Derived.Test.YtmickonngpkoiaaDoorRows
import GoSem.ClaimSeven
namespace Go.Proofs.YtmickonngpkoiaaDoor
namespace Rows

/-- THE TIED CARD OF 'laws.FnThresholdMonotone'. -/
def fnThresholdMonotoneCard : Claim7 := { stood := { row := fnThresholdMonotoneRow, standIns := [], harness := (true, "4e458fbd967ad2623d804a4b56fa273fead53773721738a191bb17241cf1057f"), looks := false }, kinds := [], alts := [], laidByText := true, laidKinds := [.data, .data, .data], laidTests := true, laidLooks := .later }
def FnThresholdMonotoneCardSaid : Prop := Claim7.holds Tryd.pinned (.plain (OpenSpec.ofChange fnThresholdMonotoneSpec)) fnThresholdMonotoneCard

/-- THE SECOND FORM's CARD OF 'laws.FnThresholdMonotone'. -/
def fnThresholdMonotoneUptoCard : Claim7 := { stood := { row := fnThresholdMonotoneUptoRow, standIns := [], harness := (true, "4e458fbd967ad2623d804a4b56fa273fead53773721738a191bb17241cf1057f"), looks := false }, kinds := [], alts := [], laidByText := true, laidKinds := [.data, .data, .data], laidTests := true, laidLooks := .later }
def FnThresholdMonotoneUptoCardSaid : Prop := Claim7.holds Tryd.pinned (.plain (OpenSpec.upto fnThresholdMonotoneSpec)) fnThresholdMonotoneUptoCard
end Rows
end Go.Proofs.YtmickonngpkoiaaDoor
