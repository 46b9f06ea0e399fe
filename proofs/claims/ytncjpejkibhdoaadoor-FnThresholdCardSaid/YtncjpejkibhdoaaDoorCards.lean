/-
  DERIVED. GIVEN WITH THE SEED: THE CARDS: each row of YtncjpejkibhdoaaDoorRows.lean that lists a variable, with what it lists TIED to the program's text (the seventh form; the later family's looks); each row that meets fmt, with fmt's text TOLD by the authors' own Lean function (tested against real Go, not proved from fmt's source: count such statements apart). THE CARD IS WHAT COUNTS. Prove the row's statement (the work); the ties are given (YtncjpejkibhdoaaDoorTie.lean); close each card by the builder's one call (the guide's Derived/Test/ToyasCard.lean, 'card_holds'). Laid BY PROGRAM, IN A SANDBOX (cutbox-door.mjs). By AI agents, Wed Nov 11 2026. No macro, syntax, notation, axiom, sorry.
-/
import Derived.Test.YtncjpejkibhdoaaDoorRows
import GoSem.ClaimSeven
namespace Go.Proofs.YtncjpejkibhdoaaDoor
namespace Rows

/-- THE TIED CARD OF 'laws.FnThreshold'. -/
def fnThresholdCard : Claim7 := { stood := { row := fnThresholdRow, standIns := [], harness := (true, "5c2121acd2290ca266a8aa92b26a30c3ebbec6d02f920a3fa47a9fe9e6ab3624"), looks := true }, kinds := [], alts := [], laidByText := true, laidKinds := [.data, .data, .data], laidTests := true, laidLooks := .later }
def FnThresholdCardSaid : Prop := Claim7.holds Tryd.pinned (.plain (OpenSpec.ofChange fnThresholdSpec)) fnThresholdCard

/-- THE SECOND FORM's CARD OF 'laws.FnThreshold'. -/
def fnThresholdUptoCard : Claim7 := { stood := { row := fnThresholdUptoRow, standIns := [], harness := (true, "5c2121acd2290ca266a8aa92b26a30c3ebbec6d02f920a3fa47a9fe9e6ab3624"), looks := true }, kinds := [], alts := [], laidByText := true, laidKinds := [.data, .data, .data], laidTests := true, laidLooks := .later }
def FnThresholdUptoCardSaid : Prop := Claim7.holds Tryd.pinned (.plain (OpenSpec.upto fnThresholdSpec)) fnThresholdUptoCard
end Rows
end Go.Proofs.YtncjpejkibhdoaaDoor
