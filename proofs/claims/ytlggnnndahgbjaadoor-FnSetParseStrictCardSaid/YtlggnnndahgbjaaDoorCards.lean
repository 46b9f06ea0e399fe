/-
  DERIVED. GIVEN WITH THE SEED: THE CARDS: each row of YtlggnnndahgbjaaDoorRows.lean that lists a variable, with what it lists TIED to the program's text (the seventh form; the later family's looks); each row that meets fmt, with fmt's text TOLD by the authors' own Lean function (tested against real Go, not proved from fmt's source: count such statements apart). THE CARD IS WHAT COUNTS. Prove the row's statement (the work); the ties are given (YtlggnnndahgbjaaDoorTie.lean); close each card by the builder's one call (the guide's Derived/Test/ToyasCard.lean, 'card_holds'). Laid BY PROGRAM, IN A SANDBOX (cutbox-door.mjs). By AI agents, Wed Nov 11 2026. No macro, syntax, notation, axiom, sorry.
-/
import Derived.Test.YtlggnnndahgbjaaDoorRows
import GoSem.ClaimSeven
namespace Go.Proofs.YtlggnnndahgbjaaDoor
namespace Rows

/-- THE TIED CARD OF 'laws.FnSetFormatParse'. -/
def fnSetFormatParseCard : Claim7 := { stood := { row := fnSetFormatParseRow, standIns := [], harness := (true, "bc463ac183c418ac1788793b06dd2498096e47cc35f385cd0d984c8b87e15681"), looks := false }, kinds := [], alts := [], laidByText := true, laidKinds := [.data, .data, .data], laidTests := true, laidLooks := .later }
def FnSetFormatParseCardSaid : Prop := Claim7.holds Tryd.pinned (.plain (OpenSpec.ofChange fnSetFormatParseSpec)) fnSetFormatParseCard

/-- THE TIED CARD OF 'laws.FnSetParseStrict'. -/
def fnSetParseStrictCard : Claim7 := { stood := { row := fnSetParseStrictRow, standIns := [], harness := (true, "bc463ac183c418ac1788793b06dd2498096e47cc35f385cd0d984c8b87e15681"), looks := false }, kinds := [], alts := [], laidByText := true, laidKinds := [.data, .data, .data], laidTests := true, laidLooks := .later }
def FnSetParseStrictCardSaid : Prop := Claim7.holds Tryd.pinned (.plain (OpenSpec.ofChange fnSetParseStrictSpec)) fnSetParseStrictCard

/-- THE SECOND FORM's CARD OF 'laws.FnSetFormatParse'. -/
def fnSetFormatParseUptoCard : Claim7 := { stood := { row := fnSetFormatParseUptoRow, standIns := [], harness := (true, "bc463ac183c418ac1788793b06dd2498096e47cc35f385cd0d984c8b87e15681"), looks := false }, kinds := [], alts := [], laidByText := true, laidKinds := [.data, .data, .data], laidTests := true, laidLooks := .later }
def FnSetFormatParseUptoCardSaid : Prop := Claim7.holds Tryd.pinned (.plain (OpenSpec.upto fnSetFormatParseSpec)) fnSetFormatParseUptoCard

/-- THE SECOND FORM's CARD OF 'laws.FnSetParseStrict'. -/
def fnSetParseStrictUptoCard : Claim7 := { stood := { row := fnSetParseStrictUptoRow, standIns := [], harness := (true, "bc463ac183c418ac1788793b06dd2498096e47cc35f385cd0d984c8b87e15681"), looks := false }, kinds := [], alts := [], laidByText := true, laidKinds := [.data, .data, .data], laidTests := true, laidLooks := .later }
def FnSetParseStrictUptoCardSaid : Prop := Claim7.holds Tryd.pinned (.plain (OpenSpec.upto fnSetParseStrictSpec)) fnSetParseStrictUptoCard
end Rows
end Go.Proofs.YtlggnnndahgbjaaDoor
