/-
  DERIVED. GIVEN WITH THE SEED: THE CARDS: each row of YthgfhnjdefbdfaaDoorRows.lean that lists a variable, with what it lists TIED to the program's text (the seventh form; the later family's looks); each row that meets fmt, with fmt's text TOLD by the authors' own Lean function (tested against real Go, not proved from fmt's source: count such statements apart). THE CARD IS WHAT COUNTS. Prove the row's statement (the work); the ties are given (YthgfhnjdefbdfaaDoorTie.lean); close each card by the builder's one call (the guide's Derived/Test/ToyasCard.lean, 'card_holds'). Laid BY PROGRAM, IN A SANDBOX (cutbox-door.mjs). By AI agents, Wed Nov 11 2026. No macro, syntax, notation, axiom, sorry.
-/
import Derived.Test.YthgfhnjdefbdfaaDoorRows
import GoSem.ClaimSeven
namespace Go.Proofs.YthgfhnjdefbdfaaDoor
namespace Rows

/-- THE TIED CARD OF 'laws.FnExactSetFormat'. -/
def fnExactSetFormatCard : Claim7 := { stood := { row := fnExactSetFormatRow, standIns := [], harness := (true, "0e1f716a9f7f68f7fd03011c2f858cd5de90e4e3e6d98eb3966166b2e3a0c3bf"), looks := false }, kinds := [], alts := [], laidByText := true, laidKinds := [.data, .data, .data], laidTests := true, laidLooks := .later }
def FnExactSetFormatCardSaid : Prop := Claim7.holds Tryd.pinned (.plain (OpenSpec.ofChange fnExactSetFormatSpec)) fnExactSetFormatCard

/-- THE TIED CARD OF 'laws.FnExactSetParse'. -/
def fnExactSetParseCard : Claim7 := { stood := { row := fnExactSetParseRow, standIns := [], harness := (true, "0e1f716a9f7f68f7fd03011c2f858cd5de90e4e3e6d98eb3966166b2e3a0c3bf"), looks := false }, kinds := [], alts := [], laidByText := true, laidKinds := [.data, .data, .data], laidTests := true, laidLooks := .later }
def FnExactSetParseCardSaid : Prop := Claim7.holds Tryd.pinned (.plain (OpenSpec.ofChange fnExactSetParseSpec)) fnExactSetParseCard

/-- THE SECOND FORM's CARD OF 'laws.FnExactSetFormat'. -/
def fnExactSetFormatUptoCard : Claim7 := { stood := { row := fnExactSetFormatUptoRow, standIns := [], harness := (true, "0e1f716a9f7f68f7fd03011c2f858cd5de90e4e3e6d98eb3966166b2e3a0c3bf"), looks := false }, kinds := [], alts := [], laidByText := true, laidKinds := [.data, .data, .data], laidTests := true, laidLooks := .later }
def FnExactSetFormatUptoCardSaid : Prop := Claim7.holds Tryd.pinned (.plain (OpenSpec.upto fnExactSetFormatSpec)) fnExactSetFormatUptoCard

/-- THE SECOND FORM's CARD OF 'laws.FnExactSetParse'. -/
def fnExactSetParseUptoCard : Claim7 := { stood := { row := fnExactSetParseUptoRow, standIns := [], harness := (true, "0e1f716a9f7f68f7fd03011c2f858cd5de90e4e3e6d98eb3966166b2e3a0c3bf"), looks := false }, kinds := [], alts := [], laidByText := true, laidKinds := [.data, .data, .data], laidTests := true, laidLooks := .later }
def FnExactSetParseUptoCardSaid : Prop := Claim7.holds Tryd.pinned (.plain (OpenSpec.upto fnExactSetParseSpec)) fnExactSetParseUptoCard
end Rows
end Go.Proofs.YthgfhnjdefbdfaaDoor
