/-
  DERIVED. GIVEN WITH THE SEED: THE CARDS: each row of YtngacjfoldgjpaaGreatDoorRows.lean that lists a variable, with what it lists TIED to the program's text (the seventh form; the later family's looks); each row that meets fmt, with fmt's text TOLD by the authors' own Lean function (tested against real Go, not proved from fmt's source: count such statements apart). THE CARD IS WHAT COUNTS. Prove the row's statement (the work); the ties are given (YtngacjfoldgjpaaGreatDoorTie.lean); close each card by the builder's one call (the guide's Derived/Test/ToyasCard.lean, 'card_holds'). Laid BY PROGRAM, IN A SANDBOX (cutbox-door.mjs). By AI agents, Wed Nov 11 2026. No macro, syntax, notation, axiom, sorry.
-/
import Derived.Test.YtngacjfoldgjpaaGreatDoorRows
import GoSem.ClaimSeven
namespace Go.Proofs.YtngacjfoldgjpaaGreatDoor
namespace Rows

/-- THE TIED CARD OF 'laws.FnResilienceMajority'. -/
def fnResilienceMajorityCard : Claim7 := { stood := { row := fnResilienceMajorityRow, standIns := [], harness := (true, "b262d38d9ada538899ea170c5889878f2fe72addaee8347fafa7bafd12709136"), looks := true }, kinds := [], alts := [], laidByText := true, laidKinds := [.data, .data, .data], laidTests := true, laidLooks := .later }
def FnResilienceMajorityCardSaid : Prop := Claim7.holds Tryz.pinned (.plain (OpenSpec.ofChange fnResilienceMajoritySpec)) fnResilienceMajorityCard

/-- THE SECOND FORM's CARD OF 'laws.FnResilienceMajority'. -/
def fnResilienceMajorityUptoCard : Claim7 := { stood := { row := fnResilienceMajorityUptoRow, standIns := [], harness := (true, "b262d38d9ada538899ea170c5889878f2fe72addaee8347fafa7bafd12709136"), looks := true }, kinds := [], alts := [], laidByText := true, laidKinds := [.data, .data, .data], laidTests := true, laidLooks := .later }
def FnResilienceMajorityUptoCardSaid : Prop := Claim7.holds Tryz.pinned (.plain (OpenSpec.upto fnResilienceMajoritySpec)) fnResilienceMajorityUptoCard
end Rows
end Go.Proofs.YtngacjfoldgjpaaGreatDoor
