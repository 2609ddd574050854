/-
  DERIVED. GIVEN WITH THE SEED: THE CARDS: each row of YtbpijgddfaefkaaGreatDoorRows.lean that lists a variable, with what it lists TIED to the program's text (the seventh form; the later family's looks); each row that meets fmt, with fmt's text TOLD by the authors' own Lean function (tested against real Go, not proved from fmt's source: count such statements apart). THE CARD IS WHAT COUNTS. Prove the row's statement (the work); the ties are given (YtbpijgddfaefkaaGreatDoorTie.lean); close each card by the builder's one call (the guide's Derived/Test/ToyasCard.lean, 'card_holds'). Laid BY PROGRAM, IN A SANDBOX (cutbox-door.mjs). By AI agents, Wed Nov 11 2026. No macro, syntax, notation, axiom, sorry.
-/
import Derived.Test.YtbpijgddfaefkaaGreatDoorRows
import GoSem.ClaimSeven
namespace Go.Proofs.YtbpijgddfaefkaaGreatDoor
namespace Rows

/-- THE TIED CARD OF 'asoflaw09.ParserModules'. -/
def parserModulesCard : Claim7 := { stood := { row := parserModulesRow, standIns := [], harness := (true, "0ffd6d5a4611827cd995286216636f2e1d676380e258986fa72257092e07bca1"), looks := true }, kinds := [], alts := [], laidByText := true, laidKinds := [.data, .data, .data, .sentinel, .sentinel, .data, .data, .data], laidTests := true, laidLooks := .later }
def ParserModulesCardSaid : Prop := Claim7.holds Tryz.pinned (.plain (OpenSpec.ofChange parserModulesSpec)) parserModulesCard

/-- THE TIED CARD OF 'asoflaw09.ParserExprs'. -/
def parserExprsCard : Claim7 := { stood := { row := parserExprsRow, standIns := [], harness := (true, "0ffd6d5a4611827cd995286216636f2e1d676380e258986fa72257092e07bca1"), looks := true }, kinds := [], alts := [], laidByText := true, laidKinds := [.data, .data, .data, .sentinel, .sentinel, .data, .data, .data], laidTests := true, laidLooks := .later }
def ParserExprsCardSaid : Prop := Claim7.holds Tryz.pinned (.plain (OpenSpec.ofChange parserExprsSpec)) parserExprsCard

/-- THE TIED CARD OF 'asoflaw09.ParserUnits'. -/
def parserUnitsCard : Claim7 := { stood := { row := parserUnitsRow, standIns := [], harness := (true, "0ffd6d5a4611827cd995286216636f2e1d676380e258986fa72257092e07bca1"), looks := true }, kinds := [], alts := [], laidByText := true, laidKinds := [.data, .data, .data, .data, .sentinel, .sentinel, .data, .data, .data, .pinned], laidTests := true, laidLooks := .later }
def ParserUnitsCardSaid : Prop := Claim7.holds Tryz.pinned (.plain (OpenSpec.ofChange parserUnitsSpec)) parserUnitsCard

/-- THE SECOND FORM's CARD OF 'asoflaw09.ParserModules'. -/
def parserModulesUptoCard : Claim7 := { stood := { row := parserModulesUptoRow, standIns := [], harness := (true, "0ffd6d5a4611827cd995286216636f2e1d676380e258986fa72257092e07bca1"), looks := true }, kinds := [], alts := [], laidByText := true, laidKinds := [.data, .data, .data, .sentinel, .sentinel, .data, .data, .data], laidTests := true, laidLooks := .later }
def ParserModulesUptoCardSaid : Prop := Claim7.holds Tryz.pinned (.plain (OpenSpec.upto parserModulesSpec)) parserModulesUptoCard

/-- THE SECOND FORM's CARD OF 'asoflaw09.ParserExprs'. -/
def parserExprsUptoCard : Claim7 := { stood := { row := parserExprsUptoRow, standIns := [], harness := (true, "0ffd6d5a4611827cd995286216636f2e1d676380e258986fa72257092e07bca1"), looks := true }, kinds := [], alts := [], laidByText := true, laidKinds := [.data, .data, .data, .sentinel, .sentinel, .data, .data, .data], laidTests := true, laidLooks := .later }
def ParserExprsUptoCardSaid : Prop := Claim7.holds Tryz.pinned (.plain (OpenSpec.upto parserExprsSpec)) parserExprsUptoCard

/-- THE SECOND FORM's CARD OF 'asoflaw09.ParserUnits'. -/
def parserUnitsUptoCard : Claim7 := { stood := { row := parserUnitsUptoRow, standIns := [], harness := (true, "0ffd6d5a4611827cd995286216636f2e1d676380e258986fa72257092e07bca1"), looks := true }, kinds := [], alts := [], laidByText := true, laidKinds := [.data, .data, .data, .data, .sentinel, .sentinel, .data, .data, .data, .pinned], laidTests := true, laidLooks := .later }
def ParserUnitsUptoCardSaid : Prop := Claim7.holds Tryz.pinned (.plain (OpenSpec.upto parserUnitsSpec)) parserUnitsUptoCard
end Rows
end Go.Proofs.YtbpijgddfaefkaaGreatDoor
