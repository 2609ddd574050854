/-
  DERIVED. GIVEN WITH THE SEED: THE CARDS: each row of YtbkpjhffmaldmaaGreatDoorRows.lean that lists a variable, with what it lists TIED to the program's text (the seventh form; the later family's looks); each row that meets fmt, with fmt's text TOLD by the authors' own Lean function (tested against real Go, not proved from fmt's source: count such statements apart). THE CARD IS WHAT COUNTS. Prove the row's statement (the work); the ties are given (YtbkpjhffmaldmaaGreatDoorTie.lean); close each card by the builder's one call (the guide's Derived/Test/ToyasCard.lean, 'card_holds'). Laid BY PROGRAM, IN A SANDBOX (cutbox-door.mjs). By AI agents, Wed Nov 11 2026. No macro, syntax, notation, axiom, sorry.
-/
import Derived.Test.YtbkpjhffmaldmaaGreatDoorRows
import GoSem.ClaimSeven
namespace Go.Proofs.YtbkpjhffmaldmaaGreatDoor
namespace Rows

/-- THE TIED CARD OF 'asoflaw10.CheckerMatchesShape'. -/
def checkerMatchesShapeCard : Claim7 := { stood := { row := checkerMatchesShapeRow, standIns := [], harness := (true, "d96493be4ef6687978f87858d618bf112acb3df4a78f519ce570e8f6d7ef3d0e"), looks := true }, kinds := [], alts := [], laidByText := true, laidKinds := [.data, .data, .data, .sentinel, .sentinel, .data, .data], laidTests := true, laidLooks := .later }
def CheckerMatchesShapeCardSaid : Prop := Claim7.holds Tryz.pinned (.plain (OpenSpec.ofChange checkerMatchesShapeSpec)) checkerMatchesShapeCard

/-- THE TIED CARD OF 'asoflaw10.CheckerMatchesTables'. -/
def checkerMatchesTablesCard : Claim7 := { stood := { row := checkerMatchesTablesRow, standIns := [], harness := (true, "d96493be4ef6687978f87858d618bf112acb3df4a78f519ce570e8f6d7ef3d0e"), looks := true }, kinds := [], alts := [], laidByText := true, laidKinds := [.data, .data, .data, .sentinel, .sentinel, .data, .data], laidTests := true, laidLooks := .later }
def CheckerMatchesTablesCardSaid : Prop := Claim7.holds Tryz.pinned (.plain (OpenSpec.ofChange checkerMatchesTablesSpec)) checkerMatchesTablesCard

/-- THE TIED CARD OF 'asoflaw10.CheckerOperands'. -/
def checkerOperandsCard : Claim7 := { stood := { row := checkerOperandsRow, standIns := [], harness := (true, "d96493be4ef6687978f87858d618bf112acb3df4a78f519ce570e8f6d7ef3d0e"), looks := true }, kinds := [], alts := [], laidByText := true, laidKinds := [.data, .data, .data, .sentinel, .sentinel, .data, .data], laidTests := true, laidLooks := .later }
def CheckerOperandsCardSaid : Prop := Claim7.holds Tryz.pinned (.plain (OpenSpec.ofChange checkerOperandsSpec)) checkerOperandsCard

/-- THE TIED CARD OF 'asoflaw10.CheckerReplaced'. -/
def checkerReplacedCard : Claim7 := { stood := { row := checkerReplacedRow, standIns := [], harness := (true, "d96493be4ef6687978f87858d618bf112acb3df4a78f519ce570e8f6d7ef3d0e"), looks := true }, kinds := [], alts := [], laidByText := true, laidKinds := [.data, .data, .data, .sentinel, .sentinel, .data, .data], laidTests := true, laidLooks := .later }
def CheckerReplacedCardSaid : Prop := Claim7.holds Tryz.pinned (.plain (OpenSpec.ofChange checkerReplacedSpec)) checkerReplacedCard

/-- THE TIED CARD OF 'asoflaw10.CheckerWeakening'. -/
def checkerWeakeningCard : Claim7 := { stood := { row := checkerWeakeningRow, standIns := [], harness := (true, "d96493be4ef6687978f87858d618bf112acb3df4a78f519ce570e8f6d7ef3d0e"), looks := true }, kinds := [], alts := [], laidByText := true, laidKinds := [.data, .data, .data, .sentinel, .sentinel, .data, .data], laidTests := true, laidLooks := .later }
def CheckerWeakeningCardSaid : Prop := Claim7.holds Tryz.pinned (.plain (OpenSpec.ofChange checkerWeakeningSpec)) checkerWeakeningCard

/-- THE TIED CARD OF 'asoflaw10.CheckerUnits'. -/
def checkerUnitsCard : Claim7 := { stood := { row := checkerUnitsRow, standIns := [], harness := (true, "d96493be4ef6687978f87858d618bf112acb3df4a78f519ce570e8f6d7ef3d0e"), looks := true }, kinds := [], alts := [], laidByText := true, laidKinds := [.data, .data, .data, .sentinel, .sentinel, .data, .data], laidTests := true, laidLooks := .later }
def CheckerUnitsCardSaid : Prop := Claim7.holds Tryz.pinned (.plain (OpenSpec.ofChange checkerUnitsSpec)) checkerUnitsCard

/-- THE TIED CARD OF 'asoflaw10.CheckerLiterals'. -/
def checkerLiteralsCard : Claim7 := { stood := { row := checkerLiteralsRow, standIns := [], harness := (true, "d96493be4ef6687978f87858d618bf112acb3df4a78f519ce570e8f6d7ef3d0e"), looks := true }, kinds := [], alts := [], laidByText := true, laidKinds := [.data, .data, .data, .sentinel, .sentinel, .data, .data], laidTests := true, laidLooks := .later }
def CheckerLiteralsCardSaid : Prop := Claim7.holds Tryz.pinned (.plain (OpenSpec.ofChange checkerLiteralsSpec)) checkerLiteralsCard

/-- THE TIED CARD OF 'asoflaw10.CheckerDeclared'. -/
def checkerDeclaredCard : Claim7 := { stood := { row := checkerDeclaredRow, standIns := [], harness := (true, "d96493be4ef6687978f87858d618bf112acb3df4a78f519ce570e8f6d7ef3d0e"), looks := true }, kinds := [], alts := [], laidByText := true, laidKinds := [.data, .data, .data, .sentinel, .sentinel, .data, .data], laidTests := true, laidLooks := .later }
def CheckerDeclaredCardSaid : Prop := Claim7.holds Tryz.pinned (.plain (OpenSpec.ofChange checkerDeclaredSpec)) checkerDeclaredCard

/-- THE SECOND FORM's CARD OF 'asoflaw10.CheckerMatchesShape'. -/
def checkerMatchesShapeUptoCard : Claim7 := { stood := { row := checkerMatchesShapeUptoRow, standIns := [], harness := (true, "d96493be4ef6687978f87858d618bf112acb3df4a78f519ce570e8f6d7ef3d0e"), looks := true }, kinds := [], alts := [], laidByText := true, laidKinds := [.data, .data, .data, .sentinel, .sentinel, .data, .data], laidTests := true, laidLooks := .later }
def CheckerMatchesShapeUptoCardSaid : Prop := Claim7.holds Tryz.pinned (.plain (OpenSpec.upto checkerMatchesShapeSpec)) checkerMatchesShapeUptoCard

/-- THE SECOND FORM's CARD OF 'asoflaw10.CheckerMatchesTables'. -/
def checkerMatchesTablesUptoCard : Claim7 := { stood := { row := checkerMatchesTablesUptoRow, standIns := [], harness := (true, "d96493be4ef6687978f87858d618bf112acb3df4a78f519ce570e8f6d7ef3d0e"), looks := true }, kinds := [], alts := [], laidByText := true, laidKinds := [.data, .data, .data, .sentinel, .sentinel, .data, .data], laidTests := true, laidLooks := .later }
def CheckerMatchesTablesUptoCardSaid : Prop := Claim7.holds Tryz.pinned (.plain (OpenSpec.upto checkerMatchesTablesSpec)) checkerMatchesTablesUptoCard

/-- THE SECOND FORM's CARD OF 'asoflaw10.CheckerOperands'. -/
def checkerOperandsUptoCard : Claim7 := { stood := { row := checkerOperandsUptoRow, standIns := [], harness := (true, "d96493be4ef6687978f87858d618bf112acb3df4a78f519ce570e8f6d7ef3d0e"), looks := true }, kinds := [], alts := [], laidByText := true, laidKinds := [.data, .data, .data, .sentinel, .sentinel, .data, .data], laidTests := true, laidLooks := .later }
def CheckerOperandsUptoCardSaid : Prop := Claim7.holds Tryz.pinned (.plain (OpenSpec.upto checkerOperandsSpec)) checkerOperandsUptoCard

/-- THE SECOND FORM's CARD OF 'asoflaw10.CheckerReplaced'. -/
def checkerReplacedUptoCard : Claim7 := { stood := { row := checkerReplacedUptoRow, standIns := [], harness := (true, "d96493be4ef6687978f87858d618bf112acb3df4a78f519ce570e8f6d7ef3d0e"), looks := true }, kinds := [], alts := [], laidByText := true, laidKinds := [.data, .data, .data, .sentinel, .sentinel, .data, .data], laidTests := true, laidLooks := .later }
def CheckerReplacedUptoCardSaid : Prop := Claim7.holds Tryz.pinned (.plain (OpenSpec.upto checkerReplacedSpec)) checkerReplacedUptoCard

/-- THE SECOND FORM's CARD OF 'asoflaw10.CheckerWeakening'. -/
def checkerWeakeningUptoCard : Claim7 := { stood := { row := checkerWeakeningUptoRow, standIns := [], harness := (true, "d96493be4ef6687978f87858d618bf112acb3df4a78f519ce570e8f6d7ef3d0e"), looks := true }, kinds := [], alts := [], laidByText := true, laidKinds := [.data, .data, .data, .sentinel, .sentinel, .data, .data], laidTests := true, laidLooks := .later }
def CheckerWeakeningUptoCardSaid : Prop := Claim7.holds Tryz.pinned (.plain (OpenSpec.upto checkerWeakeningSpec)) checkerWeakeningUptoCard

/-- THE SECOND FORM's CARD OF 'asoflaw10.CheckerUnits'. -/
def checkerUnitsUptoCard : Claim7 := { stood := { row := checkerUnitsUptoRow, standIns := [], harness := (true, "d96493be4ef6687978f87858d618bf112acb3df4a78f519ce570e8f6d7ef3d0e"), looks := true }, kinds := [], alts := [], laidByText := true, laidKinds := [.data, .data, .data, .sentinel, .sentinel, .data, .data], laidTests := true, laidLooks := .later }
def CheckerUnitsUptoCardSaid : Prop := Claim7.holds Tryz.pinned (.plain (OpenSpec.upto checkerUnitsSpec)) checkerUnitsUptoCard

/-- THE SECOND FORM's CARD OF 'asoflaw10.CheckerLiterals'. -/
def checkerLiteralsUptoCard : Claim7 := { stood := { row := checkerLiteralsUptoRow, standIns := [], harness := (true, "d96493be4ef6687978f87858d618bf112acb3df4a78f519ce570e8f6d7ef3d0e"), looks := true }, kinds := [], alts := [], laidByText := true, laidKinds := [.data, .data, .data, .sentinel, .sentinel, .data, .data], laidTests := true, laidLooks := .later }
def CheckerLiteralsUptoCardSaid : Prop := Claim7.holds Tryz.pinned (.plain (OpenSpec.upto checkerLiteralsSpec)) checkerLiteralsUptoCard

/-- THE SECOND FORM's CARD OF 'asoflaw10.CheckerDeclared'. -/
def checkerDeclaredUptoCard : Claim7 := { stood := { row := checkerDeclaredUptoRow, standIns := [], harness := (true, "d96493be4ef6687978f87858d618bf112acb3df4a78f519ce570e8f6d7ef3d0e"), looks := true }, kinds := [], alts := [], laidByText := true, laidKinds := [.data, .data, .data, .sentinel, .sentinel, .data, .data], laidTests := true, laidLooks := .later }
def CheckerDeclaredUptoCardSaid : Prop := Claim7.holds Tryz.pinned (.plain (OpenSpec.upto checkerDeclaredSpec)) checkerDeclaredUptoCard
end Rows
end Go.Proofs.YtbkpjhffmaldmaaGreatDoor
