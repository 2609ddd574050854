/-
  DERIVED. GIVEN WITH THE SEED: THE CARDS: each row of YtnkdclodmeaihaaGreatDoorRows.lean that lists a variable, with what it lists TIED to the program's text (the seventh form; the later family's looks); each row that meets fmt, with fmt's text TOLD by the authors' own Lean function (tested against real Go, not proved from fmt's source: count such statements apart). THE CARD IS WHAT COUNTS. Prove the row's statement (the work); the ties are given (YtnkdclodmeaihaaGreatDoorTie.lean); close each card by the builder's one call (the guide's Derived/Test/ToyasCard.lean, 'card_holds'). Laid BY PROGRAM, IN A SANDBOX (cutbox-door.mjs). By AI agents, Wed Nov 11 2026. No macro, syntax, notation, axiom, sorry.
-/
import Derived.Test.YtnkdclodmeaihaaGreatDoorRows
import GoSem.ClaimSeven
namespace Go.Proofs.YtnkdclodmeaihaaGreatDoor
namespace Rows

/-- THE TIED CARD OF 'asoflaw05.ValuesTexts'. -/
def valuesTextsCard : Claim7 := { stood := { row := valuesTextsRow, standIns := [], harness := (true, "1c16def1255eda7e11f1d64a0c97c26ec6c477ea0ba5b736dff0a0f810323522"), looks := true }, kinds := [], alts := [], laidByText := true, laidKinds := [.data, .data, .data, .sentinel, .sentinel, .data], laidTests := true, laidLooks := .later }
def ValuesTextsCardSaid : Prop := Claim7.holds Tryz.pinned (.plain (OpenSpec.ofChange valuesTextsSpec)) valuesTextsCard

/-- THE TIED CARD OF 'asoflaw05.ValuesFrames'. -/
def valuesFramesCard : Claim7 := { stood := { row := valuesFramesRow, standIns := [], harness := (true, "1c16def1255eda7e11f1d64a0c97c26ec6c477ea0ba5b736dff0a0f810323522"), looks := true }, kinds := [], alts := [], laidByText := true, laidKinds := [.data, .data, .data, .sentinel, .sentinel, .data], laidTests := true, laidLooks := .later }
def ValuesFramesCardSaid : Prop := Claim7.holds Tryz.pinned (.plain (OpenSpec.ofChange valuesFramesSpec)) valuesFramesCard

/-- THE SECOND FORM's CARD OF 'asoflaw05.ValuesTexts'. -/
def valuesTextsUptoCard : Claim7 := { stood := { row := valuesTextsUptoRow, standIns := [], harness := (true, "1c16def1255eda7e11f1d64a0c97c26ec6c477ea0ba5b736dff0a0f810323522"), looks := true }, kinds := [], alts := [], laidByText := true, laidKinds := [.data, .data, .data, .sentinel, .sentinel, .data], laidTests := true, laidLooks := .later }
def ValuesTextsUptoCardSaid : Prop := Claim7.holds Tryz.pinned (.plain (OpenSpec.upto valuesTextsSpec)) valuesTextsUptoCard

/-- THE SECOND FORM's CARD OF 'asoflaw05.ValuesFrames'. -/
def valuesFramesUptoCard : Claim7 := { stood := { row := valuesFramesUptoRow, standIns := [], harness := (true, "1c16def1255eda7e11f1d64a0c97c26ec6c477ea0ba5b736dff0a0f810323522"), looks := true }, kinds := [], alts := [], laidByText := true, laidKinds := [.data, .data, .data, .sentinel, .sentinel, .data], laidTests := true, laidLooks := .later }
def ValuesFramesUptoCardSaid : Prop := Claim7.holds Tryz.pinned (.plain (OpenSpec.upto valuesFramesSpec)) valuesFramesUptoCard
end Rows
end Go.Proofs.YtnkdclodmeaihaaGreatDoor
