/-
  DERIVED. GIVEN WITH THE SEED: THE CARDS: each row of YtgfigcjbfigmiaaDoorRows.lean that lists a variable, with what it lists TIED to the program's text (the seventh form; the later family's looks); each row that meets fmt, with fmt's text TOLD by the authors' own Lean function (tested against real Go, not proved from fmt's source: count such statements apart). THE CARD IS WHAT COUNTS. Prove the row's statement (the work); the ties are given (YtgfigcjbfigmiaaDoorTie.lean); close each card by the builder's one call (the guide's Derived/Test/ToyasCard.lean, 'card_holds'). Laid BY PROGRAM, IN A SANDBOX (cutbox-door.mjs). By AI agents, Wed Nov 11 2026. No macro, syntax, notation, axiom, sorry.
-/
import Derived.Test.YtgfigcjbfigmiaaDoorRows
import GoSem.ClaimSeven
namespace Go.Proofs.YtgfigcjbfigmiaaDoor
namespace Rows

/-- THE TIED CARD OF 'asoflaw02.DecimalSums'. -/
def decimalSumsCard : Claim7 := { stood := { row := decimalSumsRow, standIns := [], harness := (true, "78075770586d42a9bd3a84fccc02d67dbedfce0fea73fc395bc3fa6bbbce9b52"), looks := false }, kinds := [], alts := [], laidByText := true, laidKinds := [.data, .data, .data, .data], laidTests := true, laidLooks := .later }
def DecimalSumsCardSaid : Prop := Claim7.holds Tryd.pinned (.plain (OpenSpec.ofChange decimalSumsSpec)) decimalSumsCard

/-- THE TIED CARD OF 'asoflaw02.DecimalProducts'. -/
def decimalProductsCard : Claim7 := { stood := { row := decimalProductsRow, standIns := [], harness := (true, "78075770586d42a9bd3a84fccc02d67dbedfce0fea73fc395bc3fa6bbbce9b52"), looks := false }, kinds := [], alts := [], laidByText := true, laidKinds := [.data, .data, .data, .data], laidTests := true, laidLooks := .later }
def DecimalProductsCardSaid : Prop := Claim7.holds Tryd.pinned (.plain (OpenSpec.ofChange decimalProductsSpec)) decimalProductsCard

/-- THE TIED CARD OF 'asoflaw02.DecimalNear'. -/
def decimalNearCard : Claim7 := { stood := { row := decimalNearRow, standIns := [], harness := (true, "78075770586d42a9bd3a84fccc02d67dbedfce0fea73fc395bc3fa6bbbce9b52"), looks := false }, kinds := [], alts := [], laidByText := true, laidKinds := [.data, .data, .data, .data], laidTests := true, laidLooks := .later }
def DecimalNearCardSaid : Prop := Claim7.holds Tryd.pinned (.plain (OpenSpec.ofChange decimalNearSpec)) decimalNearCard

/-- THE TIED CARD OF 'asoflaw02.DecimalMissing'. -/
def decimalMissingCard : Claim7 := { stood := { row := decimalMissingRow, standIns := [], harness := (true, "78075770586d42a9bd3a84fccc02d67dbedfce0fea73fc395bc3fa6bbbce9b52"), looks := false }, kinds := [], alts := [], laidByText := true, laidKinds := [.data, .data, .data, .data], laidTests := true, laidLooks := .later }
def DecimalMissingCardSaid : Prop := Claim7.holds Tryd.pinned (.plain (OpenSpec.ofChange decimalMissingSpec)) decimalMissingCard

/-- THE TIED CARD OF 'asoflaw02.DecimalRing'. -/
def decimalRingCard : Claim7 := { stood := { row := decimalRingRow, standIns := [], harness := (true, "78075770586d42a9bd3a84fccc02d67dbedfce0fea73fc395bc3fa6bbbce9b52"), looks := false }, kinds := [], alts := [], laidByText := true, laidKinds := [.data, .data, .data, .data], laidTests := true, laidLooks := .later }
def DecimalRingCardSaid : Prop := Claim7.holds Tryd.pinned (.plain (OpenSpec.ofChange decimalRingSpec)) decimalRingCard

/-- THE TIED CARD OF 'asoflaw02.DecimalOrders'. -/
def decimalOrdersCard : Claim7 := { stood := { row := decimalOrdersRow, standIns := [], harness := (true, "78075770586d42a9bd3a84fccc02d67dbedfce0fea73fc395bc3fa6bbbce9b52"), looks := false }, kinds := [], alts := [], laidByText := true, laidKinds := [.data, .data, .data, .data], laidTests := true, laidLooks := .later }
def DecimalOrdersCardSaid : Prop := Claim7.holds Tryd.pinned (.plain (OpenSpec.ofChange decimalOrdersSpec)) decimalOrdersCard

/-- THE TIED CARD OF 'asoflaw02.DecimalWhole'. -/
def decimalWholeCard : Claim7 := { stood := { row := decimalWholeRow, standIns := [], harness := (true, "78075770586d42a9bd3a84fccc02d67dbedfce0fea73fc395bc3fa6bbbce9b52"), looks := false }, kinds := [], alts := [], laidByText := true, laidKinds := [.data, .data, .data, .data], laidTests := true, laidLooks := .later }
def DecimalWholeCardSaid : Prop := Claim7.holds Tryd.pinned (.plain (OpenSpec.ofChange decimalWholeSpec)) decimalWholeCard

/-- THE SECOND FORM's CARD OF 'asoflaw02.DecimalSums'. -/
def decimalSumsUptoCard : Claim7 := { stood := { row := decimalSumsUptoRow, standIns := [], harness := (true, "78075770586d42a9bd3a84fccc02d67dbedfce0fea73fc395bc3fa6bbbce9b52"), looks := false }, kinds := [], alts := [], laidByText := true, laidKinds := [.data, .data, .data, .data], laidTests := true, laidLooks := .later }
def DecimalSumsUptoCardSaid : Prop := Claim7.holds Tryd.pinned (.plain (OpenSpec.upto decimalSumsSpec)) decimalSumsUptoCard

/-- THE SECOND FORM's CARD OF 'asoflaw02.DecimalProducts'. -/
def decimalProductsUptoCard : Claim7 := { stood := { row := decimalProductsUptoRow, standIns := [], harness := (true, "78075770586d42a9bd3a84fccc02d67dbedfce0fea73fc395bc3fa6bbbce9b52"), looks := false }, kinds := [], alts := [], laidByText := true, laidKinds := [.data, .data, .data, .data], laidTests := true, laidLooks := .later }
def DecimalProductsUptoCardSaid : Prop := Claim7.holds Tryd.pinned (.plain (OpenSpec.upto decimalProductsSpec)) decimalProductsUptoCard

/-- THE SECOND FORM's CARD OF 'asoflaw02.DecimalNear'. -/
def decimalNearUptoCard : Claim7 := { stood := { row := decimalNearUptoRow, standIns := [], harness := (true, "78075770586d42a9bd3a84fccc02d67dbedfce0fea73fc395bc3fa6bbbce9b52"), looks := false }, kinds := [], alts := [], laidByText := true, laidKinds := [.data, .data, .data, .data], laidTests := true, laidLooks := .later }
def DecimalNearUptoCardSaid : Prop := Claim7.holds Tryd.pinned (.plain (OpenSpec.upto decimalNearSpec)) decimalNearUptoCard

/-- THE SECOND FORM's CARD OF 'asoflaw02.DecimalMissing'. -/
def decimalMissingUptoCard : Claim7 := { stood := { row := decimalMissingUptoRow, standIns := [], harness := (true, "78075770586d42a9bd3a84fccc02d67dbedfce0fea73fc395bc3fa6bbbce9b52"), looks := false }, kinds := [], alts := [], laidByText := true, laidKinds := [.data, .data, .data, .data], laidTests := true, laidLooks := .later }
def DecimalMissingUptoCardSaid : Prop := Claim7.holds Tryd.pinned (.plain (OpenSpec.upto decimalMissingSpec)) decimalMissingUptoCard

/-- THE SECOND FORM's CARD OF 'asoflaw02.DecimalRing'. -/
def decimalRingUptoCard : Claim7 := { stood := { row := decimalRingUptoRow, standIns := [], harness := (true, "78075770586d42a9bd3a84fccc02d67dbedfce0fea73fc395bc3fa6bbbce9b52"), looks := false }, kinds := [], alts := [], laidByText := true, laidKinds := [.data, .data, .data, .data], laidTests := true, laidLooks := .later }
def DecimalRingUptoCardSaid : Prop := Claim7.holds Tryd.pinned (.plain (OpenSpec.upto decimalRingSpec)) decimalRingUptoCard

/-- THE SECOND FORM's CARD OF 'asoflaw02.DecimalOrders'. -/
def decimalOrdersUptoCard : Claim7 := { stood := { row := decimalOrdersUptoRow, standIns := [], harness := (true, "78075770586d42a9bd3a84fccc02d67dbedfce0fea73fc395bc3fa6bbbce9b52"), looks := false }, kinds := [], alts := [], laidByText := true, laidKinds := [.data, .data, .data, .data], laidTests := true, laidLooks := .later }
def DecimalOrdersUptoCardSaid : Prop := Claim7.holds Tryd.pinned (.plain (OpenSpec.upto decimalOrdersSpec)) decimalOrdersUptoCard

/-- THE SECOND FORM's CARD OF 'asoflaw02.DecimalWhole'. -/
def decimalWholeUptoCard : Claim7 := { stood := { row := decimalWholeUptoRow, standIns := [], harness := (true, "78075770586d42a9bd3a84fccc02d67dbedfce0fea73fc395bc3fa6bbbce9b52"), looks := false }, kinds := [], alts := [], laidByText := true, laidKinds := [.data, .data, .data, .data], laidTests := true, laidLooks := .later }
def DecimalWholeUptoCardSaid : Prop := Claim7.holds Tryd.pinned (.plain (OpenSpec.upto decimalWholeSpec)) decimalWholeUptoCard
end Rows
end Go.Proofs.YtgfigcjbfigmiaaDoor
