/-
  DERIVED. GIVEN WITH THE SEED: THE CARDS: each row of YtmmcmiljnmbfcaaDoorRows.lean that lists a variable, with what it lists TIED to the program's text (the seventh form; the later family's looks); each row that meets fmt, with fmt's text TOLD by the authors' own Lean function (tested against real Go, not proved from fmt's source: count such statements apart). THE CARD IS WHAT COUNTS. Prove the row's statement (the work); the ties are given (YtmmcmiljnmbfcaaDoorTie.lean); close each card by the builder's one call (the guide's Derived/Test/ToyasCard.lean, 'card_holds'). Laid BY PROGRAM, IN A SANDBOX (cutbox-door.mjs). By AI agents, Wed Nov 11 2026. No macro, syntax, notation, axiom, sorry.
-/
import Derived.Test.YtmmcmiljnmbfcaaDoorRows
import GoSem.ClaimSeven
namespace Go.Proofs.YtmmcmiljnmbfcaaDoor
namespace Rows

/-- THE TIED CARD OF 'lanyardlaw02.RadixLines'. -/
def radixLinesCard : Claim7 := { stood := { row := radixLinesRow, standIns := [], harness := (true, "7a19b0be02ae1ae00d8c708cca88237deed5637b75f053ed5a1b09a7c63425d0"), looks := false }, kinds := [], alts := [], laidByText := true, laidKinds := [.data, .pinned], laidTests := true, laidLooks := .later }
def RadixLinesCardSaid : Prop := Claim7.holds Tryd.pinned (.plain (OpenSpec.ofChange radixLinesSpec)) radixLinesCard

/-- THE TIED CARD OF 'lanyardlaw02.RadixJoined'. -/
def radixJoinedCard : Claim7 := { stood := { row := radixJoinedRow, standIns := [], harness := (true, "7a19b0be02ae1ae00d8c708cca88237deed5637b75f053ed5a1b09a7c63425d0"), looks := false }, kinds := [], alts := [], laidByText := true, laidKinds := [.data, .pinned], laidTests := true, laidLooks := .later }
def RadixJoinedCardSaid : Prop := Claim7.holds Tryd.pinned (.plain (OpenSpec.ofChange radixJoinedSpec)) radixJoinedCard

/-- THE SECOND FORM's CARD OF 'lanyardlaw02.RadixLines'. -/
def radixLinesUptoCard : Claim7 := { stood := { row := radixLinesUptoRow, standIns := [], harness := (true, "7a19b0be02ae1ae00d8c708cca88237deed5637b75f053ed5a1b09a7c63425d0"), looks := false }, kinds := [], alts := [], laidByText := true, laidKinds := [.data, .pinned], laidTests := true, laidLooks := .later }
def RadixLinesUptoCardSaid : Prop := Claim7.holds Tryd.pinned (.plain (OpenSpec.upto radixLinesSpec)) radixLinesUptoCard

/-- THE SECOND FORM's CARD OF 'lanyardlaw02.RadixJoined'. -/
def radixJoinedUptoCard : Claim7 := { stood := { row := radixJoinedUptoRow, standIns := [], harness := (true, "7a19b0be02ae1ae00d8c708cca88237deed5637b75f053ed5a1b09a7c63425d0"), looks := false }, kinds := [], alts := [], laidByText := true, laidKinds := [.data, .pinned], laidTests := true, laidLooks := .later }
def RadixJoinedUptoCardSaid : Prop := Claim7.holds Tryd.pinned (.plain (OpenSpec.upto radixJoinedSpec)) radixJoinedUptoCard
end Rows
end Go.Proofs.YtmmcmiljnmbfcaaDoor
