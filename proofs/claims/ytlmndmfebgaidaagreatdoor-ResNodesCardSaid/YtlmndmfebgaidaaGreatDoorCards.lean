/-
  DERIVED. GIVEN WITH THE SEED: THE CARDS: each row of YtlmndmfebgaidaaGreatDoorRows.lean that lists a variable, with what it lists TIED to the program's text (the seventh form; the later family's looks); each row that meets fmt, with fmt's text TOLD by the authors' own Lean function (tested against real Go, not proved from fmt's source: count such statements apart). THE CARD IS WHAT COUNTS. Prove the row's statement (the work); the ties are given (YtlmndmfebgaidaaGreatDoorTie.lean); close each card by the builder's one call (the guide's Derived/Test/ToyasCard.lean, 'card_holds'). Laid BY PROGRAM, IN A SANDBOX (cutbox-door.mjs). By AI agents, Wed Nov 11 2026. No macro, syntax, notation, axiom, sorry.
-/
import Derived.Test.YtlmndmfebgaidaaGreatDoorRows
import GoSem.ClaimSeven
namespace Go.Proofs.YtlmndmfebgaidaaGreatDoor
namespace Rows

/-- THE TIED CARD OF 'lanyardlaw13.ResNodes'. -/
def resNodesCard : Claim7 := { stood := { row := resNodesRow, standIns := [], harness := (true, "afbce0745d57452475c6941ef4f5466f9ca5a82942587dcae90b5f6cf7da4fe5"), looks := false }, kinds := [], alts := [], laidByText := true, laidKinds := [.data, .data, .pinned], laidTests := true, laidLooks := .later }
def ResNodesCardSaid : Prop := Claim7.holds Tryz.pinned (.plain (OpenSpec.ofChange resNodesSpec)) resNodesCard

/-- THE TIED CARD OF 'lanyardlaw13.ResResolves'. -/
def resResolvesCard : Claim7 := { stood := { row := resResolvesRow, standIns := [], harness := (true, "afbce0745d57452475c6941ef4f5466f9ca5a82942587dcae90b5f6cf7da4fe5"), looks := false }, kinds := [], alts := [], laidByText := true, laidKinds := [.data, .data, .pinned], laidTests := true, laidLooks := .later }
def ResResolvesCardSaid : Prop := Claim7.holds Tryz.pinned (.plain (OpenSpec.ofChange resResolvesSpec)) resResolvesCard

/-- THE TIED CARD OF 'lanyardlaw13.ResBack'. -/
def resBackCard : Claim7 := { stood := { row := resBackRow, standIns := [], harness := (true, "afbce0745d57452475c6941ef4f5466f9ca5a82942587dcae90b5f6cf7da4fe5"), looks := false }, kinds := [], alts := [], laidByText := true, laidKinds := [.data, .data, .pinned], laidTests := true, laidLooks := .later }
def ResBackCardSaid : Prop := Claim7.holds Tryz.pinned (.plain (OpenSpec.ofChange resBackSpec)) resBackCard

/-- THE TIED CARD OF 'lanyardlaw13.ResGoes'. -/
def resGoesCard : Claim7 := { stood := { row := resGoesRow, standIns := [], harness := (true, "afbce0745d57452475c6941ef4f5466f9ca5a82942587dcae90b5f6cf7da4fe5"), looks := false }, kinds := [], alts := [], laidByText := true, laidKinds := [.data, .data, .pinned], laidTests := true, laidLooks := .later }
def ResGoesCardSaid : Prop := Claim7.holds Tryz.pinned (.plain (OpenSpec.ofChange resGoesSpec)) resGoesCard

/-- THE TIED CARD OF 'lanyardlaw13.ResHas'. -/
def resHasCard : Claim7 := { stood := { row := resHasRow, standIns := [], harness := (true, "afbce0745d57452475c6941ef4f5466f9ca5a82942587dcae90b5f6cf7da4fe5"), looks := false }, kinds := [], alts := [], laidByText := true, laidKinds := [.data, .data, .pinned], laidTests := true, laidLooks := .later }
def ResHasCardSaid : Prop := Claim7.holds Tryz.pinned (.plain (OpenSpec.ofChange resHasSpec)) resHasCard

/-- THE SECOND FORM's CARD OF 'lanyardlaw13.ResNodes'. -/
def resNodesUptoCard : Claim7 := { stood := { row := resNodesUptoRow, standIns := [], harness := (true, "afbce0745d57452475c6941ef4f5466f9ca5a82942587dcae90b5f6cf7da4fe5"), looks := false }, kinds := [], alts := [], laidByText := true, laidKinds := [.data, .data, .pinned], laidTests := true, laidLooks := .later }
def ResNodesUptoCardSaid : Prop := Claim7.holds Tryz.pinned (.plain (OpenSpec.upto resNodesSpec)) resNodesUptoCard

/-- THE SECOND FORM's CARD OF 'lanyardlaw13.ResResolves'. -/
def resResolvesUptoCard : Claim7 := { stood := { row := resResolvesUptoRow, standIns := [], harness := (true, "afbce0745d57452475c6941ef4f5466f9ca5a82942587dcae90b5f6cf7da4fe5"), looks := false }, kinds := [], alts := [], laidByText := true, laidKinds := [.data, .data, .pinned], laidTests := true, laidLooks := .later }
def ResResolvesUptoCardSaid : Prop := Claim7.holds Tryz.pinned (.plain (OpenSpec.upto resResolvesSpec)) resResolvesUptoCard

/-- THE SECOND FORM's CARD OF 'lanyardlaw13.ResBack'. -/
def resBackUptoCard : Claim7 := { stood := { row := resBackUptoRow, standIns := [], harness := (true, "afbce0745d57452475c6941ef4f5466f9ca5a82942587dcae90b5f6cf7da4fe5"), looks := false }, kinds := [], alts := [], laidByText := true, laidKinds := [.data, .data, .pinned], laidTests := true, laidLooks := .later }
def ResBackUptoCardSaid : Prop := Claim7.holds Tryz.pinned (.plain (OpenSpec.upto resBackSpec)) resBackUptoCard

/-- THE SECOND FORM's CARD OF 'lanyardlaw13.ResGoes'. -/
def resGoesUptoCard : Claim7 := { stood := { row := resGoesUptoRow, standIns := [], harness := (true, "afbce0745d57452475c6941ef4f5466f9ca5a82942587dcae90b5f6cf7da4fe5"), looks := false }, kinds := [], alts := [], laidByText := true, laidKinds := [.data, .data, .pinned], laidTests := true, laidLooks := .later }
def ResGoesUptoCardSaid : Prop := Claim7.holds Tryz.pinned (.plain (OpenSpec.upto resGoesSpec)) resGoesUptoCard

/-- THE SECOND FORM's CARD OF 'lanyardlaw13.ResHas'. -/
def resHasUptoCard : Claim7 := { stood := { row := resHasUptoRow, standIns := [], harness := (true, "afbce0745d57452475c6941ef4f5466f9ca5a82942587dcae90b5f6cf7da4fe5"), looks := false }, kinds := [], alts := [], laidByText := true, laidKinds := [.data, .data, .pinned], laidTests := true, laidLooks := .later }
def ResHasUptoCardSaid : Prop := Claim7.holds Tryz.pinned (.plain (OpenSpec.upto resHasSpec)) resHasUptoCard
end Rows
end Go.Proofs.YtlmndmfebgaidaaGreatDoor
