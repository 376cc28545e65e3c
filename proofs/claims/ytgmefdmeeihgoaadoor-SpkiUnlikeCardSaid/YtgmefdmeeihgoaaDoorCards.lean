/-
  DERIVED. GIVEN WITH THE SEED: THE CARDS: each row of YtgmefdmeeihgoaaDoorRows.lean that lists a variable, with what it lists TIED to the program's text (the seventh form; the later family's looks); each row that meets fmt, with fmt's text TOLD by the authors' own Lean function (tested against real Go, not proved from fmt's source: count such statements apart). THE CARD IS WHAT COUNTS. Prove the row's statement (the work); the ties are given (YtgmefdmeeihgoaaDoorTie.lean); close each card by the builder's one call (the guide's Derived/Test/ToyasCard.lean, 'card_holds'). Laid BY PROGRAM, IN A SANDBOX (cutbox-door.mjs). By AI agents, Wed Nov 11 2026. No macro, syntax, notation, axiom, sorry.
-/
import Derived.Test.YtgmefdmeeihgoaaDoorRows
import GoSem.ClaimSeven
namespace Go.Proofs.YtgmefdmeeihgoaaDoor
namespace Rows

/-- THE TIED CARD OF 'lanyardlaw14.SpkiBack'. -/
def spkiBackCard : Claim7 := { stood := { row := spkiBackRow, standIns := [], harness := (true, "703fcef75224c8ab36746c85af9482184577c7d50fa01127c51b0e18539076a6"), looks := true }, kinds := [], alts := [], laidByText := true, laidKinds := [.data, .pinned], laidTests := true, laidLooks := .later }
def SpkiBackCardSaid : Prop := Claim7.holds Tryd.pinned (.plain (OpenSpec.ofChange spkiBackSpec)) spkiBackCard

/-- THE TIED CARD OF 'lanyardlaw14.SpkiUnlike'. -/
def spkiUnlikeCard : Claim7 := { stood := { row := spkiUnlikeRow, standIns := [], harness := (true, "703fcef75224c8ab36746c85af9482184577c7d50fa01127c51b0e18539076a6"), looks := true }, kinds := [], alts := [], laidByText := true, laidKinds := [.data, .data, .data, .pinned], laidTests := true, laidLooks := .later }
def SpkiUnlikeCardSaid : Prop := Claim7.holds Tryd.pinned (.plain (OpenSpec.ofChange spkiUnlikeSpec)) spkiUnlikeCard

/-- THE SECOND FORM's CARD OF 'lanyardlaw14.SpkiBack'. -/
def spkiBackUptoCard : Claim7 := { stood := { row := spkiBackUptoRow, standIns := [], harness := (true, "703fcef75224c8ab36746c85af9482184577c7d50fa01127c51b0e18539076a6"), looks := true }, kinds := [], alts := [], laidByText := true, laidKinds := [.data, .pinned], laidTests := true, laidLooks := .later }
def SpkiBackUptoCardSaid : Prop := Claim7.holds Tryd.pinned (.plain (OpenSpec.upto spkiBackSpec)) spkiBackUptoCard

/-- THE SECOND FORM's CARD OF 'lanyardlaw14.SpkiUnlike'. -/
def spkiUnlikeUptoCard : Claim7 := { stood := { row := spkiUnlikeUptoRow, standIns := [], harness := (true, "703fcef75224c8ab36746c85af9482184577c7d50fa01127c51b0e18539076a6"), looks := true }, kinds := [], alts := [], laidByText := true, laidKinds := [.data, .data, .data, .pinned], laidTests := true, laidLooks := .later }
def SpkiUnlikeUptoCardSaid : Prop := Claim7.holds Tryd.pinned (.plain (OpenSpec.upto spkiUnlikeSpec)) spkiUnlikeUptoCard
end Rows
end Go.Proofs.YtgmefdmeeihgoaaDoor
