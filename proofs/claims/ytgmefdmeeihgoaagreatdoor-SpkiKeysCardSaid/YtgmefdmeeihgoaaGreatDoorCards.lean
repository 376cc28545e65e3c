/-
  DERIVED. GIVEN WITH THE SEED: THE CARDS: each row of YtgmefdmeeihgoaaGreatDoorRows.lean that lists a variable, with what it lists TIED to the program's text (the seventh form; the later family's looks); each row that meets fmt, with fmt's text TOLD by the authors' own Lean function (tested against real Go, not proved from fmt's source: count such statements apart). THE CARD IS WHAT COUNTS. Prove the row's statement (the work); the ties are given (YtgmefdmeeihgoaaGreatDoorTie.lean); close each card by the builder's one call (the guide's Derived/Test/ToyasCard.lean, 'card_holds'). Laid BY PROGRAM, IN A SANDBOX (cutbox-door.mjs). By AI agents, Wed Nov 11 2026. No macro, syntax, notation, axiom, sorry.
-/
import Derived.Test.YtgmefdmeeihgoaaGreatDoorRows
import GoSem.ClaimSeven
namespace Go.Proofs.YtgmefdmeeihgoaaGreatDoor
namespace Rows

/-- THE TIED CARD OF 'lanyardlaw14.SpkiKeys'. -/
def spkiKeysCard : Claim7 := { stood := { row := spkiKeysRow, standIns := [], harness := (true, "529c258234072bfacc36b6b05d2bef8d2ec194a280a5bb00081a2e226e0dc7a3"), looks := true }, kinds := [], alts := [], laidByText := true, laidKinds := [.data, .data, .data, .pinned], laidTests := true, laidLooks := .later }
def SpkiKeysCardSaid : Prop := Claim7.holds Tryz.pinned (.plain (OpenSpec.ofChange spkiKeysSpec)) spkiKeysCard

/-- THE SECOND FORM's CARD OF 'lanyardlaw14.SpkiKeys'. -/
def spkiKeysUptoCard : Claim7 := { stood := { row := spkiKeysUptoRow, standIns := [], harness := (true, "529c258234072bfacc36b6b05d2bef8d2ec194a280a5bb00081a2e226e0dc7a3"), looks := true }, kinds := [], alts := [], laidByText := true, laidKinds := [.data, .data, .data, .pinned], laidTests := true, laidLooks := .later }
def SpkiKeysUptoCardSaid : Prop := Claim7.holds Tryz.pinned (.plain (OpenSpec.upto spkiKeysSpec)) spkiKeysUptoCard
end Rows
end Go.Proofs.YtgmefdmeeihgoaaGreatDoor
