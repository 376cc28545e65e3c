/-
  DERIVED. GIVEN WITH THE SEED: THE CARDS: each row of YtpgahclpbdpbnaaGreatDoorRows.lean that lists a variable, with what it lists TIED to the program's text (the seventh form; the later family's looks); each row that meets fmt, with fmt's text TOLD by the authors' own Lean function (tested against real Go, not proved from fmt's source: count such statements apart). THE CARD IS WHAT COUNTS. Prove the row's statement (the work); the ties are given (YtpgahclpbdpbnaaGreatDoorTie.lean); close each card by the builder's one call (the guide's Derived/Test/ToyasCard.lean, 'card_holds'). Laid BY PROGRAM, IN A SANDBOX (cutbox-door.mjs). By AI agents, Wed Nov 11 2026. No macro, syntax, notation, axiom, sorry.
-/
import Derived.Test.YtpgahclpbdpbnaaGreatDoorRows
import GoSem.ClaimSeven
namespace Go.Proofs.YtpgahclpbdpbnaaGreatDoor
namespace Rows

/-- THE TIED CARD OF 'lanyardlaw16.CrlReads'. -/
def crlReadsCard : Claim7 := { stood := { row := crlReadsRow, standIns := [], harness := (true, "877527c3a8a7d41d5702c00193c5ab63cf1c0df3b73fb8fd2fb4e60a3039e97b"), looks := true }, kinds := [], alts := [], laidByText := true, laidKinds := [.data, .data, .data, .pinned], laidTests := true, laidLooks := .later }
def CrlReadsCardSaid : Prop := Claim7.holds Tryz.pinned (.plain (OpenSpec.ofChange crlReadsSpec)) crlReadsCard

/-- THE TIED CARD OF 'lanyardlaw16.CrlChecks'. -/
def crlChecksCard : Claim7 := { stood := { row := crlChecksRow, standIns := [], harness := (true, "877527c3a8a7d41d5702c00193c5ab63cf1c0df3b73fb8fd2fb4e60a3039e97b"), looks := true }, kinds := [], alts := [], laidByText := true, laidKinds := [.data, .data, .data, .pinned], laidTests := true, laidLooks := .later }
def CrlChecksCardSaid : Prop := Claim7.holds Tryz.pinned (.plain (OpenSpec.ofChange crlChecksSpec)) crlChecksCard

/-- THE TIED CARD OF 'lanyardlaw16.CrlBack'. -/
def crlBackCard : Claim7 := { stood := { row := crlBackRow, standIns := [], harness := (true, "877527c3a8a7d41d5702c00193c5ab63cf1c0df3b73fb8fd2fb4e60a3039e97b"), looks := true }, kinds := [], alts := [], laidByText := true, laidKinds := [.data, .data, .data, .pinned], laidTests := true, laidLooks := .later }
def CrlBackCardSaid : Prop := Claim7.holds Tryz.pinned (.plain (OpenSpec.ofChange crlBackSpec)) crlBackCard

/-- THE SECOND FORM's CARD OF 'lanyardlaw16.CrlReads'. -/
def crlReadsUptoCard : Claim7 := { stood := { row := crlReadsUptoRow, standIns := [], harness := (true, "877527c3a8a7d41d5702c00193c5ab63cf1c0df3b73fb8fd2fb4e60a3039e97b"), looks := true }, kinds := [], alts := [], laidByText := true, laidKinds := [.data, .data, .data, .pinned], laidTests := true, laidLooks := .later }
def CrlReadsUptoCardSaid : Prop := Claim7.holds Tryz.pinned (.plain (OpenSpec.upto crlReadsSpec)) crlReadsUptoCard

/-- THE SECOND FORM's CARD OF 'lanyardlaw16.CrlChecks'. -/
def crlChecksUptoCard : Claim7 := { stood := { row := crlChecksUptoRow, standIns := [], harness := (true, "877527c3a8a7d41d5702c00193c5ab63cf1c0df3b73fb8fd2fb4e60a3039e97b"), looks := true }, kinds := [], alts := [], laidByText := true, laidKinds := [.data, .data, .data, .pinned], laidTests := true, laidLooks := .later }
def CrlChecksUptoCardSaid : Prop := Claim7.holds Tryz.pinned (.plain (OpenSpec.upto crlChecksSpec)) crlChecksUptoCard

/-- THE SECOND FORM's CARD OF 'lanyardlaw16.CrlBack'. -/
def crlBackUptoCard : Claim7 := { stood := { row := crlBackUptoRow, standIns := [], harness := (true, "877527c3a8a7d41d5702c00193c5ab63cf1c0df3b73fb8fd2fb4e60a3039e97b"), looks := true }, kinds := [], alts := [], laidByText := true, laidKinds := [.data, .data, .data, .pinned], laidTests := true, laidLooks := .later }
def CrlBackUptoCardSaid : Prop := Claim7.holds Tryz.pinned (.plain (OpenSpec.upto crlBackSpec)) crlBackUptoCard
end Rows
end Go.Proofs.YtpgahclpbdpbnaaGreatDoor
