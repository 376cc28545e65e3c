/-
  DERIVED. GIVEN WITH THE SEED: THE CARDS: each row of YtdhablbfblkagaaDoorRows.lean that lists a variable, with what it lists TIED to the program's text (the seventh form; the later family's looks); each row that meets fmt, with fmt's text TOLD by the authors' own Lean function (tested against real Go, not proved from fmt's source: count such statements apart). THE CARD IS WHAT COUNTS. Prove the row's statement (the work); the ties are given (YtdhablbfblkagaaDoorTie.lean); close each card by the builder's one call (the guide's Derived/Test/ToyasCard.lean, 'card_holds'). Laid BY PROGRAM, IN A SANDBOX (cutbox-door.mjs). By AI agents, Wed Nov 11 2026. No macro, syntax, notation, axiom, sorry.
-/
import Derived.Test.YtdhablbfblkagaaDoorRows
import GoSem.ClaimSeven
namespace Go.Proofs.YtdhablbfblkagaaDoor
namespace Rows

/-- THE TIED CARD OF 'lanyardlaw09.RsaVerifies'. -/
def rsaVerifiesCard : Claim7 := { stood := { row := rsaVerifiesRow, standIns := [], harness := (true, "4b25aad4359eba280caa92110f05e4f3164a956dcfdba09b7f7654d6eb30321a"), looks := false }, kinds := [], alts := [], laidByText := true, laidKinds := [.data, .data], laidTests := true, laidLooks := .later }
def RsaVerifiesCardSaid : Prop := Claim7.holds Tryd.pinned (.plain (OpenSpec.ofChange rsaVerifiesSpec)) rsaVerifiesCard

/-- THE TIED CARD OF 'lanyardlaw09.RsaSigns'. -/
def rsaSignsCard : Claim7 := { stood := { row := rsaSignsRow, standIns := [], harness := (true, "4b25aad4359eba280caa92110f05e4f3164a956dcfdba09b7f7654d6eb30321a"), looks := false }, kinds := [], alts := [], laidByText := true, laidKinds := [.data, .data], laidTests := true, laidLooks := .later }
def RsaSignsCardSaid : Prop := Claim7.holds Tryd.pinned (.plain (OpenSpec.ofChange rsaSignsSpec)) rsaSignsCard

/-- THE TIED CARD OF 'lanyardlaw09.RsaSizes'. -/
def rsaSizesCard : Claim7 := { stood := { row := rsaSizesRow, standIns := [], harness := (true, "4b25aad4359eba280caa92110f05e4f3164a956dcfdba09b7f7654d6eb30321a"), looks := false }, kinds := [], alts := [], laidByText := true, laidKinds := [.data, .data], laidTests := true, laidLooks := .later }
def RsaSizesCardSaid : Prop := Claim7.holds Tryd.pinned (.plain (OpenSpec.ofChange rsaSizesSpec)) rsaSizesCard

/-- THE TIED CARD OF 'lanyardlaw09.RsaOnce'. -/
def rsaOnceCard : Claim7 := { stood := { row := rsaOnceRow, standIns := [], harness := (true, "4b25aad4359eba280caa92110f05e4f3164a956dcfdba09b7f7654d6eb30321a"), looks := false }, kinds := [], alts := [], laidByText := true, laidKinds := [.data, .data], laidTests := true, laidLooks := .later }
def RsaOnceCardSaid : Prop := Claim7.holds Tryd.pinned (.plain (OpenSpec.ofChange rsaOnceSpec)) rsaOnceCard

/-- THE SECOND FORM's CARD OF 'lanyardlaw09.RsaVerifies'. -/
def rsaVerifiesUptoCard : Claim7 := { stood := { row := rsaVerifiesUptoRow, standIns := [], harness := (true, "4b25aad4359eba280caa92110f05e4f3164a956dcfdba09b7f7654d6eb30321a"), looks := false }, kinds := [], alts := [], laidByText := true, laidKinds := [.data, .data], laidTests := true, laidLooks := .later }
def RsaVerifiesUptoCardSaid : Prop := Claim7.holds Tryd.pinned (.plain (OpenSpec.upto rsaVerifiesSpec)) rsaVerifiesUptoCard

/-- THE SECOND FORM's CARD OF 'lanyardlaw09.RsaSigns'. -/
def rsaSignsUptoCard : Claim7 := { stood := { row := rsaSignsUptoRow, standIns := [], harness := (true, "4b25aad4359eba280caa92110f05e4f3164a956dcfdba09b7f7654d6eb30321a"), looks := false }, kinds := [], alts := [], laidByText := true, laidKinds := [.data, .data], laidTests := true, laidLooks := .later }
def RsaSignsUptoCardSaid : Prop := Claim7.holds Tryd.pinned (.plain (OpenSpec.upto rsaSignsSpec)) rsaSignsUptoCard

/-- THE SECOND FORM's CARD OF 'lanyardlaw09.RsaSizes'. -/
def rsaSizesUptoCard : Claim7 := { stood := { row := rsaSizesUptoRow, standIns := [], harness := (true, "4b25aad4359eba280caa92110f05e4f3164a956dcfdba09b7f7654d6eb30321a"), looks := false }, kinds := [], alts := [], laidByText := true, laidKinds := [.data, .data], laidTests := true, laidLooks := .later }
def RsaSizesUptoCardSaid : Prop := Claim7.holds Tryd.pinned (.plain (OpenSpec.upto rsaSizesSpec)) rsaSizesUptoCard

/-- THE SECOND FORM's CARD OF 'lanyardlaw09.RsaOnce'. -/
def rsaOnceUptoCard : Claim7 := { stood := { row := rsaOnceUptoRow, standIns := [], harness := (true, "4b25aad4359eba280caa92110f05e4f3164a956dcfdba09b7f7654d6eb30321a"), looks := false }, kinds := [], alts := [], laidByText := true, laidKinds := [.data, .data], laidTests := true, laidLooks := .later }
def RsaOnceUptoCardSaid : Prop := Claim7.holds Tryd.pinned (.plain (OpenSpec.upto rsaOnceSpec)) rsaOnceUptoCard
end Rows
end Go.Proofs.YtdhablbfblkagaaDoor
