/-
  No cell of these rows narrows 'for every input' (looked for: loops, veiled, ifaces, maps, wideKeys, modest, calm, conditions, laid).
  DERIVED. THE GIVEN ROWS OF THIS SEAT. 5 by the template 'for every input the law returns true; each argument reads behind the call as it read before'; 0 by the template 'total and deterministic' (their statements: YtngoahbngckcfaaTotals.lean).
  GIVEN WITH THE SEED: the statements are not yours to turn. If you find one false, say at which input.
  Laid BY PROGRAM, IN A SANDBOX (cutbox-rows.mjs): the forced cells as the released guide's own fill.sh prints them over the translation a74fd98bcf271614… (all of the seat's roots in one cut). By AI agents, Wed Nov 11 2026. No macro, syntax, notation, axiom, sorry.
-/
import Derived.Test.YtngoahbngckcfaaChecked
import GoSem.Claim
import GoSem.ClaimJoined
import GoSem.ClaimMapViews
import Derived.JoinedTies
import Derived.KernelRfl
namespace Go.Proofs.Ytngoahbngckcfaa
/- THE CELL 'sum', in the pinned program and in every row, IS THE sha256 OF THE DUMP (.gsa) THAT YtngoahbngckcfaaProg.lean LOADS. Nothing in Lean hashes anything: it is a label: what it is worth is what the hold of that sum in a sandbox is worth. -/
noncomputable def Try.pinned : Pinned := { name := "ytngoahbngckcfaa", sum := "a74fd98bcf271614bbc77a32ff88a0896b33e6e48053b81c4c29be5a018455fd", checked := Try.checked }
namespace Rows
def none {H : Type} : Left H := { results := [], args := [] }

/-- 'lanyardlaw07.LimbReckons': WHATEVER THE INPUT: true; the input reads as it did. -/
def limbReckonsSpec : ChangeSpec := { name := "limbReckons", fn := fun _ => fun
  | [d1, d2] => { results := [.lit (.bool true)], args := [d1, d2] }
  | _ => none }
def limbReckonsRow : OpenClaim := { program := "ytngoahbngckcfaa", sum := "a74fd98bcf271614bbc77a32ff88a0896b33e6e48053b81c4c29be5a018455fd", func := "lanyard/lanyardlaw07.LimbReckons", spec := "limbReckons", unfollowed := true, recurses := true, apart := false }
def LimbReckonsSaid : Prop := limbReckonsRow.holds Try.pinned (OpenSpec.ofChange limbReckonsSpec)

/-- ITS FALSE NEIGHBOUR: 'it returns false'. Refute it at one input. -/
def limbReckonsWrong : ChangeSpec := { name := "limbReckons", fn := fun _ => fun
  | [d1, d2] => { results := [.lit (.bool false)], args := [d1, d2] }
  | _ => none }
def LimbReckonsWrongFalsely : Prop := limbReckonsRow.holds Try.pinned (OpenSpec.ofChange limbReckonsWrong)

/-- 'lanyardlaw07.LimbTells': WHATEVER THE INPUT: true; the input reads as it did. -/
def limbTellsSpec : ChangeSpec := { name := "limbTells", fn := fun _ => fun
  | [d1, d2, d3] => { results := [.lit (.bool true)], args := [d1, d2, d3] }
  | _ => none }
def limbTellsRow : OpenClaim := { program := "ytngoahbngckcfaa", sum := "a74fd98bcf271614bbc77a32ff88a0896b33e6e48053b81c4c29be5a018455fd", func := "lanyard/lanyardlaw07.LimbTells", spec := "limbTells", apart := false }
def LimbTellsSaid : Prop := limbTellsRow.holds Try.pinned (OpenSpec.ofChange limbTellsSpec)

/-- ITS FALSE NEIGHBOUR: 'it returns false'. Refute it at one input. -/
def limbTellsWrong : ChangeSpec := { name := "limbTells", fn := fun _ => fun
  | [d1, d2, d3] => { results := [.lit (.bool false)], args := [d1, d2, d3] }
  | _ => none }
def LimbTellsWrongFalsely : Prop := limbTellsRow.holds Try.pinned (OpenSpec.ofChange limbTellsWrong)

/-- 'lanyardlaw07.LimbBack': WHATEVER THE INPUT: true; the input reads as it did. -/
def limbBackSpec : ChangeSpec := { name := "limbBack", fn := fun _ => fun
  | [d1, d2, d3] => { results := [.lit (.bool true)], args := [d1, d2, d3] }
  | _ => none }
def limbBackRow : OpenClaim := { program := "ytngoahbngckcfaa", sum := "a74fd98bcf271614bbc77a32ff88a0896b33e6e48053b81c4c29be5a018455fd", func := "lanyard/lanyardlaw07.LimbBack", spec := "limbBack", unfollowed := true, recurses := true, apart := false }
def LimbBackSaid : Prop := limbBackRow.holds Try.pinned (OpenSpec.ofChange limbBackSpec)

/-- ITS FALSE NEIGHBOUR: 'it returns false'. Refute it at one input. -/
def limbBackWrong : ChangeSpec := { name := "limbBack", fn := fun _ => fun
  | [d1, d2, d3] => { results := [.lit (.bool false)], args := [d1, d2, d3] }
  | _ => none }
def LimbBackWrongFalsely : Prop := limbBackRow.holds Try.pinned (OpenSpec.ofChange limbBackWrong)

/-- 'lanyardlaw07.LimbTurns': WHATEVER THE INPUT: true; the input reads as it did. -/
def limbTurnsSpec : ChangeSpec := { name := "limbTurns", fn := fun _ => fun
  | [d1, d2, d3] => { results := [.lit (.bool true)], args := [d1, d2, d3] }
  | _ => none }
def limbTurnsRow : OpenClaim := { program := "ytngoahbngckcfaa", sum := "a74fd98bcf271614bbc77a32ff88a0896b33e6e48053b81c4c29be5a018455fd", func := "lanyard/lanyardlaw07.LimbTurns", spec := "limbTurns", unfollowed := true, recurses := true, apart := false }
def LimbTurnsSaid : Prop := limbTurnsRow.holds Try.pinned (OpenSpec.ofChange limbTurnsSpec)

/-- ITS FALSE NEIGHBOUR: 'it returns false'. Refute it at one input. -/
def limbTurnsWrong : ChangeSpec := { name := "limbTurns", fn := fun _ => fun
  | [d1, d2, d3] => { results := [.lit (.bool false)], args := [d1, d2, d3] }
  | _ => none }
def LimbTurnsWrongFalsely : Prop := limbTurnsRow.holds Try.pinned (OpenSpec.ofChange limbTurnsWrong)

/-- 'lanyardlaw07.LimbSizes': WHATEVER THE INPUT: true; the input reads as it did. -/
def limbSizesSpec : ChangeSpec := { name := "limbSizes", fn := fun _ => fun
  | [d1, d2] => { results := [.lit (.bool true)], args := [d1, d2] }
  | _ => none }
def limbSizesRow : OpenClaim := { program := "ytngoahbngckcfaa", sum := "a74fd98bcf271614bbc77a32ff88a0896b33e6e48053b81c4c29be5a018455fd", func := "lanyard/lanyardlaw07.LimbSizes", spec := "limbSizes", unfollowed := true, recurses := true, apart := false }
def LimbSizesSaid : Prop := limbSizesRow.holds Try.pinned (OpenSpec.ofChange limbSizesSpec)

/-- ITS FALSE NEIGHBOUR: 'it returns false'. Refute it at one input. -/
def limbSizesWrong : ChangeSpec := { name := "limbSizes", fn := fun _ => fun
  | [d1, d2] => { results := [.lit (.bool false)], args := [d1, d2] }
  | _ => none }
def LimbSizesWrongFalsely : Prop := limbSizesRow.holds Try.pinned (OpenSpec.ofChange limbSizesWrong)

/- THE SECOND FORM. 'bulk': how many values and letters a reading holds, each counted each time it is reached (what is shared counts as often as it is met; a slice's spare places count too). A statement '..UptoSaid' is the law's where the arguments, and the package variables that the reading takes, are together of bulk at most 1048576: NARROWER than '..Said'. Prove '..Said' where nothing that the law and all that it calls make is longer than what came in: it says more and counts as full. Else prove '..UptoSaid'. A law counts once. -/
mutual
def uptoBulk {H : Type} : DataW H → Nat
  | .lit (.string bytes) => bytes.length + 1
  | .lit _ => 1
  | .nil => 1
  | .ptr d => uptoBulk d + 1
  | .slice elems spare => uptoBulkAll elems + uptoBulkAll spare + 1
  | .agg parts => uptoBulkAll parts + 1
  | .iface _ d => uptoBulk d + 1
  | .map entries => uptoBulkEntries entries + 1
  | .held _ => 1
def uptoBulkAll {H : Type} : List (DataW H) → Nat
  | [] => 0
  | d :: r => uptoBulk d + uptoBulkAll r
def uptoBulkEntries {H : Type} : List (Lit × DataW H) → Nat
  | [] => 0
  | x :: r => uptoBulkEntry x + uptoBulkEntries r
def uptoBulkEntry {H : Type} : Lit × DataW H → Nat
  | (.string bytes, d) => bytes.length + uptoBulk d + 1
  | (_, d) => uptoBulk d + 1
 end
def uptoSmall : (H : Type) → List (DataW H) → Bool := fun _ ds => decide (uptoBulkAll ds ≤ 1048576)
def OpenSpec.upto (s : _root_.Go.ChangeSpec) : _root_.Go.OpenSpec := { _root_.Go.OpenSpec.ofChange s with cond := some uptoSmall }

/-- 'lanyardlaw07.LimbReckons', WHERE WHAT IT READS IS OF BULK AT MOST 1048576: true; the input reads as it did. -/
def limbReckonsUptoRow : OpenClaim := { program := "ytngoahbngckcfaa", sum := "a74fd98bcf271614bbc77a32ff88a0896b33e6e48053b81c4c29be5a018455fd", func := "lanyard/lanyardlaw07.LimbReckons", spec := "limbReckons", unfollowed := true, recurses := true, apart := false, narrowed := true }
def LimbReckonsUptoSaid : Prop := limbReckonsUptoRow.holds Try.pinned (OpenSpec.upto limbReckonsSpec)

/-- 'lanyardlaw07.LimbTells', WHERE WHAT IT READS IS OF BULK AT MOST 1048576: true; the input reads as it did. -/
def limbTellsUptoRow : OpenClaim := { program := "ytngoahbngckcfaa", sum := "a74fd98bcf271614bbc77a32ff88a0896b33e6e48053b81c4c29be5a018455fd", func := "lanyard/lanyardlaw07.LimbTells", spec := "limbTells", apart := false, narrowed := true }
def LimbTellsUptoSaid : Prop := limbTellsUptoRow.holds Try.pinned (OpenSpec.upto limbTellsSpec)

/-- 'lanyardlaw07.LimbBack', WHERE WHAT IT READS IS OF BULK AT MOST 1048576: true; the input reads as it did. -/
def limbBackUptoRow : OpenClaim := { program := "ytngoahbngckcfaa", sum := "a74fd98bcf271614bbc77a32ff88a0896b33e6e48053b81c4c29be5a018455fd", func := "lanyard/lanyardlaw07.LimbBack", spec := "limbBack", unfollowed := true, recurses := true, apart := false, narrowed := true }
def LimbBackUptoSaid : Prop := limbBackUptoRow.holds Try.pinned (OpenSpec.upto limbBackSpec)

/-- 'lanyardlaw07.LimbTurns', WHERE WHAT IT READS IS OF BULK AT MOST 1048576: true; the input reads as it did. -/
def limbTurnsUptoRow : OpenClaim := { program := "ytngoahbngckcfaa", sum := "a74fd98bcf271614bbc77a32ff88a0896b33e6e48053b81c4c29be5a018455fd", func := "lanyard/lanyardlaw07.LimbTurns", spec := "limbTurns", unfollowed := true, recurses := true, apart := false, narrowed := true }
def LimbTurnsUptoSaid : Prop := limbTurnsUptoRow.holds Try.pinned (OpenSpec.upto limbTurnsSpec)

/-- 'lanyardlaw07.LimbSizes', WHERE WHAT IT READS IS OF BULK AT MOST 1048576: true; the input reads as it did. -/
def limbSizesUptoRow : OpenClaim := { program := "ytngoahbngckcfaa", sum := "a74fd98bcf271614bbc77a32ff88a0896b33e6e48053b81c4c29be5a018455fd", func := "lanyard/lanyardlaw07.LimbSizes", spec := "limbSizes", unfollowed := true, recurses := true, apart := false, narrowed := true }
def LimbSizesUptoSaid : Prop := limbSizesUptoRow.holds Try.pinned (OpenSpec.upto limbSizesSpec)

end Rows
end Go.Proofs.Ytngoahbngckcfaa
