/-
  No cell of these rows narrows 'for every input' (looked for: loops, veiled, ifaces, maps, wideKeys, modest, calm, conditions, laid).
  DERIVED. THE GIVEN ROWS OF THIS SEAT. 3 by the template 'for every input the law returns true; each argument reads behind the call as it read before'; 0 by the template 'total and deterministic' (their statements: YtmmcmiljnmbfcaaTotals.lean).
  GIVEN WITH THE SEED: the statements are not yours to turn. If you find one false, say at which input.
  Laid BY PROGRAM, IN A SANDBOX (cutbox-rows.mjs): the forced cells as the released guide's own fill.sh prints them over the translation 064c876280a19dba… (all of the seat's roots in one cut). By AI agents, Wed Nov 11 2026. No macro, syntax, notation, axiom, sorry.
-/
import Derived.Test.YtmmcmiljnmbfcaaChecked
import GoSem.Claim
import GoSem.ClaimJoined
import GoSem.ClaimMapViews
import Derived.JoinedTies
import Derived.KernelRfl
namespace Go.Proofs.Ytmmcmiljnmbfcaa
/- THE CELL 'sum', in the pinned program and in every row, IS THE sha256 OF THE DUMP (.gsa) THAT YtmmcmiljnmbfcaaProg.lean LOADS. Nothing in Lean hashes anything: it is a label: what it is worth is what the hold of that sum in a sandbox is worth. -/
noncomputable def Try.pinned : Pinned := { name := "ytmmcmiljnmbfcaa", sum := "064c876280a19dbaccfa0aa1d9cd6c894f190da6e66872fcca872410d2abd7e8", checked := Try.checked }
namespace Rows
def none {H : Type} : Left H := { results := [], args := [] }

/-- 'lanyardlaw02.RadixTexts': WHATEVER THE INPUT: true; the input reads as it did. -/
def radixTextsSpec : ChangeSpec := { name := "radixTexts", fn := fun _ => fun
  | [d1, d2] => { results := [.lit (.bool true)], args := [d1, d2] }
  | _ => none }
def radixTextsRow : OpenClaim := { program := "ytmmcmiljnmbfcaa", sum := "064c876280a19dbaccfa0aa1d9cd6c894f190da6e66872fcca872410d2abd7e8", func := "lanyard/lanyardlaw02.RadixTexts", spec := "radixTexts", apart := false }
def RadixTextsSaid : Prop := radixTextsRow.holds Try.pinned (OpenSpec.ofChange radixTextsSpec)

/-- ITS FALSE NEIGHBOUR: 'it returns false'. Refute it at one input. -/
def radixTextsWrong : ChangeSpec := { name := "radixTexts", fn := fun _ => fun
  | [d1, d2] => { results := [.lit (.bool false)], args := [d1, d2] }
  | _ => none }
def RadixTextsWrongFalsely : Prop := radixTextsRow.holds Try.pinned (OpenSpec.ofChange radixTextsWrong)

/-- 'lanyardlaw02.RadixBack': WHATEVER THE INPUT: true; the input reads as it did. -/
def radixBackSpec : ChangeSpec := { name := "radixBack", fn := fun _ => fun
  | [d1, d2] => { results := [.lit (.bool true)], args := [d1, d2] }
  | _ => none }
def radixBackRow : OpenClaim := { program := "ytmmcmiljnmbfcaa", sum := "064c876280a19dbaccfa0aa1d9cd6c894f190da6e66872fcca872410d2abd7e8", func := "lanyard/lanyardlaw02.RadixBack", spec := "radixBack", apart := false }
def RadixBackSaid : Prop := radixBackRow.holds Try.pinned (OpenSpec.ofChange radixBackSpec)

/-- ITS FALSE NEIGHBOUR: 'it returns false'. Refute it at one input. -/
def radixBackWrong : ChangeSpec := { name := "radixBack", fn := fun _ => fun
  | [d1, d2] => { results := [.lit (.bool false)], args := [d1, d2] }
  | _ => none }
def RadixBackWrongFalsely : Prop := radixBackRow.holds Try.pinned (OpenSpec.ofChange radixBackWrong)

/-- 'lanyardlaw02.RadixParts': WHATEVER THE INPUT: true; the input reads as it did. -/
def radixPartsSpec : ChangeSpec := { name := "radixParts", fn := fun _ => fun
  | [d1, d2] => { results := [.lit (.bool true)], args := [d1, d2] }
  | _ => none }
def radixPartsRow : OpenClaim := { program := "ytmmcmiljnmbfcaa", sum := "064c876280a19dbaccfa0aa1d9cd6c894f190da6e66872fcca872410d2abd7e8", func := "lanyard/lanyardlaw02.RadixParts", spec := "radixParts", apart := false }
def RadixPartsSaid : Prop := radixPartsRow.holds Try.pinned (OpenSpec.ofChange radixPartsSpec)

/-- ITS FALSE NEIGHBOUR: 'it returns false'. Refute it at one input. -/
def radixPartsWrong : ChangeSpec := { name := "radixParts", fn := fun _ => fun
  | [d1, d2] => { results := [.lit (.bool false)], args := [d1, d2] }
  | _ => none }
def RadixPartsWrongFalsely : Prop := radixPartsRow.holds Try.pinned (OpenSpec.ofChange radixPartsWrong)

/- THE SECOND FORM. 'bulk': how many values and letters a reading holds, each counted each time it is reached (what is shared counts as often as it is met; a slice's spare places count too). A statement '..UptoSaid' is the law's where the arguments, and the package variables that the reading takes, are together of bulk at most 1048576: NARROWER than '..Said'. Prove '..Said' where nothing that the law and all that it calls make is longer than what came in: it says more and counts as full. Else prove '..UptoSaid'. A law counts once. -/
mutual
def uptoBulk {H : Type} : DataW H → Nat
  | .lit (.string bytes) => bytes.length + 1
  | .lit _ => 1
  | .nil => 1
  | .ptr d => uptoBulk d + 1
  | .slice elems spare => uptoBulkAll elems + uptoBulkAll spare + 1
  | .agg parts => uptoBulkAll parts + 1
  | .iface _ d => uptoBulk d + 1
  | .map entries => uptoBulkEntries entries + 1
  | .held _ => 1
def uptoBulkAll {H : Type} : List (DataW H) → Nat
  | [] => 0
  | d :: r => uptoBulk d + uptoBulkAll r
def uptoBulkEntries {H : Type} : List (Lit × DataW H) → Nat
  | [] => 0
  | x :: r => uptoBulkEntry x + uptoBulkEntries r
def uptoBulkEntry {H : Type} : Lit × DataW H → Nat
  | (.string bytes, d) => bytes.length + uptoBulk d + 1
  | (_, d) => uptoBulk d + 1
 end
def uptoSmall : (H : Type) → List (DataW H) → Bool := fun _ ds => decide (uptoBulkAll ds ≤ 1048576)
def OpenSpec.upto (s : _root_.Go.ChangeSpec) : _root_.Go.OpenSpec := { _root_.Go.OpenSpec.ofChange s with cond := some uptoSmall }

/-- 'lanyardlaw02.RadixTexts', WHERE WHAT IT READS IS OF BULK AT MOST 1048576: true; the input reads as it did. -/
def radixTextsUptoRow : OpenClaim := { program := "ytmmcmiljnmbfcaa", sum := "064c876280a19dbaccfa0aa1d9cd6c894f190da6e66872fcca872410d2abd7e8", func := "lanyard/lanyardlaw02.RadixTexts", spec := "radixTexts", apart := false, narrowed := true }
def RadixTextsUptoSaid : Prop := radixTextsUptoRow.holds Try.pinned (OpenSpec.upto radixTextsSpec)

/-- 'lanyardlaw02.RadixBack', WHERE WHAT IT READS IS OF BULK AT MOST 1048576: true; the input reads as it did. -/
def radixBackUptoRow : OpenClaim := { program := "ytmmcmiljnmbfcaa", sum := "064c876280a19dbaccfa0aa1d9cd6c894f190da6e66872fcca872410d2abd7e8", func := "lanyard/lanyardlaw02.RadixBack", spec := "radixBack", apart := false, narrowed := true }
def RadixBackUptoSaid : Prop := radixBackUptoRow.holds Try.pinned (OpenSpec.upto radixBackSpec)

/-- 'lanyardlaw02.RadixParts', WHERE WHAT IT READS IS OF BULK AT MOST 1048576: true; the input reads as it did. -/
def radixPartsUptoRow : OpenClaim := { program := "ytmmcmiljnmbfcaa", sum := "064c876280a19dbaccfa0aa1d9cd6c894f190da6e66872fcca872410d2abd7e8", func := "lanyard/lanyardlaw02.RadixParts", spec := "radixParts", apart := false, narrowed := true }
def RadixPartsUptoSaid : Prop := radixPartsUptoRow.holds Try.pinned (OpenSpec.upto radixPartsSpec)

end Rows
end Go.Proofs.Ytmmcmiljnmbfcaa
