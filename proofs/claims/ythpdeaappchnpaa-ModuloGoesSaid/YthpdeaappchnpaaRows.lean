/-
  No cell of these rows narrows 'for every input' (looked for: loops, veiled, ifaces, maps, wideKeys, modest, calm, conditions, laid).
  DERIVED. THE GIVEN ROWS OF THIS SEAT. 5 by the template 'for every input the law returns true; each argument reads behind the call as it read before'; 0 by the template 'total and deterministic' (their statements: YthpdeaappchnpaaTotals.lean).
  GIVEN WITH THE SEED: the statements are not yours to turn. If you find one false, say at which input.
  Laid BY PROGRAM, IN A SANDBOX (cutbox-rows.mjs): the forced cells as the released guide's own fill.sh prints them over the translation 1cfe8142e019125d… (all of the seat's roots in one cut). By AI agents, Wed Nov 11 2026. No macro, syntax, notation, axiom, sorry.
-/
import Derived.Test.YthpdeaappchnpaaChecked
import GoSem.Claim
import GoSem.ClaimJoined
import GoSem.ClaimMapViews
import Derived.JoinedTies
import Derived.KernelRfl
namespace Go.Proofs.Ythpdeaappchnpaa
/- THE CELL 'sum', in the pinned program and in every row, IS THE sha256 OF THE DUMP (.gsa) THAT YthpdeaappchnpaaProg.lean LOADS. Nothing in Lean hashes anything: it is a label: what it is worth is what the hold of that sum in a sandbox is worth. -/
noncomputable def Try.pinned : Pinned := { name := "ythpdeaappchnpaa", sum := "1cfe8142e019125d2d9ac5b208d869d01010518c05884926092c27fd8747bfec", checked := Try.checked }
namespace Rows
def none {H : Type} : Left H := { results := [], args := [] }

/-- 'lanyardlaw08.ModuloParts': WHATEVER THE INPUT: true; the input reads as it did. -/
def moduloPartsSpec : ChangeSpec := { name := "moduloParts", fn := fun _ => fun
  | [d1, d2] => { results := [.lit (.bool true)], args := [d1, d2] }
  | _ => none }
def moduloPartsRow : OpenClaim := { program := "ythpdeaappchnpaa", sum := "1cfe8142e019125d2d9ac5b208d869d01010518c05884926092c27fd8747bfec", func := "lanyard/lanyardlaw08.ModuloParts", spec := "moduloParts", named := ["math/bits.overflowError", "math/bits.divideError"], apart := false }
def ModuloPartsSaid : Prop := moduloPartsRow.holds Try.pinned (OpenSpec.ofChange moduloPartsSpec)

/-- ITS FALSE NEIGHBOUR: 'it returns false'. Refute it at one input. -/
def moduloPartsWrong : ChangeSpec := { name := "moduloParts", fn := fun _ => fun
  | [d1, d2] => { results := [.lit (.bool false)], args := [d1, d2] }
  | _ => none }
def ModuloPartsWrongFalsely : Prop := moduloPartsRow.holds Try.pinned (OpenSpec.ofChange moduloPartsWrong)

/-- 'lanyardlaw08.ModuloPowers': WHATEVER THE INPUT: true; the input reads as it did. -/
def moduloPowersSpec : ChangeSpec := { name := "moduloPowers", fn := fun _ => fun
  | [d1, d2, d3] => { results := [.lit (.bool true)], args := [d1, d2, d3] }
  | _ => none }
def moduloPowersRow : OpenClaim := { program := "ythpdeaappchnpaa", sum := "1cfe8142e019125d2d9ac5b208d869d01010518c05884926092c27fd8747bfec", func := "lanyard/lanyardlaw08.ModuloPowers", spec := "moduloPowers", named := ["math/bits.overflowError", "math/bits.divideError"], apart := false }
def ModuloPowersSaid : Prop := moduloPowersRow.holds Try.pinned (OpenSpec.ofChange moduloPowersSpec)

/-- ITS FALSE NEIGHBOUR: 'it returns false'. Refute it at one input. -/
def moduloPowersWrong : ChangeSpec := { name := "moduloPowers", fn := fun _ => fun
  | [d1, d2, d3] => { results := [.lit (.bool false)], args := [d1, d2, d3] }
  | _ => none }
def ModuloPowersWrongFalsely : Prop := moduloPowersRow.holds Try.pinned (OpenSpec.ofChange moduloPowersWrong)

/-- 'lanyardlaw08.ModuloBack': WHATEVER THE INPUT: true; the input reads as it did. -/
def moduloBackSpec : ChangeSpec := { name := "moduloBack", fn := fun _ => fun
  | [d1, d2] => { results := [.lit (.bool true)], args := [d1, d2] }
  | _ => none }
def moduloBackRow : OpenClaim := { program := "ythpdeaappchnpaa", sum := "1cfe8142e019125d2d9ac5b208d869d01010518c05884926092c27fd8747bfec", func := "lanyard/lanyardlaw08.ModuloBack", spec := "moduloBack", unfollowed := true, recurses := true, named := ["math/bits.overflowError", "math/bits.divideError"], apart := false }
def ModuloBackSaid : Prop := moduloBackRow.holds Try.pinned (OpenSpec.ofChange moduloBackSpec)

/-- ITS FALSE NEIGHBOUR: 'it returns false'. Refute it at one input. -/
def moduloBackWrong : ChangeSpec := { name := "moduloBack", fn := fun _ => fun
  | [d1, d2] => { results := [.lit (.bool false)], args := [d1, d2] }
  | _ => none }
def ModuloBackWrongFalsely : Prop := moduloBackRow.holds Try.pinned (OpenSpec.ofChange moduloBackWrong)

/-- 'lanyardlaw08.ModuloMade': WHATEVER THE INPUT: true; the input reads as it did. -/
def moduloMadeSpec : ChangeSpec := { name := "moduloMade", fn := fun _ => fun
  | [d1, d2, d3] => { results := [.lit (.bool true)], args := [d1, d2, d3] }
  | _ => none }
def moduloMadeRow : OpenClaim := { program := "ythpdeaappchnpaa", sum := "1cfe8142e019125d2d9ac5b208d869d01010518c05884926092c27fd8747bfec", func := "lanyard/lanyardlaw08.ModuloMade", spec := "moduloMade", unfollowed := true, recurses := true, named := ["math/bits.overflowError", "math/bits.divideError"], apart := false }
def ModuloMadeSaid : Prop := moduloMadeRow.holds Try.pinned (OpenSpec.ofChange moduloMadeSpec)

/-- ITS FALSE NEIGHBOUR: 'it returns false'. Refute it at one input. -/
def moduloMadeWrong : ChangeSpec := { name := "moduloMade", fn := fun _ => fun
  | [d1, d2, d3] => { results := [.lit (.bool false)], args := [d1, d2, d3] }
  | _ => none }
def ModuloMadeWrongFalsely : Prop := moduloMadeRow.holds Try.pinned (OpenSpec.ofChange moduloMadeWrong)

/-- 'lanyardlaw08.ModuloGoes': WHATEVER THE INPUT: true; the input reads as it did. -/
def moduloGoesSpec : ChangeSpec := { name := "moduloGoes", fn := fun _ => fun
  | [d1, d2, d3] => { results := [.lit (.bool true)], args := [d1, d2, d3] }
  | _ => none }
def moduloGoesRow : OpenClaim := { program := "ythpdeaappchnpaa", sum := "1cfe8142e019125d2d9ac5b208d869d01010518c05884926092c27fd8747bfec", func := "lanyard/lanyardlaw08.ModuloGoes", spec := "moduloGoes", unfollowed := true, recurses := true, named := ["math/bits.overflowError", "math/bits.divideError"], apart := false }
def ModuloGoesSaid : Prop := moduloGoesRow.holds Try.pinned (OpenSpec.ofChange moduloGoesSpec)

/-- ITS FALSE NEIGHBOUR: 'it returns false'. Refute it at one input. -/
def moduloGoesWrong : ChangeSpec := { name := "moduloGoes", fn := fun _ => fun
  | [d1, d2, d3] => { results := [.lit (.bool false)], args := [d1, d2, d3] }
  | _ => none }
def ModuloGoesWrongFalsely : Prop := moduloGoesRow.holds Try.pinned (OpenSpec.ofChange moduloGoesWrong)

/- THE SECOND FORM. 'bulk': how many values and letters a reading holds, each counted each time it is reached (what is shared counts as often as it is met; a slice's spare places count too). A statement '..UptoSaid' is the law's where the arguments, and the package variables that the reading takes, are together of bulk at most 1048576: NARROWER than '..Said'. Prove '..Said' where nothing that the law and all that it calls make is longer than what came in: it says more and counts as full. Else prove '..UptoSaid'. A law counts once. -/
mutual
def uptoBulk {H : Type} : DataW H → Nat
  | .lit (.string bytes) => bytes.length + 1
  | .lit _ => 1
  | .nil => 1
  | .ptr d => uptoBulk d + 1
  | .slice elems spare => uptoBulkAll elems + uptoBulkAll spare + 1
  | .agg parts => uptoBulkAll parts + 1
  | .iface _ d => uptoBulk d + 1
  | .map entries => uptoBulkEntries entries + 1
  | .held _ => 1
def uptoBulkAll {H : Type} : List (DataW H) → Nat
  | [] => 0
  | d :: r => uptoBulk d + uptoBulkAll r
def uptoBulkEntries {H : Type} : List (Lit × DataW H) → Nat
  | [] => 0
  | x :: r => uptoBulkEntry x + uptoBulkEntries r
def uptoBulkEntry {H : Type} : Lit × DataW H → Nat
  | (.string bytes, d) => bytes.length + uptoBulk d + 1
  | (_, d) => uptoBulk d + 1
 end
def uptoSmall : (H : Type) → List (DataW H) → Bool := fun _ ds => decide (uptoBulkAll ds ≤ 1048576)
def OpenSpec.upto (s : _root_.Go.ChangeSpec) : _root_.Go.OpenSpec := { _root_.Go.OpenSpec.ofChange s with cond := some uptoSmall }

/-- 'lanyardlaw08.ModuloParts', WHERE WHAT IT READS IS OF BULK AT MOST 1048576: true; the input reads as it did. -/
def moduloPartsUptoRow : OpenClaim := { program := "ythpdeaappchnpaa", sum := "1cfe8142e019125d2d9ac5b208d869d01010518c05884926092c27fd8747bfec", func := "lanyard/lanyardlaw08.ModuloParts", spec := "moduloParts", named := ["math/bits.overflowError", "math/bits.divideError"], apart := false, narrowed := true }
def ModuloPartsUptoSaid : Prop := moduloPartsUptoRow.holds Try.pinned (OpenSpec.upto moduloPartsSpec)

/-- 'lanyardlaw08.ModuloPowers', WHERE WHAT IT READS IS OF BULK AT MOST 1048576: true; the input reads as it did. -/
def moduloPowersUptoRow : OpenClaim := { program := "ythpdeaappchnpaa", sum := "1cfe8142e019125d2d9ac5b208d869d01010518c05884926092c27fd8747bfec", func := "lanyard/lanyardlaw08.ModuloPowers", spec := "moduloPowers", named := ["math/bits.overflowError", "math/bits.divideError"], apart := false, narrowed := true }
def ModuloPowersUptoSaid : Prop := moduloPowersUptoRow.holds Try.pinned (OpenSpec.upto moduloPowersSpec)

/-- 'lanyardlaw08.ModuloBack', WHERE WHAT IT READS IS OF BULK AT MOST 1048576: true; the input reads as it did. -/
def moduloBackUptoRow : OpenClaim := { program := "ythpdeaappchnpaa", sum := "1cfe8142e019125d2d9ac5b208d869d01010518c05884926092c27fd8747bfec", func := "lanyard/lanyardlaw08.ModuloBack", spec := "moduloBack", unfollowed := true, recurses := true, named := ["math/bits.overflowError", "math/bits.divideError"], apart := false, narrowed := true }
def ModuloBackUptoSaid : Prop := moduloBackUptoRow.holds Try.pinned (OpenSpec.upto moduloBackSpec)

/-- 'lanyardlaw08.ModuloMade', WHERE WHAT IT READS IS OF BULK AT MOST 1048576: true; the input reads as it did. -/
def moduloMadeUptoRow : OpenClaim := { program := "ythpdeaappchnpaa", sum := "1cfe8142e019125d2d9ac5b208d869d01010518c05884926092c27fd8747bfec", func := "lanyard/lanyardlaw08.ModuloMade", spec := "moduloMade", unfollowed := true, recurses := true, named := ["math/bits.overflowError", "math/bits.divideError"], apart := false, narrowed := true }
def ModuloMadeUptoSaid : Prop := moduloMadeUptoRow.holds Try.pinned (OpenSpec.upto moduloMadeSpec)

/-- 'lanyardlaw08.ModuloGoes', WHERE WHAT IT READS IS OF BULK AT MOST 1048576: true; the input reads as it did. -/
def moduloGoesUptoRow : OpenClaim := { program := "ythpdeaappchnpaa", sum := "1cfe8142e019125d2d9ac5b208d869d01010518c05884926092c27fd8747bfec", func := "lanyard/lanyardlaw08.ModuloGoes", spec := "moduloGoes", unfollowed := true, recurses := true, named := ["math/bits.overflowError", "math/bits.divideError"], apart := false, narrowed := true }
def ModuloGoesUptoSaid : Prop := moduloGoesUptoRow.holds Try.pinned (OpenSpec.upto moduloGoesSpec)

end Rows
end Go.Proofs.Ythpdeaappchnpaa
