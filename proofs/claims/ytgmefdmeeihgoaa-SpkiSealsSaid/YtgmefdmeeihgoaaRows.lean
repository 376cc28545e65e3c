/-
  NARROWER THAN 'FOR EVERY INPUT', by the rows' own cells (each row's printed sentence says how): SpkiSeals: loops.
  DERIVED. THE GIVEN ROWS OF THIS SEAT. 2 by the template 'for every input the law returns true; each argument reads behind the call as it read before'; 0 by the template 'total and deterministic' (their statements: YtgmefdmeeihgoaaTotals.lean).
  GIVEN WITH THE SEED: the statements are not yours to turn. If you find one false, say at which input.
  Laid BY PROGRAM, IN A SANDBOX (cutbox-rows.mjs): the forced cells as the released guide's own fill.sh prints them over the translation d0d2f2537d6286d7… (all of the seat's roots in one cut). By AI agents, Wed Nov 11 2026. No macro, syntax, notation, axiom, sorry.
-/
import Derived.Test.YtgmefdmeeihgoaaChecked
import GoSem.Claim
import GoSem.ClaimJoined
import GoSem.ClaimMapViews
import Derived.JoinedTies
import Derived.KernelRfl
namespace Go.Proofs.Ytgmefdmeeihgoaa
/- THE CELL 'sum', in the pinned program and in every row, IS THE sha256 OF THE DUMP (.gsa) THAT YtgmefdmeeihgoaaProg.lean LOADS. Nothing in Lean hashes anything: it is a label: what it is worth is what the hold of that sum in a sandbox is worth. -/
noncomputable def Try.pinned : Pinned := { name := "ytgmefdmeeihgoaa", sum := "d0d2f2537d6286d77b55e3b7d4c0ec7a2f12e30028afac4d47139392a363baec", checked := Try.checked }
namespace Rows
def none {H : Type} : Left H := { results := [], args := [] }

/-- 'lanyardlaw14.SpkiSeals': WHATEVER THE INPUT: true; the input reads as it did. -/
def spkiSealsSpec : ChangeSpec := { name := "spkiSeals", fn := fun _ => fun
  | [d1, d2, d3] => { results := [.lit (.bool true)], args := [d1, d2, d3] }
  | _ => none }
def spkiSealsRow : OpenClaim := { program := "ytgmefdmeeihgoaa", sum := "d0d2f2537d6286d77b55e3b7d4c0ec7a2f12e30028afac4d47139392a363baec", func := "lanyard/lanyardlaw14.SpkiSeals", spec := "spkiSeals", inPlace := ["slices.overlaps[byte]"], unfollowed := true, recurses := true, loops := true, apart := false }
def SpkiSealsSaid : Prop := spkiSealsRow.holds Try.pinned (OpenSpec.ofChange spkiSealsSpec)

/-- ITS FALSE NEIGHBOUR: 'it returns false'. Refute it at one input. -/
def spkiSealsWrong : ChangeSpec := { name := "spkiSeals", fn := fun _ => fun
  | [d1, d2, d3] => { results := [.lit (.bool false)], args := [d1, d2, d3] }
  | _ => none }
def SpkiSealsWrongFalsely : Prop := spkiSealsRow.holds Try.pinned (OpenSpec.ofChange spkiSealsWrong)

/-- 'lanyardlaw14.SpkiOpens': WHATEVER THE INPUT: true; the input reads as it did. -/
def spkiOpensSpec : ChangeSpec := { name := "spkiOpens", fn := fun _ => fun
  | [d] => { results := [.lit (.bool true)], args := [d] }
  | _ => none }
def spkiOpensRow : OpenClaim := { program := "ytgmefdmeeihgoaa", sum := "d0d2f2537d6286d77b55e3b7d4c0ec7a2f12e30028afac4d47139392a363baec", func := "lanyard/lanyardlaw14.SpkiOpens", spec := "spkiOpens", inPlace := ["slices.overlaps[byte]"], unfollowed := true, recurses := true, apart := false }
def SpkiOpensSaid : Prop := spkiOpensRow.holds Try.pinned (OpenSpec.ofChange spkiOpensSpec)

/-- ITS FALSE NEIGHBOUR: 'it returns false'. Refute it at one input. -/
def spkiOpensWrong : ChangeSpec := { name := "spkiOpens", fn := fun _ => fun
  | [d] => { results := [.lit (.bool false)], args := [d] }
  | _ => none }
def SpkiOpensWrongFalsely : Prop := spkiOpensRow.holds Try.pinned (OpenSpec.ofChange spkiOpensWrong)

/- THE SECOND FORM. 'bulk': how many values and letters a reading holds, each counted each time it is reached (what is shared counts as often as it is met; a slice's spare places count too). A statement '..UptoSaid' is the law's where the arguments, and the package variables that the reading takes, are together of bulk at most 1048576: NARROWER than '..Said'. Prove '..Said' where nothing that the law and all that it calls make is longer than what came in: it says more and counts as full. Else prove '..UptoSaid'. A law counts once. -/
mutual
def uptoBulk {H : Type} : DataW H → Nat
  | .lit (.string bytes) => bytes.length + 1
  | .lit _ => 1
  | .nil => 1
  | .ptr d => uptoBulk d + 1
  | .slice elems spare => uptoBulkAll elems + uptoBulkAll spare + 1
  | .agg parts => uptoBulkAll parts + 1
  | .iface _ d => uptoBulk d + 1
  | .map entries => uptoBulkEntries entries + 1
  | .held _ => 1
def uptoBulkAll {H : Type} : List (DataW H) → Nat
  | [] => 0
  | d :: r => uptoBulk d + uptoBulkAll r
def uptoBulkEntries {H : Type} : List (Lit × DataW H) → Nat
  | [] => 0
  | x :: r => uptoBulkEntry x + uptoBulkEntries r
def uptoBulkEntry {H : Type} : Lit × DataW H → Nat
  | (.string bytes, d) => bytes.length + uptoBulk d + 1
  | (_, d) => uptoBulk d + 1
 end
def uptoSmall : (H : Type) → List (DataW H) → Bool := fun _ ds => decide (uptoBulkAll ds ≤ 1048576)
def OpenSpec.upto (s : _root_.Go.ChangeSpec) : _root_.Go.OpenSpec := { _root_.Go.OpenSpec.ofChange s with cond := some uptoSmall }

/-- 'lanyardlaw14.SpkiSeals', WHERE WHAT IT READS IS OF BULK AT MOST 1048576: true; the input reads as it did. -/
def spkiSealsUptoRow : OpenClaim := { program := "ytgmefdmeeihgoaa", sum := "d0d2f2537d6286d77b55e3b7d4c0ec7a2f12e30028afac4d47139392a363baec", func := "lanyard/lanyardlaw14.SpkiSeals", spec := "spkiSeals", inPlace := ["slices.overlaps[byte]"], unfollowed := true, recurses := true, loops := true, apart := false, narrowed := true }
def SpkiSealsUptoSaid : Prop := spkiSealsUptoRow.holds Try.pinned (OpenSpec.upto spkiSealsSpec)

/-- 'lanyardlaw14.SpkiOpens', WHERE WHAT IT READS IS OF BULK AT MOST 1048576: true; the input reads as it did. -/
def spkiOpensUptoRow : OpenClaim := { program := "ytgmefdmeeihgoaa", sum := "d0d2f2537d6286d77b55e3b7d4c0ec7a2f12e30028afac4d47139392a363baec", func := "lanyard/lanyardlaw14.SpkiOpens", spec := "spkiOpens", inPlace := ["slices.overlaps[byte]"], unfollowed := true, recurses := true, apart := false, narrowed := true }
def SpkiOpensUptoSaid : Prop := spkiOpensUptoRow.holds Try.pinned (OpenSpec.upto spkiOpensSpec)

end Rows
end Go.Proofs.Ytgmefdmeeihgoaa
