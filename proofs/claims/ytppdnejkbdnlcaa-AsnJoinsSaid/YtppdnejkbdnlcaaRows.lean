/-
  No cell of these rows narrows 'for every input' (looked for: loops, veiled, ifaces, maps, wideKeys, modest, calm, conditions, laid).
  DERIVED. THE GIVEN ROWS OF THIS SEAT. 4 by the template 'for every input the law returns true; each argument reads behind the call as it read before'; 0 by the template 'total and deterministic' (their statements: YtppdnejkbdnlcaaTotals.lean).
  GIVEN WITH THE SEED: the statements are not yours to turn. If you find one false, say at which input.
  Laid BY PROGRAM, IN A SANDBOX (cutbox-rows.mjs): the forced cells as the released guide's own fill.sh prints them over the translation ed59e5212ca9dd07… (all of the seat's roots in one cut). By AI agents, Wed Nov 11 2026. No macro, syntax, notation, axiom, sorry.
-/
import Derived.Test.YtppdnejkbdnlcaaChecked
import GoSem.Claim
import GoSem.ClaimJoined
import GoSem.ClaimMapViews
import Derived.JoinedTies
import Derived.KernelRfl
namespace Go.Proofs.Ytppdnejkbdnlcaa
/- THE CELL 'sum', in the pinned program and in every row, IS THE sha256 OF THE DUMP (.gsa) THAT YtppdnejkbdnlcaaProg.lean LOADS. Nothing in Lean hashes anything: it is a label: what it is worth is what the hold of that sum in a sandbox is worth. -/
noncomputable def Try.pinned : Pinned := { name := "ytppdnejkbdnlcaa", sum := "ed59e5212ca9dd07994cef966d011db35c05a58452cc589ef6d2a9e8b5448451", checked := Try.checked }
namespace Rows
def none {H : Type} : Left H := { results := [], args := [] }

/-- 'lanyardlaw12.AsnJoins': WHATEVER THE INPUT: true; the input reads as it did. -/
def asnJoinsSpec : ChangeSpec := { name := "asnJoins", fn := fun _ => fun
  | [d1, d2, d3] => { results := [.lit (.bool true)], args := [d1, d2, d3] }
  | _ => none }
def asnJoinsRow : OpenClaim := { program := "ytppdnejkbdnlcaa", sum := "ed59e5212ca9dd07994cef966d011db35c05a58452cc589ef6d2a9e8b5448451", func := "lanyard/lanyardlaw12.AsnJoins", spec := "asnJoins", unfollowed := true, recurses := true, apart := false }
def AsnJoinsSaid : Prop := asnJoinsRow.holds Try.pinned (OpenSpec.ofChange asnJoinsSpec)

/-- ITS FALSE NEIGHBOUR: 'it returns false'. Refute it at one input. -/
def asnJoinsWrong : ChangeSpec := { name := "asnJoins", fn := fun _ => fun
  | [d1, d2, d3] => { results := [.lit (.bool false)], args := [d1, d2, d3] }
  | _ => none }
def AsnJoinsWrongFalsely : Prop := asnJoinsRow.holds Try.pinned (OpenSpec.ofChange asnJoinsWrong)

/-- 'lanyardlaw12.AsnRises': WHATEVER THE INPUT: true; the input reads as it did. -/
def asnRisesSpec : ChangeSpec := { name := "asnRises", fn := fun _ => fun
  | [d1, d2] => { results := [.lit (.bool true)], args := [d1, d2] }
  | _ => none }
def asnRisesRow : OpenClaim := { program := "ytppdnejkbdnlcaa", sum := "ed59e5212ca9dd07994cef966d011db35c05a58452cc589ef6d2a9e8b5448451", func := "lanyard/lanyardlaw12.AsnRises", spec := "asnRises", unfollowed := true, recurses := true, apart := false }
def AsnRisesSaid : Prop := asnRisesRow.holds Try.pinned (OpenSpec.ofChange asnRisesSpec)

/-- ITS FALSE NEIGHBOUR: 'it returns false'. Refute it at one input. -/
def asnRisesWrong : ChangeSpec := { name := "asnRises", fn := fun _ => fun
  | [d1, d2] => { results := [.lit (.bool false)], args := [d1, d2] }
  | _ => none }
def AsnRisesWrongFalsely : Prop := asnRisesRow.holds Try.pinned (OpenSpec.ofChange asnRisesWrong)

/-- 'lanyardlaw12.AsnGoes': WHATEVER THE INPUT: true; the input reads as it did. -/
def asnGoesSpec : ChangeSpec := { name := "asnGoes", fn := fun _ => fun
  | [d1, d2, d3] => { results := [.lit (.bool true)], args := [d1, d2, d3] }
  | _ => none }
def asnGoesRow : OpenClaim := { program := "ytppdnejkbdnlcaa", sum := "ed59e5212ca9dd07994cef966d011db35c05a58452cc589ef6d2a9e8b5448451", func := "lanyard/lanyardlaw12.AsnGoes", spec := "asnGoes", unfollowed := true, recurses := true, apart := false }
def AsnGoesSaid : Prop := asnGoesRow.holds Try.pinned (OpenSpec.ofChange asnGoesSpec)

/-- ITS FALSE NEIGHBOUR: 'it returns false'. Refute it at one input. -/
def asnGoesWrong : ChangeSpec := { name := "asnGoes", fn := fun _ => fun
  | [d1, d2, d3] => { results := [.lit (.bool false)], args := [d1, d2, d3] }
  | _ => none }
def AsnGoesWrongFalsely : Prop := asnGoesRow.holds Try.pinned (OpenSpec.ofChange asnGoesWrong)

/-- 'lanyardlaw12.AsnOne': WHATEVER THE INPUT: true; the input reads as it did. -/
def asnOneSpec : ChangeSpec := { name := "asnOne", fn := fun _ => fun
  | [d1, d2, d3] => { results := [.lit (.bool true)], args := [d1, d2, d3] }
  | _ => none }
def asnOneRow : OpenClaim := { program := "ytppdnejkbdnlcaa", sum := "ed59e5212ca9dd07994cef966d011db35c05a58452cc589ef6d2a9e8b5448451", func := "lanyard/lanyardlaw12.AsnOne", spec := "asnOne", unfollowed := true, recurses := true, apart := false }
def AsnOneSaid : Prop := asnOneRow.holds Try.pinned (OpenSpec.ofChange asnOneSpec)

/-- ITS FALSE NEIGHBOUR: 'it returns false'. Refute it at one input. -/
def asnOneWrong : ChangeSpec := { name := "asnOne", fn := fun _ => fun
  | [d1, d2, d3] => { results := [.lit (.bool false)], args := [d1, d2, d3] }
  | _ => none }
def AsnOneWrongFalsely : Prop := asnOneRow.holds Try.pinned (OpenSpec.ofChange asnOneWrong)

/- THE SECOND FORM. 'bulk': how many values and letters a reading holds, each counted each time it is reached (what is shared counts as often as it is met; a slice's spare places count too). A statement '..UptoSaid' is the law's where the arguments, and the package variables that the reading takes, are together of bulk at most 1048576: NARROWER than '..Said'. Prove '..Said' where nothing that the law and all that it calls make is longer than what came in: it says more and counts as full. Else prove '..UptoSaid'. A law counts once. -/
mutual
def uptoBulk {H : Type} : DataW H → Nat
  | .lit (.string bytes) => bytes.length + 1
  | .lit _ => 1
  | .nil => 1
  | .ptr d => uptoBulk d + 1
  | .slice elems spare => uptoBulkAll elems + uptoBulkAll spare + 1
  | .agg parts => uptoBulkAll parts + 1
  | .iface _ d => uptoBulk d + 1
  | .map entries => uptoBulkEntries entries + 1
  | .held _ => 1
def uptoBulkAll {H : Type} : List (DataW H) → Nat
  | [] => 0
  | d :: r => uptoBulk d + uptoBulkAll r
def uptoBulkEntries {H : Type} : List (Lit × DataW H) → Nat
  | [] => 0
  | x :: r => uptoBulkEntry x + uptoBulkEntries r
def uptoBulkEntry {H : Type} : Lit × DataW H → Nat
  | (.string bytes, d) => bytes.length + uptoBulk d + 1
  | (_, d) => uptoBulk d + 1
 end
def uptoSmall : (H : Type) → List (DataW H) → Bool := fun _ ds => decide (uptoBulkAll ds ≤ 1048576)
def OpenSpec.upto (s : _root_.Go.ChangeSpec) : _root_.Go.OpenSpec := { _root_.Go.OpenSpec.ofChange s with cond := some uptoSmall }

/-- 'lanyardlaw12.AsnJoins', WHERE WHAT IT READS IS OF BULK AT MOST 1048576: true; the input reads as it did. -/
def asnJoinsUptoRow : OpenClaim := { program := "ytppdnejkbdnlcaa", sum := "ed59e5212ca9dd07994cef966d011db35c05a58452cc589ef6d2a9e8b5448451", func := "lanyard/lanyardlaw12.AsnJoins", spec := "asnJoins", unfollowed := true, recurses := true, apart := false, narrowed := true }
def AsnJoinsUptoSaid : Prop := asnJoinsUptoRow.holds Try.pinned (OpenSpec.upto asnJoinsSpec)

/-- 'lanyardlaw12.AsnRises', WHERE WHAT IT READS IS OF BULK AT MOST 1048576: true; the input reads as it did. -/
def asnRisesUptoRow : OpenClaim := { program := "ytppdnejkbdnlcaa", sum := "ed59e5212ca9dd07994cef966d011db35c05a58452cc589ef6d2a9e8b5448451", func := "lanyard/lanyardlaw12.AsnRises", spec := "asnRises", unfollowed := true, recurses := true, apart := false, narrowed := true }
def AsnRisesUptoSaid : Prop := asnRisesUptoRow.holds Try.pinned (OpenSpec.upto asnRisesSpec)

/-- 'lanyardlaw12.AsnGoes', WHERE WHAT IT READS IS OF BULK AT MOST 1048576: true; the input reads as it did. -/
def asnGoesUptoRow : OpenClaim := { program := "ytppdnejkbdnlcaa", sum := "ed59e5212ca9dd07994cef966d011db35c05a58452cc589ef6d2a9e8b5448451", func := "lanyard/lanyardlaw12.AsnGoes", spec := "asnGoes", unfollowed := true, recurses := true, apart := false, narrowed := true }
def AsnGoesUptoSaid : Prop := asnGoesUptoRow.holds Try.pinned (OpenSpec.upto asnGoesSpec)

/-- 'lanyardlaw12.AsnOne', WHERE WHAT IT READS IS OF BULK AT MOST 1048576: true; the input reads as it did. -/
def asnOneUptoRow : OpenClaim := { program := "ytppdnejkbdnlcaa", sum := "ed59e5212ca9dd07994cef966d011db35c05a58452cc589ef6d2a9e8b5448451", func := "lanyard/lanyardlaw12.AsnOne", spec := "asnOne", unfollowed := true, recurses := true, apart := false, narrowed := true }
def AsnOneUptoSaid : Prop := asnOneUptoRow.holds Try.pinned (OpenSpec.upto asnOneSpec)

end Rows
end Go.Proofs.Ytppdnejkbdnlcaa
