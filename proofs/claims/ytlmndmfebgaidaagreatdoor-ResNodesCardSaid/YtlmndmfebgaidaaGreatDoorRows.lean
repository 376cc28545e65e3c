/-
  NARROWER THAN 'FOR EVERY INPUT', by the rows' own cells (each row's printed sentence says how): ResNodes: loops, laid · ResResolves: laid · ResBack: loops, laid · ResGoes: laid · ResHas: laid.
  DERIVED. THE GIVEN ROWS OF THIS SEAT. 5 by the template 'for every input the law returns true; each argument reads behind the call as it read before'; 0 by the template 'total and deterministic' (their statements: YtlmndmfebgaidaaGreatDoorTotals.lean).
  GIVEN WITH THE SEED: the statements are not yours to turn. If you find one false, say at which input.
  Laid BY PROGRAM, IN A SANDBOX (cutbox-rows.mjs): the forced cells as the released guide's own fill.sh prints them over the translation f75af17511cb7b45… (all of the seat's roots in one cut). By AI agents, Wed Nov 11 2026. No macro, syntax, notation, axiom, sorry.
-/
import Derived.Test.YtlmndmfebgaidaaGreatDoorChecked
import GoSem.PinnedTables
import GoSem.Claim
import GoSem.ClaimJoined
import GoSem.ClaimMapViews
import Derived.JoinedTies
import Derived.KernelRfl
namespace Go.Proofs.YtlmndmfebgaidaaGreatDoor
/- THE CELL 'sum', in the pinned program and in every row, IS THE sha256 OF THE DUMP (.gsa) THAT YtlmndmfebgaidaaGreatDoorProg.lean LOADS. Nothing in Lean hashes anything: it is a label: what it is worth is what the hold of that sum in a sandbox is worth. -/
noncomputable def Tryz.pinned : Pinned := { name := "ytlmndmfebgaidaagreatdoor", sum := "f75af17511cb7b45dab6195c7f9dae4869adc9acb4c3b4cc34723b4228f9f3f7", checked := Tryz.checked }
namespace Rows
def none {H : Type} : Left H := { results := [], args := [] }

/- WHAT THE LISTED PACKAGE-LEVEL VARIABLES READ AS WHEN THE CALL BEGINS. Each datum BY PROGRAM (the guide's laid-datum.mjs) off the statement by which the dump's own 'gosem.cut.vars' lays the variable. In a bare row this is a premise. The card (YtlmndmfebgaidaaGreatDoorCards.lean) ties it to the program's text. -/
def laid_unicode_utf8_acceptRanges {H : Type} : DataW H := .agg [.agg [.lit (.int .u8 128), .lit (.int .u8 191)], .agg [.lit (.int .u8 160), .lit (.int .u8 191)], .agg [.lit (.int .u8 128), .lit (.int .u8 159)], .agg [.lit (.int .u8 144), .lit (.int .u8 191)], .agg [.lit (.int .u8 128), .lit (.int .u8 143)], .agg [.lit (.int .u8 0), .lit (.int .u8 0)], .agg [.lit (.int .u8 0), .lit (.int .u8 0)], .agg [.lit (.int .u8 0), .lit (.int .u8 0)], .agg [.lit (.int .u8 0), .lit (.int .u8 0)], .agg [.lit (.int .u8 0), .lit (.int .u8 0)], .agg [.lit (.int .u8 0), .lit (.int .u8 0)], .agg [.lit (.int .u8 0), .lit (.int .u8 0)], .agg [.lit (.int .u8 0), .lit (.int .u8 0)], .agg [.lit (.int .u8 0), .lit (.int .u8 0)], .agg [.lit (.int .u8 0), .lit (.int .u8 0)], .agg [.lit (.int .u8 0), .lit (.int .u8 0)]]
def laid_lanyard_res_families {H : Type} : DataW H := .agg [.agg [.lit (.bool false), .lit (.int .i64 4)], .agg [.lit (.bool true), .lit (.int .i64 16)]]
/-- One of Go's own tables, pinned by name: the form's constant. -/
def laid_unicode_utf8_first : DataW Unit := Go.Pinned.utf8First

/-- 'lanyardlaw13.ResNodes': WHATEVER THE INPUT: true; the input reads as it did. -/
def resNodesSpec : ChangeSpec := { name := "resNodes", fn := fun _ => fun
  | [d1, d2] => { results := [.lit (.bool true)], args := [d1, d2] }
  | _ => none }
def resNodesRow : OpenClaim := { program := "ytlmndmfebgaidaagreatdoor", sum := "f75af17511cb7b45dab6195c7f9dae4869adc9acb4c3b4cc34723b4228f9f3f7", func := "lanyard/lanyardlaw13.ResNodes", spec := "resNodes", unfollowed := true, recurses := true, named := ["lanyard/res.families", "unicode/utf8.first", "unicode/utf8.acceptRanges"], loops := true, apart := false, laid := [("unicode/utf8.acceptRanges", laid_unicode_utf8_acceptRanges), ("lanyard/res.families", laid_lanyard_res_families), ("unicode/utf8.first", laid_unicode_utf8_first)] }
def ResNodesSaid : Prop := resNodesRow.holds Tryz.pinned (OpenSpec.ofChange resNodesSpec)

/-- ITS FALSE NEIGHBOUR: 'it returns false'. Refute it at one input. -/
def resNodesWrong : ChangeSpec := { name := "resNodes", fn := fun _ => fun
  | [d1, d2] => { results := [.lit (.bool false)], args := [d1, d2] }
  | _ => none }
def ResNodesWrongFalsely : Prop := resNodesRow.holds Tryz.pinned (OpenSpec.ofChange resNodesWrong)

/-- 'lanyardlaw13.ResResolves': WHATEVER THE INPUT: true; the input reads as it did. -/
def resResolvesSpec : ChangeSpec := { name := "resResolves", fn := fun _ => fun
  | [d1, d2, d3] => { results := [.lit (.bool true)], args := [d1, d2, d3] }
  | _ => none }
def resResolvesRow : OpenClaim := { program := "ytlmndmfebgaidaagreatdoor", sum := "f75af17511cb7b45dab6195c7f9dae4869adc9acb4c3b4cc34723b4228f9f3f7", func := "lanyard/lanyardlaw13.ResResolves", spec := "resResolves", unfollowed := true, recurses := true, named := ["lanyard/res.families", "unicode/utf8.first", "unicode/utf8.acceptRanges"], apart := false, laid := [("unicode/utf8.acceptRanges", laid_unicode_utf8_acceptRanges), ("lanyard/res.families", laid_lanyard_res_families), ("unicode/utf8.first", laid_unicode_utf8_first)] }
def ResResolvesSaid : Prop := resResolvesRow.holds Tryz.pinned (OpenSpec.ofChange resResolvesSpec)

/-- ITS FALSE NEIGHBOUR: 'it returns false'. Refute it at one input. -/
def resResolvesWrong : ChangeSpec := { name := "resResolves", fn := fun _ => fun
  | [d1, d2, d3] => { results := [.lit (.bool false)], args := [d1, d2, d3] }
  | _ => none }
def ResResolvesWrongFalsely : Prop := resResolvesRow.holds Tryz.pinned (OpenSpec.ofChange resResolvesWrong)

/-- 'lanyardlaw13.ResBack': WHATEVER THE INPUT: true; the input reads as it did. -/
def resBackSpec : ChangeSpec := { name := "resBack", fn := fun _ => fun
  | [d1, d2] => { results := [.lit (.bool true)], args := [d1, d2] }
  | _ => none }
def resBackRow : OpenClaim := { program := "ytlmndmfebgaidaagreatdoor", sum := "f75af17511cb7b45dab6195c7f9dae4869adc9acb4c3b4cc34723b4228f9f3f7", func := "lanyard/lanyardlaw13.ResBack", spec := "resBack", unfollowed := true, recurses := true, named := ["lanyard/res.families", "unicode/utf8.first", "unicode/utf8.acceptRanges"], loops := true, apart := false, laid := [("unicode/utf8.acceptRanges", laid_unicode_utf8_acceptRanges), ("lanyard/res.families", laid_lanyard_res_families), ("unicode/utf8.first", laid_unicode_utf8_first)] }
def ResBackSaid : Prop := resBackRow.holds Tryz.pinned (OpenSpec.ofChange resBackSpec)

/-- ITS FALSE NEIGHBOUR: 'it returns false'. Refute it at one input. -/
def resBackWrong : ChangeSpec := { name := "resBack", fn := fun _ => fun
  | [d1, d2] => { results := [.lit (.bool false)], args := [d1, d2] }
  | _ => none }
def ResBackWrongFalsely : Prop := resBackRow.holds Tryz.pinned (OpenSpec.ofChange resBackWrong)

/-- 'lanyardlaw13.ResGoes': WHATEVER THE INPUT: true; the input reads as it did. -/
def resGoesSpec : ChangeSpec := { name := "resGoes", fn := fun _ => fun
  | [d1, d2, d3] => { results := [.lit (.bool true)], args := [d1, d2, d3] }
  | _ => none }
def resGoesRow : OpenClaim := { program := "ytlmndmfebgaidaagreatdoor", sum := "f75af17511cb7b45dab6195c7f9dae4869adc9acb4c3b4cc34723b4228f9f3f7", func := "lanyard/lanyardlaw13.ResGoes", spec := "resGoes", unfollowed := true, recurses := true, named := ["lanyard/res.families", "unicode/utf8.first", "unicode/utf8.acceptRanges"], apart := false, laid := [("unicode/utf8.acceptRanges", laid_unicode_utf8_acceptRanges), ("lanyard/res.families", laid_lanyard_res_families), ("unicode/utf8.first", laid_unicode_utf8_first)] }
def ResGoesSaid : Prop := resGoesRow.holds Tryz.pinned (OpenSpec.ofChange resGoesSpec)

/-- ITS FALSE NEIGHBOUR: 'it returns false'. Refute it at one input. -/
def resGoesWrong : ChangeSpec := { name := "resGoes", fn := fun _ => fun
  | [d1, d2, d3] => { results := [.lit (.bool false)], args := [d1, d2, d3] }
  | _ => none }
def ResGoesWrongFalsely : Prop := resGoesRow.holds Tryz.pinned (OpenSpec.ofChange resGoesWrong)

/-- 'lanyardlaw13.ResHas': WHATEVER THE INPUT: true; the input reads as it did. -/
def resHasSpec : ChangeSpec := { name := "resHas", fn := fun _ => fun
  | [d1, d2, d3] => { results := [.lit (.bool true)], args := [d1, d2, d3] }
  | _ => none }
def resHasRow : OpenClaim := { program := "ytlmndmfebgaidaagreatdoor", sum := "f75af17511cb7b45dab6195c7f9dae4869adc9acb4c3b4cc34723b4228f9f3f7", func := "lanyard/lanyardlaw13.ResHas", spec := "resHas", unfollowed := true, recurses := true, named := ["lanyard/res.families", "unicode/utf8.first", "unicode/utf8.acceptRanges"], apart := false, laid := [("unicode/utf8.acceptRanges", laid_unicode_utf8_acceptRanges), ("lanyard/res.families", laid_lanyard_res_families), ("unicode/utf8.first", laid_unicode_utf8_first)] }
def ResHasSaid : Prop := resHasRow.holds Tryz.pinned (OpenSpec.ofChange resHasSpec)

/-- ITS FALSE NEIGHBOUR: 'it returns false'. Refute it at one input. -/
def resHasWrong : ChangeSpec := { name := "resHas", fn := fun _ => fun
  | [d1, d2, d3] => { results := [.lit (.bool false)], args := [d1, d2, d3] }
  | _ => none }
def ResHasWrongFalsely : Prop := resHasRow.holds Tryz.pinned (OpenSpec.ofChange resHasWrong)

/- THE SECOND FORM. 'bulk': how many values and letters a reading holds, each counted each time it is reached (what is shared counts as often as it is met; a slice's spare places count too). A statement '..UptoSaid' is the law's where the arguments, and the package variables that the reading takes, are together of bulk at most 1048576: NARROWER than '..Said'. Prove '..Said' where nothing that the law and all that it calls make is longer than what came in: it says more and counts as full. Else prove '..UptoSaid'. A law counts once. -/
mutual
def uptoBulk {H : Type} : DataW H → Nat
  | .lit (.string bytes) => bytes.length + 1
  | .lit _ => 1
  | .nil => 1
  | .ptr d => uptoBulk d + 1
  | .slice elems spare => uptoBulkAll elems + uptoBulkAll spare + 1
  | .agg parts => uptoBulkAll parts + 1
  | .iface _ d => uptoBulk d + 1
  | .map entries => uptoBulkEntries entries + 1
  | .held _ => 1
def uptoBulkAll {H : Type} : List (DataW H) → Nat
  | [] => 0
  | d :: r => uptoBulk d + uptoBulkAll r
def uptoBulkEntries {H : Type} : List (Lit × DataW H) → Nat
  | [] => 0
  | x :: r => uptoBulkEntry x + uptoBulkEntries r
def uptoBulkEntry {H : Type} : Lit × DataW H → Nat
  | (.string bytes, d) => bytes.length + uptoBulk d + 1
  | (_, d) => uptoBulk d + 1
 end
def uptoSmall : (H : Type) → List (DataW H) → Bool := fun _ ds => decide (uptoBulkAll ds ≤ 1048576)
def OpenSpec.upto (s : _root_.Go.ChangeSpec) : _root_.Go.OpenSpec := { _root_.Go.OpenSpec.ofChange s with cond := some uptoSmall }

/-- 'lanyardlaw13.ResNodes', WHERE WHAT IT READS IS OF BULK AT MOST 1048576: true; the input reads as it did. -/
def resNodesUptoRow : OpenClaim := { program := "ytlmndmfebgaidaagreatdoor", sum := "f75af17511cb7b45dab6195c7f9dae4869adc9acb4c3b4cc34723b4228f9f3f7", func := "lanyard/lanyardlaw13.ResNodes", spec := "resNodes", unfollowed := true, recurses := true, named := ["lanyard/res.families", "unicode/utf8.first", "unicode/utf8.acceptRanges"], loops := true, apart := false, laid := [("unicode/utf8.acceptRanges", laid_unicode_utf8_acceptRanges), ("lanyard/res.families", laid_lanyard_res_families), ("unicode/utf8.first", laid_unicode_utf8_first)], narrowed := true }
def ResNodesUptoSaid : Prop := resNodesUptoRow.holds Tryz.pinned (OpenSpec.upto resNodesSpec)

/-- 'lanyardlaw13.ResResolves', WHERE WHAT IT READS IS OF BULK AT MOST 1048576: true; the input reads as it did. -/
def resResolvesUptoRow : OpenClaim := { program := "ytlmndmfebgaidaagreatdoor", sum := "f75af17511cb7b45dab6195c7f9dae4869adc9acb4c3b4cc34723b4228f9f3f7", func := "lanyard/lanyardlaw13.ResResolves", spec := "resResolves", unfollowed := true, recurses := true, named := ["lanyard/res.families", "unicode/utf8.first", "unicode/utf8.acceptRanges"], apart := false, laid := [("unicode/utf8.acceptRanges", laid_unicode_utf8_acceptRanges), ("lanyard/res.families", laid_lanyard_res_families), ("unicode/utf8.first", laid_unicode_utf8_first)], narrowed := true }
def ResResolvesUptoSaid : Prop := resResolvesUptoRow.holds Tryz.pinned (OpenSpec.upto resResolvesSpec)

/-- 'lanyardlaw13.ResBack', WHERE WHAT IT READS IS OF BULK AT MOST 1048576: true; the input reads as it did. -/
def resBackUptoRow : OpenClaim := { program := "ytlmndmfebgaidaagreatdoor", sum := "f75af17511cb7b45dab6195c7f9dae4869adc9acb4c3b4cc34723b4228f9f3f7", func := "lanyard/lanyardlaw13.ResBack", spec := "resBack", unfollowed := true, recurses := true, named := ["lanyard/res.families", "unicode/utf8.first", "unicode/utf8.acceptRanges"], loops := true, apart := false, laid := [("unicode/utf8.acceptRanges", laid_unicode_utf8_acceptRanges), ("lanyard/res.families", laid_lanyard_res_families), ("unicode/utf8.first", laid_unicode_utf8_first)], narrowed := true }
def ResBackUptoSaid : Prop := resBackUptoRow.holds Tryz.pinned (OpenSpec.upto resBackSpec)

/-- 'lanyardlaw13.ResGoes', WHERE WHAT IT READS IS OF BULK AT MOST 1048576: true; the input reads as it did. -/
def resGoesUptoRow : OpenClaim := { program := "ytlmndmfebgaidaagreatdoor", sum := "f75af17511cb7b45dab6195c7f9dae4869adc9acb4c3b4cc34723b4228f9f3f7", func := "lanyard/lanyardlaw13.ResGoes", spec := "resGoes", unfollowed := true, recurses := true, named := ["lanyard/res.families", "unicode/utf8.first", "unicode/utf8.acceptRanges"], apart := false, laid := [("unicode/utf8.acceptRanges", laid_unicode_utf8_acceptRanges), ("lanyard/res.families", laid_lanyard_res_families), ("unicode/utf8.first", laid_unicode_utf8_first)], narrowed := true }
def ResGoesUptoSaid : Prop := resGoesUptoRow.holds Tryz.pinned (OpenSpec.upto resGoesSpec)

/-- 'lanyardlaw13.ResHas', WHERE WHAT IT READS IS OF BULK AT MOST 1048576: true; the input reads as it did. -/
def resHasUptoRow : OpenClaim := { program := "ytlmndmfebgaidaagreatdoor", sum := "f75af17511cb7b45dab6195c7f9dae4869adc9acb4c3b4cc34723b4228f9f3f7", func := "lanyard/lanyardlaw13.ResHas", spec := "resHas", unfollowed := true, recurses := true, named := ["lanyard/res.families", "unicode/utf8.first", "unicode/utf8.acceptRanges"], apart := false, laid := [("unicode/utf8.acceptRanges", laid_unicode_utf8_acceptRanges), ("lanyard/res.families", laid_lanyard_res_families), ("unicode/utf8.first", laid_unicode_utf8_first)], narrowed := true }
def ResHasUptoSaid : Prop := resHasUptoRow.holds Tryz.pinned (OpenSpec.upto resHasSpec)

end Rows
end Go.Proofs.YtlmndmfebgaidaaGreatDoor
