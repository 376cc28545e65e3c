/-
  Operations on ranges, told by their slots, for stage 12 (asn).
-/
import Derived.Test.YtppdnejkbdnlcaaAnS
import Derived.Lib.MinMax
namespace Go.Proofs.Ytppdnejkbdnlcaa
open Go.RowKit
set_option linter.unusedVariables false

theorem yields_u32 {o : Oper} {a : Act} {W : World} (x : Operand) (ho : o.op = .load 23 x) (g off : Nat) (v : Value) (hx : a.eval x = .pointer (some ⟨g, off, none⟩)) (hc : W.cell? ⟨g, off, none⟩ = some v) : (execOp a.eval o).run Try.prog W = .ok (.value v) W := by
  have u3 : Try.prog.underlying 23 = some (.int .u32) := Try.underlying23
  unfold execOp
  simp only [ho, hx]
  go_simp
theorem load_range_at {ops : Array Oper} {rest : List Oper} {a : Act} {w : World} {Q : Exit → Act → World → Prop} {dst : Option Tmp} {t' : TypeId} {pos : String} {aft : Array Edge} (k : Nat) (b o : Nat) (s : Nat × Nat) (hx : a.eval (.tmp k) = .pointer (some ⟨b, o, none⟩)) (hc : w.rangeAt b o (rcL s))
    (h : wpList Try.prog ops Q rest (a.put dst (.agg (rcells s))) w) :
    wpList Try.prog ops Q ({ dst := dst, op := .load 33 (.tmp k), type := t', pos := pos, after := aft, guard := none } :: rest) a w :=
  wpList_load_mid rfl 33 (.tmp k) rfl b o hx (rcL s) _ hc Try.underlying33 rfl (by kernel_rfl) h
theorem build_range_at {ops : Array Oper} {rest : List Oper} {a : Act} {w : World} {Q : Exit → Act → World → Prop} {dst : Option Tmp} {t' : TypeId} {pos : String} {aft : Array Edge} (k j : Nat) (s : Nat × Nat) (hx : a.eval (.tmp k) = .int .u32 (s.1 : Int)) (hy : a.eval (.tmp j) = .int .u32 (s.2 : Int))
    (h : wpList Try.prog ops Q rest (a.put dst (.agg (rcells s))) w) :
    wpList Try.prog ops Q ({ dst := dst, op := .build 33 #[(0, .tmp k), (1, .tmp j)], type := t', pos := pos, after := aft, guard := none } :: rest) a w := by
  refine wpList_buildTo rfl 33 _ rfl dst rfl (rcells s) ?_ h
  simp only [List.map_toArray, List.map_cons, List.map_nil, hx, hy]
  exact rbuilt _ _
theorem slice_range_at {ops : Array Oper} {rest : List Oper} {a : Act} {w : World} {Q : Exit → Act → World → Prop} {dst : Option Tmp} {t' : TypeId} {pos : String} {aft : Array Edge} (k : Nat) (s : Nat × Nat) (hx : a.eval (.tmp k) = .agg (rcells s))
    (h : wpList Try.prog ops Q rest (a.put dst (.slice (some ⟨w.heap.size, 0, none⟩) 1 1)) (w.alloc (.cells (rcells s) 33))) :
    wpList Try.prog ops Q ({ dst := dst, op := .buildSlice 22 1 #[(0, .tmp k)], type := t', pos := pos, after := aft, guard := none } :: rest) a w := by
  refine Great.wpList_buildSliceTo rfl 22 33 1 _ rfl w.heap.size rfl dst rfl Try.underlying22 (rcells s) ?_ h
  simp only [List.map_toArray, List.map_cons, List.map_nil, hx]
  exact rbuilt_one s

end Go.Proofs.Ytppdnejkbdnlcaa
