/-
  What the laws of stage 12 (asn) ask of the package, as premises; plain facts of their walks.
-/
import Derived.Test.YtppdnejkbdnlcaaAnW
namespace Go.Proofs.Ytppdnejkbdnlcaa
open Go.RowKit
set_option linter.unusedVariables false

def PkJoin : Prop := ∀ (a : Option Addr) (n c : Nat) (L : List (Nat × Nat)) (W : World), RgArg W a n c L → n ≤ 10000 → Calls Try.prog 9 #[.slice a n c] W (GivesRg (joinZ L) W)
def PkWithin : Prop := ∀ (a b : Option Addr) (n m c d : Nat) (L M : List (Nat × Nat)) (W : World), RgArg W a n c L → n ≤ 10000 → RgArg W b m d M → m ≤ 10000 → Calls Try.prog 11 #[.slice a n c, .slice b m d] W fun e w' => e = .returned (.bool (inN L M)) ∧ Below W.heap.size W w'
def PkHas : Prop := ∀ (a : Option Addr) (n c q : Nat) (L : List (Nat × Nat)) (W : World), RgArg W a n c L → n ≤ 10000 → q < 4294967296 → Calls Try.prog 13 #[.slice a n c, .int .u32 (q : Int)] W fun e w' => e = .returned (.bool (hasZ L q)) ∧ Below W.heap.size W w'
def PkMany : Prop := ∀ (a : Option Addr) (n c : Nat) (L : List (Nat × Nat)) (W : World), RgArg W a n c L → n ≤ 10000 → Calls Try.prog 15 #[.slice a n c] W fun e w' => e = .returned (.int .u64 (manyN L : Int)) ∧ Below W.heap.size W w'
def PkAwake : Prop := ∀ W : World, Calls Try.prog 7 #[] W fun e w' => e = .returned (.bool true) ∧ Below W.heap.size W w'

theorem norm_near : ∀ {l : List (Nat × Nat)} (k : Nat) (h : k + 1 < l.length), NormZ l → (l[k]).2 + 1 < (l[k + 1]).1
  | [], k, h, _ => absurd h (by simp)
  | p :: r, 0, h, hn => by
    have hr : 0 < r.length := by simpa using h
    exact hn.2.1 _ (by simp only [List.getElem_cons_succ]; exact List.getElem_mem hr)
  | p :: r, k + 1, h, hn => by
    have := norm_near k (by simpa using h) hn.2.2
    simpa using this
theorem eqLR_join (L M : List (Nat × Nat)) : eqLR (joinZ L) (joinZ M) = (inN L M && inN M L) := by
  rw [Bool.eq_iff_iff, Bool.and_eq_true]
  unfold eqLR
  rw [decide_eq_true_iff]
  exact join_inj
theorem RgArg.nil (W : World) : RgArg W none 0 0 [] := ⟨RgRow.nil _ _, fun _ => ⟨rfl, rfl⟩⟩
theorem slice0_range_at {ops : Array Oper} {rest : List Oper} {a : Act} {w W0 : World} {Q : Exit → Act → World → Prop} {dst : Option Tmp} {t' : TypeId} {pos : String} {aft : Array Edge} (hb : Below W0.heap.size W0 w)
    (h : ∀ V w', RgOut W0 w' V [] → wpList Try.prog ops Q rest (a.put dst V) w') :
    wpList Try.prog ops Q ({ dst := dst, op := .buildSlice 22 0 #[], type := t', pos := pos, after := aft, guard := none } :: rest) a w := by
  refine wpList_plain rfl fun K hK => ?_
  have hrun : (execOp a.eval ({ dst := dst, op := .buildSlice 22 0 #[], type := t', pos := pos, after := aft, guard := none } : Oper)).run Try.prog w = .ok (.value (.slice (some ⟨w.heap.size, 0, none⟩) 0 0)) (w.alloc (.cells #[] 33)) := by
    obtain ⟨i0, hi5, hz0, hz1, hz2⟩ := info_parts Try.infoRange
    unfold execOp
    simp [Instr.buildSlice, run_underlying Try.underlying22, sizeOf, typeInfo, hi5, newRow, Instr.fill, Result.andThen]
    rw [show ∀ f : Nat → Value, Array.map f (Array.range 0) = #[] from fun f => Array.eq_empty_of_size_eq_zero (by rw [Array.size_map, Array.size_range])]
  unfold Oper.wp
  rw [hrun]
  refine hK _ _ (h _ _ ?_)
  exact ⟨⟨rfl, .inr ⟨w.heap.size, 0, #[], rfl, hb.size, Blk.new _ _ _, Nat.le_refl _, by unfold maxLen; omega, rfl, rfl⟩⟩, Below.trans hb ((boxR_below w _).mono hb.size), fun s hs => by cases hs⟩

end Go.Proofs.Ytppdnejkbdnlcaa
