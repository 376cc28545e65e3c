/-
  What radix.valuesOfCharacters answers, for stage 2 (radix): for each of 256 bytes its place in the alphabet, or 64.
-/
import Derived.Test.YtmmcmiljnmbfcaaDoorEnc
namespace Go.Proofs.YtmmcmiljnmbfcaaDoor
open Go.RowKit

/-- A character's number; 64 where it is none. -/
def vl (k : Nat) : Nat := if 65 ≤ k ∧ k ≤ 90 then k - 65 else if 97 ≤ k ∧ k ≤ 122 then k - 71 else if 48 ≤ k ∧ k ≤ 57 then k + 4 else if k = 43 then 62 else if k = 47 then 63 else 64

theorem sg_vl (k : Nat) (h : vl k < 64) : sg (vl k) = k := by
  unfold vl at h ⊢
  unfold sg
  repeat' split at h
  all_goals (repeat' split)
  all_goals omega
theorem vl_sg (v : Nat) (h : v < 64) : vl (sg v) = v := by
  unfold sg
  repeat' split
  all_goals unfold vl
  all_goals (repeat' split)
  all_goals omega
theorem vl_le (k : Nat) : vl k ≤ 64 := by
  unfold vl
  repeat' split
  all_goals omega
theorem sg_lt (v : Nat) (h : v < 64) : sg v < 256 := by
  unfold sg
  repeat' split
  all_goals omega

def tabOf (f : Nat → Nat) : Array Value := ((List.range 256).map fun i => Value.int .u8 (f i)).toArray
theorem tabOf_size (f : Nat → Nat) : (tabOf f).size = 256 := by simp [tabOf]
theorem tabOf_at (f : Nat → Nat) (i : Nat) (h : i < 256) : (tabOf f)[i]? = some (.int .u8 (f i)) := by simp [tabOf, h]
theorem tabOf_congr {f g : Nat → Nat} (h : ∀ i, i < 256 → f i = g i) : tabOf f = tabOf g := by
  unfold tabOf
  congr 1
  apply List.map_congr_left
  intro i hi
  rw [h i (by simpa using hi)]
theorem tabOf_set (f g : Nat → Nat) (i v : Nat) (h : i < 256) (hg : ∀ k, k < 256 → g k = if k = i then v else f k) : (tabOf f).setIfInBounds i (.int .u8 (v : Int)) = tabOf g := by
  apply Array.ext_getElem?
  intro k
  rw [Array.getElem?_setIfInBounds]
  rcases Nat.lt_or_ge k 256 with hk | hk
  · rw [tabOf_at g k hk, hg k hk]
    split
    · rename_i e
      subst e
      rw [if_pos (by rw [tabOf_size]; exact h), if_pos rfl]
    · rename_i e
      rw [tabOf_at f k hk, if_neg (fun e' => e e'.symm)]
  · rw [if_neg (by omega), Array.getElem?_eq_none (by rw [tabOf_size]; exact hk), Array.getElem?_eq_none (by rw [tabOf_size]; exact hk)]
theorem tabOf_one (f : Nat → Nat) : (tabOf f).all (·.oneCell') = true := by
  simp [tabOf, Value.oneCell']

def preF (i k : Nat) : Nat := if k < i then 64 else 0
def vlUpto (v k : Nat) : Nat := if vl k < v then vl k else 64
theorem vlUpto_next (v k : Nat) (h : v < 64) : vlUpto (v + 1) k = if k = sg v then v else vlUpto v k := by
  unfold vlUpto
  by_cases e : k = sg v
  · subst e
    rw [vl_sg v h]
    simp
  · rw [if_neg e]
    have : vl k ≠ v := fun e' => e (by rw [← e', sg_vl k (by omega)])
    by_cases h1 : vl k < v
    · rw [if_pos h1, if_pos (by omega)]
    · rw [if_neg h1, if_neg (by omega)]
theorem vlUpto_all (k : Nat) : vlUpto 64 k = vl k := by
  have := vl_le k
  unfold vlUpto
  split <;> omega

/-- The world in a round of valuesOfCharacters. -/
def Tab (w wr : World) (f : Nat → Nat) : Prop :=
  wr.heap[w.heap.size]? = some (.cells (zeroCells 256) 36 (0, 0)) ∧ wr.heap[w.heap.size + 1]? = some (.cells (tabOf f) 36 (0, 0)) ∧ Below w.heap.size w wr

theorem Tab.cell {w wr : World} {f : Nat → Nat} (h : Tab w wr f) (i : Nat) (hi : i < 256) : wr.cell? ⟨w.heap.size + 1, i, none⟩ = some (.int .u8 (f i)) := by
  simp only [World.cell?, h.2.1]
  exact tabOf_at f i hi
theorem Tab.free {w wr : World} {f : Nat → Nat} (h : Tab w wr f) (i : Nat) : wr.frozen? ⟨w.heap.size + 1, i, none⟩ = false := by
  simp [World.frozen?, h.2.1]
theorem Tab.set {w wr : World} {f g : Nat → Nat} (h : Tab w wr f) (i v : Nat) (hi : i < 256) (hg : ∀ k, k < 256 → g k = if k = i then v else f k) : Tab w (wr.setCell ⟨w.heap.size + 1, i, none⟩ (.int .u8 (v : Int))) g := by
  refine ⟨(Below.heap_setCell wr ⟨w.heap.size + 1, i, none⟩ _ w.heap.size (by show w.heap.size ≠ w.heap.size + 1; omega)).trans h.1, ?_, h.2.2.setCell (by show w.heap.size ≤ w.heap.size + 1; omega) _⟩
  rw [setCell_eq_setRow wr _ i _ 36 (0, 0) _ h.2.1, ← tabOf_set f g i v hi hg]
  exact setRow_heap wr _ _ _ 36 _ h.2.1

theorem Tab.below {w wr w' : World} {f : Nat → Nat} (h : Tab w wr f) (hb : Below wr.heap.size wr w') : Tab w w' f :=
  ⟨(hb.block _ (Array.getElem?_eq_some_iff.1 h.1).1).trans h.1, (hb.block _ (Array.getElem?_eq_some_iff.1 h.2.1).1).trans h.2.1, h.2.2.trans (hb.mono h.2.2.size)⟩

end Go.Proofs.YtmmcmiljnmbfcaaDoor
