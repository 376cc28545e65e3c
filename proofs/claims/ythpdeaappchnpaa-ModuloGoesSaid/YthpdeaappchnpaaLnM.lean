/-
  What the package's To answers, for stage 7 (limb).
-/
import Derived.Test.YthpdeaappchnpaaLnL
namespace Go.Proofs.Ythpdeaappchnpaa
open Go.RowKit
set_option linter.unusedVariables false

theorem out_full {w w1 : World} {m : Nat} (h : w1.ownsRow w.heap.size 5 1 (.slice (some ⟨w.heap.size, 0, none⟩) m m) m (madeCells #[Value.int .u8 0] m).toList) (hg : w.grownBy w1 none) : Out w w1 (.slice (some ⟨w.heap.size, 0, none⟩) m m) (List.replicate m 0) := by
  refine ⟨?_, (Below.refl _ _).grown hg (Nat.le_refl _) (fun k h => by cases h)⟩
  rw [toList_madeCells_one] at h
  rw [List.length_replicate, List.map_replicate]
  exact h
theorem fill_step {L T : List Int} {K i : Nat} {y : Int} (hL : L.length = K) (hi : i < K) (h : ∀ j, K - i ≤ j → L[j]?.getD 0 = T[j]?.getD 0) (hy : y = T[K - 1 - i]?.getD 0) : ∀ j, K - (i + 1) ≤ j → (L.set (K - 1 - i) y)[j]?.getD 0 = T[j]?.getD 0 := by
  intro j hj
  rcases Nat.eq_or_lt_of_le hj with e | e
  · rw [← e, show K - (i + 1) = K - 1 - i by omega, List.getElem?_set_self (by omega), ← hy]
    rfl
  · rw [List.getElem?_set_ne (by omega)]
    exact h j (by omega)
theorem fill_end {L T : List Int} {K : Nat} (hL : L.length = K) (hT : T.length = K) (h : ∀ j, K - K ≤ j → L[j]?.getD 0 = T[j]?.getD 0) : L = T := by
  apply List.ext_getElem?
  intro j
  have := h j (by omega)
  rcases Nat.lt_or_ge j K with hj | hj
  · rw [List.getElem?_eq_getElem (by omega), List.getElem?_eq_getElem (by omega)] at this ⊢
    simpa using this
  · rw [List.getElem?_eq_none (by omega), List.getElem?_eq_none (by omega)]

end Go.Proofs.Ythpdeaappchnpaa
