/-
  What the reference's Add and Sub answer, for stage 7 (limb).
-/
import Derived.Test.YthpdeaappchnpaaLimS
namespace Go.Proofs.Ythpdeaappchnpaa
open Go.RowKit
set_option linter.unusedVariables false

theorem out_nil32 (w : World) : Out32 w w (.slice none 0 0) [] := ⟨⟨rfl, .inl ⟨rfl, rfl⟩⟩, Below.refl _ _⟩
theorem meas_lt {k : Nat} (h : k ≤ 1000000) : (1000001 - ((k : Int) + 1)).toNat < (1000001 - (k : Int)).toNat := by omega
theorem limbs_snoc {L : List Int} {x : Int} (h : Limbs L) (h0 : 0 ≤ x) (h1 : x ≤ 4294967295) : Limbs (L ++ [x]) := by
  intro y hy
  rcases List.mem_append.1 hy with hy | hy
  · exact h y hy
  · simp at hy; omega

end Go.Proofs.Ythpdeaappchnpaa
