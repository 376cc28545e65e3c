/-
  What the reference's Sub answers, for stage 7 (limb).
-/
import Derived.Test.YthpdeaappchnpaaLimT
namespace Go.Proofs.Ythpdeaappchnpaa
open Go.RowKit
set_option linter.unusedVariables false

/-- What is left of x when y is taken from it; 0 where it can't be. -/
def subI (x y : Int) : Int := if x < y then 0 else x - y
/-- The limbs of a difference are handed back, and whether there is one. -/
def GivesD (x y : Int) (w : World) (e : Ending) (w' : World) : Prop :=
  ∃ a c, e = .returned (.tuple #[.slice a (limZ (subI x y)).length c, .bool (!decide (x < y))]) ∧ Row32 w' a (limZ (subI x y)).length (limZ (subI x y)) ∧ (a = none → c = 0) ∧ (limZ (subI x y)).length ≤ c ∧ Below w.heap.size w w'
theorem limZ_zero : limZ 0 = [] := by unfold limZ; rw [limN]; rfl

end Go.Proofs.Ythpdeaappchnpaa
