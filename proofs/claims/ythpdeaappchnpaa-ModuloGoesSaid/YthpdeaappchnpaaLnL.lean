/-
  What the reference's To answers, for stage 7 (limb).
-/
import Derived.Test.YthpdeaappchnpaaLnK
namespace Go.Proofs.Ythpdeaappchnpaa
open Go.RowKit
set_option linter.unusedVariables false

theorem byN_le (n : Nat) {k : Nat} (h : n < 256 ^ k) : (byN n).length ≤ k := by
  have e := byN_len n
  have := bitN_le (8 * k) n (by rw [Nat.pow_mul]; exact h)
  omega
theorem byZ_le {v : Int} (hv : 0 ≤ v) {k : Nat} (h : v < 4294967296 ^ k) : (byZ v).length ≤ 4 * k := by
  refine byN_le _ ?_
  rw [Nat.pow_mul]
  have e : ((4294967296 ^ k : Nat) : Int) = (4294967296 : Int) ^ k := Int.natCast_pow _ _
  show v.toNat < 4294967296 ^ k
  omega
theorem byN_mono {a b : Nat} (h : a ≤ b) : (byN a).length ≤ (byN b).length := by
  have e := byN_len a
  have e2 := byN_len b
  have : bitN a ≤ bitN b := by
    have h1 := bitN_lt b
    have h2 := bitN_nonneg b
    have := bitN_le (bitN b).toNat a (by omega)
    omega
  omega
theorem limb_drop {zs : List Int} (h : Limbs zs) (k : Nat) : valZ (zs.drop k) < 4294967296 ^ (zs.length - k) := by
  have := valZ_lt (h.drop k)
  rwa [List.length_drop] at this
/-- The bytes of a number are given back, in new memory. -/
def GivesB (v : Int) (w : World) (e : Ending) (w' : World) : Prop := ∃ V, e = .returned V ∧ Out w w' V (byZ v)

theorem part_len {D x : Int} {k n : Nat} (D0 : 0 ≤ D) (hD : D < 4294967296 ^ n) (x0 : 0 ≤ x) (x1 : x ≤ 4294967295) (hk : k ≤ 4) : (byZ (D * 256 ^ (4 - k) + x / 256 ^ k)).length ≤ 4 * n + 4 := by
  have h1 : 0 ≤ D * 256 ^ (4 - k) + x / 256 ^ k ∧ D * 256 ^ (4 - k) + x / 256 ^ k < 4294967296 ^ (n + 1) := by
    rw [Int.pow_succ]
    generalize (4294967296 : Int) ^ n = P at *
    obtain rfl | rfl | rfl | rfl | rfl : k = 0 ∨ k = 1 ∨ k = 2 ∨ k = 3 ∨ k = 4 := by omega
    all_goals simp only [Nat.reduceSub, Nat.sub_zero, Int.reducePow]
    all_goals omega
  have := byZ_le h1.1 h1.2
  omega

end Go.Proofs.Ythpdeaappchnpaa
