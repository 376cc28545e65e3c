/-
  Plain facts of a long division by halves (the library's bits.Div64), for stage 8 (modulo). Nothing of the program is named here.
-/
import Derived.Test.YthpdeaappchnpaaMath
import Derived.Laws.BitsLemmas
namespace Go.Proofs.Ythpdeaappchnpaa
open Go.RowKit
set_option linter.unusedVariables false

theorem ediv_is {a b q r : Int} (hb : 0 < b) (h : a = q * b + r) (r0 : 0 ≤ r) (r1 : r < b) : a / b = q ∧ a % b = r := by
  have := (Int.ediv_emod_unique hb).2 ⟨(by rw [h, Int.mul_comm q b, Int.add_comm] : r + b * q = a), r0, r1⟩
  exact this

/-- A digit q of U and u by the number of h and l, that may be too great, and what is left of U. -/
def Half (U u h l q r : Int) : Prop := U = q * h + r ∧ 0 ≤ r ∧ 0 ≤ q ∧ (U * 4294967296 + u) / (h * 4294967296 + l) ≤ q
/-- What is divided, and by what. -/
def HalfIn (U u h l : Int) : Prop := 2147483648 ≤ h ∧ h < 4294967296 ∧ 0 ≤ l ∧ l < 4294967296 ∧ 0 ≤ U ∧ U < h * 4294967296 + l ∧ 0 ≤ u ∧ u < 4294967296

theorem half_start {U u h l : Int} (hi : HalfIn U u h l) : Half U u h l (U / h) (U % h) ∧ U / h * h = U - U % h ∧ 0 ≤ U % h ∧ U % h < h ∧ 0 ≤ U / h := by
  obtain ⟨h0, h1, l0, l1, U0, U1, u0, u1⟩ := hi
  have e := Int.mul_ediv_add_emod U h
  rw [Int.mul_comm] at e
  have r0 := Int.emod_nonneg U (show h ≠ 0 by omega)
  have r1 := Int.emod_lt_of_pos U (show 0 < h by omega)
  have q0 : 0 ≤ U / h := Int.ediv_nonneg U0 (by omega)
  refine ⟨⟨by omega, r0, q0, ?_⟩, by omega, r0, r1, q0⟩
  have Y0 : 0 < h * 4294967296 + l := by omega
  have e2 := Int.mul_ediv_add_emod (U * 4294967296 + u) (h * 4294967296 + l)
  have m0 := Int.emod_nonneg (U * 4294967296 + u) (show h * 4294967296 + l ≠ 0 by omega)
  have Q0 : 0 ≤ (U * 4294967296 + u) / (h * 4294967296 + l) := Int.ediv_nonneg (by omega) (by omega)
  generalize (U * 4294967296 + u) / (h * 4294967296 + l) = Q at *
  generalize (U * 4294967296 + u) % (h * 4294967296 + l) = M at *
  refine Int.le_ediv_of_mul_le (by omega) ?_
  have e3 : (h * 4294967296 + l) * Q = Q * h * 4294967296 + l * Q := by rw [Int.add_mul, Int.mul_right_comm, Int.mul_comm h Q]
  have e4 := Int.mul_nonneg l0 Q0
  omega

theorem half_low {U u h l q r : Int} (hi : HalfIn U u h l) (hh : Half U u h l q r) (hc : 4294967296 ≤ q ∨ r * 4294967296 + u < q * l) : Half U u h l (q - 1) (r + h) ∧ 1 ≤ q := by
  obtain ⟨h0, h1, l0, l1, U0, U1, u0, u1⟩ := hi
  obtain ⟨e, r0, q0, hq⟩ := hh
  have Y0 : 0 < h * 4294967296 + l := by omega
  have lt : (U * 4294967296 + u) / (h * 4294967296 + l) < q := by
    rcases hc with hc | hc
    · have : (U * 4294967296 + u) / (h * 4294967296 + l) < 4294967296 := Int.ediv_lt_of_lt_mul Y0 (by omega)
      omega
    · refine Int.ediv_lt_of_lt_mul Y0 ?_
      rw [Int.mul_add, ← Int.mul_assoc]
      omega
  have Q0 : 0 ≤ (U * 4294967296 + u) / (h * 4294967296 + l) := Int.ediv_nonneg (by omega) (by omega)
  refine ⟨⟨?_, by omega, by omega, by omega⟩, by omega⟩
  rw [Int.sub_mul]
  omega
theorem half_end {U u h l q r : Int} (hi : HalfIn U u h l) (hh : Half U u h l q r) (hc : (q < 4294967296 ∧ q * l ≤ r * 4294967296 + u) ∨ 4294967296 ≤ r) : q = (U * 4294967296 + u) / (h * 4294967296 + l) := by
  obtain ⟨h0, h1, l0, l1, U0, U1, u0, u1⟩ := hi
  obtain ⟨e, r0, q0, hq⟩ := hh
  have Y0 : 0 < h * 4294967296 + l := by omega
  have key : q * l ≤ r * 4294967296 + u := by
    rcases hc with hc | hc
    · exact hc.2
    · have ql : q < 4294967296 := by
        rcases (by omega : q < 4294967296 ∨ 4294967296 ≤ q) with hq2 | hq2
        · exact hq2
        · have := Int.mul_le_mul_of_nonneg_right hq2 (show 0 ≤ h by omega)
          omega
      have := Int.mul_le_mul_of_nonneg_right (show q ≤ 4294967296 by omega) l0
      omega
  have : q ≤ (U * 4294967296 + u) / (h * 4294967296 + l) := by
    refine Int.le_ediv_of_mul_le Y0 ?_
    rw [Int.mul_add, ← Int.mul_assoc]
    omega
  omega
/-- The bounds of a digit on its way: nothing runs over. -/
theorem half_room {U u h l q r : Int} (hi : HalfIn U u h l) (hh : Half U u h l q r) : q < 8589934592 := by
  obtain ⟨h0, h1, l0, l1, U0, U1, u0, u1⟩ := hi
  obtain ⟨e, r0, q0, hq⟩ := hh
  rcases (by omega : q < 8589934592 ∨ 8589934592 ≤ q) with hq2 | hq2
  · exact hq2
  · have := Int.mul_le_mul_of_nonneg_right hq2 (show 0 ≤ h by omega)
    omega
theorem half_prod {l q : Int} (q0 : 0 ≤ q) (q1 : q < 4294967296) (l0 : 0 ≤ l) (l1 : l < 4294967296) : 0 ≤ q * l ∧ q * l ≤ 18446744065119617025 := by
  have a := Int.mul_le_mul_of_nonneg_right (show q ≤ 4294967295 by omega) l0
  exact ⟨Int.mul_nonneg q0 l0, by omega⟩
/-- What is left behind a digit. -/
theorem half_rest {U u h l : Int} (hi : HalfIn U u h l) : (U * 4294967296 + u) / (h * 4294967296 + l) < 4294967296 ∧ 0 ≤ (U * 4294967296 + u) / (h * 4294967296 + l) ∧ 0 ≤ (U * 4294967296 + u) % (h * 4294967296 + l) ∧ (U * 4294967296 + u) % (h * 4294967296 + l) < h * 4294967296 + l ∧
    U * 4294967296 + u - (U * 4294967296 + u) / (h * 4294967296 + l) * (h * 4294967296 + l) = (U * 4294967296 + u) % (h * 4294967296 + l) := by
  obtain ⟨h0, h1, l0, l1, U0, U1, u0, u1⟩ := hi
  have Y0 : 0 < h * 4294967296 + l := by omega
  refine ⟨Int.ediv_lt_of_lt_mul Y0 (by omega), Int.ediv_nonneg (by omega) (by omega), Int.emod_nonneg _ (by omega), Int.emod_lt_of_pos _ Y0, ?_⟩
  have e2 := Int.mul_ediv_add_emod (U * 4294967296 + u) (h * 4294967296 + l)
  rw [Int.mul_comm] at e2
  omega
/-- The two digits make the quotient. -/
theorem halves {A Y U u1 u0 : Int} (hY : 0 < Y) (hA : A = (U * 4294967296 + u1) * 4294967296 + u0) :
    (U * 4294967296 + u1) / Y * 4294967296 + ((U * 4294967296 + u1) % Y * 4294967296 + u0) / Y = A / Y := by
  have e1 := Int.mul_ediv_add_emod (U * 4294967296 + u1) Y
  generalize (U * 4294967296 + u1) / Y = Q at *
  generalize (U * 4294967296 + u1) % Y = R at *
  have e2 := Int.mul_ediv_add_emod (R * 4294967296 + u0) Y
  have m0 := Int.emod_nonneg (R * 4294967296 + u0) (show Y ≠ 0 by omega)
  have m1 := Int.emod_lt_of_pos (R * 4294967296 + u0) hY
  generalize (R * 4294967296 + u0) / Y = Q2 at *
  generalize (R * 4294967296 + u0) % Y = R2 at *
  refine ((ediv_is hY (q := Q * 4294967296 + Q2) (r := R2) ?_ m0 m1).1).symm
  rw [Int.add_mul, Int.mul_right_comm, Int.mul_comm Q Y, Int.mul_comm Q2 Y]
  omega

theorem wraps_u64 (n : Int) (h0 : 0 ≤ n) (h1 : n < 2 ^ 64) : IntKind.u64.wrap n = n := by rw [IntKind.wrap_u64]; omega
theorem nor64 (x y : Nat) (hx : x < 18446744073709551616) (hy : y < 18446744073709551616) : bits .or .u64 (x : Int) (y : Int) = ((x ||| y : Nat) : Int) := (bits_nat .u64 64 (by decide) wraps_u64 x y (by omega) (by omega)).2
theorem nand64 (x y : Nat) (hx : x < 18446744073709551616) (hy : y < 18446744073709551616) : bits .and .u64 (x : Int) (y : Int) = ((x &&& y : Nat) : Int) := (bits_nat .u64 64 (by decide) wraps_u64 x y (by omega) (by omega)).1
/-- What is shifted up, and what lies below. -/
theorem or_up {x b : Int} (s : Nat) (x0 : 0 ≤ x) (b0 : 0 ≤ b) (b1 : b < 2 ^ s) (h : x * 2 ^ s + b < 18446744073709551616) : bits .or .u64 (x * 2 ^ s) b = x * 2 ^ s + b := by
  obtain ⟨X, rfl⟩ : ∃ X : Nat, x = (X : Int) := ⟨x.toNat, by omega⟩
  obtain ⟨B, rfl⟩ : ∃ B : Nat, b = (B : Int) := ⟨b.toNat, by omega⟩
  have e : ((X : Int) * 2 ^ s) = ((X * 2 ^ s : Nat) : Int) := by push_cast; rfl
  have hB : B < 2 ^ s := by
    have : ((2 ^ s : Nat) : Int) = (2 : Int) ^ s := by push_cast; rfl
    omega
  rw [e] at h ⊢
  rw [nor64 _ _ (by omega) (by omega), ← Nat.shiftLeft_eq, ← Nat.shiftLeft_add_eq_or_of_lt hB]
  push_cast
  rfl
theorem low32 {x : Int} (x0 : 0 ≤ x) (x1 : x < 18446744073709551616) : bits .and .u64 x 4294967295 = x % 4294967296 := by
  obtain ⟨X, rfl⟩ : ∃ X : Nat, x = (X : Int) := ⟨x.toNat, by omega⟩
  rw [show (4294967295 : Int) = ((4294967295 : Nat) : Int) from rfl, nand64 _ _ (by omega) (by omega), show (4294967295 : Nat) = 2 ^ 32 - 1 from rfl, Nat.and_two_pow_sub_one_eq_mod]
  show ((X % 4294967296 : Nat) : Int) = _
  omega
/-- A number of 128 bits, shifted: its upper 64 bits, and its lower ones. -/
theorem shift_parts {hi lo : Int} {s : Nat} (hs : s ≤ 64) (l0 : 0 ≤ lo) (l1 : lo < 18446744073709551616) :
    0 ≤ lo / 2 ^ (64 - s) ∧ lo / 2 ^ (64 - s) < 2 ^ s ∧ (hi * 18446744073709551616 + lo) * 2 ^ s = (hi * 2 ^ s + lo / 2 ^ (64 - s)) * 18446744073709551616 + lo * 2 ^ s % 18446744073709551616 := by
  have p1 : (0 : Int) < 2 ^ s := Int.pow_pos (by decide)
  have p2 : (0 : Int) < 2 ^ (64 - s) := Int.pow_pos (by decide)
  have e : (2 : Int) ^ (64 - s) * 2 ^ s = 18446744073709551616 := by rw [← Int.pow_add, show 64 - s + s = 64 by omega]; rfl
  have e2 : lo * 2 ^ s / 18446744073709551616 = lo / 2 ^ (64 - s) := by rw [← e]; exact Int.mul_ediv_mul_of_pos_left _ _ p1
  refine ⟨Int.ediv_nonneg l0 (by omega), Int.ediv_lt_of_lt_mul p2 (by rw [Int.mul_comm, e]; exact l1), ?_⟩
  have e3 := Int.mul_ediv_add_emod (lo * 2 ^ s) 18446744073709551616
  rw [e2] at e3
  rw [Int.add_mul, Int.add_mul, Int.mul_right_comm hi]
  omega

end Go.Proofs.Ythpdeaappchnpaa
