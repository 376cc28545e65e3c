/-
  What the library's bits.Div32 and the package's joined answer, for stage 8 (modulo).
-/
import Derived.Test.YthpdeaappchnpaaMdB
namespace Go.Proofs.Ythpdeaappchnpaa
open Go.RowKit
set_option linter.unusedVariables false

theorem joined_any (x y : Int) (w : World) (x0 : 0 ≤ x) (x1 : x ≤ 4294967295) (y0 : 0 ≤ y) (y1 : y ≤ 4294967295) :
    Calls Try.prog 45 #[.int .u32 x, .int .u32 y] w fun e w' => e = .returned (.int .u64 (x * 4294967296 + y)) ∧ w' = w := by
  have k1 : IntKind.u64.wrap x = x := IntWalk.u64_in _ (by omega)
  have k2 : IntKind.u64.wrap y = y := IntWalk.u64_in _ (by omega)
  have k3 : IntKind.u64.wrap (x * 4294967296) = x * 4294967296 := IntWalk.u64_in _ (by omega)
  have k4 : bits .or .u64 (x * 4294967296) y = x * 4294967296 + y := or_up (x := x) (b := y) 32 x0 y0 (by omega) (by omega)
  go_enter Try.func45, Try.ntmps45
  go_wp2_with fail
  go_ret
  exact ⟨rfl, rfl⟩

set_option maxHeartbeats 1000000 in
set_option maxRecDepth 100000 in
theorem div32_any (hi lo m : Int) (w : World) (h0 : 0 ≤ hi) (h1 : hi < m) (l0 : 0 ≤ lo) (l1 : lo ≤ 4294967295) (m1 : m ≤ 4294967295) :
    Calls Try.prog 36 #[.int .u32 hi, .int .u32 lo, .int .u32 m] w fun e w' => e = .returned (.tuple #[.int .u32 ((hi * 4294967296 + lo) / m), .int .u32 ((hi * 4294967296 + lo) % m)]) ∧ Below w.heap.size w w' := by
  have t1 : (m != 0) = true := by simp; omega
  have t2 : decide (m ≤ hi) = false := by simp; omega
  have ne : ¬ m = 0 := by omega
  have k1 : IntKind.u64.wrap hi = hi := IntWalk.u64_in _ (by omega)
  have k2 : IntKind.u64.wrap lo = lo := IntWalk.u64_in _ (by omega)
  have k3 : IntKind.u64.wrap (hi * 4294967296) = hi * 4294967296 := IntWalk.u64_in _ (by omega)
  have k4 : bits .or .u64 (hi * 4294967296) lo = hi * 4294967296 + lo := or_up (x := hi) (b := lo) 32 h0 l0 (by omega) (by omega)
  have k5 : IntKind.u64.wrap m = m := IntWalk.u64_in _ (by omega)
  obtain ⟨T, hT⟩ : ∃ T, hi * 4294967296 + lo = T := ⟨_, rfl⟩
  rw [hT] at k4 ⊢
  have T0 : 0 ≤ T := by omega
  have q0 : 0 ≤ T / m := Int.ediv_nonneg T0 (by omega)
  have q1 : T / m < 4294967296 := Int.ediv_lt_of_lt_mul (by omega) (by omega)
  have r0 : 0 ≤ T % m := Int.emod_nonneg _ ne
  have r1 : T % m < m := Int.emod_lt_of_pos _ (by omega)
  have e1 : T.tdiv m = T / m := Int.tdiv_eq_ediv_of_nonneg T0
  have e2 : T.tmod m = T % m := Int.tmod_eq_emod_of_nonneg T0
  have k6 : IntKind.u64.wrap (T / m) = T / m := IntWalk.u64_in _ (by omega)
  have k7 : IntKind.u32.wrap (T / m) = T / m := IntWalk.u32_in _ (by omega)
  have k8 : IntKind.u64.wrap (T % m) = T % m := IntWalk.u64_in _ (by omega)
  have k9 : IntKind.u32.wrap (T % m) = T % m := IntWalk.u32_in _ (by omega)
  clear hT q0 q1 r0 r1 T0
  go_enter Try.func36, Try.ntmps36
  go_wp2_with fail
  go_quiet (fail)
  go_wp2_with fail
  go_ret2
  exact ⟨rfl, drewN_below w nq⟩

/-- The library's Div64, whatever the upper half is. -/
theorem div64_all (hi lo y : Int) (w : World) (h0 : 0 ≤ hi) (h1 : hi < y) (l0 : 0 ≤ lo) (l1 : lo < 18446744073709551616) (y1 : y < 18446744073709551616) :
    Calls Try.prog 44 #[.int .u64 hi, .int .u64 lo, .int .u64 y] w fun e w' => (∃ r, e = .returned (.tuple #[.int .u64 ((hi * 18446744073709551616 + lo) / y), .int .u64 r])) ∧ Below w.heap.size w w' := by
  rcases (show hi = 0 ∨ 0 < hi by omega) with rfl | h
  · refine (div64_low lo y w l0 l1 (by omega) y1).mono ?_
    rintro e w' ⟨n, rfl, r, rfl⟩
    exact ⟨⟨r, by rw [Int.zero_mul, Int.zero_add]⟩, drewN_below w n⟩
  · refine (div64_any hi lo y w h h1 l0 l1 y1).mono ?_
    rintro e w' ⟨rfl, r, rfl⟩
    exact ⟨⟨r, rfl⟩, Below.refl _ _⟩

end Go.Proofs.Ythpdeaappchnpaa
