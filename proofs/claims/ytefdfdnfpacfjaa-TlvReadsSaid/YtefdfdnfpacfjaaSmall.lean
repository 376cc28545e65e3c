/-
  What the package's isTag, isConstructed, encodeLength and sizeWith answer, for stage 4 (tlv).
-/
import Derived.Test.YtefdfdnfpacfjaaSizeT
import Derived.Laws.BitsLemmas
import Derived.Lib.EndianBits
namespace Go.Proofs.Ytefdfdnfpacfjaa
open Go.RowKit

theorem wraps_i64' (n : Int) (h₀ : 0 ≤ n) (h₁ : n < 2 ^ 63) : IntKind.i64.wrap n = n := by rw [IntKind.wrap_i64]; omega
theorem and31 {z : Int} (h0 : 0 ≤ z) (h1 : z ≤ 255) : bits .and .i64 z 31 = z % 32 := bits_mask .i64 63 (by decide) wraps_i64' 5 (by decide) z h0 (by omega)
theorem and32 {z : Int} (h0 : 0 ≤ z) (h1 : z ≤ 9223372036854775807) : bits .and .i64 z 32 = z / 32 % 2 * 32 := by
  obtain ⟨a, rfl⟩ := Int.eq_ofNat_of_zero_le h0
  have ha : a < 2 ^ 63 := by omega
  rw [show (32 : Int) = ((32 : Nat) : Int) from rfl, (bits_nat .i64 63 (by decide) wraps_i64' a 32 ha (by decide)).1]
  have e : a &&& 32 = a / 32 % 2 * 32 := by
    refine Nat.eq_of_testBit_eq fun i => ?_
    rw [Nat.testBit_and, show (32 : Nat) = 2 ^ 5 from rfl, Nat.testBit_two_pow]
    rcases Nat.mod_two_eq_zero_or_one (a / 2 ^ 5) with h | h
    · rw [h, Nat.zero_mul, Nat.zero_testBit]
      by_cases hi : 5 = i
      · subst hi
        rw [Nat.testBit_eq_decide_div_mod_eq, h]
        rfl
      · simp [hi]
    · rw [h, Nat.one_mul, Nat.testBit_two_pow]
      by_cases hi : 5 = i
      · subst hi
        rw [Nat.testBit_eq_decide_div_mod_eq, h]
        rfl
      · simp [hi]
  rw [e]
  omega

set_option maxHeartbeats 400000 in
theorem ttag_any (z : Int) (w : World) (hz : (Lit.int .i64 z).wf = true) : Calls Try.prog 32 #[.int .i64 z] w fun e w' => e = .returned (.bool (tagB z)) ∧ w = w' := by
  have hb := bounds_i64 hz
  by_cases h0 : 0 ≤ z
  · by_cases h1 : z ≤ 255
    · have F : Hid (tagB z = (z % 32 != 31)) := by
        have h2 : z < 256 := by omega
        simp [tagB, h0, h2, Hid]
      have A := and31 h0 h1
      go_enter Try.func32, Try.ntmps32
      go_wp2_with fail
      go_ret
      exact ⟨ret_bool F.out.symm, rfl⟩
    · have F : Hid (tagB z = false) := by
        have h2 : ¬ z < 256 := by omega
        simp [tagB, h2, Hid]
      go_enter Try.func32, Try.ntmps32
      go_wp2_with fail
      go_ret
      exact ⟨ret_bool F.out.symm, rfl⟩
  · have F : Hid (tagB z = false) := by simp [tagB, h0, Hid]
    go_enter Try.func32, Try.ntmps32
    go_wp2_with fail
    go_ret
    exact ⟨ret_bool F.out.symm, rfl⟩

theorem within_pos {z : Int} (h0 : 0 ≤ z) : withinB z = (z / 32 % 2 * 32 != 0) := by
  unfold withinB
  rw [Int.tdiv_eq_ediv_of_nonneg h0, Int.tmod_eq_emod_of_nonneg (by omega)]
  rcases (show z / 32 % 2 = 0 ∨ z / 32 % 2 = 1 by omega) with h | h <;> rw [h] <;> rfl
theorem within_neg {z : Int} (h0 : ¬ 0 ≤ z) : withinB z = false := by
  unfold withinB
  have h1 : z.tdiv 32 ≤ 0 := by
    have := Int.neg_tdiv (-z) 32
    rw [show z = -(-z) by omega, Int.neg_tdiv, Int.tdiv_eq_ediv_of_nonneg (by omega)]
    omega
  have h2 : (z.tdiv 32).tmod 2 ≤ 0 := by
    rw [show z.tdiv 32 = -(-(z.tdiv 32)) by omega, Int.neg_tmod, Int.tmod_eq_emod_of_nonneg (by omega)]
    omega
  simp
  omega

set_option maxHeartbeats 400000 in
theorem twithin_any (z : Int) (w : World) (hz : (Lit.int .i64 z).wf = true) : Calls Try.prog 25 #[.int .i64 z] w fun e w' => e = .returned (.bool (withinB z)) ∧ w = w' := by
  have hb := bounds_i64 hz
  by_cases h0 : 0 ≤ z
  · have F := Lib.hid (within_pos h0)
    have A := and32 h0 (by omega)
    go_enter Try.func25, Try.ntmps25
    go_wp2_with fail
    go_ret
    exact ⟨ret_bool F.out.symm, rfl⟩
  · have F := Lib.hid (within_neg h0)
    go_enter Try.func25, Try.ntmps25
    go_wp2_with fail
    go_ret
    exact ⟨ret_bool F.out.symm, rfl⟩

set_option maxHeartbeats 400000 in
theorem tlength_any (z : Int) (w : World) (h0 : 0 ≤ z) (h1 : z ≤ 100000000) : Calls Try.prog 34 #[.int .i64 z] w (GivesLen z w) := by
  by_cases c1 : z < 128
  · go_enter Try.func34, Try.ntmps34
    go_wp2_with fail
    go_ret
    exact gives_len (zs := [z]) (by simp [lenB, c1]) h0 rfl
  by_cases c2 : z < 256
  · go_enter Try.func34, Try.ntmps34
    go_wp2_with fail
    go_ret
    exact gives_len (zs := [129, z]) (by rw [lenB, if_neg (by omega), if_pos c2]) h0 rfl
  · have F : Hid (lenB z = [130, z / 256 % 256, z % 256]) := by simp [lenB, c1, c2, Hid]
    go_enter Try.func34, Try.ntmps34
    go_wp2_with fail
    go_ret
    exact gives_len (zs := [130, z / 256 % 256, z % 256]) F.out h0 rfl

set_option maxHeartbeats 400000 in
theorem tsizeWith_any (z : Int) (w : World) (h0 : 0 ≤ z) (h1 : z ≤ 100000000) : Calls Try.prog 26 #[.int .i64 z] w fun e w' => e = .returned (.int .i64 (z + 1 + lenLen z)) ∧ Below w.heap.size w w' := by
  go_enter Try.func26, Try.ntmps26
  go_wp2_with fail
  refine (tlength_any _ _ h0 h1).mono ?_
  rintro e w2 ⟨a2, cc2, rfl, hrow, hb2⟩
  have B2 := Lib.hid hb2
  have LL := Lib.hid (lenB_length z)
  have hl3 := lenB_three z
  clear hrow hb2
  generalize (lenB z).length = L at LL hl3
  go_wp2_with fail
  go_ret
  exact ⟨ret_int (by rw [← LL.out]; omega), B2.out⟩

end Go.Proofs.Ytefdfdnfpacfjaa
