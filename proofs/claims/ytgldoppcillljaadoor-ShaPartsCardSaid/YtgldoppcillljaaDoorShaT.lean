/-
  What the reference's turned and constants answer, for stage 6 (sha). Made by tools/mkturn.py.
-/
import Derived.Test.YtgldoppcillljaaDoorShaP
import Derived.Test.YtgldoppcillljaaDoorRow32
import Derived.Lib.EndianBits
namespace Go.Proofs.YtgldoppcillljaaDoor
open Go.RowKit
set_option linter.unusedVariables false

theorem rot2_is {x : Int} (h0 : 0 ≤ x) (h1 : x ≤ 4294967295) : bits .or .u32 (x / 4) (x * 1073741824 % 4294967296) = rotZ x 2 := by
  have e : x * 1073741824 % 4294967296 = x % 4 * 1073741824 := by omega
  have r : rotZ x 2 = x / 4 + x % 4 * 1073741824 := rfl
  rw [e, r]
  exact bits_join_low .u32 32 (by decide) (fun n h0 h1 => IntWalk.u32_in _ (by omega)) 30 _ _ (by omega) (by omega) (by omega) (by omega) (by omega) (by omega)
theorem rot6_is {x : Int} (h0 : 0 ≤ x) (h1 : x ≤ 4294967295) : bits .or .u32 (x / 64) (x * 67108864 % 4294967296) = rotZ x 6 := by
  have e : x * 67108864 % 4294967296 = x % 64 * 67108864 := by omega
  have r : rotZ x 6 = x / 64 + x % 64 * 67108864 := rfl
  rw [e, r]
  exact bits_join_low .u32 32 (by decide) (fun n h0 h1 => IntWalk.u32_in _ (by omega)) 26 _ _ (by omega) (by omega) (by omega) (by omega) (by omega) (by omega)
theorem rot7_is {x : Int} (h0 : 0 ≤ x) (h1 : x ≤ 4294967295) : bits .or .u32 (x / 128) (x * 33554432 % 4294967296) = rotZ x 7 := by
  have e : x * 33554432 % 4294967296 = x % 128 * 33554432 := by omega
  have r : rotZ x 7 = x / 128 + x % 128 * 33554432 := rfl
  rw [e, r]
  exact bits_join_low .u32 32 (by decide) (fun n h0 h1 => IntWalk.u32_in _ (by omega)) 25 _ _ (by omega) (by omega) (by omega) (by omega) (by omega) (by omega)
theorem rot11_is {x : Int} (h0 : 0 ≤ x) (h1 : x ≤ 4294967295) : bits .or .u32 (x / 2048) (x * 2097152 % 4294967296) = rotZ x 11 := by
  have e : x * 2097152 % 4294967296 = x % 2048 * 2097152 := by omega
  have r : rotZ x 11 = x / 2048 + x % 2048 * 2097152 := rfl
  rw [e, r]
  exact bits_join_low .u32 32 (by decide) (fun n h0 h1 => IntWalk.u32_in _ (by omega)) 21 _ _ (by omega) (by omega) (by omega) (by omega) (by omega) (by omega)
theorem rot13_is {x : Int} (h0 : 0 ≤ x) (h1 : x ≤ 4294967295) : bits .or .u32 (x / 8192) (x * 524288 % 4294967296) = rotZ x 13 := by
  have e : x * 524288 % 4294967296 = x % 8192 * 524288 := by omega
  have r : rotZ x 13 = x / 8192 + x % 8192 * 524288 := rfl
  rw [e, r]
  exact bits_join_low .u32 32 (by decide) (fun n h0 h1 => IntWalk.u32_in _ (by omega)) 19 _ _ (by omega) (by omega) (by omega) (by omega) (by omega) (by omega)
theorem rot17_is {x : Int} (h0 : 0 ≤ x) (h1 : x ≤ 4294967295) : bits .or .u32 (x / 131072) (x * 32768 % 4294967296) = rotZ x 17 := by
  have e : x * 32768 % 4294967296 = x % 131072 * 32768 := by omega
  have r : rotZ x 17 = x / 131072 + x % 131072 * 32768 := rfl
  rw [e, r]
  exact bits_join_low .u32 32 (by decide) (fun n h0 h1 => IntWalk.u32_in _ (by omega)) 15 _ _ (by omega) (by omega) (by omega) (by omega) (by omega) (by omega)
theorem rot18_is {x : Int} (h0 : 0 ≤ x) (h1 : x ≤ 4294967295) : bits .or .u32 (x / 262144) (x * 16384 % 4294967296) = rotZ x 18 := by
  have e : x * 16384 % 4294967296 = x % 262144 * 16384 := by omega
  have r : rotZ x 18 = x / 262144 + x % 262144 * 16384 := rfl
  rw [e, r]
  exact bits_join_low .u32 32 (by decide) (fun n h0 h1 => IntWalk.u32_in _ (by omega)) 14 _ _ (by omega) (by omega) (by omega) (by omega) (by omega) (by omega)
theorem rot19_is {x : Int} (h0 : 0 ≤ x) (h1 : x ≤ 4294967295) : bits .or .u32 (x / 524288) (x * 8192 % 4294967296) = rotZ x 19 := by
  have e : x * 8192 % 4294967296 = x % 524288 * 8192 := by omega
  have r : rotZ x 19 = x / 524288 + x % 524288 * 8192 := rfl
  rw [e, r]
  exact bits_join_low .u32 32 (by decide) (fun n h0 h1 => IntWalk.u32_in _ (by omega)) 13 _ _ (by omega) (by omega) (by omega) (by omega) (by omega) (by omega)
theorem rot22_is {x : Int} (h0 : 0 ≤ x) (h1 : x ≤ 4294967295) : bits .or .u32 (x / 4194304) (x * 1024 % 4294967296) = rotZ x 22 := by
  have e : x * 1024 % 4294967296 = x % 4194304 * 1024 := by omega
  have r : rotZ x 22 = x / 4194304 + x % 4194304 * 1024 := rfl
  rw [e, r]
  exact bits_join_low .u32 32 (by decide) (fun n h0 h1 => IntWalk.u32_in _ (by omega)) 10 _ _ (by omega) (by omega) (by omega) (by omega) (by omega) (by omega)
theorem rot25_is {x : Int} (h0 : 0 ≤ x) (h1 : x ≤ 4294967295) : bits .or .u32 (x / 33554432) (x * 128 % 4294967296) = rotZ x 25 := by
  have e : x * 128 % 4294967296 = x % 33554432 * 128 := by omega
  have r : rotZ x 25 = x / 33554432 + x % 33554432 * 128 := rfl
  rw [e, r]
  exact bits_join_low .u32 32 (by decide) (fun n h0 h1 => IntWalk.u32_in _ (by omega)) 7 _ _ (by omega) (by omega) (by omega) (by omega) (by omega) (by omega)
theorem rot_range (x : Int) (n : Nat) (h0 : 0 ≤ x) (h1 : x ≤ 4294967295) (hn : n ≤ 32) : W32 (rotZ x n) := by
  unfold W32 rotZ
  have hp : (0 : Int) < 2 ^ n := Int.pow_pos (by decide)
  have hq : (0 : Int) < 2 ^ (32 - n) := Int.pow_pos (by decide)
  have e : (2 : Int) ^ (32 - n) * 2 ^ n = 4294967296 := by rw [← Int.pow_add, Nat.sub_add_cancel hn]; rfl
  have m0 := Int.emod_nonneg x (Int.ne_of_gt hp)
  have m1 := Int.emod_lt_of_pos x hp
  have d0 : 0 ≤ x / 2 ^ n := Int.ediv_nonneg h0 (Int.le_of_lt hp)
  have d1 : x / 2 ^ n < 2 ^ (32 - n) := Int.ediv_lt_of_lt_mul hp (by rw [e]; omega)
  have k0 : 0 ≤ x % 2 ^ n * 2 ^ (32 - n) := Int.mul_nonneg m0 (Int.le_of_lt hq)
  have k1 : x % 2 ^ n * 2 ^ (32 - n) ≤ (2 ^ n - 1) * 2 ^ (32 - n) := Int.mul_le_mul_of_nonneg_right (by omega) (Int.le_of_lt hq)
  have k2 : ((2 : Int) ^ n - 1) * 2 ^ (32 - n) = 4294967296 - 2 ^ (32 - n) := by rw [Int.sub_mul, Int.one_mul, Int.mul_comm, e]
  omega
def Turns (n : Nat) : Prop := n = 2 ∨ n = 6 ∨ n = 7 ∨ n = 11 ∨ n = 13 ∨ n = 17 ∨ n = 18 ∨ n = 19 ∨ n = 22 ∨ n = 25
set_option maxHeartbeats 2000000 in
theorem rturn_any (x n : Int) (k : Nat) (w : World) (hk : n = (k : Int)) (hn : Turns k) (h0 : 0 ≤ x) (h1 : x ≤ 4294967295) : Calls Tryd.prog 26 #[.int .u32 x, .int .i64 n] w fun e w' => e = .returned (.int .u32 (rotZ x k)) ∧ ∃ q, w' = w.drewN q := by
  subst hk
  unfold Turns at hn
  rcases hn with rfl | rfl | rfl | rfl | rfl | rfl | rfl | rfl | rfl | rfl
  · have R := rot2_is h0 h1
    generalize rotZ x 2 = y at *
    go_enter Tryd.func26, Tryd.ntmps26
    go_wp2_with fail
    go_quiet (fail)
    go_wp2
    go_ret
    exact ⟨rfl, _, rfl⟩
  · have R := rot6_is h0 h1
    generalize rotZ x 6 = y at *
    go_enter Tryd.func26, Tryd.ntmps26
    go_wp2_with fail
    go_quiet (fail)
    go_wp2
    go_ret
    exact ⟨rfl, _, rfl⟩
  · have R := rot7_is h0 h1
    generalize rotZ x 7 = y at *
    go_enter Tryd.func26, Tryd.ntmps26
    go_wp2_with fail
    go_quiet (fail)
    go_wp2
    go_ret
    exact ⟨rfl, _, rfl⟩
  · have R := rot11_is h0 h1
    generalize rotZ x 11 = y at *
    go_enter Tryd.func26, Tryd.ntmps26
    go_wp2_with fail
    go_quiet (fail)
    go_wp2
    go_ret
    exact ⟨rfl, _, rfl⟩
  · have R := rot13_is h0 h1
    generalize rotZ x 13 = y at *
    go_enter Tryd.func26, Tryd.ntmps26
    go_wp2_with fail
    go_quiet (fail)
    go_wp2
    go_ret
    exact ⟨rfl, _, rfl⟩
  · have R := rot17_is h0 h1
    generalize rotZ x 17 = y at *
    go_enter Tryd.func26, Tryd.ntmps26
    go_wp2_with fail
    go_quiet (fail)
    go_wp2
    go_ret
    exact ⟨rfl, _, rfl⟩
  · have R := rot18_is h0 h1
    generalize rotZ x 18 = y at *
    go_enter Tryd.func26, Tryd.ntmps26
    go_wp2_with fail
    go_quiet (fail)
    go_wp2
    go_ret
    exact ⟨rfl, _, rfl⟩
  · have R := rot19_is h0 h1
    generalize rotZ x 19 = y at *
    go_enter Tryd.func26, Tryd.ntmps26
    go_wp2_with fail
    go_quiet (fail)
    go_wp2
    go_ret
    exact ⟨rfl, _, rfl⟩
  · have R := rot22_is h0 h1
    generalize rotZ x 22 = y at *
    go_enter Tryd.func26, Tryd.ntmps26
    go_wp2_with fail
    go_quiet (fail)
    go_wp2
    go_ret
    exact ⟨rfl, _, rfl⟩
  · have R := rot25_is h0 h1
    generalize rotZ x 25 = y at *
    go_enter Tryd.func26, Tryd.ntmps26
    go_wp2_with fail
    go_quiet (fail)
    go_wp2
    go_ret
    exact ⟨rfl, _, rfl⟩

end Go.Proofs.YtgldoppcillljaaDoor
