/-
  What math/bits' RotateLeft32 and the package's rotr answer at the ten turns in use, for stage 6 (sha).
-/
import Derived.Test.YtgldoppcillljaaDoorShaT
namespace Go.Proofs.YtgldoppcillljaaDoor
open Go.RowKit
set_option linter.unusedVariables false

theorem bits_or_comm (k : IntKind) (a b : Int) : bits .or k a b = bits .or k b a := by
  show k.wrap ((BitVec.ofInt k.bits a ||| BitVec.ofInt k.bits b).toNat : Int) = k.wrap ((BitVec.ofInt k.bits b ||| BitVec.ofInt k.bits a).toNat : Int)
  rw [BitVec.or_comm]
set_option maxHeartbeats 2000000 in
theorem rotl_any (x n : Int) (k : Nat) (w : World) (hk : n = -(k : Int)) (hn : Turns k) (h0 : 0 ≤ x) (h1 : x ≤ 4294967295) : Calls Tryd.prog 34 #[.int .u32 x, .int .i64 n] w fun e w' => e = .returned (.int .u32 (rotZ x k)) ∧ w' = w := by
  subst hk
  unfold Turns at hn
  rcases hn with rfl | rfl | rfl | rfl | rfl | rfl | rfl | rfl | rfl | rfl
  · have R := rot2_is h0 h1
    rw [bits_or_comm] at R
    rw [show (-((2 : Nat) : Int)) = -2 by rfl]
    have W : IntKind.u64.wrap (-2) = 18446744073709551614 := by kernel_rfl
    have B : bits .and .u64 18446744073709551614 31 = 30 := by kernel_rfl
    generalize rotZ x 2 = y at *
    go_enter Tryd.func34, Tryd.ntmps34
    go_wp2_with fail
    go_ret
    exact ⟨rfl, rfl⟩
  · have R := rot6_is h0 h1
    rw [bits_or_comm] at R
    rw [show (-((6 : Nat) : Int)) = -6 by rfl]
    have W : IntKind.u64.wrap (-6) = 18446744073709551610 := by kernel_rfl
    have B : bits .and .u64 18446744073709551610 31 = 26 := by kernel_rfl
    generalize rotZ x 6 = y at *
    go_enter Tryd.func34, Tryd.ntmps34
    go_wp2_with fail
    go_ret
    exact ⟨rfl, rfl⟩
  · have R := rot7_is h0 h1
    rw [bits_or_comm] at R
    rw [show (-((7 : Nat) : Int)) = -7 by rfl]
    have W : IntKind.u64.wrap (-7) = 18446744073709551609 := by kernel_rfl
    have B : bits .and .u64 18446744073709551609 31 = 25 := by kernel_rfl
    generalize rotZ x 7 = y at *
    go_enter Tryd.func34, Tryd.ntmps34
    go_wp2_with fail
    go_ret
    exact ⟨rfl, rfl⟩
  · have R := rot11_is h0 h1
    rw [bits_or_comm] at R
    rw [show (-((11 : Nat) : Int)) = -11 by rfl]
    have W : IntKind.u64.wrap (-11) = 18446744073709551605 := by kernel_rfl
    have B : bits .and .u64 18446744073709551605 31 = 21 := by kernel_rfl
    generalize rotZ x 11 = y at *
    go_enter Tryd.func34, Tryd.ntmps34
    go_wp2_with fail
    go_ret
    exact ⟨rfl, rfl⟩
  · have R := rot13_is h0 h1
    rw [bits_or_comm] at R
    rw [show (-((13 : Nat) : Int)) = -13 by rfl]
    have W : IntKind.u64.wrap (-13) = 18446744073709551603 := by kernel_rfl
    have B : bits .and .u64 18446744073709551603 31 = 19 := by kernel_rfl
    generalize rotZ x 13 = y at *
    go_enter Tryd.func34, Tryd.ntmps34
    go_wp2_with fail
    go_ret
    exact ⟨rfl, rfl⟩
  · have R := rot17_is h0 h1
    rw [bits_or_comm] at R
    rw [show (-((17 : Nat) : Int)) = -17 by rfl]
    have W : IntKind.u64.wrap (-17) = 18446744073709551599 := by kernel_rfl
    have B : bits .and .u64 18446744073709551599 31 = 15 := by kernel_rfl
    generalize rotZ x 17 = y at *
    go_enter Tryd.func34, Tryd.ntmps34
    go_wp2_with fail
    go_ret
    exact ⟨rfl, rfl⟩
  · have R := rot18_is h0 h1
    rw [bits_or_comm] at R
    rw [show (-((18 : Nat) : Int)) = -18 by rfl]
    have W : IntKind.u64.wrap (-18) = 18446744073709551598 := by kernel_rfl
    have B : bits .and .u64 18446744073709551598 31 = 14 := by kernel_rfl
    generalize rotZ x 18 = y at *
    go_enter Tryd.func34, Tryd.ntmps34
    go_wp2_with fail
    go_ret
    exact ⟨rfl, rfl⟩
  · have R := rot19_is h0 h1
    rw [bits_or_comm] at R
    rw [show (-((19 : Nat) : Int)) = -19 by rfl]
    have W : IntKind.u64.wrap (-19) = 18446744073709551597 := by kernel_rfl
    have B : bits .and .u64 18446744073709551597 31 = 13 := by kernel_rfl
    generalize rotZ x 19 = y at *
    go_enter Tryd.func34, Tryd.ntmps34
    go_wp2_with fail
    go_ret
    exact ⟨rfl, rfl⟩
  · have R := rot22_is h0 h1
    rw [bits_or_comm] at R
    rw [show (-((22 : Nat) : Int)) = -22 by rfl]
    have W : IntKind.u64.wrap (-22) = 18446744073709551594 := by kernel_rfl
    have B : bits .and .u64 18446744073709551594 31 = 10 := by kernel_rfl
    generalize rotZ x 22 = y at *
    go_enter Tryd.func34, Tryd.ntmps34
    go_wp2_with fail
    go_ret
    exact ⟨rfl, rfl⟩
  · have R := rot25_is h0 h1
    rw [bits_or_comm] at R
    rw [show (-((25 : Nat) : Int)) = -25 by rfl]
    have W : IntKind.u64.wrap (-25) = 18446744073709551591 := by kernel_rfl
    have B : bits .and .u64 18446744073709551591 31 = 7 := by kernel_rfl
    generalize rotZ x 25 = y at *
    go_enter Tryd.func34, Tryd.ntmps34
    go_wp2_with fail
    go_ret
    exact ⟨rfl, rfl⟩
theorem rotr_any (x n : Int) (k : Nat) (w : World) (hk : n = (k : Int)) (hn : Turns k) (h0 : 0 ≤ x) (h1 : x ≤ 4294967295) : Calls Tryd.prog 31 #[.int .u32 x, .int .i64 n] w fun e w' => e = .returned (.int .u32 (rotZ x k)) ∧ w' = w := by
  subst hk
  have C := Lib.hid (fun W => rotl_any x (-(k : Int)) k W rfl hn h0 h1)
  have kb : (k : Int) ≤ 25 := by unfold Turns at hn; omega
  have wk : IntKind.i64.wrap (-(k : Int)) = -(k : Int) := IntWalk.i64_in _ (by omega)
  generalize rotZ x k = y at *
  go_enter Tryd.func31, Tryd.ntmps31
  go_wp2_with fail
  refine (C.out _).mono ?_
  rintro e w2 ⟨rfl, hw⟩
  subst hw
  go_wp2_with fail
  go_ret
  exact ⟨rfl, rfl⟩

end Go.Proofs.YtgldoppcillljaaDoor
