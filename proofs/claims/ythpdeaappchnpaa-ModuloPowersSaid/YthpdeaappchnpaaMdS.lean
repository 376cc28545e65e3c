/-
  The walk of stage 8's second law (modulo): products and powers.
-/
import Derived.Test.YthpdeaappchnpaaMdQ
namespace Go.Proofs.Ythpdeaappchnpaa
open Go.RowKit
set_option linter.unusedVariables false

set_option maxHeartbeats 1000000 in
set_option maxRecDepth 100000 in
theorem powers_walk (x : Int) (ax : Option Addr) (nx cx : Nat) (y : Int) (ay : Option Addr) (ny cy : Nat) (z : Int) (az : Option Addr) (nz cz : Nat) (w : World) (hx : Num w x ax nx cx) (hy : Num w y ay ny cy) (hz : Num w z az nz cz) :
    Calls Try.prog 4 #[.slice ax nx cx, .slice ay ny cy, .slice az nz cz] w fun e w' => e = .returned (.bool true) ∧ Below w.heap.size w w' := by
  have Hx_0 := Lib.hid hx
  have Nx := Lib.hid hx.nonneg.1
  clear hx
  have Hy_0 := Lib.hid hy
  have Ny := Lib.hid hy.nonneg.1
  clear hy
  have Hz_0 := Lib.hid hz
  have Nz := Lib.hid hz.nonneg.1
  clear hz
  have AW := Lib.hid (awake_any w)
  go_enter Try.func4, Try.ntmps4
  go_wp2_with fail
  refine AW.out.mono ?_
  rintro e w1 ⟨rfl, hb⟩
  clear AW
  have S1 := Lib.hid hb
  have Hx_1 := Lib.hid (Hx_0.out.below hb)
  have Hy_1 := Lib.hid (Hy_0.out.below hb)
  have Hz_1 := Lib.hid (Hz_0.out.below hb)
  clear hb
  have B1 := Lib.hid S1.out
  by_cases qx : 20 < nx
  · have tx : decide ((20 : Int) < (nx : Int)) = true := by simp; omega
    go_wp2_with fail
    go_ret
    exact ⟨rfl, B1.out⟩
  have tx : decide ((20 : Int) < (nx : Int)) = false := by simp; omega
  by_cases qy : 3 < ny
  · have ty : decide ((3 : Int) < (ny : Int)) = true := by simp; omega
    go_wp2_with fail
    go_ret
    exact ⟨rfl, B1.out⟩
  have ty : decide ((3 : Int) < (ny : Int)) = false := by simp; omega
  by_cases qz : 20 < nz
  · have tz : decide ((20 : Int) < (nz : Int)) = true := by simp; omega
    go_wp2_with fail
    go_ret
    exact ⟨rfl, B1.out⟩
  have tz : decide ((20 : Int) < (nz : Int)) = false := by simp; omega
  go_wp2_with fail
  refine (mmul_call Hx_1.out Hy_1.out Hz_1.out (by omega) (by omega) (by omega)).mono ?_
  rintro e w2 ⟨ap, np, cp, rfl, hN, kp, hb⟩
  have S2 := Lib.hid hb
  have B2 := Lib.hid (Below.step B1.out hb)
  have Hx_2 := Lib.hid (Hx_1.out.below hb)
  have Hy_2 := Lib.hid (Hy_1.out.below hb)
  have Hz_2 := Lib.hid (Hz_1.out.below hb)
  clear hb
  have Hp_2 := Lib.hid hN
  clear hN
  go_wp2_with fail
  refine (rmmul_call Hx_2.out Hy_2.out Hz_2.out (by omega) (by omega) (by omega)).mono ?_
  rintro e w3 ⟨aq, nq, cq, rfl, hN, kq, hb⟩
  have S3 := Lib.hid hb
  have B3 := Lib.hid (Below.step B2.out hb)
  have Hx_3 := Lib.hid (Hx_2.out.below hb)
  have Hy_3 := Lib.hid (Hy_2.out.below hb)
  have Hz_3 := Lib.hid (Hz_2.out.below hb)
  have Hp_3 := Lib.hid (Hp_2.out.below hb)
  clear hb
  have Hq_3 := Lib.hid hN
  clear hN
  go_wp2_with fail
  refine (exp_call Hx_3.out Hy_3.out Hz_3.out (by omega) (by omega) (by omega)).mono ?_
  rintro e w4 ⟨au, nu, cu, rfl, hN, ku, hb⟩
  have S4 := Lib.hid hb
  have B4 := Lib.hid (Below.step B3.out hb)
  have Hx_4 := Lib.hid (Hx_3.out.below hb)
  have Hy_4 := Lib.hid (Hy_3.out.below hb)
  have Hz_4 := Lib.hid (Hz_3.out.below hb)
  have Hp_4 := Lib.hid (Hp_3.out.below hb)
  have Hq_4 := Lib.hid (Hq_3.out.below hb)
  clear hb
  have Hu_4 := Lib.hid hN
  clear hN
  go_wp2_with fail
  refine (rexp_call Hx_4.out Hy_4.out Hz_4.out (by omega) (by omega) (by omega)).mono ?_
  rintro e w5 ⟨av, nv, cv, rfl, hN, kv, hb⟩
  have S5 := Lib.hid hb
  have B5 := Lib.hid (Below.step B4.out hb)
  have Hx_5 := Lib.hid (Hx_4.out.below hb)
  have Hy_5 := Lib.hid (Hy_4.out.below hb)
  have Hz_5 := Lib.hid (Hz_4.out.below hb)
  have Hp_5 := Lib.hid (Hp_4.out.below hb)
  have Hq_5 := Lib.hid (Hq_4.out.below hb)
  have Hu_5 := Lib.hid (Hu_4.out.below hb)
  clear hb
  have Hv_5 := Lib.hid hN
  clear hN
  generalize (!decide (z = 0)) = bb at *
  go_wp2_with fail
  refine (same_call Hp_5.out Hq_5.out (by omega)).mono ?_
  rintro e w6 ⟨rfl, hb⟩
  have S6 := Lib.hid hb
  have B6 := Lib.hid (Below.step B5.out hb)
  have Hx_6 := Lib.hid (Hx_5.out.below hb)
  have Hy_6 := Lib.hid (Hy_5.out.below hb)
  have Hz_6 := Lib.hid (Hz_5.out.below hb)
  have Hp_6 := Lib.hid (Hp_5.out.below hb)
  have Hq_6 := Lib.hid (Hq_5.out.below hb)
  have Hu_6 := Lib.hid (Hu_5.out.below hb)
  have Hv_6 := Lib.hid (Hv_5.out.below hb)
  clear hb
  go_wp2_with fail
  refine (same_call Hu_6.out Hv_6.out (by omega)).mono ?_
  rintro e w7 ⟨rfl, hb⟩
  have S7 := Lib.hid hb
  have B7 := Lib.hid (Below.step B6.out hb)
  have Hx_7 := Lib.hid (Hx_6.out.below hb)
  have Hy_7 := Lib.hid (Hy_6.out.below hb)
  have Hz_7 := Lib.hid (Hz_6.out.below hb)
  have Hp_7 := Lib.hid (Hp_6.out.below hb)
  have Hq_7 := Lib.hid (Hq_6.out.below hb)
  have Hu_7 := Lib.hid (Hu_6.out.below hb)
  have Hv_7 := Lib.hid (Hv_6.out.below hb)
  clear hb
  go_wp2_with fail
  go_ret
  exact ⟨rfl, B7.out⟩

end Go.Proofs.Ythpdeaappchnpaa
