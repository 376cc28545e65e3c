/-
  The walk of stage 7's first law (limb): sums, products and differences.
-/
import Derived.Test.YtngoahbngckcfaaLnN
namespace Go.Proofs.Ytngoahbngckcfaa
open Go.RowKit
set_option linter.unusedVariables false

set_option maxHeartbeats 1000000 in
set_option maxRecDepth 100000 in
theorem reckons_walk (x : Int) (ax : Option Addr) (nx cx : Nat) (y : Int) (ay : Option Addr) (ny cy : Nat) (w : World) (hx : Num w x ax nx cx) (hy : Num w y ay ny cy) :
    Calls Try.prog 3 #[.slice ax nx cx, .slice ay ny cy] w fun e w' => e = .returned (.bool true) ∧ Below w.heap.size w w' := by
  have Hx_0 := Lib.hid hx
  have Nx := Lib.hid hx.nonneg.1
  clear hx
  have Hy_0 := Lib.hid hy
  have Ny := Lib.hid hy.nonneg.1
  clear hy
  have AW := Lib.hid (awake_any w)
  go_enter Try.func3, Try.ntmps3
  go_wp2_with fail
  refine AW.out.mono ?_
  rintro e w1 ⟨rfl, hb⟩
  clear AW
  have S1 := Lib.hid hb
  have Hx_1 := Lib.hid (Hx_0.out.below hb)
  have Hy_1 := Lib.hid (Hy_0.out.below hb)
  clear hb
  have B1 := Lib.hid S1.out
  by_cases qx : 150 < nx
  · have tx : decide ((150 : Int) < (nx : Int)) = true := by simp; omega
    go_wp2_with fail
    go_ret
    exact ⟨rfl, B1.out⟩
  have tx : decide ((150 : Int) < (nx : Int)) = false := by simp; omega
  by_cases qy : 150 < ny
  · have ty : decide ((150 : Int) < (ny : Int)) = true := by simp; omega
    go_wp2_with fail
    go_ret
    exact ⟨rfl, B1.out⟩
  have ty : decide ((150 : Int) < (ny : Int)) = false := by simp; omega
  go_wp2_with fail
  refine (add_call Hx_1.out Hy_1.out (by omega) (by omega)).mono ?_
  rintro e w2 ⟨ap, np, cp, rfl, hN, kp, hb⟩
  have S2 := Lib.hid hb
  have B2 := Lib.hid (Below.step B1.out hb)
  have Hx_2 := Lib.hid (Hx_1.out.below hb)
  have Hy_2 := Lib.hid (Hy_1.out.below hb)
  clear hb
  have Hp_2 := Lib.hid hN
  clear hN
  go_wp2_with fail
  refine (radd_call Hx_2.out Hy_2.out (by omega) (by omega)).mono ?_
  rintro e w3 ⟨aq, nq, cq, rfl, hN, kq, hb⟩
  have S3 := Lib.hid hb
  have B3 := Lib.hid (Below.step B2.out hb)
  have Hx_3 := Lib.hid (Hx_2.out.below hb)
  have Hy_3 := Lib.hid (Hy_2.out.below hb)
  have Hp_3 := Lib.hid (Hp_2.out.below hb)
  clear hb
  have Hq_3 := Lib.hid hN
  clear hN
  go_wp2_with fail
  refine (same_call Hp_3.out Hq_3.out (by omega)).mono ?_
  rintro e w4 ⟨rfl, hb⟩
  have S4 := Lib.hid hb
  have B4 := Lib.hid (Below.step B3.out hb)
  have Hx_4 := Lib.hid (Hx_3.out.below hb)
  have Hy_4 := Lib.hid (Hy_3.out.below hb)
  have Hp_4 := Lib.hid (Hp_3.out.below hb)
  have Hq_4 := Lib.hid (Hq_3.out.below hb)
  clear hb
  clear Hp_4
  clear Hq_4
  go_wp2_with fail
  refine (mul_call Hx_4.out Hy_4.out (by omega) (by omega)).mono ?_
  rintro e w5 ⟨ap2, np2, cp2, rfl, hN, kp2, hb⟩
  have S5 := Lib.hid hb
  have B5 := Lib.hid (Below.step B4.out hb)
  have Hx_5 := Lib.hid (Hx_4.out.below hb)
  have Hy_5 := Lib.hid (Hy_4.out.below hb)
  clear hb
  have Hp2_5 := Lib.hid hN
  clear hN
  go_wp2_with fail
  refine (rmul_call Hx_5.out Hy_5.out (by omega) (by omega)).mono ?_
  rintro e w6 ⟨aq2, nq2, cq2, rfl, hN, kq2, hb⟩
  have S6 := Lib.hid hb
  have B6 := Lib.hid (Below.step B5.out hb)
  have Hx_6 := Lib.hid (Hx_5.out.below hb)
  have Hy_6 := Lib.hid (Hy_5.out.below hb)
  have Hp2_6 := Lib.hid (Hp2_5.out.below hb)
  clear hb
  have Hq2_6 := Lib.hid hN
  clear hN
  go_wp2_with fail
  refine (same_call Hp2_6.out Hq2_6.out (by omega)).mono ?_
  rintro e w7 ⟨rfl, hb⟩
  have S7 := Lib.hid hb
  have B7 := Lib.hid (Below.step B6.out hb)
  have Hx_7 := Lib.hid (Hx_6.out.below hb)
  have Hy_7 := Lib.hid (Hy_6.out.below hb)
  have Hp2_7 := Lib.hid (Hp2_6.out.below hb)
  have Hq2_7 := Lib.hid (Hq2_6.out.below hb)
  clear hb
  clear Hp2_7
  clear Hq2_7
  go_wp2_with fail
  refine (sub_call Hx_7.out Hy_7.out (by omega) (by omega)).mono ?_
  rintro e w8 ⟨ad, nd, cd, rfl, hN, kd, hb⟩
  have S8 := Lib.hid hb
  have B8 := Lib.hid (Below.step B7.out hb)
  have Hx_8 := Lib.hid (Hx_7.out.below hb)
  have Hy_8 := Lib.hid (Hy_7.out.below hb)
  clear hb
  have Hd_8 := Lib.hid hN
  clear hN
  go_wp2_with fail
  refine (rsub_call Hx_8.out Hy_8.out (by omega) (by omega)).mono ?_
  rintro e w9 ⟨af, nf, cf, rfl, hN, kf, hb⟩
  have S9 := Lib.hid hb
  have B9 := Lib.hid (Below.step B8.out hb)
  have Hx_9 := Lib.hid (Hx_8.out.below hb)
  have Hy_9 := Lib.hid (Hy_8.out.below hb)
  have Hd_9 := Lib.hid (Hd_8.out.below hb)
  clear hb
  have Hf_9 := Lib.hid hN
  clear hN
  go_wp2_with fail
  refine (same_call Hd_9.out Hf_9.out (by omega)).mono ?_
  rintro e w10 ⟨rfl, hb⟩
  have S10 := Lib.hid hb
  have B10 := Lib.hid (Below.step B9.out hb)
  have Hx_10 := Lib.hid (Hx_9.out.below hb)
  have Hy_10 := Lib.hid (Hy_9.out.below hb)
  have Hd_10 := Lib.hid (Hd_9.out.below hb)
  have Hf_10 := Lib.hid (Hf_9.out.below hb)
  clear hb
  generalize (!decide (x < y)) = bb at *
  go_wp2_with fail
  go_ret
  exact ⟨rfl, B10.out⟩

end Go.Proofs.Ytngoahbngckcfaa
