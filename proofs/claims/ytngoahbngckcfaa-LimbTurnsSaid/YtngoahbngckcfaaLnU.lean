/-
  The walk of stage 7's fourth law (limb): sums and products turned about, and parted.
-/
import Derived.Test.YtngoahbngckcfaaLnN
namespace Go.Proofs.Ytngoahbngckcfaa
open Go.RowKit
set_option linter.unusedVariables false

set_option maxHeartbeats 1000000 in
set_option maxRecDepth 100000 in
theorem turns_walk (x : Int) (ax : Option Addr) (nx cx : Nat) (y : Int) (ay : Option Addr) (ny cy : Nat) (z : Int) (az : Option Addr) (nz cz : Nat) (w : World) (hx : Num w x ax nx cx) (hy : Num w y ay ny cy) (hz : Num w z az nz cz) :
    Calls Try.prog 6 #[.slice ax nx cx, .slice ay ny cy, .slice az nz cz] w fun e w' => e = .returned (.bool true) ∧ Below w.heap.size w w' := by
  have Hx_0 := Lib.hid hx
  have Nx := Lib.hid hx.nonneg.1
  clear hx
  have Hy_0 := Lib.hid hy
  have Ny := Lib.hid hy.nonneg.1
  clear hy
  have Hz_0 := Lib.hid hz
  have Nz := Lib.hid hz.nonneg.1
  clear hz
  have AW := Lib.hid (awake_any w)
  go_enter Try.func6, Try.ntmps6
  go_wp2_with fail
  refine AW.out.mono ?_
  rintro e w1 ⟨rfl, hb⟩
  clear AW
  have S1 := Lib.hid hb
  have Hx_1 := Lib.hid (Hx_0.out.below hb)
  have Hy_1 := Lib.hid (Hy_0.out.below hb)
  have Hz_1 := Lib.hid (Hz_0.out.below hb)
  clear hb
  have B1 := Lib.hid S1.out
  by_cases qx : 60 < nx
  · have tx : decide ((60 : Int) < (nx : Int)) = true := by simp; omega
    go_wp2_with fail
    go_ret
    exact ⟨rfl, B1.out⟩
  have tx : decide ((60 : Int) < (nx : Int)) = false := by simp; omega
  by_cases qy : 60 < ny
  · have ty : decide ((60 : Int) < (ny : Int)) = true := by simp; omega
    go_wp2_with fail
    go_ret
    exact ⟨rfl, B1.out⟩
  have ty : decide ((60 : Int) < (ny : Int)) = false := by simp; omega
  by_cases qz : 60 < nz
  · have tz : decide ((60 : Int) < (nz : Int)) = true := by simp; omega
    go_wp2_with fail
    go_ret
    exact ⟨rfl, B1.out⟩
  have tz : decide ((60 : Int) < (nz : Int)) = false := by simp; omega
  go_wp2_with fail
  refine (add_call Hx_1.out Hy_1.out (by omega) (by omega)).mono ?_
  rintro e w2 ⟨ap, np, cp, rfl, hN, kp, hb⟩
  have S2 := Lib.hid hb
  have B2 := Lib.hid (Below.step B1.out hb)
  have Hx_2 := Lib.hid (Hx_1.out.below hb)
  have Hy_2 := Lib.hid (Hy_1.out.below hb)
  have Hz_2 := Lib.hid (Hz_1.out.below hb)
  clear hb
  have Hp_2 := Lib.hid hN
  clear hN
  go_wp2_with fail
  refine (add_call Hy_2.out Hx_2.out (by omega) (by omega)).mono ?_
  rintro e w3 ⟨aq, nq, cq, rfl, hN, kq, hb⟩
  have S3 := Lib.hid hb
  have B3 := Lib.hid (Below.step B2.out hb)
  have Hx_3 := Lib.hid (Hx_2.out.below hb)
  have Hy_3 := Lib.hid (Hy_2.out.below hb)
  have Hz_3 := Lib.hid (Hz_2.out.below hb)
  have Hp_3 := Lib.hid (Hp_2.out.below hb)
  clear hb
  rw [Int.add_comm y x] at hN
  have Hq_3 := Lib.hid hN
  clear hN
  go_wp2_with fail
  refine (same_call Hp_3.out Hq_3.out (by omega)).mono ?_
  rintro e w4 ⟨rfl, hb⟩
  have S4 := Lib.hid hb
  have B4 := Lib.hid (Below.step B3.out hb)
  have Hx_4 := Lib.hid (Hx_3.out.below hb)
  have Hy_4 := Lib.hid (Hy_3.out.below hb)
  have Hz_4 := Lib.hid (Hz_3.out.below hb)
  have Hp_4 := Lib.hid (Hp_3.out.below hb)
  have Hq_4 := Lib.hid (Hq_3.out.below hb)
  clear hb
  clear Hp_4
  clear Hq_4
  go_wp2_with fail
  refine (mul_call Hx_4.out Hy_4.out (by omega) (by omega)).mono ?_
  rintro e w5 ⟨ap2, np2, cp2, rfl, hN, kp2, hb⟩
  have S5 := Lib.hid hb
  have B5 := Lib.hid (Below.step B4.out hb)
  have Hx_5 := Lib.hid (Hx_4.out.below hb)
  have Hy_5 := Lib.hid (Hy_4.out.below hb)
  have Hz_5 := Lib.hid (Hz_4.out.below hb)
  clear hb
  have Hp2_5 := Lib.hid hN
  clear hN
  go_wp2_with fail
  refine (mul_call Hy_5.out Hx_5.out (by omega) (by omega)).mono ?_
  rintro e w6 ⟨aq2, nq2, cq2, rfl, hN, kq2, hb⟩
  have S6 := Lib.hid hb
  have B6 := Lib.hid (Below.step B5.out hb)
  have Hx_6 := Lib.hid (Hx_5.out.below hb)
  have Hy_6 := Lib.hid (Hy_5.out.below hb)
  have Hz_6 := Lib.hid (Hz_5.out.below hb)
  have Hp2_6 := Lib.hid (Hp2_5.out.below hb)
  clear hb
  rw [Int.mul_comm y x] at hN
  have Hq2_6 := Lib.hid hN
  clear hN
  go_wp2_with fail
  refine (same_call Hp2_6.out Hq2_6.out (by omega)).mono ?_
  rintro e w7 ⟨rfl, hb⟩
  have S7 := Lib.hid hb
  have B7 := Lib.hid (Below.step B6.out hb)
  have Hx_7 := Lib.hid (Hx_6.out.below hb)
  have Hy_7 := Lib.hid (Hy_6.out.below hb)
  have Hz_7 := Lib.hid (Hz_6.out.below hb)
  have Hp2_7 := Lib.hid (Hp2_6.out.below hb)
  have Hq2_7 := Lib.hid (Hq2_6.out.below hb)
  clear hb
  clear Hp2_7
  clear Hq2_7
  go_wp2_with fail
  refine (add_call Hy_7.out Hz_7.out (by omega) (by omega)).mono ?_
  rintro e w8 ⟨ar, nr, cr, rfl, hN, kr, hb⟩
  have S8 := Lib.hid hb
  have B8 := Lib.hid (Below.step B7.out hb)
  have Hx_8 := Lib.hid (Hx_7.out.below hb)
  have Hy_8 := Lib.hid (Hy_7.out.below hb)
  have Hz_8 := Lib.hid (Hz_7.out.below hb)
  clear hb
  have Hr_8 := Lib.hid hN
  clear hN
  go_wp2_with fail
  refine (mul_call Hx_8.out (Hr_8.out.num ((Int.add_nonneg (Ny.out) (Nz.out)))) (by omega) (by omega)).mono ?_
  rintro e w9 ⟨au, nu, cu, rfl, hN, ku, hb⟩
  have S9 := Lib.hid hb
  have B9 := Lib.hid (Below.step B8.out hb)
  have Hx_9 := Lib.hid (Hx_8.out.below hb)
  have Hy_9 := Lib.hid (Hy_8.out.below hb)
  have Hz_9 := Lib.hid (Hz_8.out.below hb)
  have Hr_9 := Lib.hid (Hr_8.out.below hb)
  clear hb
  have Hu_9 := Lib.hid hN
  clear hN
  clear Hr_9
  go_wp2_with fail
  refine (mul_call Hx_9.out Hy_9.out (by omega) (by omega)).mono ?_
  rintro e w10 ⟨av, nv, cv, rfl, hN, kv, hb⟩
  have S10 := Lib.hid hb
  have B10 := Lib.hid (Below.step B9.out hb)
  have Hx_10 := Lib.hid (Hx_9.out.below hb)
  have Hy_10 := Lib.hid (Hy_9.out.below hb)
  have Hz_10 := Lib.hid (Hz_9.out.below hb)
  have Hu_10 := Lib.hid (Hu_9.out.below hb)
  clear hb
  have Hv_10 := Lib.hid hN
  clear hN
  go_wp2_with fail
  refine (mul_call Hx_10.out Hz_10.out (by omega) (by omega)).mono ?_
  rintro e w11 ⟨av2, nv2, cv2, rfl, hN, kv2, hb⟩
  have S11 := Lib.hid hb
  have B11 := Lib.hid (Below.step B10.out hb)
  have Hx_11 := Lib.hid (Hx_10.out.below hb)
  have Hy_11 := Lib.hid (Hy_10.out.below hb)
  have Hz_11 := Lib.hid (Hz_10.out.below hb)
  have Hu_11 := Lib.hid (Hu_10.out.below hb)
  have Hv_11 := Lib.hid (Hv_10.out.below hb)
  clear hb
  have Hv2_11 := Lib.hid hN
  clear hN
  go_wp2_with fail
  refine (add_call (Hv_11.out.num ((Int.mul_nonneg (Nx.out) (Ny.out)))) (Hv2_11.out.num ((Int.mul_nonneg (Nx.out) (Nz.out)))) (by omega) (by omega)).mono ?_
  rintro e w12 ⟨au2, nu2, cu2, rfl, hN, ku2, hb⟩
  have S12 := Lib.hid hb
  have B12 := Lib.hid (Below.step B11.out hb)
  have Hx_12 := Lib.hid (Hx_11.out.below hb)
  have Hy_12 := Lib.hid (Hy_11.out.below hb)
  have Hz_12 := Lib.hid (Hz_11.out.below hb)
  have Hu_12 := Lib.hid (Hu_11.out.below hb)
  have Hv_12 := Lib.hid (Hv_11.out.below hb)
  have Hv2_12 := Lib.hid (Hv2_11.out.below hb)
  clear hb
  rw [← Int.mul_add] at hN
  have Hu2_12 := Lib.hid hN
  clear hN
  clear Hv_12
  clear Hv2_12
  go_wp2_with fail
  refine (same_call Hu_12.out Hu2_12.out (by omega)).mono ?_
  rintro e w13 ⟨rfl, hb⟩
  have S13 := Lib.hid hb
  have B13 := Lib.hid (Below.step B12.out hb)
  have Hx_13 := Lib.hid (Hx_12.out.below hb)
  have Hy_13 := Lib.hid (Hy_12.out.below hb)
  have Hz_13 := Lib.hid (Hz_12.out.below hb)
  have Hu_13 := Lib.hid (Hu_12.out.below hb)
  have Hu2_13 := Lib.hid (Hu2_12.out.below hb)
  clear hb
  clear Hu_13
  clear Hu2_13
  go_wp2_with fail
  refine (mul_call Hx_13.out Hy_13.out (by omega) (by omega)).mono ?_
  rintro e w14 ⟨ar3, nr3, cr3, rfl, hN, kr3, hb⟩
  have S14 := Lib.hid hb
  have B14 := Lib.hid (Below.step B13.out hb)
  have Hx_14 := Lib.hid (Hx_13.out.below hb)
  have Hy_14 := Lib.hid (Hy_13.out.below hb)
  have Hz_14 := Lib.hid (Hz_13.out.below hb)
  clear hb
  have Hr3_14 := Lib.hid hN
  clear hN
  go_wp2_with fail
  refine (mul_call (Hr3_14.out.num ((Int.mul_nonneg (Nx.out) (Ny.out)))) Hz_14.out (by omega) (by omega)).mono ?_
  rintro e w15 ⟨au3, nu3, cu3, rfl, hN, ku3, hb⟩
  have S15 := Lib.hid hb
  have B15 := Lib.hid (Below.step B14.out hb)
  have Hx_15 := Lib.hid (Hx_14.out.below hb)
  have Hy_15 := Lib.hid (Hy_14.out.below hb)
  have Hz_15 := Lib.hid (Hz_14.out.below hb)
  have Hr3_15 := Lib.hid (Hr3_14.out.below hb)
  clear hb
  have Hu3_15 := Lib.hid hN
  clear hN
  clear Hr3_15
  go_wp2_with fail
  refine (mul_call Hy_15.out Hz_15.out (by omega) (by omega)).mono ?_
  rintro e w16 ⟨ar4, nr4, cr4, rfl, hN, kr4, hb⟩
  have S16 := Lib.hid hb
  have B16 := Lib.hid (Below.step B15.out hb)
  have Hx_16 := Lib.hid (Hx_15.out.below hb)
  have Hy_16 := Lib.hid (Hy_15.out.below hb)
  have Hz_16 := Lib.hid (Hz_15.out.below hb)
  have Hu3_16 := Lib.hid (Hu3_15.out.below hb)
  clear hb
  have Hr4_16 := Lib.hid hN
  clear hN
  go_wp2_with fail
  refine (mul_call Hx_16.out (Hr4_16.out.num ((Int.mul_nonneg (Ny.out) (Nz.out)))) (by omega) (by omega)).mono ?_
  rintro e w17 ⟨au4, nu4, cu4, rfl, hN, ku4, hb⟩
  have S17 := Lib.hid hb
  have B17 := Lib.hid (Below.step B16.out hb)
  have Hx_17 := Lib.hid (Hx_16.out.below hb)
  have Hy_17 := Lib.hid (Hy_16.out.below hb)
  have Hz_17 := Lib.hid (Hz_16.out.below hb)
  have Hu3_17 := Lib.hid (Hu3_16.out.below hb)
  have Hr4_17 := Lib.hid (Hr4_16.out.below hb)
  clear hb
  rw [← Int.mul_assoc] at hN
  have Hu4_17 := Lib.hid hN
  clear hN
  clear Hr4_17
  go_wp2_with fail
  refine (same_call Hu3_17.out Hu4_17.out (by omega)).mono ?_
  rintro e w18 ⟨rfl, hb⟩
  have S18 := Lib.hid hb
  have B18 := Lib.hid (Below.step B17.out hb)
  have Hx_18 := Lib.hid (Hx_17.out.below hb)
  have Hy_18 := Lib.hid (Hy_17.out.below hb)
  have Hz_18 := Lib.hid (Hz_17.out.below hb)
  have Hu3_18 := Lib.hid (Hu3_17.out.below hb)
  have Hu4_18 := Lib.hid (Hu4_17.out.below hb)
  clear hb
  go_wp2_with fail
  go_ret
  exact ⟨rfl, B18.out⟩

end Go.Proofs.Ytngoahbngckcfaa
