/-
  The walk of stage 8's third law (modulo): a quotient's product and what is left are the number.
-/
import Derived.Test.YthpdeaappchnpaaMdQ
namespace Go.Proofs.Ythpdeaappchnpaa
open Go.RowKit
set_option linter.unusedVariables false

theorem back_is {y : Int} (h : 0 < y) (x : Int) : x / y * y + remZ x y = x := by
  rw [remZ_pos h, Int.mul_comm]
  exact Int.mul_ediv_add_emod x y

set_option maxHeartbeats 1000000 in
set_option maxRecDepth 100000 in
theorem back_walk (x : Int) (ax : Option Addr) (nx cx : Nat) (y : Int) (ay : Option Addr) (ny cy : Nat) (w : World) (hx : Num w x ax nx cx) (hy : Num w y ay ny cy) :
    Calls Try.prog 5 #[.slice ax nx cx, .slice ay ny cy] w fun e w' => e = .returned (.bool true) ∧ Below w.heap.size w w' := by
  have Hx_0 := Lib.hid hx
  have Nx := Lib.hid hx.nonneg.1
  clear hx
  have Hy_0 := Lib.hid hy
  have Ny := Lib.hid hy.nonneg.1
  clear hy
  have AW := Lib.hid (awake_any w)
  go_enter Try.func5, Try.ntmps5
  go_wp2_with fail
  refine AW.out.mono ?_
  rintro e w1 ⟨rfl, hb⟩
  clear AW
  have S1 := Lib.hid hb
  have Hx_1 := Lib.hid (Hx_0.out.below hb)
  have Hy_1 := Lib.hid (Hy_0.out.below hb)
  clear hb
  have B1 := Lib.hid S1.out
  by_cases qx : 150 < nx
  · have tx : decide ((150 : Int) < (nx : Int)) = true := by simp; omega
    go_wp2_with fail
    go_ret
    exact ⟨rfl, B1.out⟩
  have tx : decide ((150 : Int) < (nx : Int)) = false := by simp; omega
  by_cases qy : 150 < ny
  · have ty : decide ((150 : Int) < (ny : Int)) = true := by simp; omega
    go_wp2_with fail
    go_ret
    exact ⟨rfl, B1.out⟩
  have ty : decide ((150 : Int) < (ny : Int)) = false := by simp; omega
  go_wp2_with fail
  refine (divmod_call Hx_1.out Hy_1.out (by omega) (by omega)).mono ?_
  rintro e w2 ⟨aq, nq, cq, ar, nr, cr, rfl, hN, hM, kq, kr, hb⟩
  have S2 := Lib.hid hb
  have B2 := Lib.hid (Below.step B1.out hb)
  have Hx_2 := Lib.hid (Hx_1.out.below hb)
  have Hy_2 := Lib.hid (Hy_1.out.below hb)
  clear hb
  have Hq_2 := Lib.hid hN
  have Hr_2 := Lib.hid hM
  clear hN hM
  have bz := bitZ_eq_zero Ny.out
  go_wp2_with fail
  refine (len_call Hy_2.out (by omega)).mono ?_
  rintro e w3 ⟨rfl, hb⟩
  have S3 := Lib.hid hb
  have B3 := Lib.hid (Below.step B2.out hb)
  have Hx_3 := Lib.hid (Hx_2.out.below hb)
  have Hy_3 := Lib.hid (Hy_2.out.below hb)
  have Hq_3 := Lib.hid (Hq_2.out.below hb)
  have Hr_3 := Lib.hid (Hr_2.out.below hb)
  clear hb
  by_cases hy0 : y = 0
  · subst hy0
    have E0 : bitZ 0 = 0 := bitZ_zero
    have lq : nq = 0 := by rw [(Hq_3.out).1, Int.ediv_zero, limZ_zero]; rfl
    have lr : nr = 0 := by rw [(Hr_3.out).1, show remZ x 0 = 0 from rfl, limZ_zero]; rfl
    subst lq lr
    rw [E0, show (!decide ((0 : Int) = 0)) = false from rfl]
    go_wp2_with fail
    go_ret
    exact ⟨rfl, B3.out⟩
  have yp : 0 < y := by have := Ny.out; omega
  have tz : (bitZ y == 0) = false := by simp; exact fun h => hy0 (bz.1 h)
  have td : (!decide (y = 0)) = true := by rw [decide_eq_false hy0]; rfl
  rw [td]
  generalize bitZ y = by_ at *
  clear bz td
  go_wp2_with fail
  refine (mul_call (Hq_3.out.num ((Int.ediv_nonneg (Nx.out) (Ny.out)))) Hy_3.out (by omega) (by omega)).mono ?_
  rintro e w4 ⟨au, nu, cu, rfl, hN, ku, hb⟩
  have S4 := Lib.hid hb
  have B4 := Lib.hid (Below.step B3.out hb)
  have Hx_4 := Lib.hid (Hx_3.out.below hb)
  have Hy_4 := Lib.hid (Hy_3.out.below hb)
  have Hq_4 := Lib.hid (Hq_3.out.below hb)
  have Hr_4 := Lib.hid (Hr_3.out.below hb)
  clear hb
  have Hu_4 := Lib.hid hN
  clear hN
  go_wp2_with fail
  refine (add_call (Hu_4.out.num ((Int.mul_nonneg ((Int.ediv_nonneg (Nx.out) (Ny.out))) (Ny.out)))) (Hr_4.out.num ((remZ_nonneg (Ny.out)))) (by omega) (by omega)).mono ?_
  rintro e w5 ⟨av, nv, cv, rfl, hN, kv, hb⟩
  have S5 := Lib.hid hb
  have B5 := Lib.hid (Below.step B4.out hb)
  have Hx_5 := Lib.hid (Hx_4.out.below hb)
  have Hy_5 := Lib.hid (Hy_4.out.below hb)
  have Hq_5 := Lib.hid (Hq_4.out.below hb)
  have Hr_5 := Lib.hid (Hr_4.out.below hb)
  have Hu_5 := Lib.hid (Hu_4.out.below hb)
  clear hb
  rw [back_is yp x] at hN
  have Hv_5 := Lib.hid hN
  clear hN
  clear Hq_5
  clear Hu_5
  go_wp2_with fail
  refine (bare_call Hx_5.out (by omega)).mono ?_
  rintro e w6 ⟨ap, np, cp, rfl, hN, kp, hb⟩
  have S6 := Lib.hid hb
  have B6 := Lib.hid (Below.step B5.out hb)
  have Hx_6 := Lib.hid (Hx_5.out.below hb)
  have Hy_6 := Lib.hid (Hy_5.out.below hb)
  have Hr_6 := Lib.hid (Hr_5.out.below hb)
  have Hv_6 := Lib.hid (Hv_5.out.below hb)
  clear hb
  have Hp_6 := Lib.hid hN
  clear hN
  go_wp2_with fail
  refine (same_call Hv_6.out Hp_6.out (by omega)).mono ?_
  rintro e w7 ⟨rfl, hb⟩
  have S7 := Lib.hid hb
  have B7 := Lib.hid (Below.step B6.out hb)
  have Hx_7 := Lib.hid (Hx_6.out.below hb)
  have Hy_7 := Lib.hid (Hy_6.out.below hb)
  have Hr_7 := Lib.hid (Hr_6.out.below hb)
  have Hv_7 := Lib.hid (Hv_6.out.below hb)
  have Hp_7 := Lib.hid (Hp_6.out.below hb)
  clear hb
  clear Hv_7
  clear Hp_7
  have CN : cmpI (remZ x y) y = -1 := if_pos (remZ_lt yp)
  have CC := Lib.hid (cmp_call (Hr_7.out.num ((remZ_nonneg (Ny.out)))) Hy_7.out (by omega) (by omega))
  rw [CN] at CC
  clear CN
  go_wp2_with fail
  refine (CC.out).mono ?_
  rintro e w8 ⟨rfl, hb⟩
  have S8 := Lib.hid hb
  have B8 := Lib.hid (Below.step B7.out hb)
  have Hx_8 := Lib.hid (Hx_7.out.below hb)
  have Hy_8 := Lib.hid (Hy_7.out.below hb)
  have Hr_8 := Lib.hid (Hr_7.out.below hb)
  clear hb
  go_wp2_with fail
  go_ret
  exact ⟨rfl, B8.out⟩

end Go.Proofs.Ythpdeaappchnpaa
