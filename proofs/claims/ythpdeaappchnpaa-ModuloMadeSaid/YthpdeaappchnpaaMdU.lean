/-
  The walk of stage 8's fourth law (modulo): what is made of a quotient and something less is parted into just these.
-/
import Derived.Test.YthpdeaappchnpaaMdQ
namespace Go.Proofs.Ythpdeaappchnpaa
open Go.RowKit
set_option linter.unusedVariables false

theorem made_is (x : Int) {y z : Int} (h0 : 0 ≤ y) (h1 : y < z) : (x * z + y) / z = x ∧ remZ (x * z + y) z = y := by
  rw [remZ_pos (by omega)]
  exact ediv_is (by omega) rfl h0 h1

set_option maxHeartbeats 1000000 in
set_option maxRecDepth 100000 in
theorem made_walk (x : Int) (ax : Option Addr) (nx cx : Nat) (y : Int) (ay : Option Addr) (ny cy : Nat) (z : Int) (az : Option Addr) (nz cz : Nat) (w : World) (hx : Num w x ax nx cx) (hy : Num w y ay ny cy) (hz : Num w z az nz cz) :
    Calls Try.prog 6 #[.slice ax nx cx, .slice ay ny cy, .slice az nz cz] w fun e w' => e = .returned (.bool true) ∧ Below w.heap.size w w' := by
  have Hx_0 := Lib.hid hx
  have Nx := Lib.hid hx.nonneg.1
  clear hx
  have Hy_0 := Lib.hid hy
  have Ny := Lib.hid hy.nonneg.1
  clear hy
  have Hz_0 := Lib.hid hz
  have Nz := Lib.hid hz.nonneg.1
  clear hz
  have AW := Lib.hid (awake_any w)
  go_enter Try.func6, Try.ntmps6
  go_wp2_with fail
  refine AW.out.mono ?_
  rintro e w1 ⟨rfl, hb⟩
  clear AW
  have S1 := Lib.hid hb
  have Hx_1 := Lib.hid (Hx_0.out.below hb)
  have Hy_1 := Lib.hid (Hy_0.out.below hb)
  have Hz_1 := Lib.hid (Hz_0.out.below hb)
  clear hb
  have B1 := Lib.hid S1.out
  by_cases qx : 60 < nx
  · have tx : decide ((60 : Int) < (nx : Int)) = true := by simp; omega
    go_wp2_with fail
    go_ret
    exact ⟨rfl, B1.out⟩
  have tx : decide ((60 : Int) < (nx : Int)) = false := by simp; omega
  by_cases qy : 60 < ny
  · have ty : decide ((60 : Int) < (ny : Int)) = true := by simp; omega
    go_wp2_with fail
    go_ret
    exact ⟨rfl, B1.out⟩
  have ty : decide ((60 : Int) < (ny : Int)) = false := by simp; omega
  by_cases qz : 60 < nz
  · have tz : decide ((60 : Int) < (nz : Int)) = true := by simp; omega
    go_wp2_with fail
    go_ret
    exact ⟨rfl, B1.out⟩
  have tz : decide ((60 : Int) < (nz : Int)) = false := by simp; omega
  have CG := cmpI_neg y z
  go_wp2_with fail
  refine (cmp_call Hy_1.out Hz_1.out (by omega) (by omega)).mono ?_
  rintro e w2 ⟨rfl, hb⟩
  have S2 := Lib.hid hb
  have B2 := Lib.hid (Below.step B1.out hb)
  have Hx_2 := Lib.hid (Hx_1.out.below hb)
  have Hy_2 := Lib.hid (Hy_1.out.below hb)
  have Hz_2 := Lib.hid (Hz_1.out.below hb)
  clear hb
  by_cases hyz : y < z
  rotate_left
  · have tg : decide (0 ≤ cmpI y z) = true := decide_eq_true (by have := fun h => hyz (CG.1 h); omega)
    generalize cmpI y z = cc at *
    go_wp2_with fail
    go_ret
    exact ⟨rfl, B2.out⟩
  have tg : decide (0 ≤ cmpI y z) = false := decide_eq_false (by have := CG.2 hyz; omega)
  generalize cmpI y z = cc at *
  clear CG
  have zp : 0 < z := by have := Ny.out; omega
  go_wp2_with fail
  refine (mul_call Hx_2.out Hz_2.out (by omega) (by omega)).mono ?_
  rintro e w3 ⟨au, nu, cu, rfl, hN, ku, hb⟩
  have S3 := Lib.hid hb
  have B3 := Lib.hid (Below.step B2.out hb)
  have Hx_3 := Lib.hid (Hx_2.out.below hb)
  have Hy_3 := Lib.hid (Hy_2.out.below hb)
  have Hz_3 := Lib.hid (Hz_2.out.below hb)
  clear hb
  have Hu_3 := Lib.hid hN
  clear hN
  go_wp2_with fail
  refine (add_call (Hu_3.out.num ((Int.mul_nonneg (Nx.out) (Nz.out)))) Hy_3.out (by omega) (by omega)).mono ?_
  rintro e w4 ⟨av, nv, cv, rfl, hN, kv, hb⟩
  have S4 := Lib.hid hb
  have B4 := Lib.hid (Below.step B3.out hb)
  have Hx_4 := Lib.hid (Hx_3.out.below hb)
  have Hy_4 := Lib.hid (Hy_3.out.below hb)
  have Hz_4 := Lib.hid (Hz_3.out.below hb)
  have Hu_4 := Lib.hid (Hu_3.out.below hb)
  clear hb
  have Hv_4 := Lib.hid hN
  clear hN
  clear Hu_4
  have MD := made_is x Ny.out hyz
  go_wp2_with fail
  refine (divmod_call (Hv_4.out.num ((Int.add_nonneg ((Int.mul_nonneg (Nx.out) (Nz.out))) (Ny.out)))) Hz_4.out (by omega) (by omega)).mono ?_
  rintro e w5 ⟨aq, nq, cq, ar, nr, cr, rfl, hN, hM, kq, kr, hb⟩
  have S5 := Lib.hid hb
  have B5 := Lib.hid (Below.step B4.out hb)
  have Hx_5 := Lib.hid (Hx_4.out.below hb)
  have Hy_5 := Lib.hid (Hy_4.out.below hb)
  have Hz_5 := Lib.hid (Hz_4.out.below hb)
  have Hv_5 := Lib.hid (Hv_4.out.below hb)
  clear hb
  rw [MD.1] at hN
  rw [MD.2] at hM
  have Hq_5 := Lib.hid hN
  have Hr_5 := Lib.hid hM
  clear hN hM
  have td : (!decide (z = 0)) = true := by rw [decide_eq_false (by omega)]; rfl
  rw [td]
  clear td MD
  clear Hv_5
  go_wp2_with fail
  refine (bare_call Hx_5.out (by omega)).mono ?_
  rintro e w6 ⟨ap, np, cp, rfl, hN, kp, hb⟩
  have S6 := Lib.hid hb
  have B6 := Lib.hid (Below.step B5.out hb)
  have Hx_6 := Lib.hid (Hx_5.out.below hb)
  have Hy_6 := Lib.hid (Hy_5.out.below hb)
  have Hz_6 := Lib.hid (Hz_5.out.below hb)
  have Hq_6 := Lib.hid (Hq_5.out.below hb)
  have Hr_6 := Lib.hid (Hr_5.out.below hb)
  clear hb
  have Hp_6 := Lib.hid hN
  clear hN
  go_wp2_with fail
  refine (same_call Hq_6.out Hp_6.out (by omega)).mono ?_
  rintro e w7 ⟨rfl, hb⟩
  have S7 := Lib.hid hb
  have B7 := Lib.hid (Below.step B6.out hb)
  have Hx_7 := Lib.hid (Hx_6.out.below hb)
  have Hy_7 := Lib.hid (Hy_6.out.below hb)
  have Hz_7 := Lib.hid (Hz_6.out.below hb)
  have Hq_7 := Lib.hid (Hq_6.out.below hb)
  have Hr_7 := Lib.hid (Hr_6.out.below hb)
  have Hp_7 := Lib.hid (Hp_6.out.below hb)
  clear hb
  clear Hq_7
  clear Hp_7
  go_wp2_with fail
  refine (bare_call Hy_7.out (by omega)).mono ?_
  rintro e w8 ⟨ap2, np2, cp2, rfl, hN, kp2, hb⟩
  have S8 := Lib.hid hb
  have B8 := Lib.hid (Below.step B7.out hb)
  have Hx_8 := Lib.hid (Hx_7.out.below hb)
  have Hy_8 := Lib.hid (Hy_7.out.below hb)
  have Hz_8 := Lib.hid (Hz_7.out.below hb)
  have Hr_8 := Lib.hid (Hr_7.out.below hb)
  clear hb
  have Hp2_8 := Lib.hid hN
  clear hN
  go_wp2_with fail
  refine (same_call Hr_8.out Hp2_8.out (by omega)).mono ?_
  rintro e w9 ⟨rfl, hb⟩
  have S9 := Lib.hid hb
  have B9 := Lib.hid (Below.step B8.out hb)
  have Hx_9 := Lib.hid (Hx_8.out.below hb)
  have Hy_9 := Lib.hid (Hy_8.out.below hb)
  have Hz_9 := Lib.hid (Hz_8.out.below hb)
  have Hr_9 := Lib.hid (Hr_8.out.below hb)
  have Hp2_9 := Lib.hid (Hp2_8.out.below hb)
  clear hb
  go_wp2_with fail
  go_ret
  exact ⟨rfl, B9.out⟩

end Go.Proofs.Ythpdeaappchnpaa
