/-
  The walk of stage 8's first law (modulo): a number, parted.
-/
import Derived.Test.YthpdeaappchnpaaMdQ
namespace Go.Proofs.Ythpdeaappchnpaa
open Go.RowKit
set_option linter.unusedVariables false

set_option maxHeartbeats 1000000 in
set_option maxRecDepth 100000 in
theorem parts_walk (x : Int) (ax : Option Addr) (nx cx : Nat) (y : Int) (ay : Option Addr) (ny cy : Nat) (w : World) (hx : Num w x ax nx cx) (hy : Num w y ay ny cy) :
    Calls Try.prog 3 #[.slice ax nx cx, .slice ay ny cy] w fun e w' => e = .returned (.bool true) ∧ Below w.heap.size w w' := by
  have Hx_0 := Lib.hid hx
  have Nx := Lib.hid hx.nonneg.1
  clear hx
  have Hy_0 := Lib.hid hy
  have Ny := Lib.hid hy.nonneg.1
  clear hy
  have AW := Lib.hid (awake_any w)
  go_enter Try.func3, Try.ntmps3
  go_wp2_with fail
  refine AW.out.mono ?_
  rintro e w1 ⟨rfl, hb⟩
  clear AW
  have S1 := Lib.hid hb
  have Hx_1 := Lib.hid (Hx_0.out.below hb)
  have Hy_1 := Lib.hid (Hy_0.out.below hb)
  clear hb
  have B1 := Lib.hid S1.out
  by_cases qx : 60 < nx
  · have tx : decide ((60 : Int) < (nx : Int)) = true := by simp; omega
    go_wp2_with fail
    go_ret
    exact ⟨rfl, B1.out⟩
  have tx : decide ((60 : Int) < (nx : Int)) = false := by simp; omega
  by_cases qy : 60 < ny
  · have ty : decide ((60 : Int) < (ny : Int)) = true := by simp; omega
    go_wp2_with fail
    go_ret
    exact ⟨rfl, B1.out⟩
  have ty : decide ((60 : Int) < (ny : Int)) = false := by simp; omega
  go_wp2_with fail
  refine (divmod_call Hx_1.out Hy_1.out (by omega) (by omega)).mono ?_
  rintro e w2 ⟨aq, nq, cq, ar, nr, cr, rfl, hN, hM, kq, kr, hb⟩
  have S2 := Lib.hid hb
  have B2 := Lib.hid (Below.step B1.out hb)
  have Hx_2 := Lib.hid (Hx_1.out.below hb)
  have Hy_2 := Lib.hid (Hy_1.out.below hb)
  clear hb
  have Hq_2 := Lib.hid hN
  have Hr_2 := Lib.hid hM
  clear hN hM
  go_wp2_with fail
  refine (rdivmod_call Hx_2.out Hy_2.out (by omega) (by omega)).mono ?_
  rintro e w3 ⟨ap, np, cp, al, nl, cl, rfl, hN, hM, kp, kl, hb⟩
  have S3 := Lib.hid hb
  have B3 := Lib.hid (Below.step B2.out hb)
  have Hx_3 := Lib.hid (Hx_2.out.below hb)
  have Hy_3 := Lib.hid (Hy_2.out.below hb)
  have Hq_3 := Lib.hid (Hq_2.out.below hb)
  have Hr_3 := Lib.hid (Hr_2.out.below hb)
  clear hb
  have Hp_3 := Lib.hid hN
  have Hl_3 := Lib.hid hM
  clear hN hM
  generalize (!decide (y = 0)) = bb at *
  go_wp2_with fail
  refine (same_call Hq_3.out Hp_3.out (by omega)).mono ?_
  rintro e w4 ⟨rfl, hb⟩
  have S4 := Lib.hid hb
  have B4 := Lib.hid (Below.step B3.out hb)
  have Hx_4 := Lib.hid (Hx_3.out.below hb)
  have Hy_4 := Lib.hid (Hy_3.out.below hb)
  have Hq_4 := Lib.hid (Hq_3.out.below hb)
  have Hr_4 := Lib.hid (Hr_3.out.below hb)
  have Hp_4 := Lib.hid (Hp_3.out.below hb)
  have Hl_4 := Lib.hid (Hl_3.out.below hb)
  clear hb
  go_wp2_with fail
  refine (same_call Hr_4.out Hl_4.out (by omega)).mono ?_
  rintro e w5 ⟨rfl, hb⟩
  have S5 := Lib.hid hb
  have B5 := Lib.hid (Below.step B4.out hb)
  have Hx_5 := Lib.hid (Hx_4.out.below hb)
  have Hy_5 := Lib.hid (Hy_4.out.below hb)
  have Hq_5 := Lib.hid (Hq_4.out.below hb)
  have Hr_5 := Lib.hid (Hr_4.out.below hb)
  have Hp_5 := Lib.hid (Hp_4.out.below hb)
  have Hl_5 := Lib.hid (Hl_4.out.below hb)
  clear hb
  go_wp2_with fail
  go_ret
  exact ⟨rfl, B5.out⟩

end Go.Proofs.Ythpdeaappchnpaa
