/-
  The walk of stage 7's second law (limb): bytes, bits, order.
-/
import Derived.Test.YtngoahbngckcfaaLnN
namespace Go.Proofs.Ytngoahbngckcfaa
open Go.RowKit
set_option linter.unusedVariables false

set_option maxHeartbeats 1000000 in
set_option maxRecDepth 100000 in
theorem tells_walk (x : Int) (ax : Option Addr) (nx cx : Nat) (y : Int) (ay : Option Addr) (ny cy : Nat) (b : List Int) (ab : Option Addr) (nb cb : Nat) (w : World) (hx : Num w x ax nx cx) (hy : Num w y ay ny cy) (hb : Row w ab nb b) (hcb : nb ≤ cb) :
    Calls Try.prog 4 #[.slice ax nx cx, .slice ay ny cy, .slice ab nb cb] w fun e w' => e = .returned (.bool true) ∧ Below w.heap.size w w' := by
  have Hx_0 := Lib.hid hx
  have Nx := Lib.hid hx.nonneg.1
  clear hx
  have Hy_0 := Lib.hid hy
  have Ny := Lib.hid hy.nonneg.1
  clear hy
  have Hb_0 := Lib.hid hb
  clear hb
  have AW := Lib.hid (awake_any w)
  go_enter Try.func4, Try.ntmps4
  go_wp2_with fail
  refine AW.out.mono ?_
  rintro e w1 ⟨rfl, hb⟩
  clear AW
  have S1 := Lib.hid hb
  have Hx_1 := Lib.hid (Hx_0.out.below hb)
  have Hy_1 := Lib.hid (Hy_0.out.below hb)
  have Hb_1 := Lib.hid (Hb_0.out.below hb)
  clear hb
  have B1 := Lib.hid S1.out
  by_cases qx : 300 < nx
  · have tx : decide ((300 : Int) < (nx : Int)) = true := by simp; omega
    go_wp2_with fail
    go_ret
    exact ⟨rfl, B1.out⟩
  have tx : decide ((300 : Int) < (nx : Int)) = false := by simp; omega
  by_cases qy : 300 < ny
  · have ty : decide ((300 : Int) < (ny : Int)) = true := by simp; omega
    go_wp2_with fail
    go_ret
    exact ⟨rfl, B1.out⟩
  have ty : decide ((300 : Int) < (ny : Int)) = false := by simp; omega
  by_cases qb : 1000 < nb
  · have tb : decide ((1000 : Int) < (nb : Int)) = true := by simp; omega
    go_wp2_with fail
    go_ret
    exact ⟨rfl, B1.out⟩
  have tb : decide ((1000 : Int) < (nb : Int)) = false := by simp; omega
  have NB := Lib.hid (beV_nonneg (Hb_1.out).2.1)
  go_wp2_with fail
  refine (from_call (ca := cb) Hb_1.out (by omega)).mono ?_
  rintro e w2 ⟨ap, np, cp, rfl, hN, kp, hb⟩
  have S2 := Lib.hid hb
  have B2 := Lib.hid (Below.step B1.out hb)
  have Hx_2 := Lib.hid (Hx_1.out.below hb)
  have Hy_2 := Lib.hid (Hy_1.out.below hb)
  have Hb_2 := Lib.hid (Hb_1.out.below hb)
  clear hb
  have Hp_2 := Lib.hid hN
  clear hN
  go_wp2_with fail
  refine (rfrom_call (ca := cb) Hb_2.out (by omega)).mono ?_
  rintro e w3 ⟨aq, nq, cq, rfl, hN, kq, hb⟩
  have S3 := Lib.hid hb
  have B3 := Lib.hid (Below.step B2.out hb)
  have Hx_3 := Lib.hid (Hx_2.out.below hb)
  have Hy_3 := Lib.hid (Hy_2.out.below hb)
  have Hb_3 := Lib.hid (Hb_2.out.below hb)
  have Hp_3 := Lib.hid (Hp_2.out.below hb)
  clear hb
  have Hq_3 := Lib.hid hN
  clear hN
  go_wp2_with fail
  refine (same_call Hp_3.out Hq_3.out (by omega)).mono ?_
  rintro e w4 ⟨rfl, hb⟩
  have S4 := Lib.hid hb
  have B4 := Lib.hid (Below.step B3.out hb)
  have Hx_4 := Lib.hid (Hx_3.out.below hb)
  have Hy_4 := Lib.hid (Hy_3.out.below hb)
  have Hb_4 := Lib.hid (Hb_3.out.below hb)
  have Hp_4 := Lib.hid (Hp_3.out.below hb)
  have Hq_4 := Lib.hid (Hq_3.out.below hb)
  clear hb
  clear Hp_4
  clear Hq_4
  go_wp2_with fail
  refine (bare_call Hx_4.out (by omega)).mono ?_
  rintro e w5 ⟨ap2, np2, cp2, rfl, hN, kp2, hb⟩
  have S5 := Lib.hid hb
  have B5 := Lib.hid (Below.step B4.out hb)
  have Hx_5 := Lib.hid (Hx_4.out.below hb)
  have Hy_5 := Lib.hid (Hy_4.out.below hb)
  have Hb_5 := Lib.hid (Hb_4.out.below hb)
  clear hb
  have Hp2_5 := Lib.hid hN
  clear hN
  go_wp2_with fail
  refine (rbare_call Hx_5.out (by omega)).mono ?_
  rintro e w6 ⟨aq2, nq2, cq2, rfl, hN, kq2, hb⟩
  have S6 := Lib.hid hb
  have B6 := Lib.hid (Below.step B5.out hb)
  have Hx_6 := Lib.hid (Hx_5.out.below hb)
  have Hy_6 := Lib.hid (Hy_5.out.below hb)
  have Hb_6 := Lib.hid (Hb_5.out.below hb)
  have Hp2_6 := Lib.hid (Hp2_5.out.below hb)
  clear hb
  have Hq2_6 := Lib.hid hN
  clear hN
  go_wp2_with fail
  refine (same_call Hp2_6.out Hq2_6.out (by omega)).mono ?_
  rintro e w7 ⟨rfl, hb⟩
  have S7 := Lib.hid hb
  have B7 := Lib.hid (Below.step B6.out hb)
  have Hx_7 := Lib.hid (Hx_6.out.below hb)
  have Hy_7 := Lib.hid (Hy_6.out.below hb)
  have Hb_7 := Lib.hid (Hb_6.out.below hb)
  have Hp2_7 := Lib.hid (Hp2_6.out.below hb)
  have Hq2_7 := Lib.hid (Hq2_6.out.below hb)
  clear hb
  clear Hp2_7
  clear Hq2_7
  go_wp2_with fail
  refine wp_region_ord Ext Ext.refl (fun _ _ _ => Ext.trans) [(0, false), (1, false), (2, false), (3, false), (4, false), (5, false), (6, false), (7, false), (8, false), (11, false), (9, true), (10, false), (12, true), (13, false), (14, false), (15, false), (16, false), (17, false), (18, false), (20, false), (21, false), (19, true), (22, true), (23, false), (24, false), (25, false), (26, false), (28, false), (27, true), (29, true), (30, false), (31, false), (32, false)] (by kernel_rfl) (by kernel_rfl) rfl (by kernel_rfl) (fun _ _ _ _ _ h => h) ?_
  have hb : Below w7.heap.size w7 w7.drew := Ext.drew (Ext.refl w7)
  generalize w7.drew = w8 at hb ⊢
  have S8 := Lib.hid hb
  have B8 := Lib.hid (Below.step B7.out hb)
  have Hx_8 := Lib.hid (Hx_7.out.below hb)
  have Hy_8 := Lib.hid (Hy_7.out.below hb)
  have Hb_8 := Lib.hid (Hb_7.out.below hb)
  clear hb
  repeat (refine ord_take _ rfl (by rfl) (fun W hW => by go_simp; first | done | rfl) ?_; try simp only [Act.put, List.setIfInBounds_toArray, List.set_cons_zero, List.set_cons_succ])
  refine ord_sole rfl (by rfl) (fun K hK => ?_)
  go_simp
  refine (to_call Hx_8.out (by omega)).mono ?_
  rintro e w9 ⟨at1, nt1, ct1, rfl, lt1, hN, kt1, hb⟩
  refine hK _ _ hb ?_
  clear hK K
  have S9 := Lib.hid hb
  have B9 := Lib.hid (Below.step B8.out hb)
  have Hx_9 := Lib.hid (Hx_8.out.below hb)
  have Hy_9 := Lib.hid (Hy_8.out.below hb)
  have Hb_9 := Lib.hid (Hb_8.out.below hb)
  clear hb
  try simp only [Act.put, List.setIfInBounds_toArray, List.set_cons_zero, List.set_cons_succ]
  have cv : ∀ W, Ext w9 W → (convert 28 9 (.slice at1 nt1 ct1)).run Try.prog W = .ok (.string (strOfNums (byZ x))) W := fun W hW => conv_at ct1 (hN.below hW)
  clear hN lt1
  repeat (refine ord_take _ rfl (by rfl) (fun W hW => by go_simp; first | done | rfl) ?_; try simp only [Act.put, List.setIfInBounds_toArray, List.set_cons_zero, List.set_cons_succ])
  refine ord_sole rfl (by rfl) (fun K hK => ?_)
  go_simp
  refine (rto_call Hx_9.out (by omega)).mono ?_
  rintro e w10 ⟨at2, nt2, ct2, rfl, lt2, hN, kt2, hb⟩
  refine hK _ _ hb ?_
  clear hK K
  have S10 := Lib.hid hb
  have B10 := Lib.hid (Below.step B9.out hb)
  have Hx_10 := Lib.hid (Hx_9.out.below hb)
  have Hy_10 := Lib.hid (Hy_9.out.below hb)
  have Hb_10 := Lib.hid (Hb_9.out.below hb)
  clear hb
  try simp only [Act.put, List.setIfInBounds_toArray, List.set_cons_zero, List.set_cons_succ]
  have cv2 : ∀ W, Ext w10 W → (convert 28 9 (.slice at2 nt2 ct2)).run Try.prog W = .ok (.string (strOfNums (byZ x))) W := fun W hW => conv_at ct2 (hN.below hW)
  clear hN cv lt2
  repeat (refine ord_take _ rfl (by rfl) (fun W hW => by go_simp; first | done | rfl) ?_; try simp only [Act.put, List.setIfInBounds_toArray, List.set_cons_zero, List.set_cons_succ])
  refine ord_sole rfl (by rfl) (fun K hK => ?_)
  go_simp
  refine (cmp_call Hx_10.out Hy_10.out (by omega) (by omega)).mono ?_
  rintro e w11 ⟨rfl, hb⟩
  refine hK _ _ hb ?_
  clear hK K
  have S11 := Lib.hid hb
  have B11 := Lib.hid (Below.step B10.out hb)
  have Hx_11 := Lib.hid (Hx_10.out.below hb)
  have Hy_11 := Lib.hid (Hy_10.out.below hb)
  have Hb_11 := Lib.hid (Hb_10.out.below hb)
  clear hb
  try simp only [Act.put, List.setIfInBounds_toArray, List.set_cons_zero, List.set_cons_succ]
  clear cv2
  repeat (refine ord_take _ rfl (by rfl) (fun W hW => by go_simp; first | done | rfl) ?_; try simp only [Act.put, List.setIfInBounds_toArray, List.set_cons_zero, List.set_cons_succ])
  refine ord_sole rfl (by rfl) (fun K hK => ?_)
  go_simp
  refine (rcmp_call Hx_11.out Hy_11.out (by omega) (by omega)).mono ?_
  rintro e w12 ⟨rfl, hb⟩
  refine hK _ _ hb ?_
  clear hK K
  have S12 := Lib.hid hb
  have B12 := Lib.hid (Below.step B11.out hb)
  have Hx_12 := Lib.hid (Hx_11.out.below hb)
  have Hy_12 := Lib.hid (Hy_11.out.below hb)
  have Hb_12 := Lib.hid (Hb_11.out.below hb)
  clear hb
  try simp only [Act.put, List.setIfInBounds_toArray, List.set_cons_zero, List.set_cons_succ]
  repeat (refine ord_take _ rfl (by rfl) (fun W hW => by go_simp; first | done | rfl) ?_; try simp only [Act.put, List.setIfInBounds_toArray, List.set_cons_zero, List.set_cons_succ])
  refine ord_sole rfl (by rfl) (fun K hK => ?_)
  go_simp
  refine (len_call Hx_12.out (by omega)).mono ?_
  rintro e w13 ⟨rfl, hb⟩
  refine hK _ _ hb ?_
  clear hK K
  have S13 := Lib.hid hb
  have B13 := Lib.hid (Below.step B12.out hb)
  have Hx_13 := Lib.hid (Hx_12.out.below hb)
  have Hy_13 := Lib.hid (Hy_12.out.below hb)
  have Hb_13 := Lib.hid (Hb_12.out.below hb)
  clear hb
  try simp only [Act.put, List.setIfInBounds_toArray, List.set_cons_zero, List.set_cons_succ]
  repeat (refine ord_take _ rfl (by rfl) (fun W hW => by go_simp; first | done | rfl) ?_; try simp only [Act.put, List.setIfInBounds_toArray, List.set_cons_zero, List.set_cons_succ])
  refine ord_sole rfl (by rfl) (fun K hK => ?_)
  go_simp
  refine (rlen_call Hx_13.out (by omega)).mono ?_
  rintro e w14 ⟨rfl, hb⟩
  refine hK _ _ hb ?_
  clear hK K
  have S14 := Lib.hid hb
  have B14 := Lib.hid (Below.step B13.out hb)
  have Hx_14 := Lib.hid (Hx_13.out.below hb)
  have Hy_14 := Lib.hid (Hy_13.out.below hb)
  have Hb_14 := Lib.hid (Hb_13.out.below hb)
  clear hb
  try simp only [Act.put, List.setIfInBounds_toArray, List.set_cons_zero, List.set_cons_succ]
  repeat (refine ord_take _ rfl (by rfl) (fun W hW => by go_simp; first | done | rfl) ?_; try simp only [Act.put, List.setIfInBounds_toArray, List.set_cons_zero, List.set_cons_succ])
  refine ord_end ?_
  go_wp2_with fail
  go_ret
  exact ⟨rfl, B14.out⟩

end Go.Proofs.Ytngoahbngckcfaa
