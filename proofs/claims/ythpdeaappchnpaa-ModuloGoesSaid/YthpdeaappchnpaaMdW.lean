/-
  The walk of stage 8's fifth law (modulo): what is left of a product is that of what is left; powers add up.
-/
import Derived.Test.YthpdeaappchnpaaMdQ
namespace Go.Proofs.Ythpdeaappchnpaa
open Go.RowKit
set_option linter.unusedVariables false

theorem goes_mul {z : Int} (h : 0 < z) (x y : Int) : remZ (remZ x z * remZ y z) z = remZ (x * y) z := by
  rw [remZ_pos h, remZ_pos h, remZ_pos h, remZ_pos h, ← Int.mul_emod]
theorem goes_pow {z u v : Int} (h : 0 < z) (hu : 0 ≤ u) (hv : 0 ≤ v) (x : Int) : remZ (remZ (x ^ u.toNat) z * remZ (x ^ v.toNat) z) z = remZ (x ^ (u + v).toNat) z := by
  rw [goes_mul h, ← Int.pow_add, Int.toNat_add hu hv]

set_option maxHeartbeats 2000000 in
set_option maxRecDepth 100000 in
theorem goes_walk (x : Int) (ax : Option Addr) (nx cx : Nat) (y : Int) (ay : Option Addr) (ny cy : Nat) (z : Int) (az : Option Addr) (nz cz : Nat) (u v : Int) (w : World) (hx : Num w x ax nx cx) (hy : Num w y ay ny cy) (hz : Num w z az nz cz) (hu : 0 ≤ u ∧ u ≤ 4294967295) (hv : 0 ≤ v ∧ v ≤ 4294967295) :
    Calls Try.prog 7 #[.agg #[.slice ax nx cx, .slice ay ny cy], .slice az nz cz, .agg #[.int .u32 u, .int .u32 v]] w fun e w' => e = .returned (.bool true) ∧ Below w.heap.size w w' := by
  have Hx_0 := Lib.hid hx
  have Nx := Lib.hid hx.nonneg.1
  clear hx
  have Hy_0 := Lib.hid hy
  have Ny := Lib.hid hy.nonneg.1
  clear hy
  have Hz_0 := Lib.hid hz
  have Nz := Lib.hid hz.nonneg.1
  clear hz
  have Nu := Lib.hid hu.1
  have Nv := Lib.hid hv.1
  have BX : Hid (Below w.heap.size w ((w.alloc (.cells #[.slice ax nx cx, .slice ay ny cy] 34)).alloc (.cells #[.int .u32 u, .int .u32 v] 36))) := Lib.hid (((Below.refl _ _).alloc (Nat.le_refl _) _).alloc (by simp) _)
  have K1 : Hid (Blk ((w.alloc (.cells #[.slice ax nx cx, .slice ay ny cy] 34)).alloc (.cells #[.int .u32 u, .int .u32 v] 36)) w.heap.size 34 #[.slice ax nx cx, .slice ay ny cy]) := Lib.hid ((Blk.new w _ _).alloc _)
  have K2 : Hid (Blk ((w.alloc (.cells #[.slice ax nx cx, .slice ay ny cy] 34)).alloc (.cells #[.int .u32 u, .int .u32 v] 36)) (w.heap.size + 1) 36 #[.int .u32 u, .int .u32 v]) := Lib.hid (by have := Blk.new (w.alloc (.cells #[.slice ax nx cx, .slice ay ny cy] 34)) 36 #[.int .u32 u, .int .u32 v]; rwa [World.size_alloc] at this)
  have Hu_0 : Hid (Num ((w.alloc (.cells #[.slice ax nx cx, .slice ay ny cy] 34)).alloc (.cells #[.int .u32 u, .int .u32 v] 36)) u (some ⟨w.heap.size + 1, 0, none⟩) 1 2) := Lib.hid ⟨[u], ⟨rfl, fun x hx => by simp at hx; omega, fun _ => ⟨_, 0, rfl, K2.out.lt, fun i hi => by obtain rfl : i = 0 := (by omega); exact K2.out.cell 0⟩⟩, by simp [valZ], by omega, fun e => by cases e⟩
  have Hv_0 : Hid (Num ((w.alloc (.cells #[.slice ax nx cx, .slice ay ny cy] 34)).alloc (.cells #[.int .u32 u, .int .u32 v] 36)) v (some ⟨w.heap.size + 1, 1, none⟩) 1 1) := Lib.hid ⟨[v], ⟨rfl, fun x hx => by simp at hx; omega, fun _ => ⟨_, 1, rfl, K2.out.lt, fun i hi => by obtain rfl : i = 0 := (by omega); exact K2.out.cell 1⟩⟩, by simp [valZ], by omega, fun e => by cases e⟩
  have Hx_00 := Lib.hid (Hx_0.out.below BX.out)
  clear Hx_0
  have Hx_0 := Hx_00
  clear Hx_00
  have Hy_00 := Lib.hid (Hy_0.out.below BX.out)
  clear Hy_0
  have Hy_0 := Hy_00
  clear Hy_00
  have Hz_00 := Lib.hid (Hz_0.out.below BX.out)
  clear Hz_0
  have Hz_0 := Hz_00
  clear Hz_00
  have AW := Lib.hid (awake_any ((w.alloc (.cells #[.slice ax nx cx, .slice ay ny cy] 34)).alloc (.cells #[.int .u32 u, .int .u32 v] 36)))
  clear K2
  go_enter Try.func7, Try.ntmps7
  go_wp2_with fail
  generalize ((w.alloc (.cells #[.slice ax nx cx, .slice ay ny cy] 34)).alloc (.cells #[.int .u32 u, .int .u32 v] 36)) = w0 at *
  refine AW.out.mono ?_
  rintro e w1 ⟨rfl, hb⟩
  clear AW
  have S1 := Lib.hid hb
  have Hx_1 := Lib.hid (Hx_0.out.below hb)
  have Hy_1 := Lib.hid (Hy_0.out.below hb)
  have Hz_1 := Lib.hid (Hz_0.out.below hb)
  have Hu_1 := Lib.hid (Hu_0.out.below hb)
  have Hv_1 := Lib.hid (Hv_0.out.below hb)
  clear hb
  have B1 := Lib.hid (Below.step BX.out S1.out)
  have d0 : w1.cell? ⟨w.heap.size, 0, none⟩ = some (.slice ax nx cx) := (S1.out.cell (p := ⟨w.heap.size, 0, none⟩) K1.out.lt).trans (K1.out.cell 0)
  have d1 : w1.cell? ⟨w.heap.size, 1, none⟩ = some (.slice ay ny cy) := (S1.out.cell (p := ⟨w.heap.size, 1, none⟩) K1.out.lt).trans (K1.out.cell 1)
  clear K1 BX
  by_cases qx : 20 < nx
  · have tx : decide ((20 : Int) < (nx : Int)) = true := by simp; omega
    go_wp2_with fail
    go_ret
    exact ⟨rfl, B1.out⟩
  have tx : decide ((20 : Int) < (nx : Int)) = false := by simp; omega
  by_cases qy : 20 < ny
  · have ty : decide ((20 : Int) < (ny : Int)) = true := by simp; omega
    go_wp2_with fail
    go_ret
    exact ⟨rfl, B1.out⟩
  have ty : decide ((20 : Int) < (ny : Int)) = false := by simp; omega
  by_cases qz : 20 < nz
  · have tz : decide ((20 : Int) < (nz : Int)) = true := by simp; omega
    go_wp2_with fail
    go_ret
    exact ⟨rfl, B1.out⟩
  have tz : decide ((20 : Int) < (nz : Int)) = false := by simp; omega
  have bz := bitZ_eq_zero Nz.out
  go_wp2_with fail
  refine (len_call Hz_1.out (by omega)).mono ?_
  rintro e w2 ⟨rfl, hb⟩
  have S2 := Lib.hid hb
  have B2 := Lib.hid (Below.step B1.out hb)
  have Hx_2 := Lib.hid (Hx_1.out.below hb)
  have Hy_2 := Lib.hid (Hy_1.out.below hb)
  have Hz_2 := Lib.hid (Hz_1.out.below hb)
  have Hu_2 := Lib.hid (Hu_1.out.below hb)
  have Hv_2 := Lib.hid (Hv_1.out.below hb)
  clear hb
  clear d0 d1
  by_cases hz0 : z = 0
  · have E0 : bitZ z = 0 := by rw [hz0]; exact bitZ_zero
    rw [E0]
    go_wp2_with fail
    go_ret
    exact ⟨rfl, B2.out⟩
  have zp : 0 < z := by have := Nz.out; omega
  have tz : (bitZ z == 0) = false := by simp; exact fun h => hz0 (bz.1 h)
  generalize bitZ z = bz_ at *
  clear bz
  go_wp2_with fail
  refine (divmod_call Hx_2.out Hz_2.out (by omega) (by omega)).mono ?_
  rintro e w3 ⟨aq1, nq1, cq1, ar1, nr1, cr1, rfl, hN, hM, kq1, kr1, hb⟩
  have S3 := Lib.hid hb
  have B3 := Lib.hid (Below.step B2.out hb)
  have Hx_3 := Lib.hid (Hx_2.out.below hb)
  have Hy_3 := Lib.hid (Hy_2.out.below hb)
  have Hz_3 := Lib.hid (Hz_2.out.below hb)
  have Hu_3 := Lib.hid (Hu_2.out.below hb)
  have Hv_3 := Lib.hid (Hv_2.out.below hb)
  clear hb
  have Hq1_3 := Lib.hid hN
  have Hr1_3 := Lib.hid hM
  clear hN hM
  clear Hq1_3
  go_wp2_with fail
  refine (divmod_call Hy_3.out Hz_3.out (by omega) (by omega)).mono ?_
  rintro e w4 ⟨aq2, nq2, cq2, ar2, nr2, cr2, rfl, hN, hM, kq2, kr2, hb⟩
  have S4 := Lib.hid hb
  have B4 := Lib.hid (Below.step B3.out hb)
  have Hx_4 := Lib.hid (Hx_3.out.below hb)
  have Hy_4 := Lib.hid (Hy_3.out.below hb)
  have Hz_4 := Lib.hid (Hz_3.out.below hb)
  have Hu_4 := Lib.hid (Hu_3.out.below hb)
  have Hv_4 := Lib.hid (Hv_3.out.below hb)
  have Hr1_4 := Lib.hid (Hr1_3.out.below hb)
  clear hb
  have Hq2_4 := Lib.hid hN
  have Hr2_4 := Lib.hid hM
  clear hN hM
  clear Hq2_4
  go_wp2_with fail
  refine (mmul_call Hx_4.out Hy_4.out Hz_4.out (by omega) (by omega) (by omega)).mono ?_
  rintro e w5 ⟨ap, np, cp, rfl, hN, kp, hb⟩
  have S5 := Lib.hid hb
  have B5 := Lib.hid (Below.step B4.out hb)
  have Hx_5 := Lib.hid (Hx_4.out.below hb)
  have Hy_5 := Lib.hid (Hy_4.out.below hb)
  have Hz_5 := Lib.hid (Hz_4.out.below hb)
  have Hu_5 := Lib.hid (Hu_4.out.below hb)
  have Hv_5 := Lib.hid (Hv_4.out.below hb)
  have Hr1_5 := Lib.hid (Hr1_4.out.below hb)
  have Hr2_5 := Lib.hid (Hr2_4.out.below hb)
  clear hb
  have Hp_5 := Lib.hid hN
  clear hN
  go_wp2_with fail
  refine (mmul_call (Hr1_5.out.num ((remZ_nonneg (Nz.out)))) (Hr2_5.out.num ((remZ_nonneg (Nz.out)))) Hz_5.out (by omega) (by omega) (by omega)).mono ?_
  rintro e w6 ⟨aq, nq, cq, rfl, hN, kq, hb⟩
  have S6 := Lib.hid hb
  have B6 := Lib.hid (Below.step B5.out hb)
  have Hx_6 := Lib.hid (Hx_5.out.below hb)
  have Hy_6 := Lib.hid (Hy_5.out.below hb)
  have Hz_6 := Lib.hid (Hz_5.out.below hb)
  have Hu_6 := Lib.hid (Hu_5.out.below hb)
  have Hv_6 := Lib.hid (Hv_5.out.below hb)
  have Hr1_6 := Lib.hid (Hr1_5.out.below hb)
  have Hr2_6 := Lib.hid (Hr2_5.out.below hb)
  have Hp_6 := Lib.hid (Hp_5.out.below hb)
  clear hb
  rw [goes_mul zp x y] at hN
  have Hq_6 := Lib.hid hN
  clear hN
  clear Hr1_6
  clear Hr2_6
  go_wp2_with fail
  refine (same_call Hp_6.out Hq_6.out (by omega)).mono ?_
  rintro e w7 ⟨rfl, hb⟩
  have S7 := Lib.hid hb
  have B7 := Lib.hid (Below.step B6.out hb)
  have Hx_7 := Lib.hid (Hx_6.out.below hb)
  have Hy_7 := Lib.hid (Hy_6.out.below hb)
  have Hz_7 := Lib.hid (Hz_6.out.below hb)
  have Hu_7 := Lib.hid (Hu_6.out.below hb)
  have Hv_7 := Lib.hid (Hv_6.out.below hb)
  have Hp_7 := Lib.hid (Hp_6.out.below hb)
  have Hq_7 := Lib.hid (Hq_6.out.below hb)
  clear hb
  clear Hp_7
  clear Hq_7
  go_wp2_with fail
  refine (exp_call Hx_7.out Hu_7.out Hz_7.out (by omega) (by omega) (by omega)).mono ?_
  rintro e w8 ⟨af, nf, cf, rfl, hN, kf, hb⟩
  have S8 := Lib.hid hb
  have B8 := Lib.hid (Below.step B7.out hb)
  have Hx_8 := Lib.hid (Hx_7.out.below hb)
  have Hy_8 := Lib.hid (Hy_7.out.below hb)
  have Hz_8 := Lib.hid (Hz_7.out.below hb)
  have Hu_8 := Lib.hid (Hu_7.out.below hb)
  have Hv_8 := Lib.hid (Hv_7.out.below hb)
  clear hb
  have Hf_8 := Lib.hid hN
  clear hN
  go_wp2_with fail
  refine (exp_call Hx_8.out Hv_8.out Hz_8.out (by omega) (by omega) (by omega)).mono ?_
  rintro e w9 ⟨ag, ng, cg, rfl, hN, kg, hb⟩
  have S9 := Lib.hid hb
  have B9 := Lib.hid (Below.step B8.out hb)
  have Hx_9 := Lib.hid (Hx_8.out.below hb)
  have Hy_9 := Lib.hid (Hy_8.out.below hb)
  have Hz_9 := Lib.hid (Hz_8.out.below hb)
  have Hu_9 := Lib.hid (Hu_8.out.below hb)
  have Hv_9 := Lib.hid (Hv_8.out.below hb)
  have Hf_9 := Lib.hid (Hf_8.out.below hb)
  clear hb
  have Hg_9 := Lib.hid hN
  clear hN
  go_wp2_with fail
  refine (mmul_call (Hf_9.out.num ((remZ_nonneg (Nz.out)))) (Hg_9.out.num ((remZ_nonneg (Nz.out)))) Hz_9.out (by omega) (by omega) (by omega)).mono ?_
  rintro e w10 ⟨ah, nh, ch, rfl, hN, kh, hb⟩
  have S10 := Lib.hid hb
  have B10 := Lib.hid (Below.step B9.out hb)
  have Hx_10 := Lib.hid (Hx_9.out.below hb)
  have Hy_10 := Lib.hid (Hy_9.out.below hb)
  have Hz_10 := Lib.hid (Hz_9.out.below hb)
  have Hu_10 := Lib.hid (Hu_9.out.below hb)
  have Hv_10 := Lib.hid (Hv_9.out.below hb)
  have Hf_10 := Lib.hid (Hf_9.out.below hb)
  have Hg_10 := Lib.hid (Hg_9.out.below hb)
  clear hb
  rw [goes_pow zp Nu.out Nv.out x] at hN
  have Hh_10 := Lib.hid hN
  clear hN
  clear Hf_10
  clear Hg_10
  go_wp2_with fail
  refine wp_region_ord Ext Ext.refl (fun _ _ _ => Ext.trans) [(0, false), (1, false), (2, false), (4, false), (3, true), (5, true), (6, false), (7, false), (8, false), (9, false), (10, false)] (by kernel_rfl) (by kernel_rfl) rfl (by kernel_rfl) (fun _ _ _ _ _ h => h) ?_
  have hb : Below w10.heap.size w10 w10.drew := Ext.drew (Ext.refl w10)
  generalize w10.drew = w11 at hb ⊢
  have S11 := Lib.hid hb
  have B11 := Lib.hid (Below.step B10.out hb)
  have Hx_11 := Lib.hid (Hx_10.out.below hb)
  have Hy_11 := Lib.hid (Hy_10.out.below hb)
  have Hz_11 := Lib.hid (Hz_10.out.below hb)
  have Hu_11 := Lib.hid (Hu_10.out.below hb)
  have Hv_11 := Lib.hid (Hv_10.out.below hb)
  have Hh_11 := Lib.hid (Hh_10.out.below hb)
  clear hb
  repeat (refine ord_take _ rfl (by rfl) (fun W hW => by go_simp; first | done | rfl) ?_; try simp only [Act.put, List.setIfInBounds_toArray, List.set_cons_zero, List.set_cons_succ])
  refine ord_sole rfl (by rfl) (fun K hK => ?_)
  go_simp
  refine (add_call Hu_11.out Hv_11.out (by omega) (by omega)).mono ?_
  rintro e w12 ⟨ae, ne, ce, rfl, hN, ke, hb⟩
  refine hK _ _ hb ?_
  clear hK K
  have S12 := Lib.hid hb
  have B12 := Lib.hid (Below.step B11.out hb)
  have Hx_12 := Lib.hid (Hx_11.out.below hb)
  have Hy_12 := Lib.hid (Hy_11.out.below hb)
  have Hz_12 := Lib.hid (Hz_11.out.below hb)
  have Hu_12 := Lib.hid (Hu_11.out.below hb)
  have Hv_12 := Lib.hid (Hv_11.out.below hb)
  have Hh_12 := Lib.hid (Hh_11.out.below hb)
  clear hb
  have He_12 := Lib.hid hN
  clear hN
  try simp only [Act.put, List.setIfInBounds_toArray, List.set_cons_zero, List.set_cons_succ]
  repeat (refine ord_take _ rfl (by rfl) (fun W hW => by go_simp; first | done | rfl) ?_; try simp only [Act.put, List.setIfInBounds_toArray, List.set_cons_zero, List.set_cons_succ])
  refine ord_sole rfl (by rfl) (fun K hK => ?_)
  go_simp
  refine (exp_call Hx_12.out (He_12.out.num ((Int.add_nonneg Nu.out Nv.out))) Hz_12.out (by omega) (by omega) (by omega)).mono ?_
  rintro e w13 ⟨ai, ni, ci, rfl, hN, ki, hb⟩
  refine hK _ _ hb ?_
  clear hK K
  have S13 := Lib.hid hb
  have B13 := Lib.hid (Below.step B12.out hb)
  have Hx_13 := Lib.hid (Hx_12.out.below hb)
  have Hy_13 := Lib.hid (Hy_12.out.below hb)
  have Hz_13 := Lib.hid (Hz_12.out.below hb)
  have Hu_13 := Lib.hid (Hu_12.out.below hb)
  have Hv_13 := Lib.hid (Hv_12.out.below hb)
  have Hh_13 := Lib.hid (Hh_12.out.below hb)
  have He_13 := Lib.hid (He_12.out.below hb)
  clear hb
  have Hi_13 := Lib.hid hN
  clear hN
  try simp only [Act.put, List.setIfInBounds_toArray, List.set_cons_zero, List.set_cons_succ]
  repeat (refine ord_take _ rfl (by rfl) (fun W hW => by go_simp; first | done | rfl) ?_; try simp only [Act.put, List.setIfInBounds_toArray, List.set_cons_zero, List.set_cons_succ])
  refine ord_end ?_
  go_wp2_with fail
  refine (same_call Hh_13.out Hi_13.out (by omega)).mono ?_
  rintro e w14 ⟨rfl, hb⟩
  have S14 := Lib.hid hb
  have B14 := Lib.hid (Below.step B13.out hb)
  have Hx_14 := Lib.hid (Hx_13.out.below hb)
  have Hy_14 := Lib.hid (Hy_13.out.below hb)
  have Hz_14 := Lib.hid (Hz_13.out.below hb)
  have Hu_14 := Lib.hid (Hu_13.out.below hb)
  have Hv_14 := Lib.hid (Hv_13.out.below hb)
  have Hh_14 := Lib.hid (Hh_13.out.below hb)
  have He_14 := Lib.hid (He_13.out.below hb)
  have Hi_14 := Lib.hid (Hi_13.out.below hb)
  clear hb
  go_wp2_with fail
  go_ret
  exact ⟨rfl, B14.out⟩

end Go.Proofs.Ythpdeaappchnpaa
