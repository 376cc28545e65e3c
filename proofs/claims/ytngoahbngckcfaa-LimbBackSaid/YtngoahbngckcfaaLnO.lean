/-
  The walk of stage 7's third law (limb): numbers out of their bytes, and bytes out of their numbers.
-/
import Derived.Test.YtngoahbngckcfaaLnN
namespace Go.Proofs.Ytngoahbngckcfaa
open Go.RowKit
set_option linter.unusedVariables false

theorem subadd_call {w : World} {x y : Int} {a b : Option Addr} {n m ca cb : Nat} (hx : Num w (x + y) a n ca) (hy : Num w y b m cb) (h0 : 0 ≤ x) (hn : n ≤ 40000) (hm : m ≤ 40000) :
    Calls Try.prog 14 #[.slice a n ca, .slice b m cb] w fun e w' => ∃ a' n' c', e = .returned (.tuple #[.slice a' n' c', .bool true]) ∧ Norm w' x a' n' c' ∧ n' ≤ n ∧ Below w.heap.size w w' := by
  refine (sub_call hx hy hn hm).mono ?_
  rintro e w' ⟨a', n', c', he, hN, hk, hb⟩
  have e1 : subI (x + y) y = x := by unfold subI; rw [if_neg (by omega)]; omega
  have e2 : (!decide (x + y < y)) = true := by simp; omega
  rw [e1] at hN
  rw [e2] at he
  exact ⟨a', n', c', he, hN, hk, hb⟩
/-- The end of a row of bytes. -/
theorem Row.behind {w : World} {bb off n d m : Nat} {zs ys : List Int} (h : Row w (some ⟨bb, off, none⟩) n zs) (hz : zs = List.replicate d 0 ++ ys) (hm : d + m = n) : Row w (some ⟨bb, off + d, none⟩) m ys := by
  have hl := h.1
  rw [hz, List.length_append, List.length_replicate] at hl
  refine ⟨by omega, fun x hx => h.2.1 x (by rw [hz]; exact List.mem_append_right _ hx), fun h0 => ?_⟩
  obtain ⟨b', o', e, hb, hc⟩ := h.2.2 (by omega)
  injection e with e
  injection e with e1 e2
  subst e1 e2
  refine ⟨bb, off + d, rfl, hb, fun i hi => ?_⟩
  have := hc (d + i) (by omega)
  rw [hz, List.getElem?_append_right (by rw [List.length_replicate]; omega), List.length_replicate, show d + i - d = i by omega] at this
  rw [show off + d + i = off + (d + i) by omega]
  exact this
theorem row_none {w : World} {n : Nat} {zs : List Int} (h : Row w none n zs) : n = 0 := by
  rcases Nat.eq_zero_or_pos n with h0 | h0
  · exact h0
  · obtain ⟨_, _, e, _⟩ := h.2.2 h0
    cases e

set_option maxHeartbeats 4000000 in
set_option maxRecDepth 100000 in
theorem back_walk (x : Int) (ax : Option Addr) (nx cx : Nat) (y : Int) (ay : Option Addr) (ny cy : Nat) (b : List Int) (ab : Option Addr) (nb cb : Nat) (w : World) (hx : Num w x ax nx cx) (hy : Num w y ay ny cy) (hb : Row w ab nb b) (hcb : nb ≤ cb) (hnb : ab = none → cb = 0) :
    Calls Try.prog 5 #[.slice ax nx cx, .slice ay ny cy, .slice ab nb cb] w fun e w' => e = .returned (.bool true) ∧ Below w.heap.size w w' := by
  have Hx_0 := Lib.hid hx
  have Nx := Lib.hid hx.nonneg.1
  clear hx
  have Hy_0 := Lib.hid hy
  have Ny := Lib.hid hy.nonneg.1
  clear hy
  have Hb_0 := Lib.hid hb
  clear hb
  have HNB := Lib.hid hnb
  clear hnb
  have AW := Lib.hid (awake_any w)
  go_enter Try.func5, Try.ntmps5
  go_wp2_with fail
  refine AW.out.mono ?_
  rintro e w1 ⟨rfl, hb⟩
  clear AW
  have S1 := Lib.hid hb
  have Hx_1 := Lib.hid (Hx_0.out.below hb)
  have Hy_1 := Lib.hid (Hy_0.out.below hb)
  have Hb_1 := Lib.hid (Hb_0.out.below hb)
  clear hb
  have B1 := Lib.hid S1.out
  by_cases qx : 200 < nx
  · have tx : decide ((200 : Int) < (nx : Int)) = true := by simp; omega
    go_wp2_with fail
    go_ret
    exact ⟨rfl, B1.out⟩
  have tx : decide ((200 : Int) < (nx : Int)) = false := by simp; omega
  by_cases qy : 200 < ny
  · have ty : decide ((200 : Int) < (ny : Int)) = true := by simp; omega
    go_wp2_with fail
    go_ret
    exact ⟨rfl, B1.out⟩
  have ty : decide ((200 : Int) < (ny : Int)) = false := by simp; omega
  by_cases qb : 1000 < nb
  · have tb : decide ((1000 : Int) < (nb : Int)) = true := by simp; omega
    go_wp2_with fail
    go_ret
    exact ⟨rfl, B1.out⟩
  have tb : decide ((1000 : Int) < (nb : Int)) = false := by simp; omega
  have NB := Lib.hid (beV_nonneg (Hb_1.out).2.1)
  go_wp2_with fail
  refine (to_call Hx_1.out (by omega)).mono ?_
  rintro e w2 ⟨att, ntt, ctt, rfl, ltt, hN, ktt, hb⟩
  have S2 := Lib.hid hb
  have B2 := Lib.hid (Below.step B1.out hb)
  have Hx_2 := Lib.hid (Hx_1.out.below hb)
  have Hy_2 := Lib.hid (Hy_1.out.below hb)
  have Hb_2 := Lib.hid (Hb_1.out.below hb)
  clear hb
  have Htt_2 := Lib.hid hN
  have Ltt := Lib.hid ltt
  clear hN ltt
  go_wp2_with fail
  refine (from_call (ca := ctt) Htt_2.out (by omega)).mono ?_
  rintro e w3 ⟨ap, np, cp, rfl, hN, kp, hb⟩
  have S3 := Lib.hid hb
  have B3 := Lib.hid (Below.step B2.out hb)
  have Hx_3 := Lib.hid (Hx_2.out.below hb)
  have Hy_3 := Lib.hid (Hy_2.out.below hb)
  have Hb_3 := Lib.hid (Hb_2.out.below hb)
  have Htt_3 := Lib.hid (Htt_2.out.below hb)
  clear hb
  rw [beV_byZ Nx.out] at hN
  have Hp_3 := Lib.hid hN
  clear hN
  clear Htt_3
  go_wp2_with fail
  refine (bare_call Hx_3.out (by omega)).mono ?_
  rintro e w4 ⟨aq, nq, cq, rfl, hN, kq, hb⟩
  have S4 := Lib.hid hb
  have B4 := Lib.hid (Below.step B3.out hb)
  have Hx_4 := Lib.hid (Hx_3.out.below hb)
  have Hy_4 := Lib.hid (Hy_3.out.below hb)
  have Hb_4 := Lib.hid (Hb_3.out.below hb)
  have Hp_4 := Lib.hid (Hp_3.out.below hb)
  clear hb
  have Hq_4 := Lib.hid hN
  clear hN
  go_wp2_with fail
  refine (same_call Hp_4.out Hq_4.out (by omega)).mono ?_
  rintro e w5 ⟨rfl, hb⟩
  have S5 := Lib.hid hb
  have B5 := Lib.hid (Below.step B4.out hb)
  have Hx_5 := Lib.hid (Hx_4.out.below hb)
  have Hy_5 := Lib.hid (Hy_4.out.below hb)
  have Hb_5 := Lib.hid (Hb_4.out.below hb)
  have Hp_5 := Lib.hid (Hp_4.out.below hb)
  have Hq_5 := Lib.hid (Hq_4.out.below hb)
  clear hb
  clear Hp_5
  clear Hq_5
  go_wp2_with fail
  refine (add_call Hx_5.out Hy_5.out (by omega) (by omega)).mono ?_
  rintro e w6 ⟨ar, nr, cr, rfl, hN, kr, hb⟩
  have S6 := Lib.hid hb
  have B6 := Lib.hid (Below.step B5.out hb)
  have Hx_6 := Lib.hid (Hx_5.out.below hb)
  have Hy_6 := Lib.hid (Hy_5.out.below hb)
  have Hb_6 := Lib.hid (Hb_5.out.below hb)
  clear hb
  have Hr_6 := Lib.hid hN
  clear hN
  go_wp2_with fail
  refine (subadd_call (Hr_6.out.num ((Int.add_nonneg (Nx.out) (Ny.out)))) Hy_6.out Nx.out (by omega) (by omega)).mono ?_
  rintro e w7 ⟨ad, nd, cd, rfl, hN, kd, hb⟩
  have S7 := Lib.hid hb
  have B7 := Lib.hid (Below.step B6.out hb)
  have Hx_7 := Lib.hid (Hx_6.out.below hb)
  have Hy_7 := Lib.hid (Hy_6.out.below hb)
  have Hb_7 := Lib.hid (Hb_6.out.below hb)
  have Hr_7 := Lib.hid (Hr_6.out.below hb)
  clear hb
  have Hd_7 := Lib.hid hN
  clear hN
  clear Hr_7
  go_wp2_with fail
  refine (bare_call Hx_7.out (by omega)).mono ?_
  rintro e w8 ⟨af, nf, cf, rfl, hN, kf, hb⟩
  have S8 := Lib.hid hb
  have B8 := Lib.hid (Below.step B7.out hb)
  have Hx_8 := Lib.hid (Hx_7.out.below hb)
  have Hy_8 := Lib.hid (Hy_7.out.below hb)
  have Hb_8 := Lib.hid (Hb_7.out.below hb)
  have Hd_8 := Lib.hid (Hd_7.out.below hb)
  clear hb
  have Hf_8 := Lib.hid hN
  clear hN
  go_wp2_with fail
  refine (same_call Hd_8.out Hf_8.out (by omega)).mono ?_
  rintro e w9 ⟨rfl, hb⟩
  have S9 := Lib.hid hb
  have B9 := Lib.hid (Below.step B8.out hb)
  have Hx_9 := Lib.hid (Hx_8.out.below hb)
  have Hy_9 := Lib.hid (Hy_8.out.below hb)
  have Hb_9 := Lib.hid (Hb_8.out.below hb)
  have Hd_9 := Lib.hid (Hd_8.out.below hb)
  have Hf_9 := Lib.hid (Hf_8.out.below hb)
  clear hb
  clear Hd_9
  clear Hf_9
  go_wp2_with fail
  refine (from_call (ca := cb) Hb_9.out (by omega)).mono ?_
  rintro e w10 ⟨ag, ng, cg, rfl, hN, kg, hb⟩
  have S10 := Lib.hid hb
  have B10 := Lib.hid (Below.step B9.out hb)
  have Hx_10 := Lib.hid (Hx_9.out.below hb)
  have Hy_10 := Lib.hid (Hy_9.out.below hb)
  have Hb_10 := Lib.hid (Hb_9.out.below hb)
  clear hb
  have Hg_10 := Lib.hid hN
  clear hN
  go_wp2_with fail
  refine (to_call (Hg_10.out.num (NB.out)) (by omega)).mono ?_
  rintro e w11 ⟨au, nu, cu, rfl, lu, hN, ku, hb⟩
  have S11 := Lib.hid hb
  have B11 := Lib.hid (Below.step B10.out hb)
  have Hx_11 := Lib.hid (Hx_10.out.below hb)
  have Hy_11 := Lib.hid (Hy_10.out.below hb)
  have Hb_11 := Lib.hid (Hb_10.out.below hb)
  have Hg_11 := Lib.hid (Hg_10.out.below hb)
  clear hb
  have Hu_11 := Lib.hid hN
  have Lu := Lib.hid lu
  clear hN lu
  clear Hg_11
  clear Hx_11
  clear Hy_11
  obtain ⟨dd, hdd⟩ := byZ_strip b (Hb_11.out).2.1
  have ld := congrArg List.length hdd
  rw [(Hb_11.out).1, List.length_append, List.length_replicate, ← Lu.out] at ld
  have HH := Lib.hid (fun (h : nu ≠ 0) => byZ_head (v := beV b) (by rw [← Lu.out]; exact h))
  have LD := Lib.hid ld
  clear ld
  generalize byZ (beV b) = T at *
  have HDD := Lib.hid hdd
  clear hdd
  by_cases q0 : nu = 0
  · subst q0
    obtain rfl : T = [] := List.eq_nil_of_length_eq_zero Lu.out.symm
    rcases Option.eq_none_or_eq_some ab with hab | ⟨ad, hab⟩
    · subst hab
      obtain rfl : nb = 0 := row_none Hb_11.out
      obtain rfl : cb = 0 := HNB.out rfl
      have w0 : IntKind.i64.wrap 0 = 0 := by decide
      go_wp2_with fail
      refine wp_region_ord Ext Ext.refl (fun _ _ _ => Ext.trans) [(0, false), (1, false), (2, false), (3, false), (4, false), (5, false), (6, false), (7, false), (8, false), (9, false), (10, false), (11, false), (12, false), (13, false), (14, false), (15, false), (16, false), (17, false), (18, false), (19, false), (20, false), (21, false), (22, false), (23, false), (24, false), (25, false), (26, false), (27, false), (28, false), (29, false), (30, false), (31, false), (32, false), (33, false), (34, false), (35, false), (36, false), (37, false), (38, false), (39, false), (40, false), (41, false)] (by kernel_rfl) (by kernel_rfl) rfl (by kernel_rfl) (fun _ _ _ _ _ h => h) ?_
      have hb : Below w11.heap.size w11 w11.drew := Ext.drew (Ext.refl w11)
      generalize w11.drew = w12 at hb ⊢
      have S12 := Lib.hid hb
      have B12 := Lib.hid (Below.step B11.out hb)
      have Hb_12 := Lib.hid (Hb_11.out.below hb)
      have Hu_12 := Lib.hid (Hu_11.out.below hb)
      clear hb
      have cv : ∀ (W : World) (A : Option Addr) (C : Nat), (convert 28 9 (.slice A 0 C)).run Try.prog W = .ok (.string (strOfNums [])) W := fun W A C => conv_at C ⟨rfl, by simp, fun h => absurd h (by omega)⟩
      repeat ((first | refine ord_take _ rfl (by rfl) (fun W hW => by go_simp; first | done | rfl) ?_ | refine ord_skip rfl (by rfl) ?_); try simp only [Act.put, List.setIfInBounds_toArray, List.set_cons_zero, List.set_cons_succ])
      refine ord_end ?_
      go_wp2_with fail
      go_ret
      exact ⟨rfl, B12.out⟩
    · subst hab
      by_cases hcn : cb = nb
      · have w0 : IntKind.i64.wrap (nb : Int) = (nb : Int) := IntWalk.i64_in _ (by omega)
        have hcn3 : nb = cb := hcn.symm
        subst hcn3
        have le1 : (nb : Int) ≤ (nb : Int) := Int.le_refl _
        go_wp2_with fail
        refine wp_region_ord Ext Ext.refl (fun _ _ _ => Ext.trans) [(0, false), (1, false), (2, false), (3, false), (4, false), (5, false), (6, false), (7, false), (8, false), (9, false), (10, false), (11, false), (12, false), (13, false), (14, false), (15, false), (16, false), (17, false), (18, false), (19, false), (20, false), (21, false), (22, false), (23, false), (24, false), (25, false), (26, false), (27, false), (28, false), (29, false), (30, false), (31, false), (32, false), (33, false), (34, false), (35, false), (36, false), (37, false), (38, false), (39, false), (40, false), (41, false)] (by kernel_rfl) (by kernel_rfl) rfl (by kernel_rfl) (fun _ _ _ _ _ h => h) ?_
        have hb : Below w11.heap.size w11 w11.drew := Ext.drew (Ext.refl w11)
        generalize w11.drew = w12 at hb ⊢
        have S12 := Lib.hid hb
        have B12 := Lib.hid (Below.step B11.out hb)
        have Hb_12 := Lib.hid (Hb_11.out.below hb)
        have Hu_12 := Lib.hid (Hu_11.out.below hb)
        clear hb
        have cv : ∀ (W : World) (A : Option Addr) (C : Nat), (convert 28 9 (.slice A 0 C)).run Try.prog W = .ok (.string (strOfNums [])) W := fun W A C => conv_at C ⟨rfl, by simp, fun h => absurd h (by omega)⟩
        repeat ((first | refine ord_take _ rfl (by rfl) (fun W hW => by go_simp; first | done | rfl) ?_ | refine ord_skip rfl (by rfl) ?_); try simp only [Act.put, List.setIfInBounds_toArray, List.set_cons_zero, List.set_cons_succ])
        refine ord_end ?_
        go_wp2_with fail
        go_ret
        exact ⟨rfl, B12.out⟩
      · have w0 : IntKind.i64.wrap (nb : Int) = (nb : Int) := IntWalk.i64_in _ (by omega)
        have hcn2 : ¬ nb = cb := fun e => hcn e.symm
        have le1 : (nb : Int) ≤ (nb : Int) := Int.le_refl _
        have le2 : (nb : Int) ≤ (cb : Int) := by omega
        go_wp2_with fail
        refine wp_region_ord Ext Ext.refl (fun _ _ _ => Ext.trans) [(0, false), (1, false), (2, false), (3, false), (4, false), (5, false), (6, false), (7, false), (8, false), (9, false), (10, false), (11, false), (12, false), (13, false), (14, false), (15, false), (16, false), (17, false), (18, false), (19, false), (20, false), (21, false), (22, false), (23, false), (24, false), (25, false), (26, false), (27, false), (28, false), (29, false), (30, false), (31, false), (32, false), (33, false), (34, false), (35, false), (36, false), (37, false), (38, false), (39, false), (40, false), (41, false)] (by kernel_rfl) (by kernel_rfl) rfl (by kernel_rfl) (fun _ _ _ _ _ h => h) ?_
        have hb : Below w11.heap.size w11 w11.drew := Ext.drew (Ext.refl w11)
        generalize w11.drew = w12 at hb ⊢
        have S12 := Lib.hid hb
        have B12 := Lib.hid (Below.step B11.out hb)
        have Hb_12 := Lib.hid (Hb_11.out.below hb)
        have Hu_12 := Lib.hid (Hu_11.out.below hb)
        clear hb
        have cv : ∀ (W : World) (A : Option Addr) (C : Nat), (convert 28 9 (.slice A 0 C)).run Try.prog W = .ok (.string (strOfNums [])) W := fun W A C => conv_at C ⟨rfl, by simp, fun h => absurd h (by omega)⟩
        repeat ((first | refine ord_take _ rfl (by rfl) (fun W hW => by go_simp; first | done | rfl) ?_ | refine ord_skip rfl (by rfl) ?_); try simp only [Act.put, List.setIfInBounds_toArray, List.set_cons_zero, List.set_cons_succ])
        refine ord_end ?_
        go_wp2_with fail
        go_ret
        exact ⟨rfl, B12.out⟩
  · obtain ⟨bb, off, rfl, hbb, hcb_⟩ := (Hb_11.out).2.2 (by omega)
    clear hcb_
    obtain ⟨ub, uo, rfl, hub, hcu⟩ := (Hu_11.out).2.2 (by omega)
    have c0 : w11.cell? ⟨ub, uo, none⟩ = some (.int .u8 (T[0]?.getD 0)) := hcu 0 (by omega)
    clear hcu
    have z0 := HH.out (by omega)
    generalize T[0]?.getD 0 = z at *
    have t0 : (z != 0) = true := by simpa using z0
    have RB := Lib.hid ((Hb_11.out).behind HDD.out LD.out.symm)
    have RU := Lib.hid Hu_11.out
    have ld := LD.out
    have w0 : IntKind.i64.wrap ((nb : Int) - (nu : Int)) = (dd : Int) := by rw [show (nb : Int) - (nu : Int) = (dd : Int) by omega]; exact IntWalk.i64_in _ (by omega)
    have le0 : (nu : Int) ≤ (nb : Int) := by omega
    have le1 : (dd : Int) ≤ (nb : Int) := by omega
    have nn : nb - dd = nu := by omega
    have ne : ¬ cb = dd := by omega
    have u0 : ((nu : Int) == 0) = false := by simp; omega
    have u1 : (0 : Int) < (nu : Int) := by omega
    have u1n : 0 < nu := by omega
    clear ld
    have le1d : decide ((nu : Int) ≤ (nb : Int)) = true := decide_eq_true le0
    go_wp2_with fail
    refine wp_region_ord Ext Ext.refl (fun _ _ _ => Ext.trans) [(0, false), (1, false), (2, false), (3, false), (4, false), (5, false), (6, false), (7, false), (8, false), (9, false), (10, false), (11, false), (12, false), (13, false), (14, false), (15, false), (16, false), (17, false), (18, false), (19, false), (20, false), (21, false), (22, false), (23, false), (24, false), (25, false), (26, false), (27, false), (28, false), (29, false), (30, false), (31, false), (32, false), (33, false), (34, false), (35, false), (36, false), (37, false), (38, false), (39, false), (40, false), (41, false)] (by kernel_rfl) (by kernel_rfl) rfl (by kernel_rfl) (fun _ _ _ _ _ h => h) ?_
    have hb : Below w11.heap.size w11 w11.drew := Ext.drew (Ext.refl w11)
    generalize w11.drew = w12 at hb ⊢
    have S12 := Lib.hid hb
    have B12 := Lib.hid (Below.step B11.out hb)
    have Hb_12 := Lib.hid (Hb_11.out.below hb)
    have Hu_12 := Lib.hid (Hu_11.out.below hb)
    clear hb
    have RB2 := Lib.hid (RB.out.below S12.out)
    have RU2 := Lib.hid (RU.out.below S12.out)
    have cv1 : ∀ W, Ext w12 W → (convert 28 9 (.slice (some ⟨bb, off + dd, none⟩) nu (cb - dd))).run Try.prog W = .ok (.string (strOfNums T)) W := fun W hW => conv_at _ (RB2.out.below hW)
    have cv2 : ∀ W, Ext w12 W → (convert 28 9 (.slice (some ⟨ub, uo, none⟩) nu cu)).run Try.prog W = .ok (.string (strOfNums T)) W := fun W hW => conv_at _ (RU2.out.below hW)
    have cz : ∀ W, Ext w12 W → W.cell? ⟨ub, uo, none⟩ = some (.int .u8 z) := fun W hW => (hW.cell (p := ⟨ub, uo, none⟩) (Nat.lt_of_lt_of_le hub S12.out.size)).trans ((S12.out.cell (p := ⟨ub, uo, none⟩) hub).trans c0)
    repeat ((first | refine ord_take _ rfl (by rfl) (fun W hW => by go_simp; first | done | rfl) ?_ | refine ord_skip rfl (by rfl) ?_); try simp only [Act.put, List.setIfInBounds_toArray, List.set_cons_zero, List.set_cons_succ])
    refine ord_end ?_
    go_wp2_with fail
    go_ret
    exact ⟨rfl, B12.out⟩

end Go.Proofs.Ytngoahbngckcfaa
