/-
  The walk of stage 7's fifth law (limb): how many bits products and sums have.
-/
import Derived.Test.YtngoahbngckcfaaLnN
namespace Go.Proofs.Ytngoahbngckcfaa
open Go.RowKit
set_option linter.unusedVariables false

theorem cmpI_range (x y : Int) : -1 ≤ cmpI x y ∧ cmpI x y ≤ 1 := by
  unfold cmpI
  split <;> (try split) <;> omega
theorem cmpI_swap (x y : Int) : cmpI x y = -cmpI y x := by
  unfold cmpI
  split <;> split <;> (try split) <;> omega
theorem cmpI_ge (x y : Int) : decide (0 ≤ cmpI x y) = !decide (x < y) := by
  unfold cmpI
  by_cases h : x < y
  · rw [if_pos h]
    simp [h]
  · rw [if_neg h]
    split <;> simp [h]
theorem num_bits {w : World} {v : Int} {a : Option Addr} {n c : Nat} (h : Num w v a n c) : bitZ v ≤ 32 * (n : Int) := by
  obtain ⟨zs, hr, rfl, _⟩ := h
  have := bitZ_bound hr.2.1
  rwa [hr.1] at this
theorem sizes_fact {x y : Int} (hx : 0 ≤ x) (hy : 0 ≤ y) : ((bitZ x = 0 ∨ bitZ y = 0) → bitZ (x * y) = 0 ∧ bitZ (x + y) = max (bitZ x) (bitZ y)) ∧
    (bitZ x ≠ 0 → bitZ y ≠ 0 → (bitZ (x * y) = bitZ x + bitZ y ∨ bitZ (x * y) = bitZ x + bitZ y - 1) ∧ (bitZ (x + y) = max (bitZ x) (bitZ y) ∨ bitZ (x + y) = max (bitZ x) (bitZ y) + 1)) := by
  constructor
  · rintro (h | h)
    · obtain rfl := (bitZ_eq_zero hx).1 h
      rw [Int.zero_mul, Int.zero_add, bitZ_zero, Int.max_eq_right (bitZ_nonneg y)]
      exact ⟨rfl, rfl⟩
    · obtain rfl := (bitZ_eq_zero hy).1 h
      rw [Int.mul_zero, Int.add_zero, bitZ_zero, Int.max_eq_left (bitZ_nonneg x)]
      exact ⟨rfl, rfl⟩
  · intro h1 h2
    have p : 0 < x := by have := mt (bitZ_eq_zero hx).2 h1; omega
    have q : 0 < y := by have := mt (bitZ_eq_zero hy).2 h2; omega
    exact ⟨bitZ_mul p q, bitZ_add p q⟩

set_option maxHeartbeats 4000000 in
set_option maxRecDepth 100000 in
theorem sizes_walk (x : Int) (ax : Option Addr) (nx cx : Nat) (y : Int) (ay : Option Addr) (ny cy : Nat) (w : World) (hx : Num w x ax nx cx) (hy : Num w y ay ny cy) :
    Calls Try.prog 7 #[.slice ax nx cx, .slice ay ny cy] w fun e w' => e = .returned (.bool true) ∧ Below w.heap.size w w' := by
  have Hx_0 := Lib.hid hx
  have Nx := Lib.hid hx.nonneg.1
  clear hx
  have Hy_0 := Lib.hid hy
  have Ny := Lib.hid hy.nonneg.1
  clear hy
  obtain ⟨bx, hbx⟩ : ∃ bx, bitZ x = bx := ⟨_, rfl⟩
  obtain ⟨by_, hby⟩ : ∃ by_, bitZ y = by_ := ⟨_, rfl⟩
  obtain ⟨bm, hbm⟩ : ∃ bm, bitZ (x * y) = bm := ⟨_, rfl⟩
  obtain ⟨bs, hbs⟩ : ∃ bs, bitZ (x + y) = bs := ⟨_, rfl⟩
  obtain ⟨q, hq⟩ : ∃ q, cmpI x y = q := ⟨_, rfl⟩
  have EX := Lib.hid hbx
  have EY := Lib.hid hby
  have EM := Lib.hid hbm
  have ES := Lib.hid hbs
  have EQ := Lib.hid hq
  have EQ2 : Hid (cmpI y x = -q) := Lib.hid (by rw [← hq]; exact cmpI_swap y x)
  have FACT := Lib.hid (sizes_fact Nx.out Ny.out)
  rw [hbx, hby, hbm, hbs] at FACT
  have BX : 0 ≤ bx ∧ bx ≤ 32 * nx := by rw [← hbx]; exact ⟨bitZ_nonneg x, num_bits Hx_0.out⟩
  have BY : 0 ≤ by_ ∧ by_ ≤ 32 * ny := by rw [← hby]; exact ⟨bitZ_nonneg y, num_bits Hy_0.out⟩
  have QR : -1 ≤ q ∧ q ≤ 1 := by rw [← hq]; exact cmpI_range x y
  have tq : IntKind.i64.wrap (-q) = -q := IntWalk.i64_in _ (by omega)
  have tg : decide (0 ≤ q) = !decide (x < y) := by rw [← hq]; exact cmpI_ge x y
  generalize hbb : (!decide (x < y)) = bb at tg
  have HBB := Lib.hid hbb
  clear hbx hby hbm hbs hq hbb
  have AW := Lib.hid (awake_any w)
  go_enter Try.func7, Try.ntmps7
  go_wp2_with fail
  refine AW.out.mono ?_
  rintro e w1 ⟨rfl, hb⟩
  clear AW
  have S1 := Lib.hid hb
  have Hx_1 := Lib.hid (Hx_0.out.below hb)
  have Hy_1 := Lib.hid (Hy_0.out.below hb)
  clear hb
  have B1 := Lib.hid S1.out
  by_cases qx : 100 < nx
  · have tx : decide ((100 : Int) < (nx : Int)) = true := by simp; omega
    go_wp2_with fail
    go_ret
    exact ⟨rfl, B1.out⟩
  have tx : decide ((100 : Int) < (nx : Int)) = false := by simp; omega
  by_cases qy : 100 < ny
  · have ty : decide ((100 : Int) < (ny : Int)) = true := by simp; omega
    go_wp2_with fail
    go_ret
    exact ⟨rfl, B1.out⟩
  have ty : decide ((100 : Int) < (ny : Int)) = false := by simp; omega
  have BXw := BX
  have BYw := BY
  have wb : IntKind.i64.wrap (bx + by_) = bx + by_ := IntWalk.i64_in _ (by omega)
  have wb1 : IntKind.i64.wrap (bx + by_ - 1) = bx + by_ - 1 := IntWalk.i64_in _ (by omega)
  have wx1 : IntKind.i64.wrap (bx + 1) = bx + 1 := IntWalk.i64_in _ (by omega)
  have wy1 : IntKind.i64.wrap (by_ + 1) = by_ + 1 := IntWalk.i64_in _ (by omega)
  by_cases hlt : bx < by_
  · have tlt : decide (bx < by_) = true := decide_eq_true hlt
    have tmx : max bx by_ = by_ := Int.max_eq_right (by omega)
    rw [tmx] at FACT
    go_wp2_with fail
    refine (mul_call Hx_1.out Hy_1.out (by omega) (by omega)).mono ?_
    rintro e w2 ⟨am, nm, cm, rfl, hN, km, hb⟩
    have S2 := Lib.hid hb
    have B2 := Lib.hid (Below.step B1.out hb)
    have Hx_2 := Lib.hid (Hx_1.out.below hb)
    have Hy_2 := Lib.hid (Hy_1.out.below hb)
    clear hb
    have Hm_2 := Lib.hid hN
    clear hN
    go_wp2_with fail
    refine (len_call (Hm_2.out.num ((Int.mul_nonneg (Nx.out) (Ny.out)))) (by omega)).mono ?_
    rintro e w3 ⟨he, hb⟩
    rw [EM.out] at he
    subst he
    have S3 := Lib.hid hb
    have B3 := Lib.hid (Below.step B2.out hb)
    have Hx_3 := Lib.hid (Hx_2.out.below hb)
    have Hy_3 := Lib.hid (Hy_2.out.below hb)
    have Hm_3 := Lib.hid (Hm_2.out.below hb)
    clear hb
    clear Hm_3
    go_wp2_with fail
    refine (len_call Hx_3.out (by omega)).mono ?_
    rintro e w4 ⟨he, hb⟩
    rw [EX.out] at he
    subst he
    have S4 := Lib.hid hb
    have B4 := Lib.hid (Below.step B3.out hb)
    have Hx_4 := Lib.hid (Hx_3.out.below hb)
    have Hy_4 := Lib.hid (Hy_3.out.below hb)
    clear hb
    go_wp2_with fail
    refine (len_call Hy_4.out (by omega)).mono ?_
    rintro e w5 ⟨he, hb⟩
    rw [EY.out] at he
    subst he
    have S5 := Lib.hid hb
    have B5 := Lib.hid (Below.step B4.out hb)
    have Hx_5 := Lib.hid (Hx_4.out.below hb)
    have Hy_5 := Lib.hid (Hy_4.out.below hb)
    clear hb
    go_wp2_with fail
    refine (sub_call Hx_5.out Hy_5.out (by omega) (by omega)).mono ?_
    rintro e w6 ⟨ad, nd, cd, he, hN, kd, hb⟩
    rw [HBB.out] at he
    subst he
    have S6 := Lib.hid hb
    have B6 := Lib.hid (Below.step B5.out hb)
    have Hx_6 := Lib.hid (Hx_5.out.below hb)
    have Hy_6 := Lib.hid (Hy_5.out.below hb)
    clear hb
    clear hN
    go_wp2_with fail
    refine (add_call Hx_6.out Hy_6.out (by omega) (by omega)).mono ?_
    rintro e w7 ⟨asm, nsm, csm, rfl, hN, ksm, hb⟩
    have S7 := Lib.hid hb
    have B7 := Lib.hid (Below.step B6.out hb)
    have Hx_7 := Lib.hid (Hx_6.out.below hb)
    have Hy_7 := Lib.hid (Hy_6.out.below hb)
    clear hb
    have Hsm_7 := Lib.hid hN
    clear hN
    go_wp2_with fail
    refine (len_call (Hsm_7.out.num ((Int.add_nonneg (Nx.out) (Ny.out)))) (by omega)).mono ?_
    rintro e w8 ⟨he, hb⟩
    rw [ES.out] at he
    subst he
    have S8 := Lib.hid hb
    have B8 := Lib.hid (Below.step B7.out hb)
    have Hx_8 := Lib.hid (Hx_7.out.below hb)
    have Hy_8 := Lib.hid (Hy_7.out.below hb)
    have Hsm_8 := Lib.hid (Hsm_7.out.below hb)
    clear hb
    clear Hsm_8
    go_wp2_with fail
    refine (len_call Hx_8.out (by omega)).mono ?_
    rintro e w9 ⟨he, hb⟩
    rw [EX.out] at he
    subst he
    have S9 := Lib.hid hb
    have B9 := Lib.hid (Below.step B8.out hb)
    have Hx_9 := Lib.hid (Hx_8.out.below hb)
    have Hy_9 := Lib.hid (Hy_8.out.below hb)
    clear hb
    go_wp2_with fail
    refine (len_call Hy_9.out (by omega)).mono ?_
    rintro e w10 ⟨he, hb⟩
    rw [EY.out] at he
    subst he
    have S10 := Lib.hid hb
    have B10 := Lib.hid (Below.step B9.out hb)
    have Hx_10 := Lib.hid (Hx_9.out.below hb)
    have Hy_10 := Lib.hid (Hy_9.out.below hb)
    clear hb
    by_cases zx : bx = 0
    · obtain ⟨z1, z2⟩ := FACT.out.1 (.inl zx)
      have u1 : (bx == 0) = true := by simpa using zx
      have u2 : (bm == 0) = true := by simpa using z1
      have u3 : (bs == by_) = true := by simpa using z2
      clear FACT zx z1 z2
      go_wp2_with fail
      refine (len_call Hx_10.out (by omega)).mono ?_
      rintro e w11 ⟨he, hb⟩
      rw [EX.out] at he
      subst he
      have S11 := Lib.hid hb
      have B11 := Lib.hid (Below.step B10.out hb)
      have Hx_11 := Lib.hid (Hx_10.out.below hb)
      have Hy_11 := Lib.hid (Hy_10.out.below hb)
      clear hb
      go_wp2_with fail
      go_ret
      exact ⟨rfl, B11.out⟩
    · have u1 : (bx == 0) = false := by simpa using zx
      go_wp2_with fail
      refine (len_call Hx_10.out (by omega)).mono ?_
      rintro e w11 ⟨he, hb⟩
      rw [EX.out] at he
      subst he
      have S11 := Lib.hid hb
      have B11 := Lib.hid (Below.step B10.out hb)
      have Hx_11 := Lib.hid (Hx_10.out.below hb)
      have Hy_11 := Lib.hid (Hy_10.out.below hb)
      clear hb
      go_wp2_with fail
      refine (len_call Hy_11.out (by omega)).mono ?_
      rintro e w12 ⟨he, hb⟩
      rw [EY.out] at he
      subst he
      have S12 := Lib.hid hb
      have B12 := Lib.hid (Below.step B11.out hb)
      have Hx_12 := Lib.hid (Hx_11.out.below hb)
      have Hy_12 := Lib.hid (Hy_11.out.below hb)
      clear hb
      by_cases zy : by_ = 0
      · obtain ⟨z1, z2⟩ := FACT.out.1 (.inr zy)
        have u4 : (by_ == 0) = true := by simpa using zy
        have u2 : (bm == 0) = true := by simpa using z1
        have u3 : (bs == by_) = true := by simpa using z2
        clear FACT zx zy z1 z2
        go_wp2_with fail
        go_ret
        exact ⟨rfl, B12.out⟩
      · have u4 : (by_ == 0) = false := by simpa using zy
        obtain ⟨z1, z2⟩ := FACT.out.2 zx zy
        clear FACT zx zy
        rcases z1 with z1 | z1
        · rcases z2 with z2 | z2
          · have u2 : (bm == bx + by_) = true := by simpa using z1
            have u3 : (bs == by_) = true := by simpa using z2
            clear z1 z2
            go_wp2_with fail
            refine (cmp_call Hx_12.out Hy_12.out (by omega) (by omega)).mono ?_
            rintro e w13 ⟨he, hb⟩
            rw [EQ.out] at he
            subst he
            have S13 := Lib.hid hb
            have B13 := Lib.hid (Below.step B12.out hb)
            have Hx_13 := Lib.hid (Hx_12.out.below hb)
            have Hy_13 := Lib.hid (Hy_12.out.below hb)
            clear hb
            go_wp2_with fail
            refine (cmp_call Hy_13.out Hx_13.out (by omega) (by omega)).mono ?_
            rintro e w14 ⟨he, hb⟩
            rw [EQ2.out] at he
            subst he
            have S14 := Lib.hid hb
            have B14 := Lib.hid (Below.step B13.out hb)
            have Hx_14 := Lib.hid (Hx_13.out.below hb)
            have Hy_14 := Lib.hid (Hy_13.out.below hb)
            clear hb
            go_wp2_with fail
            refine (cmp_call Hx_14.out Hy_14.out (by omega) (by omega)).mono ?_
            rintro e w15 ⟨he, hb⟩
            rw [EQ.out] at he
            subst he
            have S15 := Lib.hid hb
            have B15 := Lib.hid (Below.step B14.out hb)
            have Hx_15 := Lib.hid (Hx_14.out.below hb)
            have Hy_15 := Lib.hid (Hy_14.out.below hb)
            clear hb
            go_wp2_with fail
            go_ret
            exact ⟨rfl, B15.out⟩
          · have u2 : (bm == bx + by_) = true := by simpa using z1
            have u3 : (bs == by_) = false := by simp; omega
            have u3b : (bs == by_ + 1) = true := by simpa using z2
            clear z1 z2
            go_wp2_with fail
            refine (cmp_call Hx_12.out Hy_12.out (by omega) (by omega)).mono ?_
            rintro e w13 ⟨he, hb⟩
            rw [EQ.out] at he
            subst he
            have S13 := Lib.hid hb
            have B13 := Lib.hid (Below.step B12.out hb)
            have Hx_13 := Lib.hid (Hx_12.out.below hb)
            have Hy_13 := Lib.hid (Hy_12.out.below hb)
            clear hb
            go_wp2_with fail
            refine (cmp_call Hy_13.out Hx_13.out (by omega) (by omega)).mono ?_
            rintro e w14 ⟨he, hb⟩
            rw [EQ2.out] at he
            subst he
            have S14 := Lib.hid hb
            have B14 := Lib.hid (Below.step B13.out hb)
            have Hx_14 := Lib.hid (Hx_13.out.below hb)
            have Hy_14 := Lib.hid (Hy_13.out.below hb)
            clear hb
            go_wp2_with fail
            refine (cmp_call Hx_14.out Hy_14.out (by omega) (by omega)).mono ?_
            rintro e w15 ⟨he, hb⟩
            rw [EQ.out] at he
            subst he
            have S15 := Lib.hid hb
            have B15 := Lib.hid (Below.step B14.out hb)
            have Hx_15 := Lib.hid (Hx_14.out.below hb)
            have Hy_15 := Lib.hid (Hy_14.out.below hb)
            clear hb
            go_wp2_with fail
            go_ret
            exact ⟨rfl, B15.out⟩
        · rcases z2 with z2 | z2
          · have u2 : (bm == bx + by_) = false := by simp; omega
            have u2b : (bm == bx + by_ - 1) = true := by simpa using z1
            have u3 : (bs == by_) = true := by simpa using z2
            clear z1 z2
            go_wp2_with fail
            refine (cmp_call Hx_12.out Hy_12.out (by omega) (by omega)).mono ?_
            rintro e w13 ⟨he, hb⟩
            rw [EQ.out] at he
            subst he
            have S13 := Lib.hid hb
            have B13 := Lib.hid (Below.step B12.out hb)
            have Hx_13 := Lib.hid (Hx_12.out.below hb)
            have Hy_13 := Lib.hid (Hy_12.out.below hb)
            clear hb
            go_wp2_with fail
            refine (cmp_call Hy_13.out Hx_13.out (by omega) (by omega)).mono ?_
            rintro e w14 ⟨he, hb⟩
            rw [EQ2.out] at he
            subst he
            have S14 := Lib.hid hb
            have B14 := Lib.hid (Below.step B13.out hb)
            have Hx_14 := Lib.hid (Hx_13.out.below hb)
            have Hy_14 := Lib.hid (Hy_13.out.below hb)
            clear hb
            go_wp2_with fail
            refine (cmp_call Hx_14.out Hy_14.out (by omega) (by omega)).mono ?_
            rintro e w15 ⟨he, hb⟩
            rw [EQ.out] at he
            subst he
            have S15 := Lib.hid hb
            have B15 := Lib.hid (Below.step B14.out hb)
            have Hx_15 := Lib.hid (Hx_14.out.below hb)
            have Hy_15 := Lib.hid (Hy_14.out.below hb)
            clear hb
            go_wp2_with fail
            go_ret
            exact ⟨rfl, B15.out⟩
          · have u2 : (bm == bx + by_) = false := by simp; omega
            have u2b : (bm == bx + by_ - 1) = true := by simpa using z1
            have u3 : (bs == by_) = false := by simp; omega
            have u3b : (bs == by_ + 1) = true := by simpa using z2
            clear z1 z2
            go_wp2_with fail
            refine (cmp_call Hx_12.out Hy_12.out (by omega) (by omega)).mono ?_
            rintro e w13 ⟨he, hb⟩
            rw [EQ.out] at he
            subst he
            have S13 := Lib.hid hb
            have B13 := Lib.hid (Below.step B12.out hb)
            have Hx_13 := Lib.hid (Hx_12.out.below hb)
            have Hy_13 := Lib.hid (Hy_12.out.below hb)
            clear hb
            go_wp2_with fail
            refine (cmp_call Hy_13.out Hx_13.out (by omega) (by omega)).mono ?_
            rintro e w14 ⟨he, hb⟩
            rw [EQ2.out] at he
            subst he
            have S14 := Lib.hid hb
            have B14 := Lib.hid (Below.step B13.out hb)
            have Hx_14 := Lib.hid (Hx_13.out.below hb)
            have Hy_14 := Lib.hid (Hy_13.out.below hb)
            clear hb
            go_wp2_with fail
            refine (cmp_call Hx_14.out Hy_14.out (by omega) (by omega)).mono ?_
            rintro e w15 ⟨he, hb⟩
            rw [EQ.out] at he
            subst he
            have S15 := Lib.hid hb
            have B15 := Lib.hid (Below.step B14.out hb)
            have Hx_15 := Lib.hid (Hx_14.out.below hb)
            have Hy_15 := Lib.hid (Hy_14.out.below hb)
            clear hb
            go_wp2_with fail
            go_ret
            exact ⟨rfl, B15.out⟩
  · have tlt : decide (bx < by_) = false := decide_eq_false hlt
    have tmx : max bx by_ = bx := Int.max_eq_left (by omega)
    rw [tmx] at FACT
    go_wp2_with fail
    refine (mul_call Hx_1.out Hy_1.out (by omega) (by omega)).mono ?_
    rintro e w2 ⟨am, nm, cm, rfl, hN, km, hb⟩
    have S2 := Lib.hid hb
    have B2 := Lib.hid (Below.step B1.out hb)
    have Hx_2 := Lib.hid (Hx_1.out.below hb)
    have Hy_2 := Lib.hid (Hy_1.out.below hb)
    clear hb
    have Hm_2 := Lib.hid hN
    clear hN
    go_wp2_with fail
    refine (len_call (Hm_2.out.num ((Int.mul_nonneg (Nx.out) (Ny.out)))) (by omega)).mono ?_
    rintro e w3 ⟨he, hb⟩
    rw [EM.out] at he
    subst he
    have S3 := Lib.hid hb
    have B3 := Lib.hid (Below.step B2.out hb)
    have Hx_3 := Lib.hid (Hx_2.out.below hb)
    have Hy_3 := Lib.hid (Hy_2.out.below hb)
    have Hm_3 := Lib.hid (Hm_2.out.below hb)
    clear hb
    clear Hm_3
    go_wp2_with fail
    refine (len_call Hx_3.out (by omega)).mono ?_
    rintro e w4 ⟨he, hb⟩
    rw [EX.out] at he
    subst he
    have S4 := Lib.hid hb
    have B4 := Lib.hid (Below.step B3.out hb)
    have Hx_4 := Lib.hid (Hx_3.out.below hb)
    have Hy_4 := Lib.hid (Hy_3.out.below hb)
    clear hb
    go_wp2_with fail
    refine (len_call Hy_4.out (by omega)).mono ?_
    rintro e w5 ⟨he, hb⟩
    rw [EY.out] at he
    subst he
    have S5 := Lib.hid hb
    have B5 := Lib.hid (Below.step B4.out hb)
    have Hx_5 := Lib.hid (Hx_4.out.below hb)
    have Hy_5 := Lib.hid (Hy_4.out.below hb)
    clear hb
    go_wp2_with fail
    refine (sub_call Hx_5.out Hy_5.out (by omega) (by omega)).mono ?_
    rintro e w6 ⟨ad, nd, cd, he, hN, kd, hb⟩
    rw [HBB.out] at he
    subst he
    have S6 := Lib.hid hb
    have B6 := Lib.hid (Below.step B5.out hb)
    have Hx_6 := Lib.hid (Hx_5.out.below hb)
    have Hy_6 := Lib.hid (Hy_5.out.below hb)
    clear hb
    clear hN
    go_wp2_with fail
    refine (add_call Hx_6.out Hy_6.out (by omega) (by omega)).mono ?_
    rintro e w7 ⟨asm, nsm, csm, rfl, hN, ksm, hb⟩
    have S7 := Lib.hid hb
    have B7 := Lib.hid (Below.step B6.out hb)
    have Hx_7 := Lib.hid (Hx_6.out.below hb)
    have Hy_7 := Lib.hid (Hy_6.out.below hb)
    clear hb
    have Hsm_7 := Lib.hid hN
    clear hN
    go_wp2_with fail
    refine (len_call (Hsm_7.out.num ((Int.add_nonneg (Nx.out) (Ny.out)))) (by omega)).mono ?_
    rintro e w8 ⟨he, hb⟩
    rw [ES.out] at he
    subst he
    have S8 := Lib.hid hb
    have B8 := Lib.hid (Below.step B7.out hb)
    have Hx_8 := Lib.hid (Hx_7.out.below hb)
    have Hy_8 := Lib.hid (Hy_7.out.below hb)
    have Hsm_8 := Lib.hid (Hsm_7.out.below hb)
    clear hb
    clear Hsm_8
    go_wp2_with fail
    refine (len_call Hx_8.out (by omega)).mono ?_
    rintro e w9 ⟨he, hb⟩
    rw [EX.out] at he
    subst he
    have S9 := Lib.hid hb
    have B9 := Lib.hid (Below.step B8.out hb)
    have Hx_9 := Lib.hid (Hx_8.out.below hb)
    have Hy_9 := Lib.hid (Hy_8.out.below hb)
    clear hb
    go_wp2_with fail
    refine (len_call Hy_9.out (by omega)).mono ?_
    rintro e w10 ⟨he, hb⟩
    rw [EY.out] at he
    subst he
    have S10 := Lib.hid hb
    have B10 := Lib.hid (Below.step B9.out hb)
    have Hx_10 := Lib.hid (Hx_9.out.below hb)
    have Hy_10 := Lib.hid (Hy_9.out.below hb)
    clear hb
    by_cases zx : bx = 0
    · obtain ⟨z1, z2⟩ := FACT.out.1 (.inl zx)
      have u1 : (bx == 0) = true := by simpa using zx
      have u2 : (bm == 0) = true := by simpa using z1
      have u3 : (bs == bx) = true := by simpa using z2
      clear FACT zx z1 z2
      go_wp2_with fail
      refine (len_call Hx_10.out (by omega)).mono ?_
      rintro e w11 ⟨he, hb⟩
      rw [EX.out] at he
      subst he
      have S11 := Lib.hid hb
      have B11 := Lib.hid (Below.step B10.out hb)
      have Hx_11 := Lib.hid (Hx_10.out.below hb)
      have Hy_11 := Lib.hid (Hy_10.out.below hb)
      clear hb
      go_wp2_with fail
      go_ret
      exact ⟨rfl, B11.out⟩
    · have u1 : (bx == 0) = false := by simpa using zx
      go_wp2_with fail
      refine (len_call Hx_10.out (by omega)).mono ?_
      rintro e w11 ⟨he, hb⟩
      rw [EX.out] at he
      subst he
      have S11 := Lib.hid hb
      have B11 := Lib.hid (Below.step B10.out hb)
      have Hx_11 := Lib.hid (Hx_10.out.below hb)
      have Hy_11 := Lib.hid (Hy_10.out.below hb)
      clear hb
      go_wp2_with fail
      refine (len_call Hy_11.out (by omega)).mono ?_
      rintro e w12 ⟨he, hb⟩
      rw [EY.out] at he
      subst he
      have S12 := Lib.hid hb
      have B12 := Lib.hid (Below.step B11.out hb)
      have Hx_12 := Lib.hid (Hx_11.out.below hb)
      have Hy_12 := Lib.hid (Hy_11.out.below hb)
      clear hb
      by_cases zy : by_ = 0
      · obtain ⟨z1, z2⟩ := FACT.out.1 (.inr zy)
        have u4 : (by_ == 0) = true := by simpa using zy
        have u2 : (bm == 0) = true := by simpa using z1
        have u3 : (bs == bx) = true := by simpa using z2
        clear FACT zx zy z1 z2
        go_wp2_with fail
        go_ret
        exact ⟨rfl, B12.out⟩
      · have u4 : (by_ == 0) = false := by simpa using zy
        obtain ⟨z1, z2⟩ := FACT.out.2 zx zy
        clear FACT zx zy
        rcases z1 with z1 | z1
        · rcases z2 with z2 | z2
          · have u2 : (bm == bx + by_) = true := by simpa using z1
            have u3 : (bs == bx) = true := by simpa using z2
            clear z1 z2
            go_wp2_with fail
            refine (cmp_call Hx_12.out Hy_12.out (by omega) (by omega)).mono ?_
            rintro e w13 ⟨he, hb⟩
            rw [EQ.out] at he
            subst he
            have S13 := Lib.hid hb
            have B13 := Lib.hid (Below.step B12.out hb)
            have Hx_13 := Lib.hid (Hx_12.out.below hb)
            have Hy_13 := Lib.hid (Hy_12.out.below hb)
            clear hb
            go_wp2_with fail
            refine (cmp_call Hy_13.out Hx_13.out (by omega) (by omega)).mono ?_
            rintro e w14 ⟨he, hb⟩
            rw [EQ2.out] at he
            subst he
            have S14 := Lib.hid hb
            have B14 := Lib.hid (Below.step B13.out hb)
            have Hx_14 := Lib.hid (Hx_13.out.below hb)
            have Hy_14 := Lib.hid (Hy_13.out.below hb)
            clear hb
            go_wp2_with fail
            refine (cmp_call Hx_14.out Hy_14.out (by omega) (by omega)).mono ?_
            rintro e w15 ⟨he, hb⟩
            rw [EQ.out] at he
            subst he
            have S15 := Lib.hid hb
            have B15 := Lib.hid (Below.step B14.out hb)
            have Hx_15 := Lib.hid (Hx_14.out.below hb)
            have Hy_15 := Lib.hid (Hy_14.out.below hb)
            clear hb
            go_wp2_with fail
            go_ret
            exact ⟨rfl, B15.out⟩
          · have u2 : (bm == bx + by_) = true := by simpa using z1
            have u3 : (bs == bx) = false := by simp; omega
            have u3b : (bs == bx + 1) = true := by simpa using z2
            clear z1 z2
            go_wp2_with fail
            refine (cmp_call Hx_12.out Hy_12.out (by omega) (by omega)).mono ?_
            rintro e w13 ⟨he, hb⟩
            rw [EQ.out] at he
            subst he
            have S13 := Lib.hid hb
            have B13 := Lib.hid (Below.step B12.out hb)
            have Hx_13 := Lib.hid (Hx_12.out.below hb)
            have Hy_13 := Lib.hid (Hy_12.out.below hb)
            clear hb
            go_wp2_with fail
            refine (cmp_call Hy_13.out Hx_13.out (by omega) (by omega)).mono ?_
            rintro e w14 ⟨he, hb⟩
            rw [EQ2.out] at he
            subst he
            have S14 := Lib.hid hb
            have B14 := Lib.hid (Below.step B13.out hb)
            have Hx_14 := Lib.hid (Hx_13.out.below hb)
            have Hy_14 := Lib.hid (Hy_13.out.below hb)
            clear hb
            go_wp2_with fail
            refine (cmp_call Hx_14.out Hy_14.out (by omega) (by omega)).mono ?_
            rintro e w15 ⟨he, hb⟩
            rw [EQ.out] at he
            subst he
            have S15 := Lib.hid hb
            have B15 := Lib.hid (Below.step B14.out hb)
            have Hx_15 := Lib.hid (Hx_14.out.below hb)
            have Hy_15 := Lib.hid (Hy_14.out.below hb)
            clear hb
            go_wp2_with fail
            go_ret
            exact ⟨rfl, B15.out⟩
        · rcases z2 with z2 | z2
          · have u2 : (bm == bx + by_) = false := by simp; omega
            have u2b : (bm == bx + by_ - 1) = true := by simpa using z1
            have u3 : (bs == bx) = true := by simpa using z2
            clear z1 z2
            go_wp2_with fail
            refine (cmp_call Hx_12.out Hy_12.out (by omega) (by omega)).mono ?_
            rintro e w13 ⟨he, hb⟩
            rw [EQ.out] at he
            subst he
            have S13 := Lib.hid hb
            have B13 := Lib.hid (Below.step B12.out hb)
            have Hx_13 := Lib.hid (Hx_12.out.below hb)
            have Hy_13 := Lib.hid (Hy_12.out.below hb)
            clear hb
            go_wp2_with fail
            refine (cmp_call Hy_13.out Hx_13.out (by omega) (by omega)).mono ?_
            rintro e w14 ⟨he, hb⟩
            rw [EQ2.out] at he
            subst he
            have S14 := Lib.hid hb
            have B14 := Lib.hid (Below.step B13.out hb)
            have Hx_14 := Lib.hid (Hx_13.out.below hb)
            have Hy_14 := Lib.hid (Hy_13.out.below hb)
            clear hb
            go_wp2_with fail
            refine (cmp_call Hx_14.out Hy_14.out (by omega) (by omega)).mono ?_
            rintro e w15 ⟨he, hb⟩
            rw [EQ.out] at he
            subst he
            have S15 := Lib.hid hb
            have B15 := Lib.hid (Below.step B14.out hb)
            have Hx_15 := Lib.hid (Hx_14.out.below hb)
            have Hy_15 := Lib.hid (Hy_14.out.below hb)
            clear hb
            go_wp2_with fail
            go_ret
            exact ⟨rfl, B15.out⟩
          · have u2 : (bm == bx + by_) = false := by simp; omega
            have u2b : (bm == bx + by_ - 1) = true := by simpa using z1
            have u3 : (bs == bx) = false := by simp; omega
            have u3b : (bs == bx + 1) = true := by simpa using z2
            clear z1 z2
            go_wp2_with fail
            refine (cmp_call Hx_12.out Hy_12.out (by omega) (by omega)).mono ?_
            rintro e w13 ⟨he, hb⟩
            rw [EQ.out] at he
            subst he
            have S13 := Lib.hid hb
            have B13 := Lib.hid (Below.step B12.out hb)
            have Hx_13 := Lib.hid (Hx_12.out.below hb)
            have Hy_13 := Lib.hid (Hy_12.out.below hb)
            clear hb
            go_wp2_with fail
            refine (cmp_call Hy_13.out Hx_13.out (by omega) (by omega)).mono ?_
            rintro e w14 ⟨he, hb⟩
            rw [EQ2.out] at he
            subst he
            have S14 := Lib.hid hb
            have B14 := Lib.hid (Below.step B13.out hb)
            have Hx_14 := Lib.hid (Hx_13.out.below hb)
            have Hy_14 := Lib.hid (Hy_13.out.below hb)
            clear hb
            go_wp2_with fail
            refine (cmp_call Hx_14.out Hy_14.out (by omega) (by omega)).mono ?_
            rintro e w15 ⟨he, hb⟩
            rw [EQ.out] at he
            subst he
            have S15 := Lib.hid hb
            have B15 := Lib.hid (Below.step B14.out hb)
            have Hx_15 := Lib.hid (Hx_14.out.below hb)
            have Hy_15 := Lib.hid (Hy_14.out.below hb)
            clear hb
            go_wp2_with fail
            go_ret
            exact ⟨rfl, B15.out⟩

end Go.Proofs.Ytngoahbngckcfaa
