/-
  What the reference's Cmp, Same, Add and Sub answer, for stage 7 (limb).
-/
import Derived.Test.YtngoahbngckcfaaLimR
namespace Go.Proofs.Ytngoahbngckcfaa
open Go.RowKit
set_option linter.unusedVariables false

set_option maxHeartbeats 500000 in
set_option maxRecDepth 10000 in
/-- Two slices that read as the same limbs are the same. -/
theorem same_any (a b : Option Addr) (n ca cb : Nat) (zs : List Int) (w : World) (hr : Row32 w a n zs) (hs : Row32 w b n zs) (hn : n ≤ 1000000) : Calls Try.prog 9 #[.slice a n ca, .slice b n cb] w fun e w' => e = .returned (.bool true) ∧ ∃ q, w' = w.drewN q := by
  have HR := Lib.hid hr
  have HS := Lib.hid hs
  clear hr hs
  go_enter Try.func9, Try.ntmps9
  go_wp2_with fail
  go_loopw [5] (fun i wr => ∃ k q : Nat, k ≤ n ∧ i = .int .i64 (k : Int) ∧ wr = w.drewN q) (fun i _ => (1000001 - intOf i).toNat)
  case atStart => exact ⟨0, 0, by omega, rfl, rfl⟩
  case round =>
    obtain ⟨k, q, hk, rfl, hw⟩ := hrel
    by_cases h : k < n
    · obtain ⟨b1, o1, rfl, hb1, hc1⟩ := HR.out.2.2 (by omega)
      obtain ⟨b2, o2, rfl, hb2, hc2⟩ := HS.out.2.2 (by omega)
      have t0 : decide ((k : Int) < (n : Int)) = true := decide_eq_true (by omega)
      have kI : (k : Int) < (n : Int) := by omega
      have kN : (0 : Int) ≤ (k : Int) := by omega
      have c1 : wr.cell? ⟨b1, o1 + k, none⟩ = some (.int .u32 (zs[k]?.getD 0)) := by rw [hw]; exact hc1 k h
      have c2 : wr.cell? ⟨b2, o2 + k, none⟩ = some (.int .u32 (zs[k]?.getD 0)) := by rw [hw]; exact hc2 k h
      have HW := Lib.hid hw
      generalize zs[k]?.getD 0 = x at *
      clear hc1 hc2 hw
      go_wp2_with fail
      go_quiet (fail)
      have N2 : Hid (wr.drewN nq = w.drewN (q + nq)) := by rw [HW.out]; exact Lib.hid (World.drewN_drewN _ _ _)
      generalize wr.drewN nq = w2 at *
      go_wp2_with fail
      go_roundw
      case rel => exact ⟨k + 1, _, by omega, by first | rfl | go_num, N2.out⟩
      case measure => simp only [intOf]; omega
    · have t0 : decide ((k : Int) < (n : Int)) = false := decide_eq_false (by omega)
      have HW := Lib.hid hw
      clear hw
      go_wp2_with fail
      go_ret
      exact ⟨rfl, q, HW.out⟩

set_option maxHeartbeats 500000 in
set_option maxRecDepth 10000 in
theorem rcmp_any (a b : Option Addr) (n m ca cb : Nat) (xs ys : List Int) (w : World) (hr : Row32 w a n xs) (hs : Row32 w b m ys) (hn : n ≤ 100000) (hm : m ≤ 100000) : Calls Try.prog 23 #[.slice a n ca, .slice b m cb] w fun e w' => e = .returned (.int .i64 (cmpI (valZ xs) (valZ ys))) ∧ w' = w := by
  have HA := Lib.hid hr
  have HB := Lib.hid hs
  have LA := Lib.hid (row32_limbs hr)
  have LB := Lib.hid (row32_limbs hs)
  have TOP := Lib.hid (cmp_top xs ys)
  rw [hr.1, hs.1] at TOP
  clear hr hs
  obtain ⟨mx, hmx⟩ : ∃ mx, max n m = mx := ⟨_, rfl⟩
  rw [hmx] at TOP
  have mI : max (n : Int) (m : Int) = (mx : Int) := by omega
  have mI' : (if (n : Int) < (m : Int) then (m : Int) else (n : Int)) = (mx : Int) := by split <;> omega
  have mb : mx ≤ 100000 := by omega
  have wm : IntKind.i64.wrap ((mx : Int) - 1) = (mx : Int) - 1 := IntWalk.i64_in _ (by omega)
  clear mI mI'
  have e1 : ¬ n < m → n = mx := by omega
  have e2 : n < m → m = mx := by omega
  clear hmx
  go_enter Try.func23, Try.ntmps23
  go_wp2_with fail
  all_goals (
    go_loop [5] (fun i => ∃ k : Nat, k ≤ mx ∧ i = .int .i64 ((k : Int) - 1) ∧ valZ (xs.drop k) = valZ (ys.drop k)) (fun i => (intOf i + 1).toNat)
    case atStart => exact ⟨mx, Nat.le_refl _, by congr 1; omega, TOP.out⟩
    case round =>
      obtain ⟨k, hk, rfl, hd⟩ := hrel
      have HD := Lib.hid hd
      clear hd
      rcases Nat.eq_zero_or_pos k with h0 | h0
      · subst h0
        have E := cmp_eq HD.out
        rw [show ((0 : Nat) : Int) - 1 = -1 by rfl]
        have t0 : decide ((0 : Int) ≤ -1) = false := by decide
        go_wp2_with fail
        go_ret
        first | exact ⟨rfl, rfl⟩ | exact ⟨by rw [E], rfl⟩
      · obtain ⟨j, rfl⟩ : ∃ j, k = j + 1 := ⟨k - 1, by omega⟩
        have CL := Lib.hid (cmp_lt (k := j) LA.out LB.out HD.out)
        have CG := Lib.hid (cmp_gt (k := j) LA.out LB.out HD.out)
        have CD := Lib.hid (cmp_down (k := j) HD.out)
        rw [show ((j + 1 : Nat) : Int) - 1 = (j : Int) by omega]
        have t0 : decide ((0 : Int) ≤ (j : Int)) = true := decide_eq_true (by omega)
        have w1 : IntKind.i64.wrap ((j : Int) - 1) = (j : Int) - 1 := IntWalk.i64_in _ (by omega)
        obtain ⟨x, hx⟩ : ∃ x, xs[j]?.getD 0 = x := ⟨_, rfl⟩
        obtain ⟨y, hy⟩ : ∃ y, ys[j]?.getD 0 = y := ⟨_, rfl⟩
        rw [hx, hy] at CL CG CD
        have HX := Lib.hid hx
        have HY := Lib.hid hy
        clear HD TOP e1 e2 hx hy
        rcases Int.lt_trichotomy x y with h1 | h1 | h1
        · have E := Lib.hid (CL.out h1)
          have t1 : decide (x < y) = true := decide_eq_true h1
          clear CL CG CD
          go_wp2_with (go_at_call 29; go_must (refine (part_any _ _ _ _ _ _ (by first | exact HA.out | exact HB.out)).mono ?_; rintro e w' ⟨rfl, rfl⟩; first | rw [HX.out] | rw [HY.out]))
          go_ret
          exact ⟨by rw [E.out]; rfl, rfl⟩
        · have E := Lib.hid (CD.out h1)
          have t1 : decide (x < y) = false := decide_eq_false (by omega)
          have t2 : decide (y < x) = false := decide_eq_false (by omega)
          clear CL CG CD
          go_wp2_with (go_at_call 29; go_must (refine (part_any _ _ _ _ _ _ (by first | exact HA.out | exact HB.out)).mono ?_; rintro e w' ⟨rfl, rfl⟩; first | rw [HX.out] | rw [HY.out]))
          go_round
          case rel => exact ⟨j, by omega, rfl, E.out⟩
          case measure => simp only [intOf]; omega
        · have E := Lib.hid (CG.out h1)
          have t1 : decide (x < y) = false := decide_eq_false (by omega)
          have t2 : decide (y < x) = true := decide_eq_true h1
          clear CL CG CD
          go_wp2_with (go_at_call 29; go_must (refine (part_any _ _ _ _ _ _ (by first | exact HA.out | exact HB.out)).mono ?_; rintro e w' ⟨rfl, rfl⟩; first | rw [HX.out] | rw [HY.out]))
          go_ret
          exact ⟨by rw [E.out]; rfl, rfl⟩)

end Go.Proofs.Ytngoahbngckcfaa
