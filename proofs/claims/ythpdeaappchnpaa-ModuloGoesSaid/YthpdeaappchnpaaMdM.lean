/-
  What the reference's bit and less answer, for stage 8 (modulo).
-/
import Derived.Test.YthpdeaappchnpaaMdL
namespace Go.Proofs.Ythpdeaappchnpaa
open Go.RowKit
set_option linter.unusedVariables false

set_option maxHeartbeats 500000 in
set_option maxRecDepth 10000 in
theorem rbit_any (a : Option Addr) (n ca k : Nat) (zs : List Int) (w : World) (hr : Row32 w a n zs) (hk : k < 32 * n) (hn : n ≤ 100000) :
    Calls Try.prog 24 #[.slice a n ca, .int .i64 (k : Int)] w fun e w' => e = .returned (.int .u32 (valZ zs / 2 ^ k % 2)) ∧ w' = w := by
  obtain ⟨q, hq⟩ : ∃ q, k / 32 = q := ⟨_, rfl⟩
  have r32 := Nat.mod_lt k (show 0 < 32 by omega)
  obtain ⟨r, hrr⟩ : ∃ r, k % 32 = r := ⟨_, rfl⟩
  rw [hrr] at r32
  have jq : k = 32 * q + r := by omega
  have BA := bit_at hr.2.1 q r r32
  rw [← jq] at BA
  obtain ⟨b1, o1, rfl, hb1, hc1⟩ := hr.2.2 (by omega)
  have cE := hc1 q (by omega)
  have xr := hr.num q
  have k3 : (k : Int) / 32 = (q : Int) := by omega
  have k3' : (k : Int).tdiv 32 = (q : Int) := by rw [Int.tdiv_eq_ediv_of_nonneg (by omega)]; exact k3
  have k4 : (k : Int) % 32 = (r : Int) := by omega
  have k4' : (k : Int).tmod 32 = (r : Int) := by rw [Int.tmod_eq_emod_of_nonneg (by omega)]; exact k4
  have k5 : IntKind.i64.wrap (q : Int) = (q : Int) := IntWalk.i64_in _ (by omega)
  have k6 : IntKind.i64.wrap (r : Int) = (r : Int) := IntWalk.i64_in _ (by omega)
  have qI : (q : Int) < (n : Int) := by omega
  rw [← BA]
  generalize zs[q]?.getD 0 = z at *
  have zr0 : 0 ≤ z / 2 ^ r := Int.ediv_nonneg xr.1 (Int.le_of_lt (two_pow_pos r))
  have zr1 : z / 2 ^ r ≤ 4294967295 := by have := Int.ediv_le_self (2 ^ r) xr.1; omega
  have k7 : IntKind.u32.wrap (z / 2 ^ r % 2) = z / 2 ^ r % 2 := IntWalk.u32_in _ (by omega)
  have k8 : (z / 2 ^ r).tmod 2 = z / 2 ^ r % 2 := Int.tmod_eq_emod_of_nonneg zr0
  clear hr jq BA hq hrr hc1
  go_enter Try.func24, Try.ntmps24
  go_wp2_with fail
  go_ret
  exact ⟨rfl, rfl⟩

set_option maxHeartbeats 1000000 in
set_option maxRecDepth 10000 in
theorem rless_any (a b : Option Addr) (n ca cb : Nat) (xs ys : List Int) (w : World) (hr : Row32 w a n xs) (hs : Row32 w b n ys) (hn : n ≤ 100000) :
    Calls Try.prog 25 #[.slice a n ca, .slice b n cb] w fun e w' => e = .returned (.bool (decide (valZ xs < valZ ys))) ∧ ∃ q, w' = w.drewN q := by
  have HA := Lib.hid hr
  have HB := Lib.hid hs
  have LA := Lib.hid (row32_limbs hr)
  have LB := Lib.hid (row32_limbs hs)
  have TOP : Hid (valZ (xs.drop n) = valZ (ys.drop n)) := Lib.hid (by rw [List.drop_of_length_le (by rw [hr.1]; omega), List.drop_of_length_le (by rw [hs.1]; omega)])
  have w1 : IntKind.i64.wrap ((n : Int) - 1) = (n : Int) - 1 := IntWalk.i64_in _ (by omega)
  clear hr hs
  go_enter Try.func25, Try.ntmps25
  go_wp2_with fail
  go_loopw [5] (fun i wr => ∃ k q : Nat, k ≤ n ∧ i = .int .i64 ((k : Int) - 1) ∧ valZ (xs.drop k) = valZ (ys.drop k) ∧ wr = w.drewN q) (fun i _ => (intOf i + 1).toNat)
  case atStart => exact ⟨n, 0, Nat.le_refl _, rfl, TOP.out, rfl⟩
  case round =>
    obtain ⟨k, q, hk, rfl, hd, hw⟩ := hrel
    have HD := Lib.hid hd
    have HW := Lib.hid hw
    have RA : Hid (Row32 wr a n xs) := Lib.hid (by rw [hw]; exact HA.out.drewN q)
    have RB : Hid (Row32 wr b n ys) := Lib.hid (by rw [hw]; exact HB.out.drewN q)
    clear hd hw TOP
    rcases Nat.eq_zero_or_pos k with h0 | h0
    · subst h0
      have E : Hid (decide (valZ xs < valZ ys) = false) := Lib.hid (decide_eq_false (fun h => by
        have := HD.out
        rw [List.drop_zero, List.drop_zero] at this
        omega))
      rw [show ((0 : Nat) : Int) - 1 = -1 by rfl]
      have t0 : decide ((0 : Int) ≤ -1) = false := by decide
      go_wp2_with fail
      go_ret
      exact ⟨by rw [E.out]; rfl, q, HW.out⟩
    · obtain ⟨j, rfl⟩ : ∃ j, k = j + 1 := ⟨k - 1, by omega⟩
      have CL := Lib.hid (cmp_lt (k := j) LA.out LB.out HD.out)
      have CG := Lib.hid (cmp_gt (k := j) LA.out LB.out HD.out)
      have CD := Lib.hid (cmp_down (k := j) HD.out)
      rw [show ((j + 1 : Nat) : Int) - 1 = (j : Int) by omega]
      have t0 : decide ((0 : Int) ≤ (j : Int)) = true := decide_eq_true (by omega)
      have w3 : IntKind.i64.wrap ((j : Int) - 1) = (j : Int) - 1 := IntWalk.i64_in _ (by omega)
      obtain ⟨b1, o1, rfl, hb1, hc1⟩ := RA.out.2.2 (by omega)
      obtain ⟨b2, o2, rfl, hb2, hc2⟩ := RB.out.2.2 (by omega)
      have c1 := hc1 j (by omega)
      have c2 := hc2 j (by omega)
      have jI : (j : Int) < (n : Int) := by omega
      generalize xs[j]?.getD 0 = x at *
      generalize ys[j]?.getD 0 = y at *
      clear hc1 hc2 HD w1
      by_cases hxy : x = y
      · have E := Lib.hid (CD.out hxy)
        have t1 : (x != y) = false := by simpa using hxy
        clear CL CG CD
        go_wp2_with fail
        go_quiet (fail)
        have N2 : Hid (wr.drewN nq = w.drewN (q + nq)) := by rw [HW.out]; exact Lib.hid (World.drewN_drewN _ _ _)
        generalize wr.drewN nq = w4 at *
        go_wp2_with fail
        go_roundw
        case rel => exact ⟨j, _, by omega, rfl, E.out, N2.out⟩
        case measure => simp only [intOf]; omega
      · have t1 : (x != y) = true := by simpa using hxy
        have E : Hid (decide (x < y) = decide (valZ xs < valZ ys)) := Lib.hid (by
          have ne := cmpI_neg (valZ xs) (valZ ys)
          rcases Int.lt_or_gt_of_ne hxy with h1 | h1
          · have := CL.out h1
            rw [decide_eq_true h1, decide_eq_true (ne.1 (by omega))]
          · have := CG.out h1
            rw [decide_eq_false (by omega), decide_eq_false (fun h => by have := ne.2 h; omega)])
        clear CL CG CD
        go_wp2_with fail
        go_quiet (fail)
        have N2 : Hid (wr.drewN nq = w.drewN (q + nq)) := by rw [HW.out]; exact Lib.hid (World.drewN_drewN _ _ _)
        obtain ⟨q2, hq2⟩ : ∃ q2, q + nq = q2 := ⟨_, rfl⟩
        rw [hq2] at N2
        clear hq2
        have e1 : (wr.drewN nq).cell? ⟨b1, o1 + j, none⟩ = some (.int .u32 x) := c1
        have e2 : (wr.drewN nq).cell? ⟨b2, o2 + j, none⟩ = some (.int .u32 y) := c2
        generalize wr.drewN nq = w4 at *
        clear c1 c2
        go_wp2_with fail
        go_quiet (fail)
        have N3 : Hid (w4.drewN nq = w.drewN (q2 + nq)) := by rw [N2.out]; exact Lib.hid (World.drewN_drewN _ _ _)
        generalize w4.drewN nq = w5 at *
        go_wp2_with fail
        go_ret
        exact ⟨by rw [← E.out]; rfl, _, N3.out⟩

end Go.Proofs.Ythpdeaappchnpaa
