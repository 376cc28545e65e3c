/-
  What the reference's Mul answers, for stage 7 (limb).
-/
import Derived.Test.YthpdeaappchnpaaLimV
namespace Go.Proofs.Ythpdeaappchnpaa
open Go.RowKit
set_option linter.unusedVariables false

theorem part_is (a : Option Addr) (n ca i : Nat) (zs : List Int) (x : Int) (w : World) (hr : Row32 w a n zs) (hx : zs[i]?.getD 0 = x) : Calls Try.prog 38 #[.slice a n ca, .int .i64 (i : Int)] w fun e w' => e = .returned (.int .u64 x) ∧ w' = w := hx ▸ part_any a n ca i zs w hr
theorem Out32.drewN {W0 wr : World} {V : Value} {L : List Int} (h : Out32 W0 wr V L) (q : Nat) : Out32 W0 (wr.drewN q) V L := ⟨h.1, { h.2 with }⟩

set_option maxHeartbeats 2000000 in
set_option maxRecDepth 10000 in
theorem rmul_any (a b : Option Addr) (n m ca cb : Nat) (xs ys : List Int) (w : World) (hr : Row32 w a n xs) (hs : Row32 w b m ys) (hn : n ≤ 40000) (hm : m ≤ 40000) : Calls Try.prog 26 #[.slice a n ca, .slice b m cb] w (GivesL (valZ xs * valZ ys) w) := by
  obtain ⟨i0, hi, hz0, hz1, hz2⟩ := info_parts Try.info32
  have HA := Lib.hid hr
  have HB := Lib.hid hs
  have LA := Lib.hid (row32_limbs hr)
  have LB := Lib.hid (row32_limbs hs)
  have HL : Hid (xs.length = n ∧ ys.length = m) := Lib.hid ⟨hr.1, hs.1⟩
  clear hr hs
  have w1 : IntKind.i64.wrap ((n : Int) + (m : Int)) = (n : Int) + (m : Int) := IntWalk.i64_in _ (by omega)
  have w2 : IntKind.i64.wrap ((n : Int) + (m : Int) + 1) = (n : Int) + (m : Int) + 1 := IntWalk.i64_in _ (by omega)
  go_enter Try.func26, Try.ntmps26
  go_wp2_with (at_make; refine wpList_make_full _ rfl _ _ 22 rfl w.heap.size 35 i0 (.int .u32 0) 1 Try.underlying22 hi hz0 hz1 _ _ _ _ (n + m + 1) rfl rfl ?b0 ?b00 ?b1 ?b2 ?b3 ?_)
  case b0 => first | rfl | omega
  case b00 => first | rfl | omega
  case b1 => rw [hz2]; omega
  case b2 => unfold maxLen; omega
  case b3 => exact Nat.le_refl _
  intro w1 hown0 hgrow
  have HO := Lib.hid (out_made32 hown0 hgrow)
  clear hown0 hgrow hz2 hz1 hz0 hi
  go_wp2_with fail
  go_loopw [6] (fun iV wr => ∃ (i : Nat) (L : List Int), iV = .int .i64 (i : Int) ∧ i ≤ n ∧ Out32 w wr (.slice (some ⟨w.heap.size, 0, none⟩) (n + m + 1) (n + m + 1)) L ∧ Limbs L ∧ L.length = n + m + 1 ∧ valZ L = valZ (xs.take i) * valZ ys) (fun iV _ => (1000001 - intOf iV).toNat)
  case atStart => exact ⟨0, _, rfl, by omega, HO.out, limbs_zeros _, by simp, by simp [valZ, valZ_zeros]⟩
  case round =>
    obtain ⟨i, L0, rfl, hi, ho, hL, hlen, hval⟩ := hrel
    have HO0 := Lib.hid ho
    have HL0 := Lib.hid hL
    have HN0 := Lib.hid hlen
    have HV0 := Lib.hid hval
    clear ho hL hlen hval HO
    by_cases hmore : i < n
    · have t1 : decide ((i : Int) < (n : Int)) = true := decide_eq_true (by omega)
      obtain ⟨x, hx⟩ : ∃ x, xs[i]?.getD 0 = x := ⟨_, rfl⟩
      have HX := Lib.hid hx
      have xr := HA.out.num i
      rw [hx] at xr
      clear hx
      go_wp2_with fail
      go_loopw [7, 8] (fun cV kV wr => ∃ (k : Nat) (c : Int) (L : List Int), cV = .int .u64 c ∧ kV = .int .i64 (k : Int) ∧ k ≤ m + 1 ∧ 0 ≤ c ∧ c ≤ 4294967295 ∧ Out32 w wr (.slice (some ⟨w.heap.size, 0, none⟩) (n + m + 1) (n + m + 1)) L ∧ Limbs L ∧ L.length = n + m + 1 ∧ valZ L + 4294967296 ^ (i + k) * c = valZ (xs.take i) * valZ ys + x * 4294967296 ^ i * valZ (ys.take k)) (fun _ kV _ => (1000001 - intOf kV).toNat)
      case atStart => exact ⟨0, 0, L0, rfl, rfl, by omega, by omega, by omega, HO0.out, HL0.out, HN0.out, by rw [HV0.out]; simp [valZ]⟩
      case round =>
        obtain ⟨k, c, L, rfl, rfl, hk, c0, c1, ho, hL, hlen, hval⟩ := hrel
        have HO := Lib.hid ho
        have HLL := Lib.hid hL
        have HN := Lib.hid hlen
        have HV := Lib.hid hval
        clear ho hL hlen hval HO0 HL0 HN0 HV0
        by_cases hgo : k < m ∨ 0 < c
        · have hkm : k ≤ m := by
            rcases Nat.lt_or_ge m k with h | h
            · have r := mul_row (xs := xs) (ys := ys) (i := i) (k := k) (c := c) (by rw [HL.out.2]; omega) (by rw [HX.out]; exact HV.out)
              have := mul_carry HLL.out LA.out LB.out c0 (by rw [HL.out.2]; exact h) r
              omega
            · exact h
          have hkM : k ≤ 1000000 := by omega
          have hS := mul_step (i := i) (k := k) (c := c) (x := x) (ys := ys) (by rw [HN.out]; omega) HV.out
          obtain ⟨j, hj⟩ : ∃ j, i + k = j := ⟨_, rfl⟩
          have w3 : IntKind.i64.wrap ((i : Int) + (k : Int)) = (j : Int) := by rw [show (i : Int) + (k : Int) = (j : Int) by omega]; exact IntWalk.i64_in _ (by omega)
          rw [hj] at hS
          have jN : j < n + m + 1 := by omega
          have jI : (j : Int) < ((n + m + 1 : Nat) : Int) := by omega
          have jI' : (j : Int) < (n : Int) + (m : Int) + 1 := by omega
          obtain ⟨hc1, hf1⟩ := HO.out.cell j (by rw [HN.out]; exact jN)
          have zr : 0 ≤ L[j]?.getD 0 ∧ L[j]?.getD 0 ≤ 4294967295 := by
            rw [List.getElem?_eq_getElem (by rw [HN.out]; exact jN)]
            exact HLL.out _ (List.getElem_mem _)
          have RA := Lib.hid (HA.out.below HO.out.2)
          have RB := Lib.hid (HB.out.below HO.out.2)
          have yr := HB.out.num k
          obtain ⟨z, hz⟩ : ∃ z, L[j]?.getD 0 = z := ⟨_, rfl⟩
          obtain ⟨y, hy⟩ : ∃ y, ys[k]?.getD 0 = y := ⟨_, rfl⟩
          rw [hz] at zr hc1 hS
          rw [hy] at yr hS
          have HY := Lib.hid hy
          have HS := Lib.hid hS
          have MR := mul_range c0 c1 zr.1 zr.2 xr.1 xr.2 yr.1 yr.2
          have k0 : IntKind.u64.wrap z = z := IntWalk.u64_in _ (by omega)
          have k1 : IntKind.u64.wrap (c + z) = c + z := IntWalk.u64_in _ (by omega)
          have k2 : IntKind.u64.wrap (x * y) = x * y := IntWalk.u64_in _ (by omega)
          have k3 : IntKind.u64.wrap (c + z + x * y) = c + z + x * y := IntWalk.u64_in _ (by omega)
          have k4 : IntKind.u32.wrap (c + z + x * y) = (c + z + x * y) % 4294967296 := rfl
          have k5 : IntKind.u64.wrap ((c + z + x * y) / 4294967296) = (c + z + x * y) / 4294967296 := IntWalk.u64_in _ (by omega)
          have d0 := MR.2.2.1
          have d1 := MR.2.2.2.1
          have LN : Hid (Limbs (L.set j ((c + z + x * y) % 4294967296))) := Lib.hid (limbs_set HLL.out j (by omega) (by omega))
          have HZ := Lib.hid hz
          clear hS hz hy MR
          rcases Nat.lt_or_ge k m with h2 | h2
          · have t2 : decide ((k : Int) < (m : Int)) = true := decide_eq_true (by omega)
            go_wp2_with fail
            go_quiet ((go_at_call 38; exact Calls.quiet_of_same (part_is _ _ _ _ _ _ _ (by first | exact RA.out | exact RB.out) (by first | exact HX.out | exact HY.out))))
            have O2 := Lib.hid (HO.out.drewN nq)
            clear hc1 hf1
            generalize wr.drewN nq = w4 at *
            obtain ⟨hc1, hf1⟩ := O2.out.cell j (by rw [HN.out]; exact jN)
            rw [HZ.out] at hc1
            have O3 := Lib.hid (O2.out.set (Nat.le_refl _) j ((c + z + x * y) % 4294967296))
            go_wp2_with fail
            go_roundw
            case rel => exact ⟨k + 1, _, _, rfl, by go_num, by omega, d0, d1, O3.out, LN.out, by rw [List.length_set]; exact HN.out, HS.out⟩
            case measure => simp only [intOf]; exact meas_lt hkM
          · have t2 : decide ((k : Int) < (m : Int)) = false := decide_eq_false (by omega)
            have t3 : decide (0 < c) = true := decide_eq_true (by omega)
            go_wp2_with fail
            go_quiet ((go_at_call 38; exact Calls.quiet_of_same (part_is _ _ _ _ _ _ _ (by first | exact RA.out | exact RB.out) (by first | exact HX.out | exact HY.out))))
            have O2 := Lib.hid (HO.out.drewN nq)
            clear hc1 hf1
            generalize wr.drewN nq = w4 at *
            obtain ⟨hc1, hf1⟩ := O2.out.cell j (by rw [HN.out]; exact jN)
            rw [HZ.out] at hc1
            have O3 := Lib.hid (O2.out.set (Nat.le_refl _) j ((c + z + x * y) % 4294967296))
            go_wp2_with fail
            go_roundw
            case rel => exact ⟨k + 1, _, _, rfl, by go_num, by omega, d0, d1, O3.out, LN.out, by rw [List.length_set]; exact HN.out, HS.out⟩
            case measure => simp only [intOf]; exact meas_lt hkM
        · obtain rfl : c = 0 := by omega
          have R := Lib.hid (mul_row (xs := xs) (ys := ys) (i := i) (k := k) (c := 0) (by rw [HL.out.2]; omega) (by rw [HX.out]; exact HV.out))
          have t2 : decide ((k : Int) < (m : Int)) = false := decide_eq_false (by omega)
          have hiM : i ≤ 1000000 := by omega
          go_wp2_with fail
          go_roundw
          case rel => exact ⟨i + 1, L, by go_num, by omega, HO.out, HLL.out, HN.out, by rw [← R.out, Int.mul_zero, Int.add_zero]⟩
          case measure => simp only [intOf]; exact meas_lt hiM
    · obtain rfl : i = n := by omega
      have t1 : decide ((i : Int) < (i : Int)) = false := decide_eq_false (by omega)
      have F : Hid (valZ L0 = valZ xs * valZ ys) := Lib.hid (by rw [HV0.out, List.take_of_length_le (by rw [HL.out.1]; omega)])
      have RL : Hid (Row32 wr (some ⟨w.heap.size, 0, none⟩) (i + m + 1) L0) := Lib.hid (Row32.of_own (by have := HO0.out.1; rw [HN0.out] at this; exact this) HL0.out)
      have CB := Lib.hid (rbare_any (some ⟨w.heap.size, 0, none⟩) (i + m + 1) (i + m + 1) L0 wr RL.out (Nat.le_refl _) (by omega) (fun e => by cases e))
      have B1 := Lib.hid HO0.out.2
      rw [F.out] at CB
      clear HV0 F HO0
      go_wp2_with fail
      refine CB.out.mono ?_
      rintro e w5 hg
      obtain ⟨a5, c5, rfl, h5⟩ := hg
      have H5 := Lib.hid h5
      clear h5
      go_wp2_with fail
      go_ret
      exact ⟨a5, c5, rfl, H5.out.1, H5.out.2.1, H5.out.2.2.1, B1.out.trans (H5.out.2.2.2.mono B1.out.size)⟩

end Go.Proofs.Ythpdeaappchnpaa
