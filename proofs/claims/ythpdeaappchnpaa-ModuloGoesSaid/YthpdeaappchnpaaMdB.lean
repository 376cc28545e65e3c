/-
  What the library's bits.Div64 answers, for stage 8 (modulo).
-/
import Derived.Test.YthpdeaappchnpaaMdA
import Derived.Test.YthpdeaappchnpaaShelf8
import Derived.Test.YthpdeaappchnpaaLnJ
namespace Go.Proofs.Ythpdeaappchnpaa
open Go.RowKit
set_option linter.unusedVariables false

theorem lead_parts {y : Int} (h0 : 0 < y) (h1 : y < 18446744073709551616) : ∃ s : Nat, (64 : Int) - (Lib.bitLen y.toNat : Int) = (s : Int) ∧ s ≤ 63 ∧ 9223372036854775808 ≤ y * 2 ^ s ∧ y * 2 ^ s < 18446744073709551616 := by
  have e := bitLen_is y.toNat (by omega)
  have hy : y.toNat ≠ 0 := by omega
  have b1 := bitN_lt y.toNat
  have b2 := bitN_low hy
  have b3 := bitN_pos hy
  have b4 := bitN_le 64 y.toNat (by omega)
  obtain ⟨t, ht⟩ : ∃ t : Nat, bitN y.toNat = (t : Int) + 1 := ⟨(bitN y.toNat).toNat - 1, by omega⟩
  rw [ht] at b1 b2 b4 e
  rw [show ((t : Int) + 1).toNat = t + 1 by omega] at b1 b2
  rw [show t + 1 - 1 = t by omega] at b2
  obtain ⟨Y, rfl⟩ : ∃ Y : Nat, y = (Y : Int) := ⟨y.toNat, by omega⟩
  rw [Int.toNat_natCast] at b1 b2 e
  have p : 0 < 2 ^ (63 - t) := Nat.pow_pos (by decide)
  have c1 : 2 ^ t * 2 ^ (63 - t) = 9223372036854775808 := by rw [← Nat.pow_add, show t + (63 - t) = 63 by omega]
  have c2 := Nat.mul_le_mul_right (2 ^ (63 - t)) b2
  have c3 := Nat.mul_lt_mul_of_pos_right b1 p
  rw [c1] at c2
  rw [Nat.pow_succ, Nat.mul_right_comm, c1] at c3
  have e3 : (Y : Int) * 2 ^ (63 - t) = ((Y * 2 ^ (63 - t) : Nat) : Int) := by push_cast; rfl
  refine ⟨63 - t, by rw [Int.toNat_natCast]; omega, by omega, by rw [e3]; omega, by rw [e3]; omega⟩

/-- What the shifts of bits.Div64 make, and what that is good for. -/
theorem div64_parts {hi lo y : Int} (h0 : 0 < hi) (h1 : hi < y) (l0 : 0 ≤ lo) (l1 : lo < 18446744073709551616) (y1 : y < 18446744073709551616) :
    ∃ (s m : Nat) (Y h l H U V u1 u0 : Int), IntKind.u64.wrap (64 - (Lib.bitLen y.toNat : Int)) = (s : Int) ∧ min s 64 = s ∧ IntKind.u64.wrap (y * 2 ^ s) = Y ∧ Y / 4294967296 = h ∧ bits .and .u64 Y 4294967295 = l ∧ IntKind.u64.wrap (hi * 2 ^ s) = H ∧
      IntKind.u64.wrap (64 - (s : Int)) = (m : Int) ∧ min m 64 = m ∧ bits .or .u64 H (lo / 2 ^ m) = U ∧ IntKind.u64.wrap (lo * 2 ^ s) = V ∧ V / 4294967296 = u1 ∧ bits .and .u64 V 4294967295 = u0 ∧
      Y = h * 4294967296 + l ∧ HalfIn U u1 h l ∧ 0 ≤ u0 ∧ u0 < 4294967296 ∧
      (U * 4294967296 + u1) / Y * 4294967296 + ((U * 4294967296 + u1) % Y * 4294967296 + u0) / Y = (hi * 18446744073709551616 + lo) / y := by
  obtain ⟨s, hs, s63, Y0, Y1⟩ := lead_parts (y := y) (by omega) y1
  have p1 : (0 : Int) < 2 ^ s := Int.pow_pos (by decide)
  obtain ⟨a0, a1, a2⟩ := shift_parts (hi := hi) (s := s) (by omega) l0 l1
  have hH : hi * 2 ^ s + 2 ^ s ≤ y * 2 ^ s := by
    have := Int.mul_le_mul_of_nonneg_right (show hi + 1 ≤ y by omega) (Int.le_of_lt p1)
    rw [Int.add_mul, Int.one_mul] at this
    exact this
  have H0 : 0 ≤ hi * 2 ^ s := Int.mul_nonneg (by omega) (by omega)
  have V0 : 0 ≤ lo * 2 ^ s % 18446744073709551616 := Int.emod_nonneg _ (by omega)
  have V1 : lo * 2 ^ s % 18446744073709551616 < 18446744073709551616 := Int.emod_lt_of_pos _ (by omega)
  have hA := halves (A := (hi * 18446744073709551616 + lo) * 2 ^ s) (Y := y * 2 ^ s) (U := hi * 2 ^ s + lo / 2 ^ (64 - s)) (u1 := lo * 2 ^ s % 18446744073709551616 / 4294967296) (u0 := lo * 2 ^ s % 18446744073709551616 % 4294967296) (by omega) (by rw [a2]; omega)
  rw [Int.mul_ediv_mul_of_pos_left _ _ p1] at hA
  refine ⟨s, 64 - s, y * 2 ^ s, _, y * 2 ^ s % 4294967296, hi * 2 ^ s, hi * 2 ^ s + lo / 2 ^ (64 - s), lo * 2 ^ s % 18446744073709551616, _, lo * 2 ^ s % 18446744073709551616 % 4294967296, ?_, by omega, IntWalk.u64_in _ (by omega), rfl, low32 (by omega) Y1, IntWalk.u64_in _ (by omega), ?_, by omega, ?_, rfl, rfl, low32 V0 V1, by omega, ⟨by omega, by omega, by omega, by omega, by omega, by omega, by omega, by omega⟩, by omega, by omega, hA⟩
  · rw [hs]
    exact IntWalk.u64_in _ (by omega)
  · rw [show (64 : Int) - (s : Int) = ((64 - s : Nat) : Int) by omega]
    exact IntWalk.u64_in _ (by omega)
  · exact or_up s (by omega) a0 a1 (by omega)

set_option maxHeartbeats 1000000 in
set_option maxRecDepth 100000 in
theorem div64_low (lo y : Int) (w : World) (l0 : 0 ≤ lo) (l1 : lo < 18446744073709551616) (y0 : 0 < y) (y1 : y < 18446744073709551616) :
    Calls Try.prog 44 #[.int .u64 0, .int .u64 lo, .int .u64 y] w fun e w' => ∃ n, w' = w.drewN n ∧ ∃ r, e = .returned (.tuple #[.int .u64 (lo / y), .int .u64 r]) := by
  have t1 : (y == 0) = false := by simp; omega
  have t2 : decide (y ≤ 0) = false := by simp; omega
  have ne : ¬ y = 0 := by omega
  have Q0 : 0 ≤ lo / y := Int.ediv_nonneg l0 (by omega)
  have Q1 : lo / y ≤ lo := Int.ediv_le_self y l0
  have e1 : lo.tdiv y = lo / y := Int.tdiv_eq_ediv_of_nonneg l0
  have k1 : IntKind.u64.wrap (lo / y) = lo / y := IntWalk.u64_in _ (by omega)
  go_enter Try.func44, Try.ntmps44
  go_wp2_with fail
  go_quiet (fail)
  go_wp2_with fail
  go_ret2
  exact ⟨nq, rfl, _, rfl⟩

set_option maxHeartbeats 4000000 in
set_option maxRecDepth 100000 in
theorem div64_any (hi lo y : Int) (w : World) (h0 : 0 < hi) (h1 : hi < y) (l0 : 0 ≤ lo) (l1 : lo < 18446744073709551616) (y1 : y < 18446744073709551616) :
    Calls Try.prog 44 #[.int .u64 hi, .int .u64 lo, .int .u64 y] w fun e w' => w' = w ∧ ∃ r, e = .returned (.tuple #[.int .u64 ((hi * 18446744073709551616 + lo) / y), .int .u64 r]) := by
  have t1 : (y == 0) = false := by simp; omega
  have t2 : decide (y ≤ hi) = false := by simp; omega
  have t3 : (hi == 0) = false := by simp; omega
  have LZ := Lib.hid (Try.bits_LeadingZeros64 y w (by omega) (by omega))
  obtain ⟨s, m, Y, h, l, H, U, V, u1, u0, f1, f2, f3, f4, f5, f6, f7, f8, f9, f10, f11, f12, hY, HI, u00, u01, hF⟩ := div64_parts h0 h1 l0 l1 y1
  obtain ⟨HS, hs2, r00, r01, q00⟩ := half_start HI
  have HR := half_rest HI
  have HR2 := half_room HI HS
  rw [← hY] at HR
  have HIN := Lib.hid HI
  obtain ⟨g0, g1, g2, g3, g4, g5, g6, g7⟩ := HI
  have HF := Lib.hid hF
  have HYY := Lib.hid hY
  have n1 : ¬ h = 0 := by omega
  have d1 : U.tdiv h = U / h := Int.tdiv_eq_ediv_of_nonneg g4
  generalize U / h = q at *
  generalize U % h = r at *
  have HSH := Lib.hid HS
  obtain ⟨P, hP⟩ : ∃ P, q * h = P := ⟨_, rfl⟩
  have P0 : 0 ≤ P := by rw [← hP]; exact Int.mul_nonneg q00 (by omega)
  have d2 : IntKind.u64.wrap q = q := IntWalk.u64_in _ (by omega)
  have d3 : IntKind.u64.wrap (q * h) = P := by rw [hP]; exact IntWalk.u64_in _ (by omega)
  have d4 : IntKind.u64.wrap (U - P) = r := by rw [show U - P = r by omega]; exact IntWalk.u64_in _ (by omega)
  generalize Lib.bitLen y.toNat = B at *
  generalize (hi * 18446744073709551616 + lo) / y = A at *
  generalize hQ1 : (U * 4294967296 + u1) / Y = Q1 at *
  generalize hR1 : (U * 4294967296 + u1) % Y = R1 at *
  have HQ1 := Lib.hid hQ1
  obtain ⟨Q10, Q11, R10, R11, hT⟩ := HR
  -- the second half
  have HI2 : HalfIn R1 u0 h l := ⟨g0, g1, g2, g3, by omega, by omega, by omega, by omega⟩
  obtain ⟨HS2, hs3, r20, r21, q20⟩ := half_start HI2
  have HR3 := half_room HI2 HS2
  have HR4 := half_rest HI2
  rw [← hY] at HR4
  have HIN2 := Lib.hid HI2
  have c5h : Hid (R1.tdiv h = R1 / h) := Lib.hid (Int.tdiv_eq_ediv_of_nonneg (by omega))
  generalize R1 / h = q2 at *
  generalize R1 % h = r2 at *
  have HSH2 := Lib.hid HS2
  obtain ⟨P2, hP2⟩ : ∃ P, q2 * h = P := ⟨_, rfl⟩
  have P20 : 0 ≤ P2 := by rw [← hP2]; exact Int.mul_nonneg q20 (by omega)
  have c6h : Hid (IntKind.u64.wrap q2 = q2) := Lib.hid (IntWalk.u64_in _ (by omega))
  have c7h : Hid (IntKind.u64.wrap (q2 * h) = P2) := Lib.hid (by rw [hP2]; exact IntWalk.u64_in _ (by omega))
  have c8h : Hid (IntKind.u64.wrap (R1 - P2) = r2) := Lib.hid (by rw [show R1 - P2 = r2 by omega]; exact IntWalk.u64_in _ (by omega))
  obtain ⟨M1, hM1⟩ : ∃ M, U * 4294967296 % 18446744073709551616 = M := ⟨_, rfl⟩
  obtain ⟨M2, hM2⟩ : ∃ M, (M1 + u1) % 18446744073709551616 = M := ⟨_, rfl⟩
  obtain ⟨M3, hM3⟩ : ∃ M, Q1 * Y % 18446744073709551616 = M := ⟨_, rfl⟩
  have c1h : Hid (IntKind.u64.wrap (U * 4294967296) = M1) := Lib.hid hM1
  have c2h : Hid (IntKind.u64.wrap (M1 + u1) = M2) := Lib.hid hM2
  have c3h : Hid (IntKind.u64.wrap (Q1 * Y) = M3) := Lib.hid hM3
  have c4h : Hid (IntKind.u64.wrap (M2 - M3) = R1) := Lib.hid (by
    show (M2 - M3) % 18446744073709551616 = R1
    generalize Q1 * Y = T at *
    omega)
  clear hM1 hM2 hM3
  generalize hQ2 : (R1 * 4294967296 + u0) / Y = Q2 at *
  have HQ2 := Lib.hid hQ2
  obtain ⟨Q20, Q21, _, _, _⟩ := HR4
  clear hQ1 hR1 hQ2 hY hF HI2 HS HS2 hP hP2 hs2 hs3 hT
  go_enter Try.func44, Try.ntmps44
  go_wp2_with (go_at_call 47; refine LZ.out.mono ?_; rintro e w' ⟨rfl, rfl⟩)
  go_loopw [15, 16] (fun qV rV wr => wr = w' ∧ ∃ (q r : Int), qV = .int .u64 q ∧ rV = .int .u64 r ∧ Half U u1 h l q r ∧ r < 4294967296) (fun qV _ _ => (intOf qV).toNat)
  case atStart => exact ⟨rfl, q, r, rfl, rfl, HSH.out, by omega⟩
  case round =>
    clear HSH d1 d2 d3 d4 r00 r01 q00 HR2
    obtain ⟨rfl, qa, ra, rfl, rfl, hh, ra1⟩ := hrel
    have HH := Lib.hid hh
    have HRA := half_room HIN.out hh
    have ra0 := hh.2.1
    have qa0 := hh.2.2.1
    clear hh
    by_cases hc1 : 4294967296 ≤ qa
    · have e1 : decide (4294967296 ≤ qa) = true := decide_eq_true hc1
      have e1g : decide (qa ≥ 4294967296) = true := decide_eq_true hc1
      have HL := Lib.hid (half_low HIN.out HH.out (.inl hc1))
      have k2 : IntKind.u64.wrap (ra + h) = ra + h := IntWalk.u64_in _ (by omega)
      by_cases hb : 4294967296 ≤ ra + h
      · have e3 : decide (4294967296 ≤ ra + h) = true := decide_eq_true hb
        have e4 : decide (ra + h ≥ 4294967296) = true := decide_eq_true hb
        have k1 : IntKind.u64.wrap (qa - 1) = Q1 := by
          have := half_end HIN.out HL.out.1 (.inr hb)
          rw [← HYY.out, HQ1.out] at this
          rw [this]
          exact IntWalk.u64_in _ (by omega)
        clear HL HH
        have c1 : IntKind.u64.wrap (U * 4294967296) = M1 := c1h.out
        have c2 : IntKind.u64.wrap (M1 + u1) = M2 := c2h.out
        have c3 : IntKind.u64.wrap (Q1 * Y) = M3 := c3h.out
        have c4 : IntKind.u64.wrap (M2 - M3) = R1 := c4h.out
        have c5 : R1.tdiv h = q2 := c5h.out
        have c6 : IntKind.u64.wrap q2 = q2 := c6h.out
        have c7 : IntKind.u64.wrap (q2 * h) = P2 := c7h.out
        have c8 : IntKind.u64.wrap (R1 - P2) = r2 := c8h.out
        go_wp2_with fail
        go_loopw [18, 16] (fun qV rV w2 => w2 = wr ∧ ∃ (q r : Int), qV = .int .u64 q ∧ rV = .int .u64 r ∧ Half R1 u0 h l q r ∧ r < 4294967296) (fun qV _ _ => (intOf qV).toNat)
        case atStart => exact ⟨rfl, q2, r2, rfl, rfl, HSH2.out, by omega⟩
        case round =>
          clear c1 c2 c3 c4 c5 c6 c7 c8
          obtain ⟨rfl, qb, rb, rfl, rfl, hh2, rb1⟩ := hrel
          have HH := Lib.hid hh2
          have HRB := half_room HIN2.out hh2
          have rb0 := hh2.2.1
          have qb0 := hh2.2.2.1
          clear hh2
          by_cases hc1 : 4294967296 ≤ qb
          · have e1 : decide (4294967296 ≤ qb) = true := decide_eq_true hc1
            have e1g : decide (qb ≥ 4294967296) = true := decide_eq_true hc1
            have HL := Lib.hid (half_low HIN2.out HH.out (.inl hc1))
            have k2 : IntKind.u64.wrap (rb + h) = rb + h := IntWalk.u64_in _ (by omega)
            by_cases hb : 4294967296 ≤ rb + h
            · have e3 : decide (4294967296 ≤ rb + h) = true := decide_eq_true hb
              have e4 : decide (rb + h ≥ 4294967296) = true := decide_eq_true hb
              have k1 : IntKind.u64.wrap (qb - 1) = Q2 := by
                have := half_end HIN2.out HL.out.1 (.inr hb)
                rw [← HYY.out, HQ2.out] at this
                rw [this]
                exact IntWalk.u64_in _ (by omega)
              clear HL HH
              have z1 : IntKind.u64.wrap (Q1 * 4294967296) = Q1 * 4294967296 := IntWalk.u64_in _ (by omega)
              have z2 : IntKind.u64.wrap (Q1 * 4294967296 + Q2) = A := by rw [HF.out]; exact IntWalk.u64_in _ (by have := HF.out; omega)
              go_wp2_with fail
              go_ret2
              exact ⟨rfl, _, rfl⟩
            · have e3 : decide (4294967296 ≤ rb + h) = false := decide_eq_false hb
              have e4 : decide (rb + h ≥ 4294967296) = false := decide_eq_false hb
              have k1 : IntKind.u64.wrap (qb - 1) = qb - 1 := IntWalk.u64_in _ (by omega)
              go_wp2_with fail
              go_roundw
              case rel => exact ⟨trivial, _, _, rfl, rfl, HL.out.1, by omega⟩
              case measure => simp only [intOf]; omega
          · have e1 : decide (4294967296 ≤ qb) = false := decide_eq_false hc1
            have e1g : decide (qb ≥ 4294967296) = false := decide_eq_false hc1
            have PR := half_prod qb0 (by omega) g2 g3
            by_cases hc2 : rb * 4294967296 + u0 < qb * l
            · have HL0 := half_low HIN2.out HH.out (.inr hc2)
              obtain ⟨pq, hpq⟩ : ∃ pq, qb * l = pq := ⟨_, rfl⟩
              rw [hpq] at hc2 PR
              have m1 : IntKind.u64.wrap (qb * l) = pq := by rw [hpq]; exact IntWalk.u64_in _ (by omega)
              have m2 : IntKind.u64.wrap (4294967296 * rb) = rb * 4294967296 := by rw [Int.mul_comm]; exact IntWalk.u64_in _ (by omega)
              have m3 : IntKind.u64.wrap (rb * 4294967296 + u0) = rb * 4294967296 + u0 := IntWalk.u64_in _ (by omega)
              have e2 : decide (rb * 4294967296 + u0 < pq) = true := decide_eq_true hc2
              have e2g : decide (pq > rb * 4294967296 + u0) = true := decide_eq_true hc2
              clear hpq
              have HL := Lib.hid HL0
              have k2 : IntKind.u64.wrap (rb + h) = rb + h := IntWalk.u64_in _ (by omega)
              by_cases hb : 4294967296 ≤ rb + h
              · have e3 : decide (4294967296 ≤ rb + h) = true := decide_eq_true hb
                have e4 : decide (rb + h ≥ 4294967296) = true := decide_eq_true hb
                have k1 : IntKind.u64.wrap (qb - 1) = Q2 := by
                  have := half_end HIN2.out HL.out.1 (.inr hb)
                  rw [← HYY.out, HQ2.out] at this
                  rw [this]
                  exact IntWalk.u64_in _ (by omega)
                clear HL HH
                have z1 : IntKind.u64.wrap (Q1 * 4294967296) = Q1 * 4294967296 := IntWalk.u64_in _ (by omega)
                have z2 : IntKind.u64.wrap (Q1 * 4294967296 + Q2) = A := by rw [HF.out]; exact IntWalk.u64_in _ (by have := HF.out; omega)
                go_wp2_with fail
                go_ret2
                exact ⟨rfl, _, rfl⟩
              · have e3 : decide (4294967296 ≤ rb + h) = false := decide_eq_false hb
                have e4 : decide (rb + h ≥ 4294967296) = false := decide_eq_false hb
                have k1 : IntKind.u64.wrap (qb - 1) = qb - 1 := IntWalk.u64_in _ (by omega)
                go_wp2_with fail
                go_roundw
                case rel => exact ⟨trivial, _, _, rfl, rfl, HL.out.1, by omega⟩
                case measure => simp only [intOf]; omega
            · have EQ := half_end HIN2.out HH.out (.inl ⟨by omega, by omega⟩)
              rw [← HYY.out, HQ2.out] at EQ
              obtain ⟨pq, hpq⟩ : ∃ pq, qb * l = pq := ⟨_, rfl⟩
              rw [hpq] at hc2 PR
              have m1 : IntKind.u64.wrap (qb * l) = pq := by rw [hpq]; exact IntWalk.u64_in _ (by omega)
              have m2 : IntKind.u64.wrap (4294967296 * rb) = rb * 4294967296 := by rw [Int.mul_comm]; exact IntWalk.u64_in _ (by omega)
              have m3 : IntKind.u64.wrap (rb * 4294967296 + u0) = rb * 4294967296 + u0 := IntWalk.u64_in _ (by omega)
              have e2 : decide (rb * 4294967296 + u0 < pq) = false := decide_eq_false hc2
              have e2g : decide (pq > rb * 4294967296 + u0) = false := decide_eq_false hc2
              have EQ2 := EQ.symm
              clear EQ
              subst EQ2
              clear hpq HH
              have z1 : IntKind.u64.wrap (Q1 * 4294967296) = Q1 * 4294967296 := IntWalk.u64_in _ (by omega)
              have z2 : IntKind.u64.wrap (Q1 * 4294967296 + Q2) = A := by rw [HF.out]; exact IntWalk.u64_in _ (by have := HF.out; omega)
              go_wp2_with fail
              go_ret2
              exact ⟨rfl, _, rfl⟩
      · have e3 : decide (4294967296 ≤ ra + h) = false := decide_eq_false hb
        have e4 : decide (ra + h ≥ 4294967296) = false := decide_eq_false hb
        have k1 : IntKind.u64.wrap (qa - 1) = qa - 1 := IntWalk.u64_in _ (by omega)
        go_wp2_with fail
        go_roundw
        case rel => exact ⟨trivial, _, _, rfl, rfl, HL.out.1, by omega⟩
        case measure => simp only [intOf]; omega
    · have e1 : decide (4294967296 ≤ qa) = false := decide_eq_false hc1
      have e1g : decide (qa ≥ 4294967296) = false := decide_eq_false hc1
      have PR := half_prod qa0 (by omega) g2 g3
      by_cases hc2 : ra * 4294967296 + u1 < qa * l
      · have HL0 := half_low HIN.out HH.out (.inr hc2)
        obtain ⟨pq, hpq⟩ : ∃ pq, qa * l = pq := ⟨_, rfl⟩
        rw [hpq] at hc2 PR
        have m1 : IntKind.u64.wrap (qa * l) = pq := by rw [hpq]; exact IntWalk.u64_in _ (by omega)
        have m2 : IntKind.u64.wrap (4294967296 * ra) = ra * 4294967296 := by rw [Int.mul_comm]; exact IntWalk.u64_in _ (by omega)
        have m3 : IntKind.u64.wrap (ra * 4294967296 + u1) = ra * 4294967296 + u1 := IntWalk.u64_in _ (by omega)
        have e2 : decide (ra * 4294967296 + u1 < pq) = true := decide_eq_true hc2
        have e2g : decide (pq > ra * 4294967296 + u1) = true := decide_eq_true hc2
        clear hpq
        have HL := Lib.hid HL0
        have k2 : IntKind.u64.wrap (ra + h) = ra + h := IntWalk.u64_in _ (by omega)
        by_cases hb : 4294967296 ≤ ra + h
        · have e3 : decide (4294967296 ≤ ra + h) = true := decide_eq_true hb
          have e4 : decide (ra + h ≥ 4294967296) = true := decide_eq_true hb
          have k1 : IntKind.u64.wrap (qa - 1) = Q1 := by
            have := half_end HIN.out HL.out.1 (.inr hb)
            rw [← HYY.out, HQ1.out] at this
            rw [this]
            exact IntWalk.u64_in _ (by omega)
          clear HL HH
          have c1 : IntKind.u64.wrap (U * 4294967296) = M1 := c1h.out
          have c2 : IntKind.u64.wrap (M1 + u1) = M2 := c2h.out
          have c3 : IntKind.u64.wrap (Q1 * Y) = M3 := c3h.out
          have c4 : IntKind.u64.wrap (M2 - M3) = R1 := c4h.out
          have c5 : R1.tdiv h = q2 := c5h.out
          have c6 : IntKind.u64.wrap q2 = q2 := c6h.out
          have c7 : IntKind.u64.wrap (q2 * h) = P2 := c7h.out
          have c8 : IntKind.u64.wrap (R1 - P2) = r2 := c8h.out
          go_wp2_with fail
          go_loopw [18, 16] (fun qV rV w2 => w2 = wr ∧ ∃ (q r : Int), qV = .int .u64 q ∧ rV = .int .u64 r ∧ Half R1 u0 h l q r ∧ r < 4294967296) (fun qV _ _ => (intOf qV).toNat)
          case atStart => exact ⟨rfl, q2, r2, rfl, rfl, HSH2.out, by omega⟩
          case round =>
            clear c1 c2 c3 c4 c5 c6 c7 c8
            obtain ⟨rfl, qb, rb, rfl, rfl, hh2, rb1⟩ := hrel
            have HH := Lib.hid hh2
            have HRB := half_room HIN2.out hh2
            have rb0 := hh2.2.1
            have qb0 := hh2.2.2.1
            clear hh2
            by_cases hc1 : 4294967296 ≤ qb
            · have e1 : decide (4294967296 ≤ qb) = true := decide_eq_true hc1
              have e1g : decide (qb ≥ 4294967296) = true := decide_eq_true hc1
              have HL := Lib.hid (half_low HIN2.out HH.out (.inl hc1))
              have k2 : IntKind.u64.wrap (rb + h) = rb + h := IntWalk.u64_in _ (by omega)
              by_cases hb : 4294967296 ≤ rb + h
              · have e3 : decide (4294967296 ≤ rb + h) = true := decide_eq_true hb
                have e4 : decide (rb + h ≥ 4294967296) = true := decide_eq_true hb
                have k1 : IntKind.u64.wrap (qb - 1) = Q2 := by
                  have := half_end HIN2.out HL.out.1 (.inr hb)
                  rw [← HYY.out, HQ2.out] at this
                  rw [this]
                  exact IntWalk.u64_in _ (by omega)
                clear HL HH
                have z1 : IntKind.u64.wrap (Q1 * 4294967296) = Q1 * 4294967296 := IntWalk.u64_in _ (by omega)
                have z2 : IntKind.u64.wrap (Q1 * 4294967296 + Q2) = A := by rw [HF.out]; exact IntWalk.u64_in _ (by have := HF.out; omega)
                go_wp2_with fail
                go_ret2
                exact ⟨rfl, _, rfl⟩
              · have e3 : decide (4294967296 ≤ rb + h) = false := decide_eq_false hb
                have e4 : decide (rb + h ≥ 4294967296) = false := decide_eq_false hb
                have k1 : IntKind.u64.wrap (qb - 1) = qb - 1 := IntWalk.u64_in _ (by omega)
                go_wp2_with fail
                go_roundw
                case rel => exact ⟨trivial, _, _, rfl, rfl, HL.out.1, by omega⟩
                case measure => simp only [intOf]; omega
            · have e1 : decide (4294967296 ≤ qb) = false := decide_eq_false hc1
              have e1g : decide (qb ≥ 4294967296) = false := decide_eq_false hc1
              have PR := half_prod qb0 (by omega) g2 g3
              by_cases hc2 : rb * 4294967296 + u0 < qb * l
              · have HL0 := half_low HIN2.out HH.out (.inr hc2)
                obtain ⟨pq, hpq⟩ : ∃ pq, qb * l = pq := ⟨_, rfl⟩
                rw [hpq] at hc2 PR
                have m1 : IntKind.u64.wrap (qb * l) = pq := by rw [hpq]; exact IntWalk.u64_in _ (by omega)
                have m2 : IntKind.u64.wrap (4294967296 * rb) = rb * 4294967296 := by rw [Int.mul_comm]; exact IntWalk.u64_in _ (by omega)
                have m3 : IntKind.u64.wrap (rb * 4294967296 + u0) = rb * 4294967296 + u0 := IntWalk.u64_in _ (by omega)
                have e2 : decide (rb * 4294967296 + u0 < pq) = true := decide_eq_true hc2
                have e2g : decide (pq > rb * 4294967296 + u0) = true := decide_eq_true hc2
                clear hpq
                have HL := Lib.hid HL0
                have k2 : IntKind.u64.wrap (rb + h) = rb + h := IntWalk.u64_in _ (by omega)
                by_cases hb : 4294967296 ≤ rb + h
                · have e3 : decide (4294967296 ≤ rb + h) = true := decide_eq_true hb
                  have e4 : decide (rb + h ≥ 4294967296) = true := decide_eq_true hb
                  have k1 : IntKind.u64.wrap (qb - 1) = Q2 := by
                    have := half_end HIN2.out HL.out.1 (.inr hb)
                    rw [← HYY.out, HQ2.out] at this
                    rw [this]
                    exact IntWalk.u64_in _ (by omega)
                  clear HL HH
                  have z1 : IntKind.u64.wrap (Q1 * 4294967296) = Q1 * 4294967296 := IntWalk.u64_in _ (by omega)
                  have z2 : IntKind.u64.wrap (Q1 * 4294967296 + Q2) = A := by rw [HF.out]; exact IntWalk.u64_in _ (by have := HF.out; omega)
                  go_wp2_with fail
                  go_ret2
                  exact ⟨rfl, _, rfl⟩
                · have e3 : decide (4294967296 ≤ rb + h) = false := decide_eq_false hb
                  have e4 : decide (rb + h ≥ 4294967296) = false := decide_eq_false hb
                  have k1 : IntKind.u64.wrap (qb - 1) = qb - 1 := IntWalk.u64_in _ (by omega)
                  go_wp2_with fail
                  go_roundw
                  case rel => exact ⟨trivial, _, _, rfl, rfl, HL.out.1, by omega⟩
                  case measure => simp only [intOf]; omega
              · have EQ := half_end HIN2.out HH.out (.inl ⟨by omega, by omega⟩)
                rw [← HYY.out, HQ2.out] at EQ
                obtain ⟨pq, hpq⟩ : ∃ pq, qb * l = pq := ⟨_, rfl⟩
                rw [hpq] at hc2 PR
                have m1 : IntKind.u64.wrap (qb * l) = pq := by rw [hpq]; exact IntWalk.u64_in _ (by omega)
                have m2 : IntKind.u64.wrap (4294967296 * rb) = rb * 4294967296 := by rw [Int.mul_comm]; exact IntWalk.u64_in _ (by omega)
                have m3 : IntKind.u64.wrap (rb * 4294967296 + u0) = rb * 4294967296 + u0 := IntWalk.u64_in _ (by omega)
                have e2 : decide (rb * 4294967296 + u0 < pq) = false := decide_eq_false hc2
                have e2g : decide (pq > rb * 4294967296 + u0) = false := decide_eq_false hc2
                have EQ2 := EQ.symm
                clear EQ
                subst EQ2
                clear hpq HH
                have z1 : IntKind.u64.wrap (Q1 * 4294967296) = Q1 * 4294967296 := IntWalk.u64_in _ (by omega)
                have z2 : IntKind.u64.wrap (Q1 * 4294967296 + Q2) = A := by rw [HF.out]; exact IntWalk.u64_in _ (by have := HF.out; omega)
                go_wp2_with fail
                go_ret2
                exact ⟨rfl, _, rfl⟩
        · have e3 : decide (4294967296 ≤ ra + h) = false := decide_eq_false hb
          have e4 : decide (ra + h ≥ 4294967296) = false := decide_eq_false hb
          have k1 : IntKind.u64.wrap (qa - 1) = qa - 1 := IntWalk.u64_in _ (by omega)
          go_wp2_with fail
          go_roundw
          case rel => exact ⟨trivial, _, _, rfl, rfl, HL.out.1, by omega⟩
          case measure => simp only [intOf]; omega
      · have EQ := half_end HIN.out HH.out (.inl ⟨by omega, by omega⟩)
        rw [← HYY.out, HQ1.out] at EQ
        obtain ⟨pq, hpq⟩ : ∃ pq, qa * l = pq := ⟨_, rfl⟩
        rw [hpq] at hc2 PR
        have m1 : IntKind.u64.wrap (qa * l) = pq := by rw [hpq]; exact IntWalk.u64_in _ (by omega)
        have m2 : IntKind.u64.wrap (4294967296 * ra) = ra * 4294967296 := by rw [Int.mul_comm]; exact IntWalk.u64_in _ (by omega)
        have m3 : IntKind.u64.wrap (ra * 4294967296 + u1) = ra * 4294967296 + u1 := IntWalk.u64_in _ (by omega)
        have e2 : decide (ra * 4294967296 + u1 < pq) = false := decide_eq_false hc2
        have e2g : decide (pq > ra * 4294967296 + u1) = false := decide_eq_false hc2
        have EQ2 := EQ.symm
        clear EQ
        subst EQ2
        clear hpq HH
        have c1 : IntKind.u64.wrap (U * 4294967296) = M1 := c1h.out
        have c2 : IntKind.u64.wrap (M1 + u1) = M2 := c2h.out
        have c3 : IntKind.u64.wrap (Q1 * Y) = M3 := c3h.out
        have c4 : IntKind.u64.wrap (M2 - M3) = R1 := c4h.out
        have c5 : R1.tdiv h = q2 := c5h.out
        have c6 : IntKind.u64.wrap q2 = q2 := c6h.out
        have c7 : IntKind.u64.wrap (q2 * h) = P2 := c7h.out
        have c8 : IntKind.u64.wrap (R1 - P2) = r2 := c8h.out
        go_wp2_with fail
        go_loopw [18, 16] (fun qV rV w2 => w2 = wr ∧ ∃ (q r : Int), qV = .int .u64 q ∧ rV = .int .u64 r ∧ Half R1 u0 h l q r ∧ r < 4294967296) (fun qV _ _ => (intOf qV).toNat)
        case atStart => exact ⟨rfl, q2, r2, rfl, rfl, HSH2.out, by omega⟩
        case round =>
          clear c1 c2 c3 c4 c5 c6 c7 c8
          obtain ⟨rfl, qb, rb, rfl, rfl, hh2, rb1⟩ := hrel
          have HH := Lib.hid hh2
          have HRB := half_room HIN2.out hh2
          have rb0 := hh2.2.1
          have qb0 := hh2.2.2.1
          clear hh2
          by_cases hc1 : 4294967296 ≤ qb
          · have e1 : decide (4294967296 ≤ qb) = true := decide_eq_true hc1
            have e1g : decide (qb ≥ 4294967296) = true := decide_eq_true hc1
            have HL := Lib.hid (half_low HIN2.out HH.out (.inl hc1))
            have k2 : IntKind.u64.wrap (rb + h) = rb + h := IntWalk.u64_in _ (by omega)
            by_cases hb : 4294967296 ≤ rb + h
            · have e3 : decide (4294967296 ≤ rb + h) = true := decide_eq_true hb
              have e4 : decide (rb + h ≥ 4294967296) = true := decide_eq_true hb
              have k1 : IntKind.u64.wrap (qb - 1) = Q2 := by
                have := half_end HIN2.out HL.out.1 (.inr hb)
                rw [← HYY.out, HQ2.out] at this
                rw [this]
                exact IntWalk.u64_in _ (by omega)
              clear HL HH
              have z1 : IntKind.u64.wrap (Q1 * 4294967296) = Q1 * 4294967296 := IntWalk.u64_in _ (by omega)
              have z2 : IntKind.u64.wrap (Q1 * 4294967296 + Q2) = A := by rw [HF.out]; exact IntWalk.u64_in _ (by have := HF.out; omega)
              go_wp2_with fail
              go_ret2
              exact ⟨rfl, _, rfl⟩
            · have e3 : decide (4294967296 ≤ rb + h) = false := decide_eq_false hb
              have e4 : decide (rb + h ≥ 4294967296) = false := decide_eq_false hb
              have k1 : IntKind.u64.wrap (qb - 1) = qb - 1 := IntWalk.u64_in _ (by omega)
              go_wp2_with fail
              go_roundw
              case rel => exact ⟨trivial, _, _, rfl, rfl, HL.out.1, by omega⟩
              case measure => simp only [intOf]; omega
          · have e1 : decide (4294967296 ≤ qb) = false := decide_eq_false hc1
            have e1g : decide (qb ≥ 4294967296) = false := decide_eq_false hc1
            have PR := half_prod qb0 (by omega) g2 g3
            by_cases hc2 : rb * 4294967296 + u0 < qb * l
            · have HL0 := half_low HIN2.out HH.out (.inr hc2)
              obtain ⟨pq, hpq⟩ : ∃ pq, qb * l = pq := ⟨_, rfl⟩
              rw [hpq] at hc2 PR
              have m1 : IntKind.u64.wrap (qb * l) = pq := by rw [hpq]; exact IntWalk.u64_in _ (by omega)
              have m2 : IntKind.u64.wrap (4294967296 * rb) = rb * 4294967296 := by rw [Int.mul_comm]; exact IntWalk.u64_in _ (by omega)
              have m3 : IntKind.u64.wrap (rb * 4294967296 + u0) = rb * 4294967296 + u0 := IntWalk.u64_in _ (by omega)
              have e2 : decide (rb * 4294967296 + u0 < pq) = true := decide_eq_true hc2
              have e2g : decide (pq > rb * 4294967296 + u0) = true := decide_eq_true hc2
              clear hpq
              have HL := Lib.hid HL0
              have k2 : IntKind.u64.wrap (rb + h) = rb + h := IntWalk.u64_in _ (by omega)
              by_cases hb : 4294967296 ≤ rb + h
              · have e3 : decide (4294967296 ≤ rb + h) = true := decide_eq_true hb
                have e4 : decide (rb + h ≥ 4294967296) = true := decide_eq_true hb
                have k1 : IntKind.u64.wrap (qb - 1) = Q2 := by
                  have := half_end HIN2.out HL.out.1 (.inr hb)
                  rw [← HYY.out, HQ2.out] at this
                  rw [this]
                  exact IntWalk.u64_in _ (by omega)
                clear HL HH
                have z1 : IntKind.u64.wrap (Q1 * 4294967296) = Q1 * 4294967296 := IntWalk.u64_in _ (by omega)
                have z2 : IntKind.u64.wrap (Q1 * 4294967296 + Q2) = A := by rw [HF.out]; exact IntWalk.u64_in _ (by have := HF.out; omega)
                go_wp2_with fail
                go_ret2
                exact ⟨rfl, _, rfl⟩
              · have e3 : decide (4294967296 ≤ rb + h) = false := decide_eq_false hb
                have e4 : decide (rb + h ≥ 4294967296) = false := decide_eq_false hb
                have k1 : IntKind.u64.wrap (qb - 1) = qb - 1 := IntWalk.u64_in _ (by omega)
                go_wp2_with fail
                go_roundw
                case rel => exact ⟨trivial, _, _, rfl, rfl, HL.out.1, by omega⟩
                case measure => simp only [intOf]; omega
            · have EQ := half_end HIN2.out HH.out (.inl ⟨by omega, by omega⟩)
              rw [← HYY.out, HQ2.out] at EQ
              obtain ⟨pq, hpq⟩ : ∃ pq, qb * l = pq := ⟨_, rfl⟩
              rw [hpq] at hc2 PR
              have m1 : IntKind.u64.wrap (qb * l) = pq := by rw [hpq]; exact IntWalk.u64_in _ (by omega)
              have m2 : IntKind.u64.wrap (4294967296 * rb) = rb * 4294967296 := by rw [Int.mul_comm]; exact IntWalk.u64_in _ (by omega)
              have m3 : IntKind.u64.wrap (rb * 4294967296 + u0) = rb * 4294967296 + u0 := IntWalk.u64_in _ (by omega)
              have e2 : decide (rb * 4294967296 + u0 < pq) = false := decide_eq_false hc2
              have e2g : decide (pq > rb * 4294967296 + u0) = false := decide_eq_false hc2
              have EQ2 := EQ.symm
              clear EQ
              subst EQ2
              clear hpq HH
              have z1 : IntKind.u64.wrap (Q1 * 4294967296) = Q1 * 4294967296 := IntWalk.u64_in _ (by omega)
              have z2 : IntKind.u64.wrap (Q1 * 4294967296 + Q2) = A := by rw [HF.out]; exact IntWalk.u64_in _ (by have := HF.out; omega)
              go_wp2_with fail
              go_ret2
              exact ⟨rfl, _, rfl⟩

end Go.Proofs.Ythpdeaappchnpaa
