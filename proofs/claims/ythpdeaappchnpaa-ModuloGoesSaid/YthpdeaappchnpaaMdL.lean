/-
  What the package's Mul and Exp answer, for stage 8 (modulo).
-/
import Derived.Test.YthpdeaappchnpaaMdK
import Derived.Test.YthpdeaappchnpaaMdD
namespace Go.Proofs.Ythpdeaappchnpaa
open Go.RowKit
set_option linter.unusedVariables false

set_option maxHeartbeats 1000000 in
set_option maxRecDepth 10000 in
theorem mmul_call {w : World} {x y m : Int} {a b d : Option Addr} {n k l ca cb cd : Nat} (hx : Num w x a n ca) (hy : Num w y b k cb) (hm : Num w m d l cd) (hn : n ≤ 15000) (hk : k ≤ 15000) (hl : l ≤ 30000) :
    Calls Try.prog 12 #[.slice a n ca, .slice b k cb, .slice d l cd] w (ResR (remZ (x * y) m) m l w) := by
  have MC := Lib.hid (mul_call hx hy (by omega) (by omega))
  have HM := Lib.hid hm
  have P0 := Int.mul_nonneg hx.nonneg.1 hy.nonneg.1
  clear hx hy hm
  generalize x * y = p at *
  go_enter Try.func12, Try.ntmps12
  go_wp2_with fail
  refine MC.out.mono ?_
  rintro e w2 ⟨a2, n2, c2, rfl, hN, hk2, hb2⟩
  have DC := Lib.hid (divmod_call (hN.num P0) (HM.out.below hb2) (by omega) hl)
  have B2 := Lib.hid hb2
  clear hN hb2 MC HM
  go_wp2_with fail
  refine DC.out.mono ?_
  rintro e w3 ⟨qa, n1, c1, ra, n3, c3, rfl, hq, hr, h1, h3, hb3⟩
  have R3 := Lib.hid hr
  have B3 := Lib.hid (Below.step B2.out hb3)
  clear DC hq hr hb3
  go_wp2_with fail
  go_ret2
  exact ⟨ra, n3, c3, rfl, R3.out, h3, B3.out⟩

theorem and_one {x : Int} (x0 : 0 ≤ x) (x1 : x ≤ 4294967295) : bits .and .u32 x 1 = x % 2 := by
  obtain ⟨X, rfl⟩ : ∃ X : Nat, x = (X : Int) := ⟨x.toNat, by omega⟩
  have := nand X 1 (by omega) (by decide)
  rw [show ((1 : Nat) : Int) = 1 by rfl] at this
  rw [this, Nat.and_one_is_mod]
  omega

set_option maxHeartbeats 1000000 in
set_option maxRecDepth 10000 in
theorem exp_call {w : World} {x y m : Int} {a b d : Option Addr} {n k l ca cb cd : Nat} (hx : Num w x a n ca) (hy : Num w y b k cb) (hm : Num w m d l cd) (hn : n ≤ 15000) (hk : k ≤ 15000) (hl : l ≤ 15000) :
    Calls Try.prog 14 #[.slice a n ca, .slice b k cb, .slice d l cd] w (ResR (remZ (x ^ y.toNat) m) m l w) := by
  have HX := Lib.hid hx
  have HY := Lib.hid hy
  have HM := Lib.hid hm
  have m0 := hm.nonneg.1
  have y0 := hy.nonneg.1
  have L1 := Lib.hid (len_call hy (by omega))
  clear hx hy hm
  have C1 : Hid (∀ W : World, Num (W.alloc (.cells #[.int .u32 1] 35)) 1 (some ⟨W.heap.size, 0, none⟩) 1 1) := Lib.hid (fun W => by
    obtain ⟨a1, c1, e1, r1⟩ := (out_one32 W 1).row (by intro q hq; simp at hq; omega)
    injection e1 with e1 e2 e3
    subst e1 e3
    exact ⟨_, r1, by simp [valZ], Nat.le_refl _, fun e => by cases e⟩)
  have B1 := Lib.hid ((Below.refl w.heap.size w).alloc (Nat.le_refl _) (.cells #[.int .u32 1] 35))
  have DC := Lib.hid (divmod_call (C1.out w) (HM.out.below B1.out) (by omega) (by omega))
  go_enter Try.func14, Try.ntmps14
  go_wp2_with fail
  refine DC.out.mono ?_
  rintro e w2 ⟨qa, n1, c1, ra, n2, c2, rfl, hq, hr, h1, h2, hb2⟩
  have B2 := Lib.hid (Below.step B1.out hb2)
  have R2 := Lib.hid hr
  clear DC hq hr hb2 B1 C1
  by_cases hz : m = 0
  · subst hz
    rw [show decide ((0 : Int) = 0) = true from rfl]
    go_wp2_with fail
    go_ret2
    exact ⟨none, 0, 0, rfl, norm_nil _, Nat.zero_le _, B2.out⟩
  · have mp : 0 < m := by omega
    rw [show decide (m = 0) = false from decide_eq_false hz]
    have DC := Lib.hid (divmod_call (HX.out.below B2.out) (HM.out.below B2.out) (by omega) (by omega))
    go_wp2_with fail
    refine DC.out.mono ?_
    rintro e w3 ⟨qa2, n3, c3, ra2, n4, c4, rfl, hq, hr, h3, h4, hb3⟩
    have B3 := Lib.hid (Below.step B2.out hb3)
    have R3 := Lib.hid (R2.out.below hb3)
    have Q3 := Lib.hid hr
    clear DC hq hr hb3 R2
    have LC := Lib.hid (len_call (HY.out.below B3.out) (by omega))
    go_wp2_with fail
    refine LC.out.mono ?_
    rintro e w4 ⟨rfl, hb4⟩
    have B4 := Lib.hid (Below.step B3.out hb4)
    have R4 := Lib.hid (R3.out.below hb4)
    have Q4 := Lib.hid (Q3.out.below hb4)
    clear LC hb4 R3 Q3
    have bz0 := bitZ_nonneg y
    obtain ⟨E, hE⟩ : ∃ E : Nat, bitZ y = (E : Int) := ⟨(bitZ y).toNat, by omega⟩
    have hEk : E ≤ 32 * k := by
      obtain ⟨es, her, hev, _, _⟩ := HY.out
      have := bitZ_bound her.2.1
      rw [hev, her.1] at this
      omega
    have US : Hid (upTo y E = 0) := Lib.hid (by have := upTo_start y0; rwa [hE, Int.toNat_natCast] at this)
    rw [hE]
    clear hE bz0
    have w1 : IntKind.i64.wrap ((E : Int) - 1) = (E : Int) - 1 := IntWalk.i64_in _ (by omega)
    go_wp2_with fail
    go_loopw [9, 14] (fun pV iV wr => ∃ (i : Nat) (pa : Option Addr) (pn pc : Nat), pV = .slice pa pn pc ∧ iV = .int .i64 ((i : Int) - 1) ∧ i ≤ E ∧ Norm wr (remZ (x ^ upTo y i) m) pa pn pc ∧ pn ≤ l ∧ Below w.heap.size w wr ∧ Norm wr (remZ x m) ra2 n4 c4) (fun _ iV _ => (intOf iV + 1).toNat)
    case atStart => exact ⟨E, ra, n2, c2, rfl, rfl, Nat.le_refl _, by rw [US.out, Int.pow_zero]; exact R4.out, h2, B4.out, Q4.out⟩
    case round =>
      obtain ⟨i, pa, pn, pc, rfl, rfl, hi, hN, hpn, hbw, hbase⟩ := hrel
      have HN := Lib.hid hN
      have HBW := Lib.hid hbw
      have HBS := Lib.hid hbase
      clear hN hbw hbase R4 Q4 US
      rcases Nat.eq_zero_or_pos i with h0 | h0
      · subst h0
        rw [show ((0 : Nat) : Int) - 1 = -1 by rfl]
        have t0 : decide ((0 : Int) ≤ -1) = false := by decide
        have E0 := Lib.hid (upTo_end y)
        go_wp2_with fail
        go_ret2
        exact ⟨pa, pn, pc, by rw [decide_eq_false hz]; rfl, by rw [← E0.out]; exact HN.out, hpn, HBW.out⟩
      · obtain ⟨j, rfl⟩ : ∃ j, i = j + 1 := ⟨i - 1, by omega⟩
        rw [show ((j + 1 : Nat) : Int) - 1 = (j : Int) by omega]
        have t0 : decide ((0 : Int) ≤ (j : Int)) = true := decide_eq_true (by omega)
        have MC := Lib.hid (mmul_call (HN.out.num (remZ_nonneg m0)) (HN.out.num (remZ_nonneg m0)) (HM.out.below HBW.out) (by omega) (by omega) (by omega))
        have PW : Hid (remZ (remZ (x ^ upTo y (j + 1)) m * remZ (x ^ upTo y (j + 1)) m) m = remZ (x ^ (2 * upTo y (j + 1))) m) := Lib.hid (by
          rw [remZ_pos mp, remZ_pos mp, remZ_pos mp]
          exact pow_mod_step (n := 0) rfl)
        rw [PW.out] at MC
        have UN := upTo_next y0 j
        have yn := HY.out
        obtain ⟨es, her, hev, hec, hen⟩ := yn
        obtain ⟨q, hq⟩ : ∃ q, j / 32 = q := ⟨_, rfl⟩
        have r32 := Nat.mod_lt j (show 0 < 32 by omega)
        obtain ⟨r, hr⟩ : ∃ r, j % 32 = r := ⟨_, rfl⟩
        rw [hr] at r32
        have jq : j = 32 * q + r := by omega
        have BA := bit_at her.2.1 q r r32
        rw [hev, ← jq] at BA
        rw [← BA] at UN
        obtain ⟨b1, o1, rfl, hb1, hc1⟩ := her.2.2 (by omega)
        have qk : q < k := by omega
        have cE0 := hc1 q qk
        have xr := her.num q
        generalize es[q]?.getD 0 = z at *
        have HUN := Lib.hid UN
        clear UN BA her hev hec hen
        go_wp2_with fail
        refine MC.out.mono ?_
        rintro e w5 ⟨a5, n5, c5, rfl, hN5, hn5, hb5⟩
        have HN5 := Lib.hid hN5
        have B5 := Lib.hid (Below.step HBW.out hb5)
        have S5 := Lib.hid (HBS.out.below hb5)
        have cE : w5.cell? ⟨b1, o1 + q, none⟩ = some (.int .u32 z) := (B5.out.cell (p := ⟨b1, o1 + q, none⟩) hb1).trans cE0
        have k3 : (j : Int) / 32 = (q : Int) := by omega
        have k3' : (j : Int).tdiv 32 = (q : Int) := by rw [Int.tdiv_eq_ediv_of_nonneg (by omega)]; exact k3
        have k4 : (j : Int) % 32 = (r : Int) := by omega
        have k4' : (j : Int).tmod 32 = (r : Int) := by rw [Int.tmod_eq_emod_of_nonneg (by omega)]; exact k4
        have k5 : IntKind.i64.wrap (q : Int) = (q : Int) := IntWalk.i64_in _ (by omega)
        have k6 : IntKind.i64.wrap (r : Int) = (r : Int) := IntWalk.i64_in _ (by omega)
        have k7 : IntKind.i64.wrap ((j : Int) - 1) = (j : Int) - 1 := IntWalk.i64_in _ (by omega)
        have qI : (q : Int) < (k : Int) := by omega
        have HJ := Lib.hid jq
        clear hN5 hb5 MC cE0 PW HN HBS HBW jq hq hr hc1
        have zr0 : 0 ≤ z / 2 ^ r := Int.ediv_nonneg xr.1 (Int.le_of_lt (two_pow_pos r))
        have zr1 : z / 2 ^ r ≤ 4294967295 := by have := Int.ediv_le_self (2 ^ r) xr.1; omega
        have kB := and_one zr0 zr1
        rcases (show z / 2 ^ r % 2 = 1 ∨ z / 2 ^ r % 2 = 0 by omega) with hb | hb
        · rw [hb] at kB HUN
          have t1 : (bits .and .u32 (z / 2 ^ r) 1 == 1) = true := by rw [kB]; rfl
          clear hb kB
          have MC := Lib.hid (mmul_call (HN5.out.num (remZ_nonneg m0)) (S5.out.num (remZ_nonneg m0)) (HM.out.below B5.out) (by omega) (by omega) (by omega))
          have PW : Hid (remZ (remZ (x ^ (2 * upTo y (j + 1))) m * remZ x m) m = remZ (x ^ upTo y j) m) := Lib.hid (by
            rw [HUN.out, remZ_pos mp, remZ_pos mp, remZ_pos mp, remZ_pos mp]
            exact pow_mod_one rfl rfl)
          rw [PW.out] at MC
          clear PW HUN
          go_wp2_with fail
          refine MC.out.mono ?_
          rintro e w6 ⟨a6, n6, c6, rfl, hN6, hn6, hb6⟩
          have HN6 := Lib.hid hN6
          have B6 := Lib.hid (Below.step B5.out hb6)
          have S6 := Lib.hid (S5.out.below hb6)
          clear hN6 hb6 MC HN5 S5
          go_wp2_with fail
          go_roundw
          case rel => exact ⟨j, a6, n6, c6, rfl, rfl, by omega, HN6.out, hn6, B6.out, S6.out⟩
          case measure => simp only [intOf]; omega
        · rw [hb] at kB HUN
          have t1 : (bits .and .u32 (z / 2 ^ r) 1 == 1) = false := by rw [kB]; rfl
          clear hb kB
          have PW : Hid (2 * upTo y (j + 1) = upTo y j) := Lib.hid (by rw [HUN.out]; rfl)
          rw [PW.out] at HN5
          clear PW HUN
          go_wp2_with fail
          go_roundw
          case rel => exact ⟨j, a5, n5, c5, rfl, rfl, by omega, HN5.out, hn5, B5.out, S5.out⟩
          case measure => simp only [intOf]; omega

end Go.Proofs.Ythpdeaappchnpaa
