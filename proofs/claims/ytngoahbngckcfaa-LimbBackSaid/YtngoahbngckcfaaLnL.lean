/-
  What the reference's To answers, for stage 7 (limb).
-/
import Derived.Test.YtngoahbngckcfaaLnK
namespace Go.Proofs.Ytngoahbngckcfaa
open Go.RowKit
set_option linter.unusedVariables false

theorem byN_le (n : Nat) {k : Nat} (h : n < 256 ^ k) : (byN n).length ≤ k := by
  have e := byN_len n
  have := bitN_le (8 * k) n (by rw [Nat.pow_mul]; exact h)
  omega
theorem byZ_le {v : Int} (hv : 0 ≤ v) {k : Nat} (h : v < 4294967296 ^ k) : (byZ v).length ≤ 4 * k := by
  refine byN_le _ ?_
  rw [Nat.pow_mul]
  have e : ((4294967296 ^ k : Nat) : Int) = (4294967296 : Int) ^ k := Int.natCast_pow _ _
  show v.toNat < 4294967296 ^ k
  omega
theorem byN_mono {a b : Nat} (h : a ≤ b) : (byN a).length ≤ (byN b).length := by
  have e := byN_len a
  have e2 := byN_len b
  have : bitN a ≤ bitN b := by
    have h1 := bitN_lt b
    have h2 := bitN_nonneg b
    have := bitN_le (bitN b).toNat a (by omega)
    omega
  omega
theorem limb_drop {zs : List Int} (h : Limbs zs) (k : Nat) : valZ (zs.drop k) < 4294967296 ^ (zs.length - k) := by
  have := valZ_lt (h.drop k)
  rwa [List.length_drop] at this
/-- The bytes of a number are given back, in new memory. -/
def GivesB (v : Int) (w : World) (e : Ending) (w' : World) : Prop := ∃ V, e = .returned V ∧ Out w w' V (byZ v)

theorem part_len {D x : Int} {k n : Nat} (D0 : 0 ≤ D) (hD : D < 4294967296 ^ n) (x0 : 0 ≤ x) (x1 : x ≤ 4294967295) (hk : k ≤ 4) : (byZ (D * 256 ^ (4 - k) + x / 256 ^ k)).length ≤ 4 * n + 4 := by
  have h1 : 0 ≤ D * 256 ^ (4 - k) + x / 256 ^ k ∧ D * 256 ^ (4 - k) + x / 256 ^ k < 4294967296 ^ (n + 1) := by
    rw [Int.pow_succ]
    generalize (4294967296 : Int) ^ n = P at *
    obtain rfl | rfl | rfl | rfl | rfl : k = 0 ∨ k = 1 ∨ k = 2 ∨ k = 3 ∨ k = 4 := by omega
    all_goals simp only [Nat.reduceSub, Nat.sub_zero, Int.reducePow]
    all_goals omega
  have := byZ_le h1.1 h1.2
  omega

set_option maxHeartbeats 1000000 in
set_option maxRecDepth 10000 in
theorem rto_any (a : Option Addr) (n ca : Nat) (xs : List Int) (w : World) (hr : Row32 w a n xs) (hn : n ≤ 100000) : Calls Try.prog 21 #[.slice a n ca] w (GivesB (valZ xs) w) := by
  have HR := Lib.hid hr
  have LX := Lib.hid (row32_limbs hr)
  have ln := hr.1
  clear hr
  have w0 : IntKind.i64.wrap ((n : Int) - 1) = (n : Int) - 1 := IntWalk.i64_in _ (by omega)
  go_enter Try.func21, Try.ntmps21
  go_wp2_with fail
  go_loopw [3, 4] (fun V iV wr => ∃ j : Nat, j ≤ n ∧ iV = .int .i64 ((j : Int) - 1) ∧ Out w wr V (byZ (valZ (xs.drop j)))) (fun _ iV _ => (intOf iV + 1).toNat)
  case atStart => exact ⟨n, Nat.le_refl _, rfl, by rw [List.drop_of_length_le (by omega)]; show Out w w _ (byN 0); rw [byN_zero]; exact out_nil w⟩
  case round =>
    obtain ⟨j, hj, rfl, ho⟩ := hrel
    have HO := Lib.hid ho
    clear ho w0
    rcases Nat.eq_zero_or_pos j with h0 | h0
    · subst h0
      rw [show ((0 : Nat) : Int) - 1 = -1 by rfl]
      have t0 : decide ((0 : Int) ≤ -1) = false := by decide
      have O := HO.out
      rw [List.drop_zero] at O
      have HO2 := Lib.hid O
      clear O HO
      go_wp2_with fail
      go_ret
      exact ⟨_, rfl, HO2.out⟩
    · obtain ⟨i, rfl⟩ : ∃ i, j = i + 1 := ⟨j - 1, by omega⟩
      rw [show ((i + 1 : Nat) : Int) - 1 = (i : Int) by omega]
      have t0 : decide ((0 : Int) ≤ (i : Int)) = true := decide_eq_true (by omega)
      obtain ⟨b, off, rfl, hb, hc⟩ := HR.out.2.2 (by omega)
      have cw : w.cell? ⟨b, off + i, none⟩ = some (.int .u32 (xs[i]?.getD 0)) := hc i (by omega)
      have DD := limb_drop LX.out (i + 1)
      have D0 := valZ_nonneg (LX.out.drop (i + 1))
      have E := valZ_drop xs i
      have xr := LX.out.at i
      generalize xs[i]?.getD 0 = x at *
      generalize valZ (xs.drop (i + 1)) = D at *
      have HD := Lib.hid (fun (k : Nat) (hk : k ≤ 4) => part_len (k := k) D0 DD xr.1 xr.2 hk)
      have EE := Lib.hid E
      have D0h := Lib.hid D0
      clear hc E DD
      have iI : (i : Int) < (n : Int) := by omega
      have w1 : IntKind.i64.wrap ((i : Int) - 1) = (i : Int) - 1 := IntWalk.i64_in _ (by omega)
      go_wp2_with fail
      go_loopw [3, 5] (fun V kV wr => ∃ k : Nat, k ≤ 4 ∧ kV = .int .i64 ((k : Int) - 1) ∧ Out w wr V (byZ (D * 256 ^ (4 - k) + x / 256 ^ k))) (fun _ kV _ => (intOf kV + 1).toNat)
      case atStart => exact ⟨4, Nat.le_refl _, rfl, by rw [show D * 256 ^ (4 - 4) + x / 256 ^ 4 = D by simp only [Nat.sub_self, Int.reducePow]; omega]; exact HO.out⟩
      case round =>
        obtain ⟨k, hk, rfl, ho⟩ := hrel
        have HO1 := Lib.hid ho
        clear ho HO
        rcases Nat.eq_zero_or_pos k with h0 | h0
        · subst h0
          rw [show ((0 : Nat) : Int) - 1 = -1 by rfl]
          have t1 : decide ((0 : Int) ≤ -1) = false := by decide
          have O := HO1.out
          rw [show D * 256 ^ (4 - 0) + x / 256 ^ 0 = valZ (xs.drop i) by rw [EE.out]; simp only [Nat.sub_zero, Int.reducePow]; omega] at O
          have HO2 := Lib.hid O
          clear O HO1
          go_wp2_with fail
          go_roundw
          case rel => exact ⟨i, by omega, rfl, HO2.out⟩
          case measure => simp only [intOf]; omega
        · obtain ⟨h, rfl⟩ : ∃ h, k = h + 1 := ⟨k - 1, by omega⟩
          rw [show ((h + 1 : Nat) : Int) - 1 = (h : Int) by omega]
          have t1 : decide ((0 : Int) ≤ (h : Int)) = true := decide_eq_true (by omega)
          have cc : wr.cell? ⟨b, off + i, none⟩ = some (.int .u32 x) := (HO1.out.2.cell (p := ⟨b, off + i, none⟩) hb).trans cw
          have hN : (0 : Int) ≤ (h : Int) := by omega
          have w8 : IntKind.i64.wrap (8 * (h : Int)) = 8 * (h : Int) := IntWalk.i64_in _ (by omega)
          have s0 : (0 : Int) ≤ 8 * (h : Int) := by omega
          have s1 : 8 * (h : Int) ≤ 32 := by omega
          have w9 : IntKind.i64.wrap ((h : Int) - 1) = (h : Int) - 1 := IntWalk.i64_in _ (by omega)
          have hp : (2 : Int) ^ (8 * (h : Int)).toNat = 256 ^ h := by
            rw [show (8 * (h : Int)).toNat = 8 * h by omega, Int.pow_mul]
            rfl
          have hp2 : (2 : Int) ^ (8 * h) = 256 ^ h := by
            rw [Int.pow_mul]
            rfl
          have V0 : 0 ≤ D * 256 ^ (4 - (h + 1)) + x / 256 ^ (h + 1) := by
            have p1 : (0 : Int) ≤ 256 ^ (4 - (h + 1)) := Int.le_of_lt (Int.pow_pos (by decide))
            have p2 : (0 : Int) < 256 ^ (h + 1) := Int.pow_pos (by decide)
            have := Int.mul_nonneg D0h.out p1
            have := Int.ediv_nonneg xr.1 (Int.le_of_lt p2)
            omega
          obtain ⟨c, hc⟩ : ∃ c, x / 256 ^ h % 256 = c := ⟨_, rfl⟩
          have BS := byZ_step (c := c) V0 (by omega) (by omega)
          have TS := to_step (D := D) (x := x) (k := h) (by omega)
          rw [hc, show 3 - h = 4 - (h + 1) by omega] at TS
          rw [TS] at BS
          have wc : IntKind.u8.wrap (x / 256 ^ h) = c := hc
          have c0 : 0 ≤ c := by omega
          have c1 : c ≤ 255 := by omega
          have LE := HD.out (h + 1) (by omega)
          generalize hL : byZ (D * 256 ^ (4 - (h + 1)) + x / 256 ^ (h + 1)) = L at *
          have HBS := Lib.hid BS
          clear BS TS hc V0 hL
          obtain ⟨av, cv, rfl⟩ := HO1.out.shape
          have O3 := Lib.hid (HO1.out.alloc (.cells #[.int .u8 c] 5))
          obtain ⟨a1, ca1, e1, r1'⟩ := (out_one wr c).row (by intro q hq; simp at hq; omega)
          injection e1 with e1 e2 e3
          subst e1 e3
          have R1 := Lib.hid r1'
          clear r1' e2
          have LN : Hid (L.length + [c].length ≤ 1000000) := Lib.hid (by simp; omega)
          by_cases hl : 0 < L.length
          · have t2 : decide ((0 : Int) < (L.length : Int)) = true := decide_eq_true (by omega)
            have B := HBS.out
            rw [if_pos (.inl hl)] at B
            have HB := Lib.hid B
            clear B HBS
            go_wp2_with (at_builtin; go_must (refine out_append (W0 := w) (L := L) (zs := [c]) rfl _ _ rfl rfl O3.out rfl R1.out (fun e => by cases e) LN.out ?_; intro V4 w4 ho4; rw [← HB.out] at ho4; have O4 := Lib.hid ho4; clear ho4))
            go_roundw
            case rel => exact ⟨h, by omega, rfl, O4.out⟩
            case measure => simp only [intOf]; omega
          · have t2 : decide ((0 : Int) < (L.length : Int)) = false := decide_eq_false (by omega)
            by_cases hcz : 0 < c
            · have t3 : decide (0 < c) = true := decide_eq_true hcz
              have B := HBS.out
              rw [if_pos (.inr hcz)] at B
              have HB := Lib.hid B
              clear B HBS
              go_wp2_with (at_builtin; go_must (refine out_append (W0 := w) (L := L) (zs := [c]) rfl _ _ rfl rfl O3.out rfl R1.out (fun e => by cases e) LN.out ?_; intro V4 w4 ho4; rw [← HB.out] at ho4; have O4 := Lib.hid ho4; clear ho4))
              go_roundw
              case rel => exact ⟨h, by omega, rfl, O4.out⟩
              case measure => simp only [intOf]; omega
            · have t3 : decide (0 < c) = false := decide_eq_false hcz
              have B := HBS.out
              rw [if_neg (by omega)] at B
              have HB := Lib.hid B
              clear B HBS O3 R1
              go_wp2_with fail
              go_roundw
              case rel => exact ⟨h, by omega, rfl, by rw [HB.out]; exact HO1.out⟩
              case measure => simp only [intOf]; omega

end Go.Proofs.Ytngoahbngckcfaa
