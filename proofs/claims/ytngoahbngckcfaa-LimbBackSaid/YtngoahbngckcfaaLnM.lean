/-
  What the package's To answers, for stage 7 (limb).
-/
import Derived.Test.YtngoahbngckcfaaLnL
namespace Go.Proofs.Ytngoahbngckcfaa
open Go.RowKit
set_option linter.unusedVariables false

theorem out_full {w w1 : World} {m : Nat} (h : w1.ownsRow w.heap.size 5 1 (.slice (some ⟨w.heap.size, 0, none⟩) m m) m (madeCells #[Value.int .u8 0] m).toList) (hg : w.grownBy w1 none) : Out w w1 (.slice (some ⟨w.heap.size, 0, none⟩) m m) (List.replicate m 0) := by
  refine ⟨?_, (Below.refl _ _).grown hg (Nat.le_refl _) (fun k h => by cases h)⟩
  rw [toList_madeCells_one] at h
  rw [List.length_replicate, List.map_replicate]
  exact h
theorem fill_step {L T : List Int} {K i : Nat} {y : Int} (hL : L.length = K) (hi : i < K) (h : ∀ j, K - i ≤ j → L[j]?.getD 0 = T[j]?.getD 0) (hy : y = T[K - 1 - i]?.getD 0) : ∀ j, K - (i + 1) ≤ j → (L.set (K - 1 - i) y)[j]?.getD 0 = T[j]?.getD 0 := by
  intro j hj
  rcases Nat.eq_or_lt_of_le hj with e | e
  · rw [← e, show K - (i + 1) = K - 1 - i by omega, List.getElem?_set_self (by omega), ← hy]
    rfl
  · rw [List.getElem?_set_ne (by omega)]
    exact h j (by omega)
theorem fill_end {L T : List Int} {K : Nat} (hL : L.length = K) (hT : T.length = K) (h : ∀ j, K - K ≤ j → L[j]?.getD 0 = T[j]?.getD 0) : L = T := by
  apply List.ext_getElem?
  intro j
  have := h j (by omega)
  rcases Nat.lt_or_ge j K with hj | hj
  · rw [List.getElem?_eq_getElem (by omega), List.getElem?_eq_getElem (by omega)] at this ⊢
    simpa using this
  · rw [List.getElem?_eq_none (by omega), List.getElem?_eq_none (by omega)]

set_option maxHeartbeats 1000000 in
set_option maxRecDepth 10000 in
theorem to_any (a : Option Addr) (n ca : Nat) (xs : List Int) (w : World) (hr : Row32 w a n xs) (hca : n ≤ ca) (hn : n ≤ 100000) (hnil : a = none → ca = 0) : Calls Try.prog 20 #[.slice a n ca] w (GivesB (valZ xs) w) := by
  obtain ⟨i0, hi, hz0, hz1, hz2⟩ := info_parts Try.infoByte
  have LE := Lib.hid (len_any a n ca xs w hr hca (by omega) hnil)
  have HR := Lib.hid hr
  have LX := Lib.hid (row32_limbs hr)
  have ln := hr.1
  have BB := bitZ_bound (row32_limbs hr)
  have B0 := bitZ_nonneg (valZ xs)
  have BL := byZ_len (valZ xs)
  have V0 := valZ_nonneg (row32_limbs hr)
  have BAT := Lib.hid (fun (i : Nat) (hi : i < (byZ (valZ xs)).length) => byZ_at V0 hi)
  have BY := Lib.hid (byZ_byte (valZ xs))
  have BLI := Lib.hid (fun (q r : Nat) (h4 : r < 4) => byte_limb (row32_limbs hr) q r h4)
  clear hr hnil
  obtain ⟨K, hK⟩ : ∃ K, (byZ (valZ xs)).length = K := ⟨_, rfl⟩
  rw [hK] at BL BAT
  obtain ⟨bv, hbv⟩ : ∃ bv, bitZ (valZ xs) = bv := ⟨_, rfl⟩
  rw [hbv] at BB B0 BL LE
  rw [ln] at BB
  have HKL := Lib.hid hK
  have K4 : K ≤ 4 * n := by omega
  have w0 : IntKind.i64.wrap (bv + 8) = bv + 8 := IntWalk.i64_in _ (by omega)
  have w1 : IntKind.i64.wrap (bv + 8 - 1) = bv + 8 - 1 := IntWalk.i64_in _ (by omega)
  have g1 : (bv + 8 - 1) / 8 = (K : Int) := by omega
  have g2 : (bv + 8 - 1).tdiv 8 = (K : Int) := by rw [Int.tdiv_eq_ediv_of_nonneg (by omega)]; exact g1
  have w2 : IntKind.i64.wrap (K : Int) = (K : Int) := IntWalk.i64_in _ (by omega)
  clear hbv BB BL hK
  go_enter Try.func20, Try.ntmps20
  go_wp2_with fail
  refine LE.out.mono ?_
  rintro e w3 ⟨rfl, hw3⟩
  subst hw3
  clear LE
  go_wp2_with (at_make; refine wpList_make_full _ rfl _ _ 28 rfl w3.heap.size 5 i0 (.int .u8 0) 1 Try.underlying28 hi hz0 hz1 _ _ _ _ K rfl rfl ?b0 ?b00 ?b1 ?b2 ?b3 ?_)
  case b0 => first | rfl | omega
  case b00 => first | rfl | omega
  case b1 => rw [hz2]; omega
  case b2 => unfold maxLen; omega
  case b3 => exact Nat.le_refl _
  intro w4 hown0 hgrow
  have HO := Lib.hid (out_full hown0 hgrow)
  clear hown0 hgrow hz2 hz1 hz0 hi w0 w1 g1 g2
  go_wp2_with fail
  go_loopw [13] (fun iV wr => ∃ (i : Nat) (L : List Int), iV = .int .i64 (i : Int) ∧ i ≤ K ∧ Out w3 wr (.slice (some ⟨w3.heap.size, 0, none⟩) K K) L ∧ L.length = K ∧ ∀ j, K - i ≤ j → L[j]?.getD 0 = (byZ (valZ xs))[j]?.getD 0) (fun iV _ => (1000001 - intOf iV).toNat)
  case atStart => exact ⟨0, _, rfl, by omega, HO.out, by simp, fun j hj => by rw [List.getElem?_eq_none (by rw [List.length_replicate]; omega), List.getElem?_eq_none (by rw [HKL.out]; omega)]⟩
  case round =>
    obtain ⟨i, L, rfl, hi, ho, hlen, hsame⟩ := hrel
    have HO2 := Lib.hid ho
    have HN := Lib.hid hlen
    have HS := Lib.hid hsame
    clear ho hlen hsame HO
    by_cases hmore : i < K
    · have t1 : decide ((i : Int) < (K : Int)) = true := decide_eq_true (by omega)
      obtain ⟨k, hk⟩ : ∃ k, K - 1 - i = k := ⟨_, rfl⟩
      obtain ⟨q, hq⟩ : ∃ q, i / 4 = q := ⟨_, rfl⟩
      have r4 := Nat.mod_lt i (show 0 < 4 by omega)
      obtain ⟨r, hr⟩ : ∃ r, i % 4 = r := ⟨_, rfl⟩
      rw [hr] at r4
      obtain ⟨b, off, rfl, hbl0, hcell0⟩ := HR.out.2.2 (by omega)
      have cb : wr.cell? ⟨b, off + q, none⟩ = some (.int .u32 (xs[q]?.getD 0)) := (HO2.out.2.cell (p := ⟨b, off + q, none⟩) hbl0).trans (hcell0 q (by omega))
      have xr := LX.out.at q
      have AT := BAT.out i (by omega)
      rw [show i = 4 * q + r by omega, BLI.out q r r4, show 4 * q + r = i by omega] at AT
      have ST := Lib.hid (fun y hy => fill_step (y := y) HN.out hmore HS.out hy)
      obtain ⟨hc1, hf1⟩ := HO2.out.cell k (by rw [HN.out]; omega)
      have SET := Lib.hid (fun y => HO2.out.set (Nat.le_refl _) k y)
      have ATH := Lib.hid AT
      rw [hk] at ST ATH
      generalize xs[q]?.getD 0 = x at *
      generalize L[k]?.getD 0 = z at *
      have k1 : IntKind.i64.wrap ((K : Int) - 1) = (K : Int) - 1 := IntWalk.i64_in _ (by omega)
      have k2 : IntKind.i64.wrap ((K : Int) - 1 - (i : Int)) = (k : Int) := by rw [show (K : Int) - 1 - (i : Int) = (k : Int) by omega]; exact IntWalk.i64_in _ (by omega)
      have k3 : (i : Int) / 4 = (q : Int) := by omega
      have k3' : (i : Int).tdiv 4 = (q : Int) := by rw [Int.tdiv_eq_ediv_of_nonneg (by omega)]; exact k3
      have k5 : IntKind.i64.wrap (q : Int) = (q : Int) := IntWalk.i64_in _ (by omega)
      have qI : (q : Int) < (n : Int) := by omega
      have kI : (k : Int) < (K : Int) := by omega
      have hiM : i ≤ 1000000 := by omega
      clear hcell0 AT
      obtain rfl | rfl | rfl | rfl : r = 0 ∨ r = 1 ∨ r = 2 ∨ r = 3 := by omega
      · have kt : (i : Int).tmod 4 = 0 := by rw [Int.tmod_eq_emod_of_nonneg (by omega)]; omega
        have kp : (256 : Int) ^ 0 = 1 := by decide
        have w8 : IntKind.i64.wrap 0 = 0 := by decide
        have wc : IntKind.u8.wrap (x) = x % 256 := rfl
        have HY : Hid (x % 256 = (byZ (valZ xs))[k]?.getD 0) := Lib.hid (by rw [ATH.out, kp, Int.ediv_one])
        clear kp r4 xr
        go_wp2_with fail
        go_roundw
        case rel => exact ⟨i + 1, _, by go_num, by omega, SET.out _, by rw [List.length_set]; exact HN.out, ST.out _ HY.out⟩
        case measure => simp only [intOf]; exact meas_lt hiM
      · have kt : (i : Int).tmod 4 = 1 := by rw [Int.tmod_eq_emod_of_nonneg (by omega)]; omega
        have kp : (256 : Int) ^ 1 = 256 := by decide
        have w8 : IntKind.i64.wrap 8 = 8 := by decide
        have wc : IntKind.u8.wrap (x / 256) = x / 256 % 256 := rfl
        have HY : Hid (x / 256 % 256 = (byZ (valZ xs))[k]?.getD 0) := Lib.hid (by rw [ATH.out, kp])
        clear kp r4 xr
        go_wp2_with fail
        go_roundw
        case rel => exact ⟨i + 1, _, by go_num, by omega, SET.out _, by rw [List.length_set]; exact HN.out, ST.out _ HY.out⟩
        case measure => simp only [intOf]; exact meas_lt hiM
      · have kt : (i : Int).tmod 4 = 2 := by rw [Int.tmod_eq_emod_of_nonneg (by omega)]; omega
        have kp : (256 : Int) ^ 2 = 65536 := by decide
        have w8 : IntKind.i64.wrap 16 = 16 := by decide
        have wc : IntKind.u8.wrap (x / 65536) = x / 65536 % 256 := rfl
        have HY : Hid (x / 65536 % 256 = (byZ (valZ xs))[k]?.getD 0) := Lib.hid (by rw [ATH.out, kp])
        clear kp r4 xr
        go_wp2_with fail
        go_roundw
        case rel => exact ⟨i + 1, _, by go_num, by omega, SET.out _, by rw [List.length_set]; exact HN.out, ST.out _ HY.out⟩
        case measure => simp only [intOf]; exact meas_lt hiM
      · have kt : (i : Int).tmod 4 = 3 := by rw [Int.tmod_eq_emod_of_nonneg (by omega)]; omega
        have kp : (256 : Int) ^ 3 = 16777216 := by decide
        have w8 : IntKind.i64.wrap 24 = 24 := by decide
        have wc : IntKind.u8.wrap (x / 16777216) = x / 16777216 % 256 := rfl
        have HY : Hid (x / 16777216 % 256 = (byZ (valZ xs))[k]?.getD 0) := Lib.hid (by rw [ATH.out, kp])
        clear kp r4 xr
        go_wp2_with fail
        go_roundw
        case rel => exact ⟨i + 1, _, by go_num, by omega, SET.out _, by rw [List.length_set]; exact HN.out, ST.out _ HY.out⟩
        case measure => simp only [intOf]; exact meas_lt hiM
    · obtain rfl : i = K := by omega
      have t1 : decide ((i : Int) < (i : Int)) = false := decide_eq_false (by omega)
      have F := fill_end HN.out HKL.out HS.out
      subst F
      go_wp2_with fail
      go_ret
      exact ⟨_, rfl, HO2.out⟩

end Go.Proofs.Ytngoahbngckcfaa
