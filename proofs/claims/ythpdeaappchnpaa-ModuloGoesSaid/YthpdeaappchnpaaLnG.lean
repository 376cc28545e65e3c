/-
  What the package's Mul answers, for stage 7 (limb).
-/
import Derived.Test.YthpdeaappchnpaaLnF
namespace Go.Proofs.Ythpdeaappchnpaa
open Go.RowKit
set_option linter.unusedVariables false

theorem mul_round {L L' us vs : List Int} {i r : Nat} {c : Int} (hi : i + r < L'.length) (hz : L'[i + r]?.getD 0 = 0) (h : valZ L' + 4294967296 ^ (i + r) * c = valZ L + us[i]?.getD 0 * 4294967296 ^ i * valZ vs) (hv : valZ L = valZ (us.take i) * valZ vs) :
    valZ (L'.set (i + r) c) = valZ (us.take (i + 1)) * valZ vs := by
  rw [valZ_set L' _ _ hi, hz, Int.sub_zero, h, hv, valZ_take, Int.add_mul, Int.mul_comm (us[i]?.getD 0)]
theorem set_high {L' L : List Int} {i r : Nat} {c : Int} (h : ∀ j, i + r ≤ j → L'[j]?.getD 0 = L[j]?.getD 0) (hz : ∀ j, i + r ≤ j → L[j]?.getD 0 = 0) : ∀ j, i + 1 + r ≤ j → (L'.set (i + r) c)[j]?.getD 0 = 0 := by
  intro j hj
  rw [List.getElem?_set_ne (by omega), h j (by omega), hz j (by omega)]

theorem Out32.drew {W0 wr : World} {V : Value} {L : List Int} (h : Out32 W0 wr V L) : Out32 W0 wr.drew V L := ⟨h.1, { h.2 with }⟩

set_option maxHeartbeats 2000000 in
set_option maxRecDepth 10000 in
theorem mul_any (a b : Option Addr) (n m ca cb : Nat) (xs ys : List Int) (w : World) (hr : Row32 w a n xs) (hs : Row32 w b m ys) (hn : n ≤ 40000) (hm : m ≤ 40000) (hca : n ≤ ca) (hcb : m ≤ cb) (hna : a = none → ca = 0) (hnb : b = none → cb = 0) :
    Calls Try.prog 18 #[.slice a n ca, .slice b m cb] w (GivesL (valZ xs * valZ ys) w) := by
  obtain ⟨i0, hi, hz0, hz1, hz2⟩ := info_parts Try.info32
  have NA := Lib.hid (normalized_any a n ca xs w hr hca (by omega) hna)
  have NB := Lib.hid (normalized_any b m cb ys w hs hcb (by omega) hnb)
  have HA := Lib.hid hr.norm
  have HB := Lib.hid hs.norm
  have VA := limZ_val (valZ_nonneg (row32_limbs hr))
  have VB := limZ_val (valZ_nonneg (row32_limbs hs))
  have la : (limZ (valZ xs)).length ≤ n := by have := (norm_take (row32_limbs hr)).1; have := hr.1; omega
  have lb : (limZ (valZ ys)).length ≤ m := by have := (norm_take (row32_limbs hs)).1; have := hs.1; omega
  clear hr hs hna hnb
  rw [← VA, ← VB]
  generalize limZ (valZ xs) = us at *
  generalize limZ (valZ ys) = vs at *
  clear VA VB
  obtain ⟨p, hp⟩ : ∃ p, us.length = p := ⟨_, rfl⟩
  obtain ⟨r, hr⟩ : ∃ r, vs.length = r := ⟨_, rfl⟩
  rw [hp] at la NA HA
  rw [hr] at lb NB HB
  have HP := Lib.hid hp
  have HRR := Lib.hid hr
  clear hp hr
  have w1 : IntKind.i64.wrap ((p : Int) + (r : Int)) = (p : Int) + (r : Int) := IntWalk.i64_in _ (by omega)
  go_enter Try.func18, Try.ntmps18
  go_wp2_with fail
  refine NA.out.mono ?_
  rintro e w2 ⟨rfl, rfl⟩
  go_wp2_with fail
  refine NB.out.mono ?_
  rintro e w3 ⟨rfl, hw3⟩
  subst hw3
  clear NA NB
  go_wp2_with (at_make; refine wpList_make_full _ rfl _ _ 22 rfl w3.heap.size 35 i0 (.int .u32 0) 1 Try.underlying22 hi hz0 hz1 _ _ _ _ (p + r) rfl rfl ?b0 ?b00 ?b1 ?b2 ?b3 ?_)
  case b0 => first | rfl | omega
  case b00 => first | rfl | omega
  case b1 => rw [hz2]; omega
  case b2 => unfold maxLen; omega
  case b3 => exact Nat.le_refl _
  intro w1 hown0 hgrow
  have HO := Lib.hid (out_made32 hown0 hgrow)
  clear hown0 hgrow hz2 hz1 hz0 hi
  go_wp2_with fail
  go_loopw [19] (fun iV wr => ∃ (i : Nat) (L : List Int), iV = .int .i64 (i : Int) ∧ i ≤ p ∧ Out32 w3 wr (.slice (some ⟨w3.heap.size, 0, none⟩) (p + r) (p + r)) L ∧ Limbs L ∧ L.length = p + r ∧ valZ L = valZ (us.take i) * valZ vs ∧ ∀ j, i + r ≤ j → L[j]?.getD 0 = 0) (fun iV _ => (1000001 - intOf iV).toNat)
  case atStart => exact ⟨0, _, rfl, by omega, HO.out, limbs_zeros _, by simp, by simp [valZ, valZ_zeros], fun j _ => by rw [List.getElem?_replicate]; split <;> rfl⟩
  case round =>
    obtain ⟨i, L, rfl, hi, ho, hL, hlen, hval, hzero⟩ := hrel
    have HO0 := Lib.hid ho
    have HL0 := Lib.hid hL
    have HN0 := Lib.hid hlen
    have HV0 := Lib.hid hval
    have HZ0 := Lib.hid hzero
    clear ho hL hlen hval hzero HO
    by_cases hmore : i < p
    · have t1 : decide ((i : Int) < (p : Int)) = true := decide_eq_true (by omega)
      have hiM : i ≤ 1000000 := by omega
      have RA := Lib.hid (HA.out.below HO0.out.2)
      obtain ⟨b1, o1, rfl, hb1, hc1⟩ := HA.out.2.2 (by omega)
      have ca0 : ∀ W, Below w3.heap.size wr.drew W → W.cell? ⟨b1, o1 + i, none⟩ = some (.int .u32 (us[i]?.getD 0)) := fun W hW => by
        have h1 : W.cell? ⟨b1, o1 + i, none⟩ = wr.drew.cell? ⟨b1, o1 + i, none⟩ := hW.cell (p := ⟨b1, o1 + i, none⟩) hb1
        have h2 : wr.drew.cell? ⟨b1, o1 + i, none⟩ = w3.cell? ⟨b1, o1 + i, none⟩ := (show Below w3.heap.size w3 wr.drew from { HO0.out.2 with }).cell (p := ⟨b1, o1 + i, none⟩) hb1
        exact h1.trans (h2.trans (hc1 i hmore))
      have xr := HA.out.num i
      have MR := Lib.hid (fun (L' : List Int) (c : Int) => mul_round (L := L) (L' := L') (us := us) (vs := vs) (i := i) (r := r) (c := c))
      generalize us[i]?.getD 0 = x at *
      have AM := Lib.hid (addMultiple_any w3 wr.drew w3.heap.size (p + r) i r (p + r - i) r b L vs x HO0.out.drew HN0.out (Nat.le_refl _) HL0.out (by omega) (by omega) HB.out xr.1 xr.2)
      have i1 : IntKind.i64.wrap ((i : Int) + (r : Int)) = (i : Int) + (r : Int) := IntWalk.i64_in _ (by omega)
      have i2 : (i : Int) < (p : Int) := by omega
      have i3 : (i : Int) + (r : Int) < (p : Int) + (r : Int) := by omega
      have i4 : (i : Int) ≤ (i : Int) + (r : Int) := by omega
      have i5 : (i : Int) + (r : Int) ≤ (p : Int) + (r : Int) := by omega
      have i6 : 0 ≤ (i : Int) + (r : Int) := by omega
      have i7 : ((i : Int) + (r : Int)).toNat = i + r := by omega
      have i8 : i + r - i = r := by omega
      have i9 : ¬ p + r = i := by omega
      clear hc1
      go_wp2_with fail
      refine wp_region_ord (Below w3.heap.size) (Below.refl _) (fun _ _ _ => Below.trans) [(0, false), (1, false), (2, false), (3, false), (4, false), (5, false), (6, false), (7, false), (8, false), (9, false), (10, false), (11, false), (12, false), (13, false), (14, false), (15, false), (16, false), (17, true), (18, false), (19, true)] (by kernel_rfl) (by kernel_rfl) rfl (by kernel_rfl) (fun _ _ _ _ _ h => h) ?_
      repeat (refine ord_take _ rfl (by rfl) (fun W hW => by go_simp; first | done | rfl) ?_; simp only [Act.put, List.setIfInBounds_toArray, List.set_cons_zero, List.set_cons_succ])
      refine ord_sole rfl (by rfl) (fun K1 hK1 => ?_)
      go_simp
      refine AM.out.mono ?_
      rintro e w4 ⟨L', c, rfl, c0, c1, hO, hL', hlen, hval, hhigh, hbw⟩
      refine hK1 _ _ hbw ?_
      clear hK1 K1 ca0
      obtain ⟨cx, fx⟩ := hO.cell (i + r) (by rw [hlen]; omega)
      have z0 : L'[i + r]?.getD 0 = 0 := by rw [hhigh _ (Nat.le_refl _)]; exact HZ0.out _ (Nat.le_refl _)
      rw [z0] at cx
      have O5 := Lib.hid (hO.set (Nat.le_refl _) (i + r) c)
      have L5 := Lib.hid (limbs_set hL' (i + r) c0 c1)
      have V5 := Lib.hid (MR.out L' c (by rw [hlen]; omega) z0 hval HV0.out)
      have Z5 := Lib.hid (set_high (c := c) hhigh HZ0.out)
      have N5 := Lib.hid hlen
      clear hO hL' hlen hval hhigh hbw z0
      try simp only [Act.put, List.setIfInBounds_toArray, List.set_cons_zero, List.set_cons_succ]
      refine ord_take _ rfl (by rfl) (fun W hW => by go_simp; first | done | rfl) ?_
      try simp only [Act.put, List.setIfInBounds_toArray, List.set_cons_zero, List.set_cons_succ]
      refine ord_sole rfl (by rfl) (fun K1 hK1 => ?_)
      unfold Oper.wp
      go_simp
      refine hK1 _ _ ((Below.refl _ _).setCell (p := ⟨w3.heap.size, i + r, none⟩) (Nat.le_refl _) _) ?_
      clear hK1 K1 cx fx
      refine ord_end ?_
      generalize hw5 : w4.setCell ⟨w3.heap.size, i + r, none⟩ (.int .u32 c) = w5 at *
      clear hw5
      go_wp2_with fail
      go_roundw
      case rel => exact ⟨i + 1, _, by go_num, by omega, O5.out, L5.out, by rw [List.length_set]; exact N5.out, V5.out, Z5.out⟩
      case measure => simp only [intOf]; exact meas_lt hiM
    · obtain rfl : i = p := by omega
      have t1 : decide ((i : Int) < (i : Int)) = false := decide_eq_false (by omega)
      have F : Hid (valZ L = valZ us * valZ vs) := Lib.hid (by rw [HV0.out, List.take_of_length_le (by rw [HP.out]; omega)])
      have R3 := (HO0.out.normed HL0.out).1
      have N3 := Lib.hid (normalized_any (some ⟨w3.heap.size, 0, none⟩) (i + r) (i + r) L wr R3 (Nat.le_refl _) (by omega) (fun e => by cases e))
      have G3 := Lib.hid R3.norm
      rw [F.out] at N3 G3
      clear R3 HV0 F
      go_wp2_with fail
      refine N3.out.mono ?_
      rintro e w4 ⟨rfl, rfl⟩
      go_wp2_with fail
      go_ret
      exact ⟨_, _, rfl, G3.out, (fun e => by cases e), Nat.le_refl _, HO0.out.2⟩

end Go.Proofs.Ythpdeaappchnpaa
