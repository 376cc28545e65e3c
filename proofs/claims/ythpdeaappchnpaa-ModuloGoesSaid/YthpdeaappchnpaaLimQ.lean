/-
  Numbers as rows of limbs, plain: parts, order, sums, differences (for stage 7, limb).
-/
import Derived.Test.YthpdeaappchnpaaLimP
namespace Go.Proofs.Ythpdeaappchnpaa
open Go.RowKit
set_option linter.unusedVariables false

theorem pow_mono32 {i j : Nat} (h : i ≤ j) : (4294967296 : Int) ^ i ≤ 4294967296 ^ j := by
  obtain ⟨d, rfl⟩ := Nat.exists_eq_add_of_le h
  rw [Int.pow_add]
  have h1 := pow_pos32 i
  have h2 := pow_pos32 d
  have := Int.mul_le_mul_of_nonneg_left (show (1 : Int) ≤ 4294967296 ^ d by omega) (Int.le_of_lt h1)
  rw [Int.mul_one] at this
  exact this
theorem valZ_parts (zs : List Int) (k : Nat) : valZ zs = valZ (zs.take k) + 4294967296 ^ k * valZ (zs.drop k) := by
  rcases Nat.le_total k zs.length with h | h
  · exact valZ_split zs k h
  · rw [List.take_of_length_le h, List.drop_of_length_le h]
    simp [valZ]
theorem valZ_drop (zs : List Int) (k : Nat) : valZ (zs.drop k) = zs[k]?.getD 0 + 4294967296 * valZ (zs.drop (k + 1)) := by
  rcases Nat.lt_or_ge k zs.length with h | h
  · rw [List.drop_eq_getElem_cons h, valZ, List.getElem?_eq_getElem h]
    rfl
  · rw [List.drop_of_length_le h, List.drop_of_length_le (by omega), List.getElem?_eq_none h]
    rfl
theorem take_lt {zs : List Int} (h : Limbs zs) (k : Nat) : 0 ≤ valZ (zs.take k) ∧ valZ (zs.take k) < 4294967296 ^ k := by
  refine ⟨valZ_nonneg (h.take k), Int.lt_of_lt_of_le (valZ_lt (h.take k)) (pow_mono32 ?_)⟩
  rw [List.length_take]
  omega

/-- How two numbers are ordered. -/
def cmpI (x y : Int) : Int := if x < y then -1 else if y < x then 1 else 0
theorem cmp_less {as bs : List Int} (ha : Limbs as) (hb : Limbs bs) {k : Nat} (hd : valZ (as.drop (k + 1)) = valZ (bs.drop (k + 1))) (h : as[k]?.getD 0 < bs[k]?.getD 0) : valZ as < valZ bs := by
  rw [valZ_parts as k, valZ_parts bs k, valZ_drop as k, valZ_drop bs k, hd]
  have h1 := take_lt ha k
  have h2 := take_lt hb k
  have hp := pow_pos32 k
  generalize (4294967296 : Int) ^ k = P at *
  generalize valZ (bs.drop (k + 1)) = u at *
  have := Int.mul_le_mul_of_nonneg_left (show as[k]?.getD 0 + 4294967296 * u + 1 ≤ bs[k]?.getD 0 + 4294967296 * u by omega) (Int.le_of_lt hp)
  rw [Int.mul_add, Int.mul_one] at this
  omega
theorem cmp_lt {as bs : List Int} (ha : Limbs as) (hb : Limbs bs) {k : Nat} (hd : valZ (as.drop (k + 1)) = valZ (bs.drop (k + 1))) (h : as[k]?.getD 0 < bs[k]?.getD 0) : cmpI (valZ as) (valZ bs) = -1 := if_pos (cmp_less ha hb hd h)
theorem cmp_gt {as bs : List Int} (ha : Limbs as) (hb : Limbs bs) {k : Nat} (hd : valZ (as.drop (k + 1)) = valZ (bs.drop (k + 1))) (h : bs[k]?.getD 0 < as[k]?.getD 0) : cmpI (valZ as) (valZ bs) = 1 := by
  have := cmp_less hb ha hd.symm h
  unfold cmpI
  rw [if_neg (by omega), if_pos this]
theorem cmp_eq {as bs : List Int} (hd : valZ (as.drop 0) = valZ (bs.drop 0)) : cmpI (valZ as) (valZ bs) = 0 := by
  simp only [List.drop_zero] at hd
  unfold cmpI
  rw [hd, if_neg (by omega), if_neg (by omega)]
theorem cmp_down {as bs : List Int} {k : Nat} (hd : valZ (as.drop (k + 1)) = valZ (bs.drop (k + 1))) (h : as[k]?.getD 0 = bs[k]?.getD 0) : valZ (as.drop k) = valZ (bs.drop k) := by
  rw [valZ_drop as k, valZ_drop bs k, hd, h]
theorem cmp_top (as bs : List Int) : valZ (as.drop (max as.length bs.length)) = valZ (bs.drop (max as.length bs.length)) := by
  rw [List.drop_of_length_le (by omega), List.drop_of_length_le (by omega)]
theorem cmpI_neg (x y : Int) : cmpI x y < 0 ↔ x < y := by
  unfold cmpI
  split
  · simp; omega
  · split <;> simp <;> omega

/-- A limb more of a sum: what is laid, and what goes over. -/
theorem sum_step {as bs out : List Int} {i : Nat} {c : Int} (hl : out.length = i) (h : valZ out + 4294967296 ^ i * c = valZ (as.take i) + valZ (bs.take i)) :
    valZ (out ++ [(c + as[i]?.getD 0 + bs[i]?.getD 0) % 4294967296]) + 4294967296 ^ (i + 1) * ((c + as[i]?.getD 0 + bs[i]?.getD 0) / 4294967296) = valZ (as.take (i + 1)) + valZ (bs.take (i + 1)) := by
  rw [valZ_append, valZ_one, hl, valZ_take, valZ_take, Int.pow_succ]
  generalize (4294967296 : Int) ^ i = P at *
  generalize as[i]?.getD 0 = x at *
  generalize bs[i]?.getD 0 = y at *
  have e := Int.emod_add_mul_ediv (c + x + y) 4294967296
  generalize (c + x + y) % 4294967296 = r at *
  generalize (c + x + y) / 4294967296 = q at *
  have e2 : P * r + P * 4294967296 * q = P * (c + x + y) := by rw [← e, Int.mul_add, Int.mul_assoc]
  rw [Int.mul_add, Int.mul_add] at e2
  omega
theorem sum_end {as bs out : List Int} {i : Nat} (ha : as.length ≤ i) (hb : bs.length ≤ i) (h : valZ out + 4294967296 ^ i * 0 = valZ (as.take i) + valZ (bs.take i)) : valZ out = valZ as + valZ bs := by
  rw [valZ_all ha, valZ_all hb, Int.mul_zero, Int.add_zero] at h
  exact h
/-- A limb more of a difference. -/
theorem dif_step {as bs out : List Int} {i : Nat} {o o' d : Int} (hl : out.length = i) (h : valZ out - 4294967296 ^ i * o = valZ (as.take i) - valZ (bs.take i)) (hd : d = as[i]?.getD 0 - bs[i]?.getD 0 - o + 4294967296 * o') :
    valZ (out ++ [d]) - 4294967296 ^ (i + 1) * o' = valZ (as.take (i + 1)) - valZ (bs.take (i + 1)) := by
  rw [valZ_append, valZ_one, hl, valZ_take, valZ_take, Int.pow_succ, hd]
  generalize (4294967296 : Int) ^ i = P at *
  generalize as[i]?.getD 0 = x at *
  generalize bs[i]?.getD 0 = y at *
  have e : P * (x - y - o + 4294967296 * o') = P * x - P * y - P * o + P * 4294967296 * o' := by
    rw [Int.mul_add, Int.mul_sub, Int.mul_sub, Int.mul_assoc]
  rw [e]
  omega
theorem dif_end {as bs out : List Int} {o : Int} (ha : Limbs as) (hb : Limbs bs) (ho : Limbs out) (hlo : out.length = as.length) (hle : valZ bs ≤ valZ as) (ho1 : 0 ≤ o ∧ o ≤ 1)
    (h : valZ out - 4294967296 ^ as.length * o = valZ (as.take as.length) - valZ (bs.take as.length)) : valZ out = valZ as - valZ bs := by
  have hB : valZ (bs.take as.length) ≤ valZ bs := by
    have h0 := valZ_nonneg (hb.drop as.length)
    have := valZ_parts bs as.length
    have hp := pow_pos32 as.length
    have := Int.mul_nonneg (Int.le_of_lt hp) h0
    omega
  rw [valZ_all (Nat.le_refl _)] at h
  have hlt := valZ_lt ho
  rw [hlo] at hlt
  have hn := valZ_nonneg ho
  have ht := valZ_parts bs as.length
  have hd0 := valZ_nonneg (hb.drop as.length)
  have ha2 := valZ_lt ha
  have ht0 := take_lt hb as.length
  have hp := pow_pos32 as.length
  generalize (4294967296 : Int) ^ as.length = P at *
  have ho2 : o = 0 ∨ o = 1 := by omega
  -- nothing of the second one lies above, for it is no greater
  have hdz : valZ (bs.drop as.length) = 0 := by
    rcases (show valZ (bs.drop as.length) = 0 ∨ 1 ≤ valZ (bs.drop as.length) by omega) with h1 | h1
    · exact h1
    · have := Int.mul_le_mul_of_nonneg_left h1 (Int.le_of_lt hp)
      rw [Int.mul_one] at this
      omega
  rw [hdz, Int.mul_zero, Int.add_zero] at ht
  rcases ho2 with rfl | rfl
  · rw [Int.mul_zero, Int.sub_zero] at h
    omega
  · rw [Int.mul_one] at h
    omega

end Go.Proofs.Ythpdeaappchnpaa
