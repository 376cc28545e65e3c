/-
  Plain facts of limbs and bytes: a number from its bytes, its bytes, how many bits it has, for stage 7 (limb).
-/
import Derived.Test.YthpdeaappchnpaaLimW
namespace Go.Proofs.Ythpdeaappchnpaa
open Go.RowKit
set_option linter.unusedVariables false

/-- The number of a row of bytes, the highest first. -/
def beV (l : List Int) : Int := l.foldl (fun v x => v * 256 + x) 0
theorem beV_nil : beV [] = 0 := rfl
theorem beV_snoc (l : List Int) (x : Int) : beV (l ++ [x]) = beV l * 256 + x := by unfold beV; rw [List.foldl_append]; rfl
theorem beV_take {l : List Int} {i : Nat} (h : i < l.length) : beV (l.take (i + 1)) = beV (l.take i) * 256 + l[i]?.getD 0 := by
  rw [take_snoc32 h, beV_snoc]
theorem beV_nonneg {l : List Int} (h : ∀ x ∈ l, 0 ≤ x ∧ x ≤ 255) : 0 ≤ beV l := by
  have : ∀ (l : List Int) (v : Int), 0 ≤ v → (∀ x ∈ l, 0 ≤ x ∧ x ≤ 255) → 0 ≤ l.foldl (fun v x => v * 256 + x) v := by
    intro l
    induction l with
    | nil => intro v hv _; exact hv
    | cons x xs ih =>
      intro v hv hx
      have := hx x (by simp)
      exact ih _ (by show 0 ≤ v * 256 + x; omega) (fun y hy => hx y (by simp [hy]))
  exact this l 0 (by omega) h
theorem pow256 (q r : Nat) : (256 : Int) ^ (4 * q + r) = 4294967296 ^ q * 256 ^ r := by
  rw [Int.pow_add, Int.pow_mul]
  rfl
/-- A byte more of a number: where it goes, and that it has room there. -/
theorem from_room {L : List Int} (hL : Limbs L) {M : Int} {q r : Nat} (hr : r < 4) (hq : q < L.length) (h : valZ L = M * 256 ^ (4 * q + r + 1)) : L[q]?.getD 0 % 256 ^ (r + 1) = 0 := by
  have e := valZ_parts L q
  rw [valZ_drop L q] at e
  have t := take_lt hL q
  have p := pow_pos32 q
  rw [h, Nat.add_assoc, pow256] at e
  have hT : valZ (L.take q) = 0 := by
    have e3 : valZ (L.take q) % 4294967296 ^ q = 0 := by
      have : valZ (L.take q) = 4294967296 ^ q * (M * 256 ^ (r + 1) - (L[q]?.getD 0 + 4294967296 * valZ (L.drop (q + 1)))) := by
        rw [Int.mul_sub, Int.mul_left_comm]
        omega
      rw [this, Int.mul_emod_right]
    rwa [Int.emod_eq_of_lt t.1 t.2] at e3
  rw [hT, Int.zero_add, Int.mul_left_comm] at e
  have e2 := Int.eq_of_mul_eq_mul_left (by omega) e
  generalize L[q]?.getD 0 = l at *
  generalize valZ (L.drop (q + 1)) = R at *
  obtain rfl | rfl | rfl | rfl : r = 0 ∨ r = 1 ∨ r = 2 ∨ r = 3 := by omega
  all_goals simp only [Nat.zero_add, Nat.reduceAdd, Int.reducePow] at e2 ⊢
  all_goals omega
theorem from_fits {l b : Int} {r : Nat} (hr : r < 4) (l0 : 0 ≤ l) (l1 : l ≤ 4294967295) (b0 : 0 ≤ b) (b1 : b ≤ 255) (h : l % 256 ^ (r + 1) = 0) : 0 ≤ b * 256 ^ r ∧ b * 256 ^ r ≤ 4294967295 ∧ l + b * 256 ^ r ≤ 4294967295 := by
  obtain rfl | rfl | rfl | rfl : r = 0 ∨ r = 1 ∨ r = 2 ∨ r = 3 := by omega
  all_goals simp only [Nat.zero_add, Nat.reduceAdd, Int.reducePow] at h ⊢
  all_goals omega
theorem from_step {L : List Int} {M b : Int} {q r : Nat} (hq : q < L.length) (h : valZ L = M * 256 ^ (4 * q + r + 1)) : valZ (L.set q (L[q]?.getD 0 + b * 256 ^ r)) = (M * 256 + b) * 256 ^ (4 * q + r) := by
  rw [valZ_set L q _ hq, h, show L[q]?.getD 0 + b * 256 ^ r - L[q]?.getD 0 = b * 256 ^ r by omega, Int.pow_succ, pow256, Int.add_mul, Int.mul_left_comm b, Int.mul_right_comm M 256, Int.mul_assoc M _ 256]

/-- The bytes of a number, the highest first, no 0 before them. -/
def byN (n : Nat) : List Int := if h : n = 0 then [] else byN (n / 256) ++ [((n % 256 : Nat) : Int)]
termination_by n
decreasing_by omega
def byZ (n : Int) : List Int := byN n.toNat
theorem byN_byte (n : Nat) : ∀ x ∈ byN n, 0 ≤ x ∧ x ≤ 255 := by
  induction n using Nat.strongRecOn with
  | ind n ih =>
    rw [byN]
    split
    · simp
    · intro x hx
      rcases List.mem_append.1 hx with hx | hx
      · exact ih _ (by omega) x hx
      · simp at hx; omega
theorem byN_nil (n : Nat) : byN n = [] ↔ n = 0 := by
  constructor
  · intro h
    rw [byN] at h
    split at h
    · assumption
    · simp at h
  · rintro rfl
    rw [byN]; rfl
theorem byZ_byte (n : Int) : ∀ x ∈ byZ n, 0 ≤ x ∧ x ≤ 255 := byN_byte _
theorem byZ_step {v c : Int} (hv : 0 ≤ v) (c0 : 0 ≤ c) (c1 : c ≤ 255) : byZ (v * 256 + c) = if 0 < (byZ v).length ∨ 0 < c then byZ v ++ [c] else byZ v := by
  have e : (v * 256 + c).toNat = v.toNat * 256 + c.toNat := by omega
  unfold byZ
  by_cases h : v.toNat * 256 + c.toNat = 0
  · have v0 : v.toNat = 0 := by omega
    have c00 : c = 0 := by omega
    rw [e, h, v0, (byN_nil 0).2 rfl, c00]
    rfl
  · have hb : byN (v.toNat * 256 + c.toNat) = byN v.toNat ++ [c] := by
      rw [byN, dif_neg h, show (v.toNat * 256 + c.toNat) / 256 = v.toNat by omega, show (((v.toNat * 256 + c.toNat) % 256 : Nat) : Int) = c by omega]
    rw [e, hb, if_pos]
    by_cases h2 : 0 < c
    · exact .inr h2
    · left
      apply List.length_pos_iff.2
      intro h3
      have := (byN_nil _).1 h3
      omega
/-- What is taken of a number from above, a byte at a time. -/
theorem to_step {D x : Int} {k : Nat} (hk : k < 4) : (D * 256 ^ (3 - k) + x / 256 ^ (k + 1)) * 256 + x / 256 ^ k % 256 = D * 256 ^ (4 - k) + x / 256 ^ k := by
  obtain rfl | rfl | rfl | rfl : k = 0 ∨ k = 1 ∨ k = 2 ∨ k = 3 := by omega
  all_goals simp only [Nat.zero_add, Nat.reduceAdd, Nat.reduceSub, Int.reducePow]
  all_goals omega

/-- How many bits a number has. -/
def bitN (n : Nat) : Int := if h : n = 0 then 0 else bitN (n / 2) + 1
termination_by n
decreasing_by omega
def bitZ (n : Int) : Int := bitN n.toNat
theorem bitZ_zero : bitZ 0 = 0 := by unfold bitZ; rw [bitN]; rfl
theorem bitZ_step {n : Int} (h : 0 < n) : bitZ n = bitZ (n / 2) + 1 := by
  unfold bitZ
  rw [bitN, dif_neg (by omega), show n.toNat / 2 = (n / 2).toNat by omega]
theorem bitZ_up : ∀ (k : Nat) {x y : Int}, 0 ≤ y → y < 2 ^ k → 0 < x → bitZ (y + 2 ^ k * x) = bitZ x + k
  | 0, x, y, h0, h1, hx => by
    simp at h1
    rw [show y = 0 by omega]
    simp
  | k + 1, x, y, h0, h1, hx => by
    have p : (0 : Int) < 2 ^ k := Int.pow_pos (by decide)
    rw [Int.pow_succ] at h1 ⊢
    have q : 0 < 2 ^ k * x := Int.mul_pos p hx
    have e : y + 2 ^ k * 2 * x = y + 2 * (2 ^ k * x) := by rw [Int.mul_comm (2 ^ k) 2, Int.mul_assoc]
    rw [e, bitZ_step (by omega), show (y + 2 * (2 ^ k * x)) / 2 = y / 2 + 2 ^ k * x by omega, bitZ_up k (by omega) (by omega) hx]
    omega
theorem pow32 (j : Nat) : (4294967296 : Int) ^ j = 2 ^ (32 * j) := by rw [Int.pow_mul]; rfl
/-- The bits of a row of limbs. -/
theorem bitZ_limbs {l : List Int} (hl : Limbs l) {k : Nat} (hk : l.length = k + 1) (h : l[k]?.getD 0 ≠ 0) : bitZ (valZ l) = 32 * (k : Int) + bitZ (l[k]?.getD 0) := by
  have e := valZ_parts l k
  rw [valZ_drop l k, show l.drop (k + 1) = [] from List.drop_of_length_le (by omega)] at e
  have t := take_lt hl k
  have hx : 0 < l[k]?.getD 0 := by
    rw [List.getElem?_eq_getElem (by omega)] at h ⊢
    have := hl _ (List.getElem_mem (show k < l.length by omega))
    simp only [Option.getD_some] at h ⊢
    omega
  rw [e, valZ, Int.mul_zero, Int.add_zero]
  rw [pow32] at t ⊢
  rw [bitZ_up _ t.1 t.2 hx]
  omega

end Go.Proofs.Ythpdeaappchnpaa
