/-
  Plain facts of bits and bytes of numbers, more of them, for stage 7 (limb).
-/
import Derived.Test.YthpdeaappchnpaaLnI
import Derived.Lib.BitFns
namespace Go.Proofs.Ythpdeaappchnpaa
open Go.RowKit
set_option linter.unusedVariables false

theorem bitN_zero : bitN 0 = 0 := by rw [bitN]; rfl
theorem bitN_step {n : Nat} (h : n ≠ 0) : bitN n = bitN (n / 2) + 1 := by rw [bitN, dif_neg h]
theorem bitN_nonneg (n : Nat) : 0 ≤ bitN n := by
  induction n using Nat.strongRecOn with
  | ind n ih =>
    by_cases h : n = 0
    · rw [h, bitN_zero]; omega
    · rw [bitN_step h]
      have := ih (n / 2) (by omega)
      omega
theorem bitN_pos {n : Nat} (h : n ≠ 0) : 1 ≤ bitN n := by
  rw [bitN_step h]
  have := bitN_nonneg (n / 2)
  omega
theorem bitN_le : ∀ (k n : Nat), n < 2 ^ k → bitN n ≤ k
  | 0, n, h => by
    obtain rfl : n = 0 := by simpa using h
    rw [bitN_zero]; simp
  | k + 1, n, h => by
    by_cases h0 : n = 0
    · rw [h0, bitN_zero]; omega
    · rw [bitN_step h0]
      have := bitN_le k (n / 2) (by rw [Nat.pow_succ] at h; omega)
      omega
theorem bitN_ge : ∀ (k n : Nat), 2 ^ k ≤ n → (k : Int) + 1 ≤ bitN n
  | 0, n, h => by
    have := bitN_pos (n := n) (by simp at h; omega)
    simpa using this
  | k + 1, n, h => by
    rw [Nat.pow_succ] at h
    have p : 0 < 2 ^ k := Nat.pow_pos (by decide)
    rw [bitN_step (by omega)]
    have := bitN_ge k (n / 2) (by omega)
    omega
theorem bitN_lt (n : Nat) : n < 2 ^ (bitN n).toNat := by
  rcases Nat.lt_or_ge n (2 ^ (bitN n).toNat) with h | h
  · exact h
  · have := bitN_ge _ _ h
    have := bitN_nonneg n
    omega
theorem bitN_low {n : Nat} (h : n ≠ 0) : 2 ^ ((bitN n).toNat - 1) ≤ n := by
  rcases Nat.lt_or_ge n (2 ^ ((bitN n).toNat - 1)) with h1 | h1
  · have := bitN_le _ _ h1
    have := bitN_pos h
    omega
  · exact h1
theorem bitLen_is (n : Nat) : n < 2 ^ 64 → (Lib.bitLen n : Int) = bitN n := by
  induction n using Nat.strongRecOn with
  | ind n ih =>
    intro hn
    by_cases h : n = 0
    · subst h
      rw [bitN_zero]
      rfl
    · rw [Lib.bitLen_half n h hn, bitN_step h, ← ih (n / 2) (by omega) (by omega)]
      omega
/-- How many bits a product has. -/
theorem bitN_mul {x y : Nat} (hx : x ≠ 0) (hy : y ≠ 0) : bitN (x * y) = bitN x + bitN y ∨ bitN (x * y) = bitN x + bitN y - 1 := by
  have a1 := bitN_lt x
  have a2 := bitN_low hx
  have b1 := bitN_lt y
  have b2 := bitN_low hy
  have p1 := bitN_pos hx
  have p2 := bitN_pos hy
  obtain ⟨s, hs⟩ : ∃ s : Nat, bitN x = (s : Int) + 1 := ⟨(bitN x).toNat - 1, by omega⟩
  obtain ⟨t, ht⟩ : ∃ t : Nat, bitN y = (t : Int) + 1 := ⟨(bitN y).toNat - 1, by omega⟩
  rw [hs] at a1 a2 ⊢
  rw [ht] at b1 b2 ⊢
  rw [show ((s : Int) + 1).toNat = s + 1 by omega] at a1 a2
  rw [show ((t : Int) + 1).toNat = t + 1 by omega] at b1 b2
  rw [show s + 1 - 1 = s by omega] at a2
  rw [show t + 1 - 1 = t by omega] at b2
  have c1 : x * y < 2 ^ ((s + 1) + (t + 1)) := by
    rw [Nat.pow_add]
    exact Nat.mul_lt_mul'' a1 b1
  have c2 : 2 ^ (s + t) ≤ x * y := by
    rw [Nat.pow_add]
    exact Nat.mul_le_mul a2 b2
  have := bitN_le _ _ c1
  have := bitN_ge _ _ c2
  omega
/-- How many bits a sum has. -/
theorem bitN_add {x y : Nat} (hy : y ≠ 0) (h : bitN x ≤ bitN y) : bitN (x + y) = bitN y ∨ bitN (x + y) = bitN y + 1 := by
  have a1 := bitN_lt x
  have b1 := bitN_lt y
  have b2 := bitN_low hy
  have p2 := bitN_pos hy
  have p1 := bitN_nonneg x
  obtain ⟨t, ht⟩ : ∃ t : Nat, bitN y = (t : Int) + 1 := ⟨(bitN y).toNat - 1, by omega⟩
  have a3 : x < 2 ^ (t + 1) := Nat.lt_of_lt_of_le a1 (Nat.pow_le_pow_right (by decide) (by omega))
  rw [ht] at b1 b2 ⊢
  rw [show ((t : Int) + 1).toNat = t + 1 by omega] at b1 b2
  rw [show t + 1 - 1 = t by omega] at b2
  have := bitN_le (t + 2) (x + y) (by rw [Nat.pow_succ]; omega)
  have := bitN_ge t (x + y) (by omega)
  omega

theorem bitZ_mul {x y : Int} (hx : 0 < x) (hy : 0 < y) : bitZ (x * y) = bitZ x + bitZ y ∨ bitZ (x * y) = bitZ x + bitZ y - 1 := by
  obtain ⟨a, rfl⟩ := Int.eq_ofNat_of_zero_le (Int.le_of_lt hx)
  obtain ⟨b, rfl⟩ := Int.eq_ofNat_of_zero_le (Int.le_of_lt hy)
  have := bitN_mul (x := a) (y := b) (by omega) (by omega)
  exact this
theorem bitZ_add {x y : Int} (hx : 0 < x) (hy : 0 < y) : bitZ (x + y) = max (bitZ x) (bitZ y) ∨ bitZ (x + y) = max (bitZ x) (bitZ y) + 1 := by
  obtain ⟨a, rfl⟩ := Int.eq_ofNat_of_zero_le (Int.le_of_lt hx)
  obtain ⟨b, rfl⟩ := Int.eq_ofNat_of_zero_le (Int.le_of_lt hy)
  rcases Int.le_total (bitN a) (bitN b) with h | h
  · have := bitN_add (x := a) (y := b) (by omega) h
    show bitN (a + b) = max (bitN a) (bitN b) ∨ bitN (a + b) = max (bitN a) (bitN b) + 1
    rw [Int.max_eq_right h]
    exact this
  · have := bitN_add (x := b) (y := a) (by omega) h
    show bitN (a + b) = max (bitN a) (bitN b) ∨ bitN (a + b) = max (bitN a) (bitN b) + 1
    rw [Int.max_eq_left h, Nat.add_comm]
    exact this
theorem bitZ_nonneg (x : Int) : 0 ≤ bitZ x := bitN_nonneg _
theorem bitZ_eq_zero {x : Int} (hx : 0 ≤ x) : bitZ x = 0 ↔ x = 0 := by
  constructor
  · intro h
    by_cases h0 : x.toNat = 0
    · omega
    · have := bitN_pos h0
      unfold bitZ at h
      omega
  · rintro rfl
    exact bitZ_zero
theorem bitZ_len {x : Int} (h0 : 0 ≤ x) (h1 : x ≤ 4294967295) : ((Lib.bitLen x.toNat : Nat) : Int) = bitZ x := bitLen_is _ (by omega)
theorem bitZ_bound {l : List Int} (hl : Limbs l) : bitZ (valZ l) ≤ 32 * (l.length : Int) := by
  have h := valZ_lt hl
  have h0 := valZ_nonneg hl
  rw [pow32] at h
  have := bitN_le (32 * l.length) (valZ l).toNat (by
    have e : ((2 ^ (32 * l.length) : Nat) : Int) = (2 : Int) ^ (32 * l.length) := by exact_mod_cast rfl
    omega)
  unfold bitZ
  omega

/-- The limbs of a number, the highest of them. -/
theorem limZ_nil {n : Int} (h0 : 0 ≤ n) (h : (limZ n).length = 0) : n = 0 := by
  have := limZ_val h0
  rw [List.eq_nil_of_length_eq_zero h] at this
  exact this.symm
theorem limZ_last {n : Int} {k : Nat} (h : (limZ n).length = k + 1) : (limZ n)[k]?.getD 0 ≠ 0 := by
  refine limZ_normal n _ ?_
  rw [List.getLast?_eq_getElem?, h, show k + 1 - 1 = k by omega, List.getElem?_eq_getElem (by omega)]
  rfl
theorem bitZ_top {n : Int} {k : Nat} (h0 : 0 ≤ n) (h : (limZ n).length = k + 1) : bitZ n = 32 * (k : Int) + bitZ ((limZ n)[k]?.getD 0) := by
  have := bitZ_limbs (limZ_limbs n) h (limZ_last h)
  rwa [limZ_val h0] at this

/-- How many bytes a number has, and which. -/
theorem byN_step {n : Nat} (h : n ≠ 0) : byN n = byN (n / 256) ++ [((n % 256 : Nat) : Int)] := by rw [byN, dif_neg h]
theorem byN_zero : byN 0 = [] := by rw [byN]; rfl
theorem byN_len (n : Nat) : ((byN n).length : Int) = (bitN n + 7) / 8 := by
  induction n using Nat.strongRecOn with
  | ind n ih =>
    by_cases h : n = 0
    · subst h
      rw [byN_zero, bitN_zero]
      rfl
    · rw [byN_step h, List.length_append, List.length_singleton]
      have e := ih (n / 256) (by omega)
      by_cases h2 : n / 256 = 0
      · rw [h2, byN_zero]
        have := bitN_pos h
        have := bitN_le 8 n (by omega)
        simp
        omega
      · have hb : bitN n = bitN (n / 256) + 8 := by
          have := bitZ_up 8 (x := ((n / 256 : Nat) : Int)) (y := ((n % 256 : Nat) : Int)) (by omega) (by omega) (by omega)
          rw [show ((n % 256 : Nat) : Int) + 2 ^ 8 * ((n / 256 : Nat) : Int) = (n : Int) by omega] at this
          exact this
        rw [hb]
        omega
theorem byN_at (n : Nat) : ∀ i, i < (byN n).length → (byN n)[(byN n).length - 1 - i]?.getD 0 = ((n / 256 ^ i % 256 : Nat) : Int) := by
  induction n using Nat.strongRecOn with
  | ind n ih =>
    intro i hi
    by_cases h : n = 0
    · subst h
      rw [byN_zero] at hi
      simp at hi
    · rw [byN_step h] at hi ⊢
      rw [List.length_append, List.length_singleton] at hi ⊢
      cases i with
      | zero =>
        rw [List.getElem?_append_right (by omega), show (byN (n / 256)).length + 1 - 1 - 0 - (byN (n / 256)).length = 0 by omega]
        simp
      | succ i =>
        rw [show (byN (n / 256)).length + 1 - 1 - (i + 1) = (byN (n / 256)).length - 1 - i by omega, List.getElem?_append_left (by omega), ih (n / 256) (by omega) i (by omega), Nat.pow_succ, Nat.mul_comm (256 ^ i) 256, Nat.div_div_eq_div_mul]
theorem byZ_len (v : Int) : ((byZ v).length : Int) = (bitZ v + 7) / 8 := byN_len _
theorem byZ_at {v : Int} (hv : 0 ≤ v) {i : Nat} (hi : i < (byZ v).length) : (byZ v)[(byZ v).length - 1 - i]?.getD 0 = v / 256 ^ i % 256 := by
  obtain ⟨n, rfl⟩ := Int.eq_ofNat_of_zero_le hv
  have := byN_at n i hi
  show (byN n)[(byN n).length - 1 - i]?.getD 0 = _
  rw [this]
  simp
/-- A byte of a number, out of its limb. -/
theorem byte_limb {l : List Int} (hl : Limbs l) (q r : Nat) (hr : r < 4) : valZ l / 256 ^ (4 * q + r) % 256 = l[q]?.getD 0 / 256 ^ r % 256 := by
  have e := valZ_parts l q
  rw [valZ_drop l q] at e
  have t := take_lt hl q
  have p := pow_pos32 q
  rw [pow256, ← Int.ediv_ediv_of_nonneg (by omega)]
  have h1 : valZ l / 4294967296 ^ q = l[q]?.getD 0 + 4294967296 * valZ (l.drop (q + 1)) := by
    rw [e, Int.add_mul_ediv_left _ _ (by omega), Int.ediv_eq_zero_of_lt t.1 t.2, Int.zero_add]
  rw [h1]
  generalize valZ (l.drop (q + 1)) = R
  generalize l[q]?.getD 0 = x
  obtain rfl | rfl | rfl | rfl : r = 0 ∨ r = 1 ∨ r = 2 ∨ r = 3 := by omega
  all_goals simp only [Int.reducePow]
  all_goals omega
/-- The number of a number's bytes. -/
theorem beV_byN (n : Nat) : beV (byN n) = (n : Int) := by
  induction n using Nat.strongRecOn with
  | ind n ih =>
    by_cases h : n = 0
    · subst h
      rw [byN_zero]
      rfl
    · rw [byN_step h, beV_snoc, ih (n / 256) (by omega)]
      omega
theorem beV_byZ {v : Int} (hv : 0 ≤ v) : beV (byZ v) = v := by
  unfold byZ
  rw [beV_byN]
  omega
theorem byN_head {n : Nat} (h : n ≠ 0) : (byN n)[0]?.getD 0 ≠ 0 := by
  induction n using Nat.strongRecOn with
  | ind n ih =>
    rw [byN_step h]
    by_cases h2 : n / 256 = 0
    · rw [h2, byN_zero]
      simp
      omega
    · have hne : byN (n / 256) ≠ [] := fun e => h2 ((byN_nil _).1 e)
      have hl := List.length_pos_iff.2 hne
      rw [List.getElem?_append_left hl]
      exact ih (n / 256) (by omega) h2
theorem byZ_head {v : Int} (h : (byZ v).length ≠ 0) : (byZ v)[0]?.getD 0 ≠ 0 := by
  refine byN_head (fun e => h ?_)
  unfold byZ
  rw [e, byN_zero]
  rfl
/-- What stands before a number's own bytes is nothing but noughts. -/
theorem byZ_strip (zs : List Int) (hz : ∀ x ∈ zs, 0 ≤ x ∧ x ≤ 255) : ∃ d, zs = List.replicate d 0 ++ byZ (beV zs) := by
  have key : ∀ (m : Nat) (zs : List Int), zs.length = m → (∀ x ∈ zs, 0 ≤ x ∧ x ≤ 255) → ∃ d, zs = List.replicate d 0 ++ byZ (beV zs) := by
    intro m
    induction m with
    | zero =>
      intro zs hl _
      obtain rfl := List.eq_nil_of_length_eq_zero hl
      exact ⟨0, by simp [beV, byZ, byN_zero]⟩
    | succ m ih =>
      intro zs hl hz
      have hne : zs ≠ [] := by intro e; rw [e] at hl; simp at hl
      obtain ⟨ys, c, rfl⟩ : ∃ ys c, zs = ys ++ [c] := ⟨zs.dropLast, zs.getLast hne, (List.dropLast_concat_getLast hne).symm⟩
      have hys : ∀ x ∈ ys, 0 ≤ x ∧ x ≤ 255 := fun x hx => hz x (by simp [hx])
      have hc := hz c (by simp)
      obtain ⟨d, hd⟩ := ih ys (by simpa using hl) hys
      rw [beV_snoc, byZ_step (beV_nonneg hys) hc.1 hc.2]
      by_cases h : 0 < (byZ (beV ys)).length ∨ 0 < c
      · rw [if_pos h]
        refine ⟨d, ?_⟩
        rw [← List.append_assoc, ← hd]
      · rw [if_neg h]
        have h1 : byZ (beV ys) = [] := List.eq_nil_of_length_eq_zero (by omega)
        have h2 : c = 0 := by omega
        rw [h1, List.append_nil] at hd
        refine ⟨d + 1, ?_⟩
        rw [h1, h2, List.append_nil, hd, List.replicate_succ']
  exact key _ zs rfl hz

end Go.Proofs.Ythpdeaappchnpaa
