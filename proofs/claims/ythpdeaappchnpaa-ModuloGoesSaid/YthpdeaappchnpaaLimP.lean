/-
  Numbers as rows of 32-bit limbs, the lowest first, plain (for stage 7, limb). Nothing of the program is named here.
-/
import Derived.Test.YthpdeaappchnpaaMath
namespace Go.Proofs.Ythpdeaappchnpaa
open Go.RowKit
set_option linter.unusedVariables false

/-- The number of a row of limbs. -/
def valZ : List Int → Int
  | [] => 0
  | x :: xs => x + 4294967296 * valZ xs
/-- Each is a limb. -/
def Limbs (l : List Int) : Prop := ∀ x ∈ l, 0 ≤ x ∧ x ≤ 4294967295
/-- The last one is not 0. -/
def Normal (l : List Int) : Prop := ∀ x, l.getLast? = some x → x ≠ 0

theorem Limbs.nil : Limbs [] := fun x h => by cases h
theorem Limbs.cons {x : Int} {xs : List Int} (hx : 0 ≤ x ∧ x ≤ 4294967295) (h : Limbs xs) : Limbs (x :: xs) := by
  intro y hy
  rcases List.mem_cons.1 hy with rfl | hy
  · exact hx
  · exact h y hy
theorem Limbs.append {xs ys : List Int} (h : Limbs xs) (k : Limbs ys) : Limbs (xs ++ ys) := by
  intro y hy
  rcases List.mem_append.1 hy with hy | hy
  · exact h y hy
  · exact k y hy
theorem Limbs.take {xs : List Int} (h : Limbs xs) (k : Nat) : Limbs (xs.take k) := fun y hy => h y (List.mem_of_mem_take hy)
theorem Limbs.drop {xs : List Int} (h : Limbs xs) (k : Nat) : Limbs (xs.drop k) := fun y hy => h y (List.mem_of_mem_drop hy)
theorem Limbs.at {xs : List Int} (h : Limbs xs) (k : Nat) : 0 ≤ xs[k]?.getD 0 ∧ xs[k]?.getD 0 ≤ 4294967295 := by
  rcases Nat.lt_or_ge k xs.length with hk | hk
  · rw [List.getElem?_eq_getElem hk]
    exact h _ (List.getElem_mem hk)
  · rw [List.getElem?_eq_none hk]
    simp
theorem Limbs.one {x : Int} (h0 : 0 ≤ x) (h1 : x ≤ 4294967295) : Limbs [x] := Limbs.nil.cons ⟨h0, h1⟩
theorem Limbs.zeros (n : Nat) : Limbs (List.replicate n 0) := fun y hy => by have := List.eq_of_mem_replicate hy; omega

theorem valZ_append (xs ys : List Int) : valZ (xs ++ ys) = valZ xs + 4294967296 ^ xs.length * valZ ys := by
  induction xs with
  | nil => simp [valZ]
  | cons x xs ih => rw [List.cons_append, valZ, valZ, ih, List.length_cons, Int.pow_succ, Int.mul_add, Int.mul_comm (4294967296 ^ xs.length) 4294967296, Int.mul_assoc, Int.add_assoc]
theorem valZ_one (x : Int) : valZ [x] = x := by simp [valZ]
theorem valZ_zeros (n : Nat) : valZ (List.replicate n 0) = 0 := by
  induction n with
  | zero => rfl
  | succ n ih => rw [List.replicate_succ, valZ, ih]; rfl
theorem valZ_nonneg {xs : List Int} (h : Limbs xs) : 0 ≤ valZ xs := by
  induction xs with
  | nil => exact Int.le_refl _
  | cons x xs ih =>
    have hx := h x (by simp)
    have := ih (fun y hy => h y (by simp [hy]))
    rw [valZ]
    omega
theorem pow_pos32 (n : Nat) : (0 : Int) < 4294967296 ^ n := Int.pow_pos (by decide)
theorem valZ_lt {xs : List Int} (h : Limbs xs) : valZ xs < 4294967296 ^ xs.length := by
  induction xs with
  | nil => decide
  | cons x xs ih =>
    have hx := h x (by simp)
    have := ih (fun y hy => h y (by simp [hy]))
    rw [valZ, List.length_cons, Int.pow_succ]
    omega
/-- The next limb of a beginning. -/
theorem take_snoc32 {zs : List Int} {k : Nat} (h : k < zs.length) : zs.take (k + 1) = zs.take k ++ [zs[k]?.getD 0] := by
  rw [List.take_succ_eq_append_getElem h]
  simp [List.getElem?_eq_getElem h]
theorem valZ_take (zs : List Int) (k : Nat) : valZ (zs.take (k + 1)) = valZ (zs.take k) + 4294967296 ^ k * zs[k]?.getD 0 := by
  rcases Nat.lt_or_ge k zs.length with h | h
  · rw [take_snoc32 h, valZ_append, valZ_one, List.length_take, Nat.min_eq_left (by omega)]
  · rw [List.take_of_length_le (by omega), List.take_of_length_le h, List.getElem?_eq_none h]
    simp
theorem valZ_all {zs : List Int} {k : Nat} (h : zs.length ≤ k) : valZ (zs.take k) = valZ zs := by rw [List.take_of_length_le h]
theorem valZ_split (zs : List Int) (k : Nat) (h : k ≤ zs.length) : valZ zs = valZ (zs.take k) + 4294967296 ^ k * valZ (zs.drop k) := by
  conv => lhs; rw [← List.take_append_drop k zs]
  rw [valZ_append, List.length_take, Nat.min_eq_left h]

/-- Two rows of limbs whose last is not 0 have the same number just if they are the same. -/
theorem normal_tail {x : Int} {xs : List Int} (h : Normal (x :: xs)) : Normal xs := by
  intro y hy
  refine h y ?_
  cases xs with
  | nil => cases hy
  | cons z zs => rw [List.getLast?_cons_cons]; exact hy
theorem val_pos {xs : List Int} (h : Limbs xs) (hn : Normal xs) (hne : xs ≠ []) : 0 < valZ xs := by
  induction xs with
  | nil => exact absurd rfl hne
  | cons x xs ih =>
    have hx := h x (by simp)
    rw [valZ]
    cases xs with
    | nil =>
      have := hn x rfl
      simp [valZ]
      omega
    | cons z zs =>
      have := ih (fun y hy => h y (by simp [hy])) (normal_tail hn) (by simp)
      omega
theorem normal_unique : ∀ {a b : List Int}, Limbs a → Limbs b → Normal a → Normal b → valZ a = valZ b → a = b
  | [], [], _, _, _, _, _ => rfl
  | [], y :: ys, _, hb, _, nb, e => by
    have := val_pos hb nb (by simp)
    rw [← e] at this
    exact absurd this (by simp [valZ])
  | x :: xs, [], ha, _, na, _, e => by
    have := val_pos ha na (by simp)
    rw [e] at this
    exact absurd this (by simp [valZ])
  | x :: xs, y :: ys, ha, hb, na, nb, e => by
    have hx := ha x (by simp)
    have hy := hb y (by simp)
    rw [valZ, valZ] at e
    obtain rfl : x = y := by omega
    have e' : valZ xs = valZ ys := by omega
    rw [normal_unique (fun z hz => ha z (by simp [hz])) (fun z hz => hb z (by simp [hz])) (normal_tail na) (normal_tail nb) e']

/-- The limbs of a number, the last not 0. -/
def limN (n : Nat) : List Int := if h : n = 0 then [] else ((n % 4294967296 : Nat) : Int) :: limN (n / 4294967296)
termination_by n
decreasing_by omega
def limZ (n : Int) : List Int := limN n.toNat
theorem limN_limbs (n : Nat) : Limbs (limN n) := by
  induction n using Nat.strongRecOn with
  | ind n ih =>
    rw [limN]
    split
    · exact Limbs.nil
    · exact (ih _ (by omega)).cons (by omega)
theorem limN_val (n : Nat) : valZ (limN n) = (n : Int) := by
  induction n using Nat.strongRecOn with
  | ind n ih =>
    rw [limN]
    split
    · rename_i h
      rw [h]
      rfl
    · rw [valZ, ih _ (by omega)]
      omega
theorem limN_normal (n : Nat) : Normal (limN n) := by
  induction n using Nat.strongRecOn with
  | ind n ih =>
    intro x hx
    rw [limN] at hx
    split at hx
    · cases hx
    · rename_i h
      by_cases h2 : n / 4294967296 = 0
      · rw [h2, limN, dif_pos rfl] at hx
        simp at hx
        omega
      · have hne : limN (n / 4294967296) ≠ [] := by
          rw [limN, dif_neg h2]
          simp
        obtain ⟨y, ys, hys⟩ := List.exists_cons_of_ne_nil hne
        rw [hys, List.getLast?_cons_cons, ← hys] at hx
        exact ih _ (by omega) x hx
theorem limZ_limbs (n : Int) : Limbs (limZ n) := limN_limbs _
theorem limZ_normal (n : Int) : Normal (limZ n) := limN_normal _
theorem limZ_val {n : Int} (h : 0 ≤ n) : valZ (limZ n) = n := by
  unfold limZ
  rw [limN_val]
  omega
/-- A row of limbs whose last is not 0 is that of its number. -/
theorem limZ_of {l : List Int} (h : Limbs l) (hn : Normal l) : l = limZ (valZ l) := normal_unique h (limZ_limbs _) hn (limZ_normal _) (limZ_val (valZ_nonneg h)).symm
theorem normal_of {l : List Int} (h : l = [] ∨ l[l.length - 1]?.getD 0 ≠ 0) : Normal l := by
  intro x hx
  rcases h with rfl | h
  · cases hx
  · rw [List.getLast?_eq_getElem?] at hx
    rw [hx] at h
    exact h
/-- What is left when the noughts at the end are struck. -/
theorem bare_is {l : List Int} (hl : Limbs l) {k : Nat} (hk : k ≤ l.length) (hz : ∀ i, k ≤ i → l[i]?.getD 0 = 0) (hne : k = 0 ∨ l[k - 1]?.getD 0 ≠ 0) : l.take k = limZ (valZ l) := by
  have hd : l.drop k = List.replicate (l.length - k) 0 := by
    apply List.ext_getElem?
    intro i
    rw [List.getElem?_drop, List.getElem?_replicate]
    have := hz (k + i) (by omega)
    split
    · rename_i h
      rw [List.getElem?_eq_getElem (by omega)] at this ⊢
      simpa using this
    · rw [List.getElem?_eq_none (by omega)]
  have hv : valZ l = valZ (l.take k) := by rw [valZ_split l k hk, hd, valZ_zeros]; simp
  rw [hv]
  refine limZ_of (hl.take k) (normal_of ?_)
  rcases hne with h | h
  · left
    rw [h]
    rfl
  · by_cases h0 : k = 0
    · left
      rw [h0]
      rfl
    · right
      rw [List.length_take, Nat.min_eq_left hk, List.getElem?_take, if_pos (by omega)]
      exact h

end Go.Proofs.Ythpdeaappchnpaa
