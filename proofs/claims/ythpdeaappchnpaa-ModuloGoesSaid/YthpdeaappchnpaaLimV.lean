/-
  Plain facts of products of limbs; a row of 32-bit numbers that is made and written to, for stage 7 (limb).
-/
import Derived.Test.YthpdeaappchnpaaLimU
namespace Go.Proofs.Ythpdeaappchnpaa
open Go.RowKit
set_option linter.unusedVariables false

theorem valZ_set : ∀ (zs : List Int) (k : Nat) (v : Int), k < zs.length → valZ (zs.set k v) = valZ zs + 4294967296 ^ k * (v - zs[k]?.getD 0)
  | [], k, v, h => by simp at h
  | x :: xs, 0, v, h => by simp [valZ]; omega
  | x :: xs, k + 1, v, h => by
    have ih := valZ_set xs k v (by simpa using h)
    simp only [List.set_cons_succ, valZ, ih, List.getElem?_cons_succ, Int.pow_succ]
    generalize v - xs[k]?.getD 0 = d
    rw [Int.mul_add, Int.mul_comm (4294967296 ^ k) 4294967296, Int.mul_assoc, Int.add_assoc]
theorem limbs_set {zs : List Int} (h : Limbs zs) (k : Nat) {v : Int} (h0 : 0 ≤ v) (h1 : v ≤ 4294967295) : Limbs (zs.set k v) := by
  intro y hy
  rcases List.mem_or_eq_of_mem_set hy with hy | rfl
  · exact h y hy
  · exact ⟨h0, h1⟩
theorem limbs_zeros (n : Nat) : Limbs (List.replicate n 0) := by
  intro y hy
  have := List.eq_of_mem_replicate hy
  omega

theorem mul_mem {P Q c z x y t v w : Int} (h : t = c + z + x * y) (hv : v + Q * P * c = w) : v + Q * P * (t % 4294967296 - z) + Q * (P * 4294967296) * (t / 4294967296) = w + Q * P * (x * y) := by
  have e : 4294967296 * (t / 4294967296) + t % 4294967296 = t := by omega
  have e2 : t % 4294967296 - z + 4294967296 * (t / 4294967296) = c + x * y := by omega
  rw [← hv, ← Int.mul_assoc Q P 4294967296, Int.mul_assoc (Q * P) 4294967296, Int.add_assoc, ← Int.mul_add, e2, Int.mul_add]
  omega
/-- A limb more of a row of a product. -/
theorem mul_step {zs ys : List Int} {i k : Nat} {c x V : Int} (hk : i + k < zs.length) (h : valZ zs + 4294967296 ^ (i + k) * c = V + x * 4294967296 ^ i * valZ (ys.take k)) :
    valZ (zs.set (i + k) ((c + zs[i + k]?.getD 0 + x * ys[k]?.getD 0) % 4294967296)) + 4294967296 ^ (i + (k + 1)) * ((c + zs[i + k]?.getD 0 + x * ys[k]?.getD 0) / 4294967296) = V + x * 4294967296 ^ i * valZ (ys.take (k + 1)) := by
  rw [valZ_set zs _ _ hk, valZ_take]
  rw [Int.pow_add] at h ⊢
  rw [Int.pow_add, Int.pow_succ]
  rw [mul_mem rfl h, Int.mul_add]
  generalize valZ (ys.take k) = T
  generalize ys[k]?.getD 0 = y
  generalize (4294967296 : Int) ^ i = Q
  generalize (4294967296 : Int) ^ k = P
  have : Q * P * (x * y) = x * Q * (P * y) := by
    rw [Int.mul_comm x Q, Int.mul_assoc, Int.mul_assoc, Int.mul_left_comm P x y]
  omega
/-- A row is done. -/
theorem mul_row {zs xs ys : List Int} {i k : Nat} {c : Int} (hm : ys.length ≤ k) (h : valZ zs + 4294967296 ^ (i + k) * c = valZ (xs.take i) * valZ ys + xs[i]?.getD 0 * 4294967296 ^ i * valZ (ys.take k)) :
    valZ zs + 4294967296 ^ (i + k) * c = valZ (xs.take (i + 1)) * valZ ys := by
  rw [h, List.take_of_length_le hm, valZ_take, Int.add_mul, Int.mul_comm (4294967296 ^ i)]
/-- Behind a row nothing is left to carry. -/
theorem mul_carry {zs xs ys : List Int} {i k : Nat} {c : Int} (hz : Limbs zs) (hx : Limbs xs) (hy : Limbs ys) (c0 : 0 ≤ c) (hk : ys.length < k) (h : valZ zs + 4294967296 ^ (i + k) * c = valZ (xs.take (i + 1)) * valZ ys) : c = 0 := by
  have a0 := valZ_nonneg hz
  have a1 := take_lt hx (i + 1)
  have a2 := valZ_lt hy
  have a3 := valZ_nonneg hy
  have h1 : valZ (xs.take (i + 1)) * valZ ys < 4294967296 ^ (i + 1) * 4294967296 ^ ys.length := by
    have p := pow_pos32 (i + 1)
    have q := pow_pos32 ys.length
    have b1 : valZ (xs.take (i + 1)) * valZ ys ≤ 4294967296 ^ (i + 1) * valZ ys := Int.mul_le_mul_of_nonneg_right (by omega) a3
    have b2 : 4294967296 ^ (i + 1) * valZ ys < 4294967296 ^ (i + 1) * 4294967296 ^ ys.length := Int.mul_lt_mul_of_pos_left a2 p
    omega
  rw [← Int.pow_add] at h1
  have h2 : (4294967296 : Int) ^ (i + 1 + ys.length) ≤ 4294967296 ^ (i + k) := pow_mono32 (by omega)
  rcases Int.lt_or_le c 1 with h3 | h3
  · omega
  · have p := pow_pos32 (i + k)
    have : 4294967296 ^ (i + k) * 1 ≤ 4294967296 ^ (i + k) * c := Int.mul_le_mul_of_nonneg_left h3 (by omega)
    omega
theorem mul_range {c z x y : Int} (c0 : 0 ≤ c) (c1 : c ≤ 4294967295) (z0 : 0 ≤ z) (z1 : z ≤ 4294967295) (x0 : 0 ≤ x) (x1 : x ≤ 4294967295) (y0 : 0 ≤ y) (y1 : y ≤ 4294967295) :
    0 ≤ x * y ∧ x * y ≤ 18446744065119617025 ∧ 0 ≤ (c + z + x * y) / 4294967296 ∧ (c + z + x * y) / 4294967296 ≤ 4294967295 ∧ c + z + x * y ≤ 18446744073709551615 := by
  have p : 0 ≤ x * y := Int.mul_nonneg x0 y0
  have q : x * y ≤ 4294967295 * 4294967295 := Int.mul_le_mul x1 y1 y0 (by decide)
  generalize x * y = t at *
  omega

theorem Out32.size {W0 wr : World} {g cap n : Nat} {L : List Int} (h : Out32 W0 wr (.slice (some ⟨g, 0, none⟩) n cap) L) : n = L.length := by
  rcases h.1.2 with ⟨e, _⟩ | ⟨g, cap, cur, e, hb, _⟩
  · cases e
  · injection e
theorem Out32.cell {W0 wr : World} {g cap n : Nat} {L : List Int} (h : Out32 W0 wr (.slice (some ⟨g, 0, none⟩) n cap) L) (j : Nat) (hj : j < L.length) : wr.cell? ⟨g, j, none⟩ = some (.int .u32 (L[j]?.getD 0)) ∧ wr.frozen? ⟨g, j, none⟩ = false := by
  have hn := h.size
  subst hn
  refine ⟨?_, h.1.frozenAt j⟩
  rw [h.1.cellAt j (by omega), List.getElem?_map, List.getElem?_eq_getElem hj]
  rfl
theorem Out32.set {W0 wr : World} {g cap n : Nat} {L : List Int} (h : Out32 W0 wr (.slice (some ⟨g, 0, none⟩) n cap) L) (hg : W0.heap.size ≤ g) (j : Nat) (x : Int) : Out32 W0 (wr.setCell ⟨g, j, none⟩ (.int .u32 x)) (.slice (some ⟨g, 0, none⟩) n cap) (L.set j x) := by
  have hn := h.size
  subst hn
  refine ⟨?_, h.2.setCell hg _⟩
  have := (h.1.stored j (.int .u32 x)).1
  rw [List.length_set, List.map_set]
  exact this
theorem out_made32 {w w1 : World} {m : Nat} (h : w1.ownsRow w.heap.size 35 1 (.slice (some ⟨w.heap.size, 0, none⟩) m m) m (madeCells #[Value.int .u32 0] m).toList) (hg : w.grownBy w1 none) : Out32 w w1 (.slice (some ⟨w.heap.size, 0, none⟩) m m) (List.replicate m 0) := by
  refine ⟨?_, (Below.refl _ _).grown hg (Nat.le_refl _) (fun k h => by cases h)⟩
  rw [toList_madeCells_one] at h
  rw [List.length_replicate, List.map_replicate]
  exact h

end Go.Proofs.Ythpdeaappchnpaa
