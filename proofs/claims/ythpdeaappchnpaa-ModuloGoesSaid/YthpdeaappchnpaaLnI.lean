/-
  What the package's From answers, for stage 7 (limb).
-/
import Derived.Test.YthpdeaappchnpaaLnH
namespace Go.Proofs.Ythpdeaappchnpaa
open Go.RowKit
set_option linter.unusedVariables false

theorem beV_fold : ∀ (l : List Int) (v : Int), l.foldl (fun v x => v * 256 + x) v = v * 256 ^ l.length + beV l
  | [], v => by simp [beV]
  | x :: xs, v => by
    have e : beV (x :: xs) = xs.foldl (fun v x => v * 256 + x) (0 * 256 + x) := rfl
    rw [List.foldl_cons, beV_fold xs, e, beV_fold xs, List.length_cons, Int.pow_succ, Int.add_mul, Int.zero_mul, Int.zero_add, Int.mul_comm (256 ^ xs.length) 256, Int.mul_assoc, Int.add_assoc]
theorem beV_cons (x : Int) (xs : List Int) : beV (x :: xs) = x * 256 ^ xs.length + beV xs := by
  have e : beV (x :: xs) = xs.foldl (fun v x => v * 256 + x) (0 * 256 + x) := rfl
  rw [e, beV_fold xs, Int.zero_mul, Int.zero_add]
theorem beV_lt : ∀ {l : List Int}, (∀ x ∈ l, 0 ≤ x ∧ x ≤ 255) → beV l < 256 ^ l.length
  | [], _ => by decide
  | x :: xs, h => by
    have ih := beV_lt (l := xs) (fun y hy => h y (by simp [hy]))
    have hx := h x (by simp)
    have p : (0 : Int) < 256 ^ xs.length := Int.pow_pos (by decide)
    rw [beV_cons, List.length_cons, Int.pow_succ]
    generalize (256 : Int) ^ xs.length = P at *
    have := Int.mul_le_mul_of_nonneg_right (show x ≤ 255 by omega) (Int.le_of_lt p)
    omega
theorem beV_drop {zs : List Int} {i : Nat} (hi : i < zs.length) : beV (zs.drop (zs.length - 1 - i)) = zs[zs.length - 1 - i]?.getD 0 * 256 ^ i + beV (zs.drop (zs.length - i)) := by
  have h : zs.length - 1 - i < zs.length := by omega
  rw [List.drop_eq_getElem_cons h, beV_cons, List.length_drop, List.getElem?_eq_getElem h, show zs.length - 1 - i + 1 = zs.length - i by omega, show zs.length - (zs.length - i) = i by omega]
  rfl
theorem limb_low {L : List Int} (hL : Limbs L) {q r : Nat} (hq : q < L.length) (h : valZ L < 256 ^ (4 * q + r)) : L[q]?.getD 0 < 256 ^ r := by
  have e := valZ_parts L q
  rw [valZ_drop L q] at e
  have t := take_lt hL q
  have p := pow_pos32 q
  have d0 := valZ_nonneg (hL.drop (q + 1))
  rw [pow256] at h
  have h2 : 4294967296 ^ q * (L[q]?.getD 0 + 4294967296 * valZ (L.drop (q + 1))) < 4294967296 ^ q * 256 ^ r := by omega
  have := Int.lt_of_mul_lt_mul_left h2 (by omega)
  omega
theorem join_step {L zs : List Int} {q r i : Nat} (hi : i < zs.length) (hir : i = 4 * q + r) (hq : q < L.length) (h : valZ L = beV (zs.drop (zs.length - i))) :
    valZ (L.set q (L[q]?.getD 0 + zs[zs.length - 1 - i]?.getD 0 * 256 ^ r)) = beV (zs.drop (zs.length - (i + 1))) := by
  rw [valZ_set L q _ hq, h, show zs.length - (i + 1) = zs.length - 1 - i by omega, beV_drop hi, hir, pow256]
  generalize zs[zs.length - 1 - (4 * q + r)]?.getD 0 = z
  generalize (4294967296 : Int) ^ q = P
  generalize (256 : Int) ^ r = R
  generalize L[q]?.getD 0 = l
  rw [show l + z * R - l = z * R by omega, Int.mul_left_comm, Int.add_comm]
theorem or_low {l h : Int} (r : Nat) (l0 : 0 ≤ l) (h0 : 0 ≤ h) (l1 : l ≤ 4294967295) (h1 : h ≤ 4294967295) (hl : l < 2 ^ r) (hh : h % 2 ^ r = 0) : bits .or .u32 l h = l + h := by
  obtain ⟨x, rfl⟩ := Int.eq_ofNat_of_zero_le l0
  obtain ⟨y, rfl⟩ := Int.eq_ofNat_of_zero_le h0
  rw [nor x y (by omega) (by omega), Nat.or_comm, ← nor y x (by omega) (by omega), bits_join .u32 32 (by decide) wraps_u32 r _ _ h0 hh (by omega) l0 hl (by omega), Int.add_comm]

end Go.Proofs.Ythpdeaappchnpaa
