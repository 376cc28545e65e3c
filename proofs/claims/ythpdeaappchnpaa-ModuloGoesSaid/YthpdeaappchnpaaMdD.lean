/-
  Plain facts of a division bit by bit and of a power bit by bit, for stage 8 (modulo). Nothing of the program is named here.
-/
import Derived.Test.YthpdeaappchnpaaMdC
import Derived.Test.YthpdeaappchnpaaLnB
import Derived.Test.YthpdeaappchnpaaLnJ
namespace Go.Proofs.Ythpdeaappchnpaa
open Go.RowKit
set_option linter.unusedVariables false

theorem limb_at {l : List Int} (hl : Limbs l) (j : Nat) : ∃ u, valZ l / 4294967296 ^ j = l[j]?.getD 0 + 4294967296 * u := by
  have e := valZ_parts l j
  have t := take_lt hl j
  have p := pow_pos32 j
  rw [valZ_drop l j] at e
  refine ⟨valZ (l.drop (j + 1)), ?_⟩
  have := ediv_is p (a := valZ l) (q := l[j]?.getD 0 + 4294967296 * valZ (l.drop (j + 1))) (r := valZ (l.take j)) (by rw [e, Int.mul_comm (4294967296 ^ j), Int.add_comm]) t.1 t.2
  exact this.1
theorem ediv2 {x y z : Int} (h : 0 ≤ y) : x / y / z = x / (y * z) := by rw [Int.ediv_ediv, if_neg (fun k => by omega), Int.sub_zero]
theorem two_pow_pos (n : Nat) : (0 : Int) < 2 ^ n := Int.pow_pos (by decide)
theorem up32 {b : Nat} (hb : b < 32) : (4294967296 : Int) = 2 ^ b * (2 * 2 ^ (31 - b)) := by
  rw [← Int.mul_assoc, ← Int.pow_succ, ← Int.pow_add, show b + 1 + (31 - b) = 32 by omega]
  rfl
/-- A bit of a number is one of its limb's. -/
theorem bit_at {l : List Int} (hl : Limbs l) (j b : Nat) (hb : b < 32) : l[j]?.getD 0 / 2 ^ b % 2 = valZ l / 2 ^ (32 * j + b) % 2 := by
  obtain ⟨u, hu⟩ := limb_at hl j
  have p := two_pow_pos b
  rw [Int.pow_add, ← pow32, ← ediv2 (Int.le_of_lt (pow_pos32 j)), hu, up32 hb, Int.mul_assoc, Int.add_mul_ediv_left _ _ (by omega), Int.mul_assoc]
  omega
theorem or_one {x c : Int} (x0 : 0 ≤ x) (x1 : x < 4294967296) (hx : x % 2 = 0) (hc : c = 0 ∨ c = 1) : bits .or .u32 x c = x + c := by
  obtain ⟨X, rfl⟩ : ∃ X : Nat, x = (X : Int) := ⟨x.toNat, by omega⟩
  obtain ⟨C, rfl⟩ : ∃ C : Nat, c = (C : Int) := ⟨c.toNat, by omega⟩
  rw [nor X C (by omega) (by omega)]
  obtain ⟨Y, rfl⟩ : ∃ Y, X = 2 ^ 1 * Y := ⟨X / 2, by omega⟩
  rw [← Nat.two_pow_add_eq_or_of_lt (show C < 2 ^ 1 by omega)]
  push_cast
  rfl
theorem or_bit {x : Int} {b : Nat} (x0 : 0 ≤ x) (x1 : x < 4294967296) (hb : b < 32) (hx : x % (2 * 2 ^ b) = 0) : bits .or .u32 x (2 ^ b) = x + 2 ^ b ∧ x + 2 ^ b ≤ 4294967295 := by
  have p := two_pow_pos b
  have d := Int.mul_ediv_add_emod x (2 * 2 ^ b)
  rw [hx, Int.add_zero] at d
  have hu := up32 hb
  have q0 : 0 ≤ x / (2 * 2 ^ b) := Int.ediv_nonneg x0 (by omega)
  have key : x + 2 ^ b ≤ 4294967295 := by
    have h2 : x / (2 * 2 ^ b) < 2 ^ (31 - b) := by
      refine Int.ediv_lt_of_lt_mul (by omega) ?_
      have : (2 : Int) ^ (31 - b) * (2 * 2 ^ b) = 4294967296 := by rw [hu, Int.mul_comm, Int.mul_comm 2 (2 ^ b), Int.mul_assoc]
      omega
    have h3 := Int.mul_le_mul_of_nonneg_left (show x / (2 * 2 ^ b) + 1 ≤ 2 ^ (31 - b) by omega) (show 0 ≤ (2 : Int) * 2 ^ b by omega)
    rw [Int.mul_add, Int.mul_one, d] at h3
    have : (2 : Int) * 2 ^ b * 2 ^ (31 - b) = 4294967296 := by rw [hu, Int.mul_comm 2 (2 ^ b), Int.mul_assoc]
    omega
  refine ⟨?_, key⟩
  generalize x / (2 * 2 ^ b) = q at *
  obtain ⟨Q, rfl⟩ : ∃ Q : Nat, q = (Q : Int) := ⟨q.toNat, by omega⟩
  have e : x = ((2 ^ (b + 1) * Q : Nat) : Int) := by rw [← d]; push_cast; rw [Int.pow_succ, Int.mul_comm 2]
  have e2 : (2 : Int) ^ b = ((2 ^ b : Nat) : Int) := by push_cast; rfl
  rw [e, e2] at key ⊢
  rw [nor _ _ (by omega) (by omega), ← Nat.two_pow_add_eq_or_of_lt (show 2 ^ b < 2 ^ (b + 1) by rw [Nat.pow_succ]; have := Nat.pow_pos (n := b) (show 0 < 2 by decide); omega)]
  push_cast
  rfl

/-- A limb more of a number doubled. -/
theorem dbl_step {L0 L : List Int} {i : Nat} {c o : Int} (hi : i < L.length) (hs : L[i]?.getD 0 = L0[i]?.getD 0) (h : valZ L = valZ L0 + valZ (L0.take i) + c - 4294967296 ^ i * o) :
    valZ (L.set i (L0[i]?.getD 0 * 2 % 4294967296 + o)) = valZ L0 + valZ (L0.take (i + 1)) + c - 4294967296 ^ (i + 1) * (L0[i]?.getD 0 * 2 / 4294967296) := by
  rw [valZ_set _ _ _ hi, hs, h, valZ_take, Int.pow_succ, Int.mul_assoc]
  generalize (4294967296 : Int) ^ i = B at *
  generalize L0[i]?.getD 0 = x at *
  have : B * (x * 2 % 4294967296 + o - x) = B * x + B * o - B * (4294967296 * (x * 2 / 4294967296)) := by rw [← Int.mul_add, ← Int.mul_sub]; congr 1; omega
  omega
/-- A limb more of a difference in place. -/
theorem low_step {L0 L ns : List Int} {i : Nat} {o o' : Int} (hi : i < L.length) (hs : L[i]?.getD 0 = L0[i]?.getD 0) (h : valZ L = valZ L0 - valZ (ns.take i) + 4294967296 ^ i * o) :
    valZ (L.set i (L0[i]?.getD 0 - (ns[i]?.getD 0 + o) + 4294967296 * o')) = valZ L0 - valZ (ns.take (i + 1)) + 4294967296 ^ (i + 1) * o' := by
  rw [valZ_set _ _ _ hi, hs, h, valZ_take, Int.pow_succ, Int.mul_assoc]
  generalize (4294967296 : Int) ^ i = B at *
  generalize L0[i]?.getD 0 = x at *
  generalize ns[i]?.getD 0 = y at *
  have : B * (x - (y + o) + 4294967296 * o' - x) = B * (4294967296 * o') - B * y - B * o := by rw [← Int.mul_sub, ← Int.mul_sub]; congr 1; omega
  omega

/-- The division bit by bit, k bits still to come: what is left, and the quotient. -/
def BitDiv (A M : Int) (k : Nat) (r q : Int) : Prop := r = A / 2 ^ k % M ∧ q = A / 2 ^ k / M * 2 ^ k
theorem bitdiv_start {A M : Int} {k : Nat} (h0 : 0 ≤ A) (h : A < 2 ^ k) (hM : 0 < M) : BitDiv A M k 0 0 := by
  have : A / 2 ^ k = 0 := Int.ediv_eq_zero_of_lt h0 h
  unfold BitDiv
  rw [this]
  simp
theorem bit_next (A : Int) (k : Nat) : A / 2 ^ k = 2 * (A / 2 ^ (k + 1)) + A / 2 ^ k % 2 := by
  rw [Int.pow_succ, ← ediv2 (Int.le_of_lt (two_pow_pos k))]
  omega
theorem bitdiv_low {A M : Int} {k : Nat} {r q : Int} (hM : 0 < M) (h : BitDiv A M (k + 1) r q) (hlt : 2 * r + A / 2 ^ k % 2 < M) : BitDiv A M k (2 * r + A / 2 ^ k % 2) q := by
  obtain ⟨hr, hq⟩ := h
  have e := bit_next A k
  have b0 : 0 ≤ A / 2 ^ k % 2 := Int.emod_nonneg _ (by decide)
  have d := Int.mul_ediv_add_emod (A / 2 ^ (k + 1)) M
  have r0 : 0 ≤ A / 2 ^ (k + 1) % M := Int.emod_nonneg _ (by omega)
  rw [← hr] at d r0
  have f := ediv_is hM (a := A / 2 ^ k) (q := 2 * (A / 2 ^ (k + 1) / M)) (r := 2 * r + A / 2 ^ k % 2) (by
    rw [Int.mul_assoc, Int.mul_comm _ M]
    omega) (by omega) hlt
  refine ⟨f.2.symm, ?_⟩
  rw [f.1, hq, Int.pow_succ, Int.mul_comm 2, Int.mul_assoc, Int.mul_comm 2]
theorem bitdiv_high {A M : Int} {k : Nat} {r q : Int} (hM : 0 < M) (h : BitDiv A M (k + 1) r q) (hge : ¬ 2 * r + A / 2 ^ k % 2 < M) : BitDiv A M k (2 * r + A / 2 ^ k % 2 - M) (q + 2 ^ k) := by
  obtain ⟨hr, hq⟩ := h
  have e := bit_next A k
  have b0 : 0 ≤ A / 2 ^ k % 2 := Int.emod_nonneg _ (by decide)
  have b1 : A / 2 ^ k % 2 < 2 := Int.emod_lt_of_pos _ (by decide)
  have d := Int.mul_ediv_add_emod (A / 2 ^ (k + 1)) M
  have r0 : 0 ≤ A / 2 ^ (k + 1) % M := Int.emod_nonneg _ (by omega)
  have r1 : A / 2 ^ (k + 1) % M < M := Int.emod_lt_of_pos _ hM
  rw [← hr] at d r0 r1
  have f := ediv_is hM (a := A / 2 ^ k) (q := 2 * (A / 2 ^ (k + 1) / M) + 1) (r := 2 * r + A / 2 ^ k % 2 - M) (by
    rw [Int.add_mul, Int.mul_assoc, Int.mul_comm _ M]
    omega) (by omega) (by omega)
  refine ⟨f.2.symm, ?_⟩
  rw [f.1, hq, Int.pow_succ, Int.add_mul, Int.one_mul, Int.mul_comm 2, Int.mul_assoc, Int.mul_comm 2]
/-- The quotient's bit is not there yet. -/
theorem bit_free {l : List Int} (hl : Limbs l) {j b : Nat} (hb : b < 32) {u : Int} (h : valZ l = u * 2 ^ (32 * j + b + 1)) : l[j]?.getD 0 % (2 * 2 ^ b) = 0 := by
  obtain ⟨v, hv⟩ := limb_at hl j
  have p := two_pow_pos b
  have e : valZ l / 4294967296 ^ j = u * (2 * 2 ^ b) := by
    rw [h, pow32, Nat.add_assoc, Int.pow_add, Int.pow_succ, Int.mul_comm (2 ^ b) 2, Int.mul_left_comm]
    exact Int.mul_ediv_cancel_left _ (by have := two_pow_pos (32 * j); omega)
  have e2 : l[j]?.getD 0 = 2 * 2 ^ b * (u - 2 ^ (31 - b) * v) := by
    have e3 : 2 * 2 ^ b * (2 ^ (31 - b) * v) = 4294967296 * v := by rw [up32 hb, Int.mul_comm 2 (2 ^ b), Int.mul_assoc, Int.mul_assoc, Int.mul_assoc]
    rw [Int.mul_sub, e3, Int.mul_comm _ u, ← e, hv]
    omega
  rw [e2]
  exact Int.mul_emod_right _ _

theorem pow_mod_step {A M p n : Int} {e : Nat} (hp : p = A ^ e % M) : p * p % M = A ^ (2 * e) % M := by
  rw [hp, ← Int.mul_emod, Nat.two_mul, Int.pow_add]
theorem pow_mod_one {A M p b : Int} {e : Nat} (hp : p = A ^ e % M) (hb : b = A % M) : p * b % M = A ^ (e + 1) % M := by
  rw [hp, hb, ← Int.mul_emod, Int.pow_succ]
/-- A number's first bits, as a count. -/
def upTo (E : Int) (k : Nat) : Nat := (E / 2 ^ k).toNat
theorem upTo_next {E : Int} (h : 0 ≤ E) (k : Nat) : upTo E k = 2 * upTo E (k + 1) + (E / 2 ^ k % 2).toNat := by
  unfold upTo
  have e := bit_next E k
  have n : 0 ≤ E / 2 ^ (k + 1) := Int.ediv_nonneg h (Int.le_of_lt (two_pow_pos _))
  omega
theorem upTo_start {E : Int} (h : 0 ≤ E) : upTo E (bitZ E).toNat = 0 := by
  have := bitN_lt E.toNat
  unfold upTo
  rw [Int.ediv_eq_zero_of_lt h]
  · rfl
  · have e : ((2 ^ (bitN E.toNat).toNat : Nat) : Int) = (2 : Int) ^ (bitZ E).toNat := by push_cast; rfl
    omega
theorem upTo_end (E : Int) : upTo E 0 = E.toNat := by unfold upTo; simp

end Go.Proofs.Ythpdeaappchnpaa
