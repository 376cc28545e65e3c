/-
  Merged texts: RsN, RsQ, RsR, Fork, RsS, RsT.
-/
import Derived.KernelRfl
import Derived.Test.YtdhablbfblkagaaDoorGrH
import Derived.Test.YtdhablbfblkagaaDoorGrC
import Derived.Test.YtdhablbfblkagaaDoorGrA
import Derived.Test.YtdhablbfblkagaaDoorGrI
namespace Go.Proofs.YtdhablbfblkagaaDoor
set_option linter.unusedVariables false

/-- How many ways there are to choose k of n. -/
def binN : Nat → Nat → Nat
  | _, 0 => 1
  | 0, _ + 1 => 0
  | n + 1, k + 1 => binN n k + binN n (k + 1)
theorem bin_zero (n : Nat) : binN n 0 = 1 := by cases n <;> rfl
theorem bin_step (n k : Nat) : binN (n + 1) (k + 1) = binN n k + binN n (k + 1) := rfl
theorem bin_big : ∀ (n k : Nat), n < k → binN n k = 0
  | _, 0, h => by omega
  | 0, _ + 1, _ => rfl
  | n + 1, k + 1, h => by rw [bin_step, bin_big n k (by omega), bin_big n (k + 1) (by omega)]
theorem bin_full : ∀ n : Nat, binN n n = 1
  | 0 => rfl
  | n + 1 => by rw [bin_step, bin_full n, bin_big n (n + 1) (by omega)]
theorem bin_mul : ∀ (n k : Nat), (k + 1) * binN (n + 1) (k + 1) = (n + 1) * binN n k
  | 0, 0 => rfl
  | 0, k + 1 => by rw [bin_step, bin_big 0 (k + 1) (by omega), bin_big 0 (k + 1 + 1) (by omega)]; simp
  | n + 1, 0 => by
    have := bin_mul n 0
    rw [bin_step]
    simp only [Nat.zero_add, Nat.one_mul, bin_zero, Nat.mul_one] at this ⊢
    omega
  | n + 1, k + 1 => by
    have h1 := bin_mul n k
    have h2 := bin_mul n (k + 1)
    rw [bin_step (n + 1) (k + 1), Nat.mul_add, h2, Nat.succ_mul (k + 1), h1, bin_step n k, Nat.mul_add, Nat.add_mul, Nat.add_mul]
    rw [show k + 1 = Nat.succ k from rfl] at *
    simp only [Nat.add_mul, Nat.one_mul, Nat.succ_eq_add_one]
    omega
/-- The first m terms of (x + 1) ^ n. -/
def sumN (n x : Nat) : Nat → Nat
  | 0 => 0
  | m + 1 => sumN n x m + binN n m * x ^ m
theorem fsum_step (n x : Nat) : ∀ m : Nat, sumN (n + 1) x (m + 1) = x * sumN n x m + sumN n x (m + 1)
  | 0 => by simp [sumN, bin_zero]
  | m + 1 => by
    have h := fsum_step n x m
    rw [sumN, h, bin_step, show sumN n x (m + 1 + 1) = sumN n x (m + 1) + binN n (m + 1) * x ^ (m + 1) from rfl, show x * sumN n x (m + 1) = x * (sumN n x m + binN n m * x ^ m) from rfl, Nat.mul_add, Nat.add_mul]
    have : x * (binN n m * x ^ m) = binN n m * x ^ (m + 1) := by rw [Nat.mul_left_comm, Nat.pow_succ, Nat.mul_comm x]
    omega
theorem sum_pow (x : Nat) : ∀ n : Nat, (x + 1) ^ n = sumN n x (n + 1)
  | 0 => by simp [sumN, bin_zero]
  | n + 1 => by
    rw [Nat.pow_succ, sum_pow x n, fsum_step n x (n + 1), show sumN n x (n + 1 + 1) = sumN n x (n + 1) + binN n (n + 1) * x ^ (n + 1) from rfl, bin_big n (n + 1) (by omega), Nat.mul_add, Nat.mul_comm]
    omega

/-- No lesser number but 0 has a divisor with p. -/
def Pri (p : Nat) : Prop := 2 ≤ p ∧ ∀ k, 0 < k → k < p → Nat.gcd k p = 1
theorem pri_of {p B : Nat} (h2 : 2 ≤ p) (hB : p < B * B) (h : ∀ d, 2 ≤ d → d < B → d < p → p % d ≠ 0) : Pri p := by
  refine ⟨h2, fun k hk hkp => ?_⟩
  have g1 : Nat.gcd k p ∣ p := Nat.gcd_dvd_right k p
  have g2 : Nat.gcd k p ≤ k := Nat.gcd_le_left p hk
  have g0 : 0 < Nat.gcd k p := Nat.gcd_pos_of_pos_left p hk
  generalize Nat.gcd k p = g at *
  rcases Nat.lt_or_ge 1 g with hg | hg
  · obtain ⟨e, he⟩ := g1
    exfalso
    by_cases hgB : g < B
    · exact h g hg hgB (by omega) (by rw [he]; exact Nat.mul_mod_right g e)
    · have e0 : e ≠ 0 := by intro e0; rw [e0, Nat.mul_zero] at he; omega
      have e1 : e ≠ 1 := by intro e1; rw [e1, Nat.mul_one] at he; omega
      have eB : e < B := by
        rcases Nat.lt_or_ge e B with hx | hx
        · exact hx
        · have := Nat.mul_le_mul (show B ≤ g by omega) hx
          omega
      have ep : e < p := by
        have := Nat.mul_le_mul hg (Nat.le_refl e)
        rw [← he] at this
        omega
      exact h e (by omega) eB ep (by rw [he]; exact Nat.mul_mod_left g e)
  · omega
theorem bin_pri {p : Nat} (hp : Pri p) {k : Nat} (h0 : 0 < k) (h1 : k < p) : p ∣ binN p k := by
  obtain ⟨n, rfl⟩ : ∃ n, p = n + 1 := ⟨p - 1, by have := hp.1; omega⟩
  obtain ⟨j, rfl⟩ : ∃ j, k = j + 1 := ⟨k - 1, by omega⟩
  have h : (n + 1) ∣ (j + 1) * binN (n + 1) (j + 1) := ⟨_, bin_mul n j⟩
  have c : Nat.Coprime (n + 1) (j + 1) := by
    show Nat.gcd (n + 1) (j + 1) = 1
    rw [Nat.gcd_comm]
    exact hp.2 (j + 1) (by omega) h1
  exact c.dvd_of_dvd_mul_left h
theorem sum_pri {p : Nat} (hp : Pri p) (x : Nat) : ∀ m : Nat, m < p → sumN p x (m + 1) % p = 1
  | 0, h => by
    have := hp.1
    simp only [sumN, bin_zero, Nat.pow_zero]
    exact Nat.mod_eq_of_lt (by omega)
  | m + 1, h => by
    have ih := sum_pri hp x m (by omega)
    obtain ⟨q, hq⟩ := bin_pri hp (k := m + 1) (by omega) h
    rw [sumN, hq, Nat.mul_assoc, Nat.add_mul_mod_self_left]
    exact ih
theorem pow_next {p : Nat} (hp : Pri p) (x : Nat) : (x + 1) ^ p % p = (x ^ p + 1) % p := by
  have h2 := hp.1
  obtain ⟨n, hn⟩ : ∃ n, p = n + 1 := ⟨p - 1, by omega⟩
  have h := sum_pri hp x n (by omega)
  rw [← hn] at h
  rw [sum_pow x p, sumN, bin_full, Nat.one_mul, Nat.add_mod, h, Nat.add_comm (x ^ p) 1, Nat.add_mod 1 (x ^ p), Nat.mod_eq_of_lt (show 1 < p by omega)]
/-- Fermat's little theorem. -/
theorem pow_self {p : Nat} (hp : Pri p) : ∀ x : Nat, x ^ p % p = x % p
  | 0 => by
    have := hp.1
    rw [Nat.zero_pow (by omega)]
  | x + 1 => by
    rw [pow_next hp, Nat.add_mod, pow_self hp x, ← Nat.add_mod]
theorem pow_more {p : Nat} (hp : Pri p) (x : Nat) : ∀ j : Nat, x ^ (1 + (p - 1) * j) % p = x % p
  | 0 => by simp
  | j + 1 => by
    have h2 := hp.1
    have ih := pow_more hp x j
    rw [show 1 + (p - 1) * (j + 1) = (1 + (p - 1) * j) + (p - 1) by rw [Nat.mul_succ]; omega, Nat.pow_add, Nat.mul_mod, ih, ← Nat.mul_mod]
    have e : x * x ^ (p - 1) = x ^ p := by
      rw [Nat.mul_comm, ← Nat.pow_succ]
      congr 1
      omega
    rw [e]
    exact pow_self hp x

/-- Such that one less than each goes into 720720. -/
def PRIMES : List Nat := [3, 5, 7, 11, 13, 17, 19, 23, 29, 31, 37, 41, 43, 53, 61, 67, 71, 73, 79, 89, 113, 127, 131, 157, 181, 199, 211, 241, 281, 313, 331, 337, 397, 421, 463, 521, 547, 617, 631, 661, 859, 881, 911, 937, 991, 1009, 1093, 1171, 1321, 1873, 2003, 2311, 2341, 2521, 2731, 2861, 3121, 3433, 3697, 4621, 6007, 6553, 8009, 8191, 9241, 16381, 18481, 20021, 20593]
/-- The product of those of the first k whose place is not i modulo 8. -/
def keyN (i : Nat) : Nat → Nat
  | 0 => 1
  | k + 1 => if k % 8 = i % 8 then keyN i k else keyN i k * PRIMES[k]?.getD 0
theorem all_pri : (PRIMES.all fun p => decide (2 ≤ p) && decide (p < 144 * 144) && 720720 % (p - 1) == 0 && (List.range 144).all fun d => decide (d < 2) || decide (p ≤ d) || p % d != 0) = true := by kernel_rfl
theorem all_apart : ((List.range 8).all fun i => (List.range 69).all fun k => Nat.gcd (keyN i k) (PRIMES[k]?.getD 0) == 1) = true := by kernel_rfl
theorem all_sizes : ((List.range 8).all fun i => decide (256 ^ 61 ≤ keyN i 69) && decide (keyN i 69 < 256 ^ 100) && keyN i 69 % 2 == 1) = true := by kernel_rfl
theorem pri_at {p : Nat} (h : p ∈ PRIMES) : Pri p ∧ 720720 % (p - 1) = 0 := by
  have := List.all_eq_true.1 all_pri p h
  simp only [Bool.and_eq_true, decide_eq_true_eq, beq_iff_eq, List.all_eq_true, List.mem_range, Bool.or_eq_true, bne_iff_ne] at this
  obtain ⟨⟨⟨h2, hB⟩, h3⟩, h4⟩ := this
  exact ⟨pri_of h2 hB (fun d d2 dB dp => by
    rcases h4 d dB with (h5 | h5) | h5
    · omega
    · omega
    · exact h5), h3⟩
/-- A power whose exponent is 1 modulo 720720 is the number itself, modulo such a prime. -/
theorem pow_pri {p : Nat} (h : p ∈ PRIMES) (x : Nat) {m : Nat} (hm : m % 720720 = 1) : x ^ m % p = x % p := by
  obtain ⟨hp, hd⟩ := pri_at h
  obtain ⟨c, hc⟩ := Nat.dvd_of_mod_eq_zero hd
  have e : m = 1 + (p - 1) * (c * (m / 720720)) := by
    rw [← Nat.mul_assoc, ← hc]
    omega
  rw [e]
  exact pow_more hp x _
theorem key_dvd {i D : Nat} (hi : i < 8) (hD : ∀ p ∈ PRIMES, p ∣ D) : ∀ k, k ≤ 69 → keyN i k ∣ D
  | 0, _ => by rw [keyN]; exact Nat.one_dvd D
  | k + 1, hk => by
    have ih := key_dvd hi hD k (by omega)
    rw [keyN]
    split
    · exact ih
    · have hp : PRIMES[k]?.getD 0 ∈ PRIMES := by
        have hl : k < PRIMES.length := by show k < 69; omega
        rw [List.getElem?_eq_getElem hl]
        exact List.getElem_mem hl
      have hc : Nat.Coprime (keyN i k) (PRIMES[k]?.getD 0) := by
        have h1 := List.all_eq_true.1 all_apart i (List.mem_range.2 hi)
        have h2 := List.all_eq_true.1 h1 k (List.mem_range.2 (by omega))
        simpa using h2
      exact hc.mul_dvd_of_dvd_of_dvd ih (hD _ hp)
/-- .. and modulo such a product of them. -/
theorem pow_key {i : Nat} (hi : i < 8) (x : Nat) {m : Nat} (hm : m % 720720 = 1) : x ^ m % keyN i 69 = x % keyN i 69 := by
  have hle : x ≤ x ^ m := by
    rcases Nat.eq_zero_or_pos x with h | h
    · omega
    · obtain ⟨j, rfl⟩ : ∃ j, m = j + 1 := ⟨m - 1, by omega⟩
      rw [Nat.pow_succ]
      exact Nat.le_mul_of_pos_left x (Nat.pow_pos h)
  have hD : ∀ p ∈ PRIMES, p ∣ x ^ m - x := fun p hp => Nat.dvd_of_mod_eq_zero (Nat.sub_mod_eq_zero_of_mod_eq (pow_pri hp x hm))
  obtain ⟨t, ht⟩ := key_dvd hi hD 69 (Nat.le_refl _)
  rw [show x ^ m = x + keyN i 69 * t by omega, Nat.add_mul_mod_self_left]

end Go.Proofs.YtdhablbfblkagaaDoor

namespace Go.Proofs.YtdhablbfblkagaaDoor
open Go.RowKit
set_option linter.unusedVariables false

def keyZ (i k : Nat) : Int := ((keyN i k : Nat) : Int)
/-- The bytes of the key's modulus. -/
def KEY (i : Nat) : List Int := byZ (keyZ i 69)
theorem key_byte (i : Nat) : ∀ x ∈ KEY i, 0 ≤ x ∧ x ≤ 255 := byZ_byte _
theorem key_sizes {i : Nat} (hi : i < 8) : (256 : Int) ^ 61 ≤ keyZ i 69 ∧ keyZ i 69 < 256 ^ 100 ∧ keyN i 69 % 2 = 1 := by
  have h := List.all_eq_true.1 all_sizes i (List.mem_range.2 hi)
  simp only [Bool.and_eq_true, decide_eq_true_eq, beq_iff_eq] at h
  obtain ⟨⟨h1, h2⟩, h3⟩ := h
  refine ⟨?_, ?_, h3⟩
  · have : ((256 ^ 61 : Nat) : Int) ≤ (keyN i 69 : Int) := Int.ofNat_le.2 h1
    rwa [Int.natCast_pow] at this
  · have : (keyN i 69 : Int) < ((256 ^ 100 : Nat) : Int) := Int.ofNat_lt.2 h2
    rwa [Int.natCast_pow] at this
theorem key_pos {i : Nat} (hi : i < 8) : 0 < keyZ i 69 := by
  have h := (key_sizes hi).1
  have : (0 : Int) < 256 ^ 61 := Int.pow_pos (by decide)
  omega
theorem key_val {i : Nat} (hi : i < 8) : beV (KEY i) = keyZ i 69 := beV_byZ (Int.le_of_lt (key_pos hi))
theorem key_len {i : Nat} (hi : i < 8) : 62 ≤ (KEY i).length ∧ (KEY i).length ≤ 100 := by
  have h := key_sizes hi
  refine ⟨?_, byZ_short (Int.le_of_lt (key_pos hi)) h.2.1⟩
  rcases Nat.lt_or_ge 61 (KEY i).length with hl | hl
  · exact hl
  · exfalso
    have hb := beV_bound (key_byte i)
    rw [key_val hi] at hb
    obtain ⟨d, hd⟩ : ∃ d, 61 = (KEY i).length + d := ⟨61 - (KEY i).length, by omega⟩
    have h1 := h.1
    rw [hd, Int.pow_add] at h1
    have p : (0 : Int) < 256 ^ (KEY i).length := Int.pow_pos (by decide)
    have q : (0 : Int) < 256 ^ d := Int.pow_pos (by decide)
    have m : (256 : Int) ^ (KEY i).length * 1 ≤ 256 ^ (KEY i).length * 256 ^ d := Int.mul_le_mul_of_nonneg_left (by omega) (Int.le_of_lt p)
    omega
theorem key_right {i : Nat} (hi : i < 8) : rightZ (KEY i) 65537 = true := by
  have hl := key_len hi
  have hp := key_pos hi
  have hs := (key_sizes hi).2.2
  have hh : (KEY i)[0]?.getD 0 ≠ 0 := byZ_head (by show (KEY i).length ≠ 0; omega)
  have ht : (KEY i)[(KEY i).length - 1]?.getD 0 % 2 = 1 := by
    have hn : (keyZ i 69).toNat ≠ 0 := by omega
    have e : KEY i = byN (keyN i 69 / 256) ++ [((keyN i 69 % 256 : Nat) : Int)] := by
      show byN (keyZ i 69).toNat = _
      rw [byN_step hn]
      rfl
    rw [e, List.length_append, List.length_singleton, Nat.add_sub_cancel, List.getElem?_append_right (Nat.le_refl _), Nat.sub_self]
    simp only [List.getElem?_cons_zero, Option.getD_some]
    omega
  unfold rightZ
  rw [ht]
  simp [hl.1, hh]
  omega

/-- The frame's number is less than the modulus. -/
theorem frame_less {ns hz : List Int} {e : Int} (hb : ∀ x ∈ ns, 0 ≤ x ∧ x ≤ 255) (hr : rightZ ns e = true) (hl : hz.length = 32) (hh : ∀ x ∈ hz, 0 ≤ x ∧ x ≤ 255) : 0 ≤ beV (frameZ hz ns.length) ∧ beV (frameZ hz ns.length) < beV ns := by
  have hn := right_len hr
  have fb := frame_byte hh ns.length
  have fl := frame_len hl hn.1
  refine ⟨beV_nonneg fb, ?_⟩
  obtain ⟨xs, hx⟩ : ∃ xs, frameZ hz ns.length = 0 :: xs := ⟨_, rfl⟩
  rw [hx] at fb fl ⊢
  rw [beV_cons, Int.zero_mul, Int.zero_add]
  have h1 := beV_bound (zs := xs) (fun y hy => fb y (by simp [hy]))
  rw [List.length_cons] at fl
  rw [show xs.length = ns.length - 1 by omega] at h1
  have h2 := right_pos hb hr
  omega

/-- The signature that is made of a text, by an exponent. -/
def sigZ (i : Nat) (d : Int) (ts : List Int) : List Int := widZ (KEY i).length (remZ (beV (frameZ (hashZ ts) (KEY i).length) ^ d.toNat) (keyZ i 69))
theorem sig_rem {i : Nat} (hi : i < 8) (d : Int) (ts : List Int) : 0 ≤ remZ (beV (frameZ (hashZ ts) (KEY i).length) ^ d.toNat) (keyZ i 69) ∧ remZ (beV (frameZ (hashZ ts) (KEY i).length) ^ d.toNat) (keyZ i 69) < keyZ i 69 := by
  have hp := key_pos hi
  rw [remZ_pos hp]
  exact ⟨Int.emod_nonneg _ (by omega), Int.emod_lt_of_pos _ hp⟩
theorem sig_short {i : Nat} (hi : i < 8) (d : Int) (ts : List Int) : (byZ (remZ (beV (frameZ (hashZ ts) (KEY i).length) ^ d.toNat) (keyZ i 69))).length ≤ (KEY i).length := by
  have h := sig_rem hi d ts
  have hb := beV_bound (key_byte i)
  rw [key_val hi] at hb
  exact byZ_short h.1 (Int.lt_trans h.2 hb)
theorem sig_len {i : Nat} (hi : i < 8) (d : Int) (ts : List Int) : (sigZ i d ts).length = (KEY i).length := wid_len (sig_short hi d ts)
theorem sig_val {i : Nat} (hi : i < 8) (d : Int) (ts : List Int) : beV (sigZ i d ts) = remZ (beV (frameZ (hashZ ts) (KEY i).length) ^ d.toNat) (keyZ i 69) := beV_wid _ (sig_rem hi d ts).1
/-- What the one power does, the other one undoes. -/
theorem undo {i : Nat} (hi : i < 8) {j q : Nat} (hd : j * q % 720720 = 1) {F : Int} (h0 : 0 ≤ F) (h1 : F < keyZ i 69) : remZ (remZ (F ^ j) (keyZ i 69) ^ q) (keyZ i 69) = F := by
  have hp := key_pos hi
  rw [remZ_pos hp, remZ_pos hp]
  obtain ⟨f, rfl⟩ := Int.eq_ofNat_of_zero_le h0
  have e : ((f : Int) ^ j % keyZ i 69) ^ q % keyZ i 69 = (((f ^ j % keyN i 69) ^ q % keyN i 69 : Nat) : Int) := by
    unfold keyZ
    rw [Int.natCast_emod, Int.natCast_pow, Int.natCast_emod, Int.natCast_pow]
  rw [e, ← Nat.pow_mod, ← Nat.pow_mul, pow_key hi f hd, Nat.mod_eq_of_lt (by unfold keyZ at h1; omega)]
theorem sig_good {i : Nat} (hi : i < 8) {d : Int} (d0 : 0 ≤ d) (hd : d * 65537 % 720720 = 1) (ts : List Int) : errZ (KEY i) 65537 (sigZ i d ts) = 0 ∧ powZ (KEY i) 65537 (sigZ i d ts) = frameZ (hashZ ts) (KEY i).length := by
  have hr := key_right hi
  have hl := sig_len hi d ts
  have hv := sig_val hi d ts
  have hm := sig_rem hi d ts
  have kv := key_val hi
  have he : errZ (KEY i) 65537 (sigZ i d ts) = 0 := by
    unfold errZ
    rw [if_neg (by rw [hr]; simp), if_neg (by omega), if_neg (by rw [hv, kv]; omega)]
  refine ⟨he, ?_⟩
  unfold powZ
  rw [if_pos he]
  have fl := frame_less (key_byte i) hr (hash_len ts) (hash_byte ts)
  rw [kv] at fl
  have hx : expZ (KEY i) 65537 (sigZ i d ts) = beV (frameZ (hashZ ts) (KEY i).length) := by
    unfold expZ
    rw [hv, kv]
    have hq : d.toNat * (65537 : Int).toNat % 720720 = 1 := by
      show d.toNat * 65537 % 720720 = 1
      omega
    generalize (65537 : Int).toNat = q at *
    exact undo hi hq fl.1 fl.2
  rw [hx]
  have := wid_beV (frame_byte (hash_byte ts) (KEY i).length)
  rwa [frame_len (hash_len ts) (key_len hi).1] at this
/-- The signature is good of the text, and of another one just if the hashes are the same. -/
theorem sig_ver {i : Nat} (hi : i < 8) {d : Int} (d0 : 0 ≤ d) (hd : d * 65537 % 720720 = 1) (ts us : List Int) : verZ (KEY i) 65537 ts (sigZ i d ts) = 0 ∧ (hashZ ts = hashZ us → verZ (KEY i) 65537 us (sigZ i d ts) = 0) ∧ (hashZ ts ≠ hashZ us → verZ (KEY i) 65537 us (sigZ i d ts) = 6) := by
  obtain ⟨h1, h2⟩ := sig_good hi d0 hd ts
  refine ⟨?_, fun h => ?_, fun h => ?_⟩
  · unfold verZ
    rw [if_pos h1, if_pos h2]
  · unfold verZ
    rw [if_pos h1, if_pos (by rw [h2, h])]
  · unfold verZ
    rw [if_pos h1, if_neg (fun e => h (frame_inj (h2.symm.trans e)))]

end Go.Proofs.YtdhablbfblkagaaDoor

namespace Go.Proofs.YtdhablbfblkagaaDoor
open Go.RowKit
set_option linter.unusedVariables false

set_option maxHeartbeats 400000 in
set_option maxRecDepth 10000 in
theorem inverse_any (w : World) : Calls Tryd.prog 34 #[] w fun e w' => ∃ d : Int, e = .returned (.int .u32 d) ∧ 0 ≤ d ∧ d ≤ 554993 ∧ d * 65537 % 720720 = 1 ∧ w' = w := by
  go_enter Tryd.func34, Tryd.ntmps34
  go_wp2_with fail
  go_loopw [1] (fun dV wr => ∃ d : Int, dV = .int .u64 d ∧ 1 ≤ d ∧ d ≤ 554993 ∧ wr = w) (fun dV _ => (1000000 - intOf dV).toNat)
  case atStart => exact ⟨1, rfl, by omega, by omega, rfl⟩
  case round =>
    obtain ⟨d, rfl, d1, d2, rfl⟩ := hrel
    have wm : IntKind.u64.wrap (d * 65537) = d * 65537 := IntWalk.u64_in _ (by omega)
    by_cases h : d * 65537 % 720720 = 1
    · have t0 : (d * 65537 % 720720 != 1) = false := by simpa using h
      have H := Lib.hid h
      clear h
      go_wp2_with fail
      go_ret
      exact ⟨d, rfl, by omega, d2, H.out, rfl⟩
    · have t0 : (d * 65537 % 720720 != 1) = true := by simpa using h
      have hne : d + 1 ≤ 554993 := by
        rcases Int.lt_or_le d 554993 with h' | h'
        · omega
        · exfalso
          apply h
          rw [show d = 554993 by omega]
          decide
      clear h
      go_wp2_with fail
      go_roundw
      case rel => exact ⟨d + 1, by go_num, by omega, by omega, by trivial⟩
      case measure => simp only [intOf]; omega

def PZ : List Int := PRIMES.map fun p : Nat => (p : Int)
theorem pz_range : ∀ x ∈ PZ, 0 ≤ x ∧ x ≤ 4294967295 := by
  intro x hx
  have : (PZ.all fun x => decide (0 ≤ x) && decide (x ≤ 4294967295)) = true := by kernel_rfl
  have := List.all_eq_true.1 this x hx
  simpa using this
theorem primes_row (w : World) : Row32 (w.alloc (.cells (PZ.map (Value.int .u32)).toArray 23)) (some ⟨w.heap.size, 0, none⟩) 69 PZ := row32_const w PZ pz_range
set_option maxHeartbeats 1000000 in
theorem primes_any (w : World) : Calls Tryd.prog 31 #[] w fun e w' => e = .returned (.slice (some ⟨w.heap.size, 0, none⟩) 69 69) ∧ w' = w.alloc (.cells (PZ.map (Value.int .u32)).toArray 23) := by
  go_enter Tryd.func31, Tryd.ntmps31
  go_wp2_with (refine wpList_buildFlatAt rfl 41 23 69 _ rfl .u32 PZ w.heap.size rfl (some 1) rfl Tryd.underlying41 (by kernel_rfl) (by kernel_rfl) rfl (by decide) (by decide) (by kernel_rfl) ?_)
  go_ret
  exact ⟨rfl, rfl⟩

theorem key_step (i k : Nat) : (k % 8 = i % 8 → keyZ i (k + 1) = keyZ i k) ∧ (k % 8 ≠ i % 8 → keyZ i (k + 1) = keyZ i k * PZ[k]?.getD 0) := by
  refine ⟨fun h => by unfold keyZ; rw [keyN, if_pos h], fun h => ?_⟩
  unfold keyZ
  rw [keyN, if_neg h, Int.natCast_mul]
  congr 1
  unfold PZ
  rw [List.getElem?_map]
  cases PRIMES[k]? <;> rfl
theorem keyZ_nonneg (i k : Nat) : 0 ≤ keyZ i k := by unfold keyZ; omega

theorem Tryd.sizeKey : (Tryd.prog.info? 25).map (·.size) = some 2 := by kernel_rfl
theorem key_one (a : Option Addr) (n c : Nat) (e : Int) : (#[.slice a n c, .int .u32 e] : Array Value).all (·.oneCell') = true := by simp [Value.oneCell']
theorem prime_cell {W : World} {gp : Nat} (h : Row32 W (some ⟨gp, 0, none⟩) 69 PZ) (k : Nat) (hk : k < 69) : W.cell? ⟨gp, k, none⟩ = some (.int .u32 (PZ[k]?.getD 0)) ∧ 0 ≤ PZ[k]?.getD 0 ∧ PZ[k]?.getD 0 ≤ 4294967295 := by
  obtain ⟨b, o, e, _, hc⟩ := h.2.2 (by omega)
  injection e with e
  injection e with e1 e2
  subst e1 e2
  have := hc k hk
  rw [Nat.zero_add] at this
  have hl : k < PZ.length := by rw [h.1]; exact hk
  refine ⟨this, ?_⟩
  rw [List.getElem?_eq_getElem hl]
  exact pz_range _ (List.getElem_mem hl)

set_option maxHeartbeats 1000000 in
set_option maxRecDepth 100000 in
theorem key_any (i : Nat) (hi : i < 8) (w : World) : Calls Tryd.prog 13 #[.int .i64 (i : Int)] w fun e w' => ∃ a c, e = .returned (.agg #[.slice a (KEY i).length c, .int .u32 65537]) ∧ KeyAt w' a (KEY i).length c 65537 (KEY i) ∧ Below w.heap.size w w' := by
  have BX := Lib.hid (Blk.new w 25 #[.slice none 0 0, .int .u32 0])
  have BW := Lib.hid (box_below w (.cells #[.slice none 0 0, .int .u32 0] 25))
  go_enter Tryd.func13, Tryd.ntmps13
  generalize hw2 : w.alloc (.cells #[.slice none 0 0, .int .u32 0] 25) = w2 at *
  have CP := Lib.hid (primes_any w2)
  go_wp2_with fail
  refine CP.out.mono ?_
  rintro r w3 ⟨rfl, hw3⟩
  have R3 : Hid (Row32 w3 (some ⟨w2.heap.size, 0, none⟩) 69 PZ) := by rw [hw3]; exact Lib.hid (primes_row w2)
  have E3 : Below w2.heap.size w2 w3 := by rw [hw3]; exact box_below w2 _
  have B3 := Lib.hid (Below.step BW.out E3)
  have X3 := Lib.hid (BX.out.below E3 BX.out.lt)
  generalize w2.heap.size = gp at *
  clear hw3 E3 CP BW BX hw2
  have O3 := Lib.hid (num_one 1 w3 _ (by omega) (by omega) rfl)
  have D3 := Lib.hid (box_below w3 (.cells #[.int .u32 1] 23))
  go_wp2_with fail
  have PR := Lib.hid (fun W (hb : Below w3.heap.size w3 W) (k : Nat) (hk : k < 69) => prime_cell (R3.out.below hb) k hk)
  go_loopw [4, 5] (fun nV kV wr => ∃ (k m c : Nat) (a : Option Addr), nV = .slice a m c ∧ kV = .int .i64 (k : Int) ∧ k ≤ 69 ∧ m ≤ k + 1 ∧ Num wr (keyZ i k) a m c ∧ Below w3.heap.size w3 wr) (fun _ kV _ => (100 - intOf kV).toNat)
  case atStart => exact ⟨0, 1, 1, _, rfl, rfl, by omega, by omega, O3.out, D3.out⟩
  case round =>
    obtain ⟨k, m, c, a, rfl, rfl, hk, hm, hnum, hb⟩ := hrel
    have NU := Lib.hid hnum
    have BE := Lib.hid hb
    clear hnum hb
    by_cases hlt : k < 69
    · have t0 : decide ((k : Int) < 69) = true := decide_eq_true (by omega)
      obtain ⟨hc, q0, q1⟩ := PR.out wr BE.out k hlt
      have ST := Lib.hid (key_step i k)
      by_cases he : k % 8 = i % 8
      · have t1 : ((k : Int) % 8 != (i : Int) % 8) = false := by simp; omega
        have KE := Lib.hid (ST.out.1 he)
        clear he ST
        go_wp2_with fail
        go_roundw
        case rel => exact ⟨k + 1, m, c, a, rfl, by go_num, by omega, by omega, by rw [KE.out]; exact NU.out, BE.out⟩
        case measure => simp only [intOf]; omega
      · have t1 : ((k : Int) % 8 != (i : Int) % 8) = true := by simp; omega
        have KE := Lib.hid (ST.out.2 he)
        clear he ST
        have kk : 0 ≤ (k : Int) := by omega
        generalize PZ[k]?.getD 0 = x at *
        have O4 := Lib.hid (num_one x wr _ q0 q1 rfl)
        have D4 := Lib.hid (box_below wr (.cells #[.int .u32 x] 23))
        have CM := Lib.hid (rmul_call (NU.out.below D4.out) O4.out (by omega) (by omega))
        rw [← KE.out] at CM
        have B4 := Lib.hid (BE.out.trans (D4.out.mono BE.out.size))
        clear O4 D4 NU
        go_wp2_with fail
        refine CM.out.mono ?_
        rintro r w5 ⟨a5, n5, c5, rfl, hN5, hl5, hb5⟩
        have N5 := Lib.hid (hN5.num (keyZ_nonneg i (k + 1)))
        have B5 := Lib.hid (B4.out.trans (hb5.mono B4.out.size))
        clear hN5 hb5 CM B4
        go_wp2_with fail
        go_roundw
        case rel => exact ⟨k + 1, n5, c5, a5, rfl, by go_num, by omega, by omega, N5.out, B5.out⟩
        case measure => simp only [intOf]; omega
    · have t0 : decide ((k : Int) < 69) = false := decide_eq_false (by omega)
      obtain rfl : k = 69 := by omega
      have X4 := Lib.hid (X3.out.below BE.out X3.out.lt)
      obtain ⟨xs, hr, hv, hc, hi'⟩ := NU.out
      have ct := rto_any a m c xs wr hr (by omega)
      unfold GivesB at ct
      rw [hv] at ct
      have CT := Lib.hid ct
      have KL := Lib.hid (key_len hi)
      have KB := Lib.hid (key_byte i)
      have KY : Hid (byZ (keyZ i 69) = KEY i) := Lib.hid rfl
      rw [KY.out] at CT
      clear ct hr hv hc hi' NU KY
      go_wp2_with fail
      refine CT.out.mono ?_
      rintro r w5 ⟨V, rfl, ho⟩
      obtain ⟨g5, c5, rfl, hg5⟩ := ho.form (by have := KL.out; omega)
      obtain ⟨a5, d5, e5, hr5⟩ := ho.row KB.out
      injection e5 with e6 e7 e8
      subst e6 e8
      have hc5 := own_cap ho.1
      have B5 := Lib.hid (Below.step (Below.step B3.out BE.out) ho.2)
      have X5 := Lib.hid (X4.out.below ho.2 X4.out.lt)
      have hlt := X4.out.lt
      have R5 : Hid (Row (w5.setRow w.heap.size #[.slice (some ⟨g5, 0, none⟩) (KEY i).length c5, .int .u32 65537]) (some ⟨g5, 0, none⟩) (KEY i).length (KEY i)) := Lib.hid (hr5.grown (grown_setRow w5 w.heap.size _) (fun _ => ⟨g5, 0, rfl, by omega⟩))
      clear ho hr5 CT BE X4 B3 X3 R3 O3 D3 PR
      go_wp2_with (first | (refine wpList_store_rowTo rfl 25 (.tmp 2) (.tmp 28) rfl rfl w.heap.size #[.slice (some ⟨g5, 0, none⟩) (KEY i).length c5, .int .u32 65537] rfl rfl 25 #[.slice none 0 0, .int .u32 0] X5.out Tryd.sizeKey rfl (key_one _ _ _ _) ?_))
      exact bodyPost_ret (results_cell_row rfl _ _ w.heap.size 25 #[.slice (some ⟨g5, 0, none⟩) (KEY i).length c5, .int .u32 65537] (0, 0) _ rfl (setRow_heap _ _ _ _ 25 _ X5.out) Tryd.underlying25 rfl Tryd.sizeKey) rfl ⟨_, c5, rfl, ⟨R5.out, hc5, (fun e => by cases e), by omega, by omega⟩, below_setRow B5.out (Nat.le_refl _) _⟩

end Go.Proofs.YtdhablbfblkagaaDoor

namespace Go.Proofs.YtdhablbfblkagaaDoor
open Go.RowKit

/-- An order of our choosing: 'take': an operation that yields in every world that goes on from the one at hand; 'sole': one that comes up alone; 'fork': two that come up, either first. -/
inductive Plan where
  | fin
  | take (i : Nat) (p : Plan)
  | sole (i : Nat) (p : Plan)
  | fork (i : Nat) (p : Plan) (j : Nat) (q : Plan)
def Plan.len : Plan → Nat
  | .fin => 0
  | .take _ p => p.len + 1
  | .sole _ p => p.len + 1
  | .fork _ p _ _ => p.len + 1

section
variable {P : Program} {ops : Array Oper} {Q : Exit → Act → World → Prop} {R : World → World → Prop}

/-- One that makes memory. -/
def wpSole (P : Program) (l : List Oper) (R : World → World → Prop) (Q : Exit → Act → World → Prop) (i : Nat) (K : Act → World → Prop) (a : Act) (w : World) : Prop :=
  ∃ o, l[i]? = some o ∧ ((Region.wanted o (yielded l.toArray a.tmps) = false ∧ K (a.put o.dst undef) w) ∨
    (Region.wanted o (yielded l.toArray a.tmps) = true ∧ o.wp P a w (fun a' w' => R w w' ∧ K a' w') Q))
def wpPlan (P : Program) (l : List Oper) (R : World → World → Prop) (Q : Exit → Act → World → Prop) : Plan → Act → World → Prop
  | .fin, a, w => Q .normal a w
  | .take i p, a, w => ∃ o, l[i]? = some o ∧
    ((Region.wanted o (yielded l.toArray a.tmps) = false ∧ wpPlan P l R Q p (a.put o.dst undef) w) ∨
     (Region.wanted o (yielded l.toArray a.tmps) = true ∧ ∃ v, (∀ W, R w W → (execOp a.eval o).run P W = .ok (.value v) W) ∧ wpPlan P l R Q p (a.put o.dst v) w))
  | .sole i p, a, w => wpSole P l R Q i (wpPlan P l R Q p) a w
  | .fork i p j q, a, w => wpSole P l R Q i (wpPlan P l R Q p) a w ∧ wpSole P l R Q j (wpPlan P l R Q q) a w
def planB (l : List Oper) : Plan → Array Bool → Bool
  | .fin, listed => (Region.ready .any l.toArray listed).isEmpty
  | .take i p, listed => ((Region.ready .any l.toArray listed).contains i && Region.free .any l.toArray listed i) && planB l p (listed.setIfInBounds i true)
  | .sole i p, listed => (Region.ready .any l.toArray listed == [i]) && planB l p (listed.setIfInBounds i true)
  | .fork i p j q, listed => ((Region.ready .any l.toArray listed == [i, j]) && (p.len == q.len)) && (planB l p (listed.setIfInBounds i true) && planB l q (listed.setIfInBounds j true))

theorem held_sole {l : List Oper} (hrefl : ∀ w, R w w) (htrans : ∀ a b c, R a b → R b c → R a c) {i fuel : Nat} {listed : Array Bool} {K : Act → World → Prop} {a : Act} {w : World}
    (hK : ∀ a' w', K a' w' → wpAnyH P .any l.toArray Q (R w') fuel (listed.setIfInBounds i true) a' w') (h : wpSole P l R Q i K a w) :
    wpOp P l.toArray Q i (fun a' w' => R w w' ∧ wpAnyH P .any l.toArray Q (R w) fuel (listed.setIfInBounds i true) a' w') a w := by
  obtain ⟨o, ho, h⟩ := h
  have hi : l.toArray[i]? = some o := by simpa using ho
  unfold wpOp
  simp only [hi]
  rcases h with ⟨hw, h⟩ | ⟨hw, h⟩
  · rw [if_neg (by rw [hw]; simp)]
    exact ⟨hrefl w, hK _ _ h⟩
  · rw [if_pos hw]
    exact .inl (Oper.wp_mono (fun a' w' h' => ⟨h'.1, held_mono (fun W hW => htrans _ _ _ h'.1 hW) _ _ _ _ (hK _ _ h'.2)⟩) h)

theorem held_of_plan {l : List Oper} (hrefl : ∀ w, R w w) (htrans : ∀ a b c, R a b → R b c → R a c) (hs : Region.noSelect l.toArray = true) (hQ : ∀ d v c a w, Q (.panic c) (a.put d v) w → Q (.panic c) a w) :
    ∀ (p : Plan) (listed : Array Bool) (a : Act) (w : World), planB l p listed = true → wpPlan P l R Q p a w → wpAnyH P .any l.toArray Q (R w) p.len listed a w
  | .fin, listed, a, w, hB, h => by
    have : Region.ready .any l.toArray listed = [] := by simpa [planB] using hB
    exact wpAnyH_done this h _
  | .take i p, listed, a, w, hB, h => by
    obtain ⟨o, ho, h⟩ := h
    have hi : l.toArray[i]? = some o := by simpa using ho
    rw [planB, Bool.and_eq_true, Bool.and_eq_true] at hB
    obtain ⟨⟨h1, h2⟩, hB'⟩ := hB
    rcases h with ⟨hw, h⟩ | ⟨hw, v, hv, h⟩
    · exact wpAnyH_take hi hs h2 h1 (hQ _ _) (.inr ⟨hw, rfl⟩) (hrefl w) (held_of_plan hrefl htrans hs hQ p _ _ _ hB' h)
    · exact wpAnyH_take hi hs h2 h1 (hQ _ _) (.inl ⟨hw, hv⟩) (hrefl w) (held_of_plan hrefl htrans hs hQ p _ _ _ hB' h)
  | .sole i p, listed, a, w, hB, h => by
    rw [planB, Bool.and_eq_true] at hB
    have hr : Region.ready .any l.toArray listed = [i] := by simpa using hB.1
    refine wpAnyH_all hr (by simp) (fun j hj => ?_)
    obtain rfl : j = i := by simpa using hj
    exact held_sole hrefl htrans (fun a' w' h' => held_of_plan hrefl htrans hs hQ p _ a' w' hB.2 h') h
  | .fork i p j q, listed, a, w, hB, h => by
    rw [planB, Bool.and_eq_true, Bool.and_eq_true, Bool.and_eq_true] at hB
    obtain ⟨⟨h1, h2⟩, h3, h4⟩ := hB
    have hr : Region.ready .any l.toArray listed = [i, j] := by simpa using h1
    have hl : p.len = q.len := by simpa using h2
    refine wpAnyH_all hr (by simp) (fun x hx => ?_)
    have hx' : x = i ∨ x = j := by simpa using hx
    rcases hx' with rfl | rfl
    · exact held_sole hrefl htrans (fun a' w' h' => held_of_plan hrefl htrans hs hQ p _ a' w' h3 h') h.1
    · have := held_sole (fuel := q.len) (listed := listed) hrefl htrans (fun a' w' h' => held_of_plan hrefl htrans hs hQ q _ a' w' h4 h') h.2
      rw [← hl] at this
      exact this

/-- THE LAW: a region that asks the tape for its order. -/
theorem wp_region_plan {id : Nat} {a : Act} {w : World} {l : List Oper} (R : World → World → Prop) (hrefl : ∀ w, R w w) (htrans : ∀ a b c, R a b → R b c → R a c) (plan : Plan) (hm : P.follows .mixedOrders = true) (hs : Region.noSelect l.toArray = true) (hn : plan.len = l.length)
    (hB : planB l plan (Array.replicate l.length false) = true) (hQ : ∀ d v c a w, Q (.panic c) (a.put (some d) v) w → Q (.panic c) a w) (h : wpPlan P l R Q plan a w.drew) : (Code.region id l.toArray true).wp P Q a w := by
  refine wp_region_held (S := R w.drew) hm ?_
  have hQ' : ∀ d v c a w, Q (.panic c) (a.put d v) w → Q (.panic c) a w := fun d => by
    cases d with
    | none => exact fun _ _ _ _ h => h
    | some d => exact hQ d
  have := held_of_plan hrefl htrans hs hQ' plan (Array.replicate l.length false) a w.drew hB h
  rw [hn] at this
  simpa using this

section
variable {l : List Oper} {p q : Plan} {a : Act} {w : World} {i j : Nat} {o : Oper} {K : Act → World → Prop}
theorem plan_skip (ho : l[i]? = some o) (hw : Region.wanted o (yielded l.toArray a.tmps) = false) (h : wpPlan P l R Q p (a.put o.dst undef) w) : wpPlan P l R Q (.take i p) a w := ⟨o, ho, .inl ⟨hw, h⟩⟩
theorem plan_take (v : Value) (ho : l[i]? = some o) (hw : Region.wanted o (yielded l.toArray a.tmps) = true) (hv : ∀ W, R w W → (execOp a.eval o).run P W = .ok (.value v) W) (h : wpPlan P l R Q p (a.put o.dst v) w) : wpPlan P l R Q (.take i p) a w := ⟨o, ho, .inr ⟨hw, v, hv, h⟩⟩
theorem sole_take (ho : l[i]? = some o) (hw : Region.wanted o (yielded l.toArray a.tmps) = true) (h : ∀ K' : Act → World → Prop, (∀ a' w', R w w' → K a' w' → K' a' w') → o.wp P a w K' Q) : wpSole P l R Q i K a w :=
  ⟨o, ho, .inr ⟨hw, h _ (fun _ _ he h => ⟨he, h⟩)⟩⟩
theorem plan_sole (h : wpSole P l R Q i (wpPlan P l R Q p) a w) : wpPlan P l R Q (.sole i p) a w := h
theorem plan_fork (h1 : wpSole P l R Q i (wpPlan P l R Q p) a w) (h2 : wpSole P l R Q j (wpPlan P l R Q q) a w) : wpPlan P l R Q (.fork i p j q) a w := ⟨h1, h2⟩
theorem plan_end (h : Q .normal a w) : wpPlan P l R Q .fin a w := h
end
end
end Go.Proofs.YtdhablbfblkagaaDoor

namespace Go.Proofs.YtdhablbfblkagaaDoor
open Go.RowKit
set_option linter.unusedVariables false

/-- A signature of the text. -/
def GivesSig (i : Nat) (ts : List Int) (w : World) (e : Ending) (w' : World) : Prop := ∃ d : Int, 0 ≤ d ∧ d * 65537 % 720720 = 1 ∧ GivesR (sigZ i d ts) w e w'

set_option maxHeartbeats 2000000 in
set_option maxRecDepth 100000 in
theorem sign_any (i : Nat) (hi : i < 8) (p : Option Addr) (tn tc : Nat) (ts : List Int) (w : World) (ht : Row w p tn ts) (hn3 : tn ≤ 10000) (hp : p = none → tc = 0) :
    Calls Tryd.prog 14 #[.int .i64 (i : Int), .slice p tn tc] w (GivesSig i ts w) := by
  have CK := Lib.hid (key_any i hi w)
  have TX := Lib.hid ht
  have HP := Lib.hid hp
  have KL := Lib.hid (key_len hi)
  have HL := Lib.hid (hash_len ts)
  have HB := Lib.hid (hash_byte ts)
  have SR := Lib.hid (fun d => sig_rem hi d ts)
  have SS := Lib.hid (fun d => sig_short hi d ts)
  have KV := Lib.hid (key_val hi)
  have KP := Lib.hid (key_pos hi)
  clear ht hp
  go_enter Tryd.func14, Tryd.ntmps14
  go_wp2_with fail
  refine CK.out.mono ?_
  rintro r w3 ⟨a, c, rfl, hk3, hb3⟩
  have X4 := Lib.hid (key_box w3 a (KEY i).length c 65537)
  have B4 := Lib.hid (Below.step hb3 (box_below w3 (.cells #[.slice a (KEY i).length c, .int .u32 65537] 25)))
  have K4 := Lib.hid (hk3.below (box_below w3 (.cells #[.slice a (KEY i).length c, .int .u32 65537] 25)))
  have T4 := Lib.hid (TX.out.below B4.out)
  clear hk3 hb3 CK TX
  generalize hw4 : w3.alloc (.cells #[.slice a (KEY i).length c, .int .u32 65537] 25) = w4 at *
  generalize hg4 : w3.heap.size = g4 at *
  go_wp2_with fail
  clear hw4 hg4
  have d0 := X4.out.cell 0
  simp only [List.getElem?_toArray, List.getElem?_cons_zero] at d0
  have l0 := cell_later d0
  refine wp_region_ord Ext Ext.refl (fun _ _ _ => Ext.trans) ((0, false) :: (2, false) :: (3, false) :: (4, false) :: (1, true) :: (5, true) :: (6, false) :: (7, false) :: (8, false) :: (9, false) :: (10, false) :: []) (by kernel_rfl) (by kernel_rfl) rfl (by kernel_rfl) (fun _ _ _ _ _ h => h) ?_
  repeat (refine ord_take _ rfl (by rfl) (fun W hW => by go_simp; first | done | rfl) ?_; simp only [Act.put, List.setIfInBounds_toArray, List.set_cons_zero, List.set_cons_succ])
  clear l0
  refine ord_sole rfl (by rfl) (fun K1 hK1 => ?_)
  go_simp
  refine (rof_any p tn tc ts w4.drew (T4.out.drewN 1) (by omega) HP.out).mono ?_
  rintro r w5 ⟨rfl, hb5⟩
  refine hK1 _ _ hb5 ?_
  have E5 : Ext w4 w5 := Ext.of_drew hb5
  have B5 := Lib.hid (Below.step B4.out E5)
  have K5 := Lib.hid (K4.out.below E5)
  have X5 := Lib.hid (X4.out.below E5 X4.out.lt)
  have CF := Lib.hid (rframe_any (hashZ ts) ((KEY i).length : Int) w5 HL.out HB.out (by omega) (by have := KL.out; omega))
  rw [(frame_ok (hashZ ts) KL.out.1 (by have := KL.out; omega)).1, (frame_ok (hashZ ts) KL.out.1 (by have := KL.out; omega)).2] at CF
  have FB := Lib.hid (frame_byte HB.out (KEY i).length)
  have FL := Lib.hid (frame_len HL.out KL.out.1)
  clear hK1 K1 hb5 E5 B4 K4 X4 d0 T4
  refine ord_sole rfl (by rfl) (fun K1 hK1 => ?_)
  go_simp
  refine CF.out.mono ?_
  rintro r w6 ⟨a6, c6, rfl, hr6, hc6, hn6, hb6⟩
  refine hK1 _ _ hb6 ?_
  have B6 := Lib.hid (Below.step B5.out hb6)
  have K6 := Lib.hid (K5.out.below hb6)
  have X6 := Lib.hid (X5.out.below hb6 X5.out.lt)
  have F6 := Lib.hid hr6
  have d0 := X6.out.cell 0
  simp only [List.getElem?_toArray, List.getElem?_cons_zero] at d0
  clear hK1 K1 hb6 hr6 CF B5 K5 X5 HL HB
  repeat (refine ord_take _ rfl (by rfl) (fun W hW => by go_simp; first | done | rfl) ?_; simp only [Act.put, List.setIfInBounds_toArray, List.set_cons_zero, List.set_cons_succ])
  refine ord_end ?_
  have WD : Hid (∀ d, widZ (KEY i).length (remZ (beV (frameZ (hashZ ts) (KEY i).length) ^ d.toNat) (keyZ i 69)) = sigZ i d ts) := Lib.hid (fun d => rfl)
  generalize frameZ (hashZ ts) (KEY i).length = fz at *
  have FN := Lib.hid (beV_nonneg FB.out)
  have FH : fz.length ≤ 100 := by have := FL.out; have := KL.out; omega
  have KH : (KEY i).length ≤ 100 := KL.out.2
  go_wp2_with fail
  have l0 := cell_later d0
  refine wp_region_plan Ext Ext.refl (fun _ _ _ => Ext.trans) (.take 0 (.take 4 (.take 5 (.sole 1 (.sole 2 (.fork 3 (.sole 6 (.sole 7 (.take 8 (.take 9 (.take 10 (.take 11 (.take 12 .fin))))))) 6 (.sole 3 (.sole 7 (.take 8 (.take 9 (.take 10 (.take 11 (.take 12 .fin)))))))))))))  (by kernel_rfl) (by kernel_rfl) rfl (by kernel_rfl) (fun _ _ _ _ _ h => h) ?_
  repeat (refine plan_take _ rfl (by rfl) (fun W hW => by go_simp; first | done | rfl) ?_; simp only [Act.put, List.setIfInBounds_toArray, List.set_cons_zero, List.set_cons_succ])
  clear l0
  refine plan_sole (sole_take rfl (by rfl) (fun K1 hK1 => ?_))
  go_simp
  refine (rfrom_call (w := w6.drew) (ca := c6) (F6.out.drewN 1) (by omega)).mono ?_
  rintro r w7 ⟨a7, n7, c7, rfl, hN7, hl7, hb7⟩
  refine hK1 _ _ hb7 ?_
  have E7 : Ext w6 w7 := Ext.of_drew hb7
  have F7 := Lib.hid (hN7.num FN.out)
  have B7 := Lib.hid (Below.step B6.out E7)
  have K7 := Lib.hid (K6.out.below E7)
  have X7 := Lib.hid (X6.out.below E7 X6.out.lt)
  clear hK1 K1 hN7 hb7 E7 F6 B6 K6 X6 d0
  refine plan_sole (sole_take rfl (by rfl) (fun K1 hK1 => ?_))
  go_simp
  refine (inverse_any w7).mono ?_
  rintro r w8 ⟨d, rfl, d0, d1, hd, rfl⟩
  refine hK1 _ _ (Ext.refl _) ?_
  have DD := Lib.hid hd
  have RN := Lib.hid (SR.out d).1
  have RS := Lib.hid (SS.out d)
  have WZ := Lib.hid (WD.out d)
  obtain ⟨rm, hrm⟩ : ∃ rm, rm = remZ (beV fz ^ d.toNat) (keyZ i 69) := ⟨_, rfl⟩
  rw [← hrm] at RN RS WZ
  have SZ := Lib.hid hrm
  have NK := Lib.hid (fun W (hb : Below w8.heap.size w8 W) => rfrom_call (ca := c) (K7.out.below hb).1 (by omega))
  rw [KV.out] at NK
  have KN := Lib.hid (Int.le_of_lt KP.out)
  clear hK1 K1 hd hrm SR SS WD K7 FB FL
  have O8 := Lib.hid (fun W : World => num_one d W W.heap.size d0 (by omega) rfl)
  refine plan_fork ?_ ?_
  · refine sole_take rfl (by rfl) (fun K1 hK1 => ?_)
    go_simp
    have A8 := Lib.hid (box_below w8 (.cells #[.int .u32 d] 23))
    refine hK1 _ _ A8.out ?_
    clear hK1 K1
    refine plan_sole (sole_take rfl (by rfl) (fun K1 hK1 => ?_))
    go_simp
    refine (NK.out _ A8.out).mono ?_
    rintro r w9 ⟨a9, n9, c9, rfl, hN9, hl9, hb9⟩
    refine hK1 _ _ hb9 ?_
    have Q9 := Below.step A8.out hb9
    have M9 := Lib.hid (hN9.num KN.out)
    have O9 := Lib.hid ((O8.out w8).below hb9)
    have F9 := Lib.hid (F7.out.below Q9)
    have B9 := Lib.hid (Below.step B7.out Q9)
    have X9 := Lib.hid (X7.out.below Q9 X7.out.lt)
    clear hK1 K1 hN9 hb9 Q9 A8 O8 NK F7 B7 X7
    have CE := Lib.hid (rexp_call F9.out O9.out M9.out (by omega) (by omega) (by omega))
    rw [← SZ.out] at CE
    refine plan_sole (sole_take rfl (by rfl) (fun K1 hK1 => ?_))
    go_simp
    refine CE.out.mono ?_
    rintro r w10 ⟨a10, n10, c10, rfl, hN10, hl10, hb10⟩
    refine hK1 _ _ hb10 ?_
    have N10 := Lib.hid (hN10.num RN.out)
    have B10 := Lib.hid (Below.step B9.out hb10)
    have X10 := Lib.hid (X9.out.below hb10 X9.out.lt)
    have c0 := X10.out.cell 0
    simp only [List.getElem?_toArray, List.getElem?_cons_zero] at c0
    clear hK1 K1 hN10 hb10 CE F9 O9 M9 B9 X9
    repeat (refine plan_take _ rfl (by rfl) (fun W hW => by go_simp; first | done | rfl) ?_; simp only [Act.put, List.setIfInBounds_toArray, List.set_cons_zero, List.set_cons_succ])
    refine plan_end ?_
    have CP := Lib.hid (rpadded_any a10 n10 c10 (KEY i).length rm w10 N10.out (by omega) (by omega) RS.out)
    rw [WZ.out] at CP
    clear N10 X10 RS RN SZ WZ
    go_wp2_with fail
    refine CP.out.mono ?_
    rintro r w11 ⟨a11, c11, rfl, hr11, hc11, hn11, hb11⟩
    have G11 : Hid (GivesR (sigZ i d ts) w (.returned (.slice a11 (sigZ i d ts).length c11)) w11) := Lib.hid ⟨a11, c11, rfl, hr11, hc11, hn11, Below.step B10.out hb11⟩
    clear CP hr11 hc11 hn11 hb11
    go_wp2_with fail
    go_ret
    exact ⟨d, d0, DD.out, G11.out⟩
  · refine sole_take rfl (by rfl) (fun K1 hK1 => ?_)
    go_simp
    refine (NK.out _ (Below.refl _ _)).mono ?_
    rintro r w9 ⟨a9, n9, c9, rfl, hN9, hl9, hb9⟩
    refine hK1 _ _ hb9 ?_
    have M8 := Lib.hid (hN9.num KN.out)
    clear hK1 K1 hN9
    refine plan_sole (sole_take rfl (by rfl) (fun K1 hK1 => ?_))
    go_simp
    have A8 := Lib.hid (box_below w9 (.cells #[.int .u32 d] 23))
    refine hK1 _ _ A8.out ?_
    have Q9 := Below.step hb9 A8.out
    have M9 := Lib.hid (M8.out.below A8.out)
    have O9 := Lib.hid (O8.out w9)
    have F9 := Lib.hid (F7.out.below Q9)
    have B9 := Lib.hid (Below.step B7.out Q9)
    have X9 := Lib.hid (X7.out.below Q9 X7.out.lt)
    clear hK1 K1 hb9 Q9 A8 O8 NK F7 B7 X7 M8
    generalize hg9 : w9.heap.size = g9 at *
    generalize w9.alloc (.cells #[.int .u32 d] 23) = w12 at *
    have CE := Lib.hid (rexp_call F9.out O9.out M9.out (by omega) (by omega) (by omega))
    rw [← SZ.out] at CE
    refine plan_sole (sole_take rfl (by rfl) (fun K1 hK1 => ?_))
    go_simp
    refine CE.out.mono ?_
    rintro r w10 ⟨a10, n10, c10, rfl, hN10, hl10, hb10⟩
    refine hK1 _ _ hb10 ?_
    have N10 := Lib.hid (hN10.num RN.out)
    have B10 := Lib.hid (Below.step B9.out hb10)
    have X10 := Lib.hid (X9.out.below hb10 X9.out.lt)
    have c0 := X10.out.cell 0
    simp only [List.getElem?_toArray, List.getElem?_cons_zero] at c0
    clear hK1 K1 hN10 hb10 CE F9 O9 M9 B9 X9
    repeat (refine plan_take _ rfl (by rfl) (fun W hW => by go_simp; first | done | rfl) ?_; simp only [Act.put, List.setIfInBounds_toArray, List.set_cons_zero, List.set_cons_succ])
    refine plan_end ?_
    have CP := Lib.hid (rpadded_any a10 n10 c10 (KEY i).length rm w10 N10.out (by omega) (by omega) RS.out)
    rw [WZ.out] at CP
    clear N10 X10 RS RN SZ WZ
    go_wp2_with fail
    refine CP.out.mono ?_
    rintro r w11 ⟨a11, c11, rfl, hr11, hc11, hn11, hb11⟩
    have G11 : Hid (GivesR (sigZ i d ts) w (.returned (.slice a11 (sigZ i d ts).length c11)) w11) := Lib.hid ⟨a11, c11, rfl, hr11, hc11, hn11, Below.step B10.out hb11⟩
    clear CP hr11 hc11 hn11 hb11
    go_wp2_with fail
    go_ret
    exact ⟨d, d0, DD.out, G11.out⟩

end Go.Proofs.YtdhablbfblkagaaDoor

namespace Go.Proofs.YtdhablbfblkagaaDoor
open Go.RowKit
set_option linter.unusedVariables false

theorem xor_byte (x : Int) : 0 ≤ bits .xor .u8 x 1 ∧ bits .xor .u8 x 1 ≤ 255 := by
  simp only [bits, IntKind.wrap_u8]
  omega
theorem set_bytes {l : List Int} (h : ∀ x ∈ l, 0 ≤ x ∧ x ≤ 255) (j : Nat) {v : Int} (hv : 0 ≤ v ∧ v ≤ 255) : ∀ x ∈ l.set j v, 0 ≤ x ∧ x ≤ 255 := by
  intro x hx
  rcases List.mem_or_eq_of_mem_set hx with hx | rfl
  · exact h x hx
  · exact hv
theorem rem_at {y : Int} {n : Nat} (h0 : 0 ≤ y) (hn : 0 < n) : ∃ k : Nat, k < n ∧ y.tmod (n : Int) = (k : Int) ∧ y % (n : Int) = (k : Int) := by
  have am := Int.emod_nonneg y (show (n : Int) ≠ 0 by omega)
  have al := Int.emod_lt_of_pos y (show (0 : Int) < (n : Int) by omega)
  refine ⟨(y % (n : Int)).toNat, by omega, ?_, by omega⟩
  rw [Int.tmod_eq_emod_of_nonneg h0]
  omega
theorem sig_byte (i : Nat) (d : Int) (ts : List Int) : ∀ x ∈ sigZ i d ts, 0 ≤ x ∧ x ≤ 255 := wid_byte _ _

set_option maxHeartbeats 4000000 in
set_option maxRecDepth 100000 in
theorem signs_walk (x y : Int) (p u : Option Addr) (tn tc un uc : Nat) (ts us : List Int) (w : World) (hx : -9223372036854775808 ≤ x ∧ x ≤ 9223372036854775807) (hy : -9223372036854775808 ≤ y ∧ y ≤ 9223372036854775807) (ht : Row w p tn ts) (htc : tn ≤ tc) (hp : p = none → tc = 0) (hu : Row w u un us) (huc : un ≤ uc) (hta : Tab w) :
    Calls Tryd.prog 4 #[.agg #[.int .i64 x, .int .i64 y], .slice p tn tc, .slice u un uc] w fun r w' => r = .returned (.bool true) ∧ Below w.heap.size w w' := by
  have BX := Lib.hid (Blk.new w 33 #[.int .i64 x, .int .i64 y])
  have BW := Lib.hid (box_below w (.cells #[.int .i64 x, .int .i64 y] 33))
  have T2 := Lib.hid (ht.below BW.out)
  have U2 := Lib.hid (hu.below BW.out)
  have A2 := Lib.hid (hta.below BW.out)
  have HP := Lib.hid hp
  have HC := Lib.hid htc
  have HD := Lib.hid huc
  have c0 := BX.out.cell 0
  have c1 := BX.out.cell 1
  simp only [List.getElem?_toArray, List.getElem?_cons_zero, List.getElem?_cons_succ] at c0 c1
  clear ht hp hta htc hu huc
  go_enter Tryd.func4, Tryd.ntmps4
  generalize hw2 : w.alloc (.cells #[.int .i64 x, .int .i64 y] 33) = w2 at *
  have AW := Lib.hid (awake_any w2)
  go_wp2_with fail
  refine AW.out.mono ?_
  rintro r w3 ⟨rfl, hb3⟩
  have B3 := Lib.hid (Below.step BW.out hb3)
  have T3 := Lib.hid (T2.out.below hb3)
  have U3 := Lib.hid (U2.out.below hb3)
  have A3 := Lib.hid (A2.out.below hb3)
  have X3 := Lib.hid (BX.out.below hb3 BX.out.lt)
  have d0 := X3.out.cell 0
  have d1 := X3.out.cell 1
  simp only [List.getElem?_toArray, List.getElem?_cons_zero, List.getElem?_cons_succ] at d0 d1
  clear hb3 AW BW T2 U2 A2 BX c0 c1 hw2 X3
  by_cases h1 : x < 0
  · have t1 : decide (x < (0 : Int)) = true := decide_eq_true h1
    go_wp2_with fail
    go_ret
    exact ⟨rfl, B3.out⟩
  have t1 : decide (x < (0 : Int)) = false := decide_eq_false h1
  by_cases h2 : 7 < x
  · have t2 : decide ((7 : Int) < x) = true := decide_eq_true h2
    go_wp2_with fail
    go_ret
    exact ⟨rfl, B3.out⟩
  have t2 : decide ((7 : Int) < x) = false := decide_eq_false h2
  by_cases h3 : 500 < tn
  · have t3 : decide ((500 : Int) < (tn : Int)) = true := decide_eq_true (by omega)
    go_wp2_with fail
    go_ret
    exact ⟨rfl, B3.out⟩
  have t3 : decide ((500 : Int) < (tn : Int)) = false := decide_eq_false (by omega)
  by_cases h4 : 500 < un
  · have t4 : decide ((500 : Int) < (un : Int)) = true := decide_eq_true (by omega)
    go_wp2_with fail
    go_ret
    exact ⟨rfl, B3.out⟩
  have t4 : decide ((500 : Int) < (un : Int)) = false := decide_eq_false (by omega)
  by_cases h5 : y < 0
  · have t5 : decide (y < (0 : Int)) = true := decide_eq_true h5
    go_wp2_with fail
    go_ret
    exact ⟨rfl, B3.out⟩
  have t5 : decide (y < (0 : Int)) = false := decide_eq_false h5
  obtain ⟨i, rfl⟩ : ∃ i : Nat, x = (i : Int) := ⟨x.toNat, by omega⟩
  have hi : i < 8 := by omega
  have CK := Lib.hid (key_any i hi w3)
  go_wp2_with fail
  refine CK.out.mono ?_
  rintro r w4 ⟨a, c, rfl, hk4, hb4⟩
  have X5 := Lib.hid (key_box w4 a (KEY i).length c 65537)
  have E5 := Below.step hb4 (box_below w4 (.cells #[.slice a (KEY i).length c, .int .u32 65537] 25))
  have B5 := Lib.hid (Below.step B3.out E5)
  have K5 := Lib.hid (hk4.below (box_below w4 (.cells #[.slice a (KEY i).length c, .int .u32 65537] 25)))
  have T5 := Lib.hid (T3.out.below E5)
  have U5 := Lib.hid (U3.out.below E5)
  have A5 := Lib.hid (A3.out.below E5)
  clear hk4 hb4 CK E5 T3 U3 A3 B3 d0 d1 t1 t2 t3 t4 t5
  generalize hw5 : w4.alloc (.cells #[.slice a (KEY i).length c, .int .u32 65537] 25) = w5 at *
  generalize hg5 : w4.heap.size = g5 at *
  have CS := Lib.hid (sign_any i hi p tn tc ts w5 T5.out (by omega) HP.out)
  go_wp2_with fail
  clear hw5 hg5
  refine CS.out.mono ?_
  rintro r w6 ⟨d, d0, dd, a6, c6, rfl, hr6, hc6, hn6, hb6⟩
  have DD := Lib.hid dd
  have B6 := Lib.hid (Below.step B5.out hb6)
  have K6 := Lib.hid (K5.out.below hb6)
  have T6 := Lib.hid (T5.out.below hb6)
  have U6 := Lib.hid (U5.out.below hb6)
  have A6 := Lib.hid (A5.out.below hb6)
  have X6 := Lib.hid (X5.out.below hb6 X5.out.lt)
  have S6 := Lib.hid hr6
  have N6 := Lib.hid hn6
  have SL := Lib.hid (sig_len hi d ts)
  have SB := Lib.hid (sig_byte i d ts)
  have SV := Lib.hid (sig_ver hi d0 dd ts us)
  have KL := Lib.hid (key_len hi)
  clear hb6 hr6 hn6 dd CS B5 K5 T5 U5 A5 X5
  generalize sigZ i d ts = sg at *
  have CO := Lib.hid (of_any p tn tc ts w6 T6.out HC.out (by omega) A6.out)
  go_wp2_with fail
  refine CO.out.mono ?_
  rintro r w7 ⟨rfl, hb7⟩
  have CU := Lib.hid (of_any u un uc us w7 (U6.out.below hb7) HD.out (by omega) (A6.out.below hb7))
  have E7 := Lib.hid hb7
  clear hb7 CO
  go_wp2_with fail
  refine CU.out.mono ?_
  rintro r w8 ⟨rfl, hb8⟩
  have E8 := Below.step E7.out hb8
  have B8 := Lib.hid (Below.step B6.out E8)
  have K8 := Lib.hid (K6.out.below E8)
  have T8 := Lib.hid (T6.out.below E8)
  have U8 := Lib.hid (U6.out.below E8)
  have A8 := Lib.hid (A6.out.below E8)
  have X8 := Lib.hid (X6.out.below E8 X6.out.lt)
  have S8 := Lib.hid (S6.out.below E8)
  clear hb8 E7 E8 CU B6 K6 T6 U6 A6 X6 S6
  have L1 := hash_len ts
  have L2 := hash_len us
  have EQ := fun W => two_hash (hashZ ts) (hashZ us) L1 L2 W
  have HL := Lib.hid L1
  have HB := Lib.hid (hash_byte ts)
  clear L1 L2
  have SA : Hid (sg.length ≤ 100) := Lib.hid (by have := SL.out; have := KL.out; omega)
  have SC : Hid (62 ≤ sg.length) := Lib.hid (by have := SL.out; have := KL.out; omega)
  have O8 := Lib.hid (out_zero w8)
  have R8 := Lib.hid (S8.out.below (box_below w8 (.cells #[] 5)))
  have HN8 : Hid (([] : List Int).length + sg.length ≤ 1000000) := Lib.hid (by have := SA.out; simp; omega)
  have y0 : 0 ≤ y := by omega
  obtain ⟨k, hkn, dm, dk⟩ := rem_at y0 (show 0 < sg.length by have := SC.out; omega)
  have hkI : (k : Int) < (sg.length : Int) := by omega
  have n0 : (sg.length : Int) ≠ 0 := by omega
  obtain ⟨b, hb⟩ : ∃ b, sg[k]?.getD 0 = b := ⟨_, rfl⟩
  have HBB := Lib.hid hb
  clear hb
  have SG62 : 0 < sg.length := by omega
  go_wp2_with (at_builtin; go_must (refine out_append (W0 := w8) (L := []) (zs := sg) rfl _ _ rfl rfl O8.out rfl R8.out N6.out HN8.out ?_; intro V9 w9 ho9; rw [List.nil_append] at ho9; obtain ⟨g9, cap9, rfl, hg9⟩ := ho9.form SG62; have HG := Lib.hid hg9; have O9 := Lib.hid ho9; have c9 := (ho9.cell k hkn).1; have f9 := (ho9.cell k hkn).2; rw [HBB.out] at c9; clear ho9 hg9; have z0 := (X8.out.below (O9.out.set HG.out k (bits .xor .u8 b 1)).2 X8.out.lt).cell 0; have z1 := (X8.out.below (O9.out.set HG.out k (bits .xor .u8 b 1)).2 X8.out.lt).cell 1; simp only [List.getElem?_toArray, List.getElem?_cons_zero, List.getElem?_cons_succ] at z0 z1))
  obtain ⟨bs, hbs⟩ : ∃ bs, sg.set k (bits .xor .u8 b 1) = bs := ⟨_, rfl⟩
  have O10 := Lib.hid (O9.out.set HG.out k (bits .xor .u8 b 1))
  have BB := Lib.hid (set_bytes SB.out k (xor_byte b))
  have hcap9 := own_cap O9.out.1
  have BL : Hid ((sg.set k (bits .xor .u8 b 1)).length = sg.length) := Lib.hid (by simp)
  have hro := O10.out.1
  rw [BL.out] at hro
  have R10 := Lib.hid (Row.of_own hro BB.out)
  rw [hbs] at O10 BB BL R10
  clear hro hbs c9 f9 z0 z1 HBB O9 HG O8 R8 HN8 dm dk hkI n0 y0
  generalize w9.setCell ⟨g9, k, none⟩ (.int .u8 (bits .xor .u8 b 1)) = w10 at *
  have E10 := Lib.hid O10.out.2
  have B10 := Lib.hid (Below.step B8.out E10.out)
  have K10 := Lib.hid (K8.out.below E10.out)
  have T10 := Lib.hid (T8.out.below E10.out)
  have U10 := Lib.hid (U8.out.below E10.out)
  have A10 := Lib.hid (A8.out.below E10.out)
  have S10 := Lib.hid (S8.out.below E10.out)
  have X10 := Lib.hid (X8.out.below E10.out X8.out.lt)
  clear O10 E10 B8 K8 T8 U8 A8 S8 X8
  have KH : (KEY i).length ≤ 100 := KL.out.2
  have SH : sg.length ≤ 100 := SA.out
  have CP := Lib.hid (power_any a (some ⟨g9, 0, none⟩) (KEY i).length c sg.length cap9 65537 (KEY i) bs w10 K10.out (by omega) R10.out (by omega))
  have VB := Lib.hid (ver_ways (KEY i) 65537 ts bs)
  have PB := Lib.hid (pow_byte (KEY i) 65537 bs)
  have PE := Lib.hid (err_cases (KEY i) 65537 bs)
  refine CP.out.mono ?_
  rintro r w11 ⟨a11, c11, rfl, hr11, hc11, hn11, hb11⟩
  have B11 := Lib.hid (Below.step B10.out hb11)
  have K11 := Lib.hid (K10.out.below hb11)
  have T11 := Lib.hid (T10.out.below hb11)
  have U11 := Lib.hid (U10.out.below hb11)
  have A11 := Lib.hid (A10.out.below hb11)
  have S11 := Lib.hid (S10.out.below hb11)
  have R11 := Lib.hid (R10.out.below hb11)
  have X11 := Lib.hid (X10.out.below hb11 X10.out.lt)
  have P11 := Lib.hid hr11
  have d0' := X11.out.cell 0
  simp only [List.getElem?_toArray, List.getElem?_cons_zero] at d0'
  clear hb11 hr11 hc11 hn11 CP B10 K10 T10 U10 A10 S10 R10 X10
  generalize powZ (KEY i) 65537 bs = pb at *
  generalize errZ (KEY i) 65537 bs = eb at *
  obtain ⟨vb, hvb⟩ : ∃ vb, verZ (KEY i) 65537 ts bs = vb := ⟨_, rfl⟩
  rw [hvb] at VB
  have HVB := Lib.hid hvb
  clear hvb
  go_wp2_with fail
  have l0 := cell_later d0'
  refine wp_region_ord Ext Ext.refl (fun _ _ _ => Ext.trans) ((0, false) :: (2, false) :: (3, false) :: (4, false) :: (1, true) :: (5, true) :: (6, false) :: (7, false) :: (8, false) :: (9, false) :: (10, false) :: []) (by kernel_rfl) (by kernel_rfl) rfl (by kernel_rfl) (fun _ _ _ _ _ h => h) ?_
  repeat (refine ord_take _ rfl (by rfl) (fun W hW => by go_simp; first | done | rfl) ?_; simp only [Act.put, List.setIfInBounds_toArray, List.set_cons_zero, List.set_cons_succ])
  clear l0
  refine ord_sole rfl (by rfl) (fun K1 hK1 => ?_)
  go_simp
  refine (of_any p tn tc ts w11.drew (T11.out.drewN 1) HC.out (by omega) (A11.out.below (drewN_below w11 1))).mono ?_
  rintro r w12 ⟨rfl, hb12⟩
  refine hK1 _ _ hb12 ?_
  have E12 : Ext w11 w12 := Ext.of_drew hb12
  have B12 := Lib.hid (Below.step B11.out E12)
  have K12 := Lib.hid (K11.out.below E12)
  have T12 := Lib.hid (T11.out.below E12)
  have U12 := Lib.hid (U11.out.below E12)
  have A12 := Lib.hid (A11.out.below E12)
  have S12 := Lib.hid (S11.out.below E12)
  have R12 := Lib.hid (R11.out.below E12)
  have P12 := Lib.hid (P11.out.below E12)
  have X12 := Lib.hid (X11.out.below E12 X11.out.lt)
  have CF := Lib.hid (frame_any (hashZ ts) ((KEY i).length : Int) w12 HL.out HB.out (by omega) (by omega))
  rw [(frame_ok (hashZ ts) KL.out.1 (by omega)).1, (frame_ok (hashZ ts) KL.out.1 (by omega)).2] at CF
  have FB := Lib.hid (frame_byte HB.out (KEY i).length)
  clear hK1 K1 hb12 E12 B11 K11 T11 U11 A11 S11 R11 P11 X11 d0'
  refine ord_sole rfl (by rfl) (fun K1 hK1 => ?_)
  go_simp
  refine CF.out.mono ?_
  rintro r w13 ⟨a13, c13, rfl, hr13, hc13, hn13, hb13⟩
  refine hK1 _ _ hb13 ?_
  have B13 := Lib.hid (Below.step B12.out hb13)
  have K13 := Lib.hid (K12.out.below hb13)
  have T13 := Lib.hid (T12.out.below hb13)
  have U13 := Lib.hid (U12.out.below hb13)
  have A13 := Lib.hid (A12.out.below hb13)
  have S13 := Lib.hid (S12.out.below hb13)
  have R13 := Lib.hid (R12.out.below hb13)
  have P13 := Lib.hid (P12.out.below hb13)
  have X13 := Lib.hid (X12.out.below hb13 X12.out.lt)
  have F13 := Lib.hid hr13
  have d0' := X13.out.cell 0
  have d1' := X13.out.cell 1
  simp only [List.getElem?_toArray, List.getElem?_cons_zero, List.getElem?_cons_succ] at d0' d1'
  clear hK1 K1 hb13 hr13 hc13 hn13 CF B12 K12 T12 U12 A12 S12 R12 P12 X12
  repeat (refine ord_take _ rfl (by rfl) (fun W hW => by go_simp; first | done | rfl) ?_; simp only [Act.put, List.setIfInBounds_toArray, List.set_cons_zero, List.set_cons_succ])
  refine ord_end ?_
  have HS : Hid ((verZ (KEY i) 65537 us sg == 0) = decide (hashZ ts = hashZ us)) := by
    by_cases hs : hashZ ts = hashZ us
    · rw [SV.out.2.1 hs, decide_eq_true hs]
      exact Lib.hid rfl
    · rw [SV.out.2.2 hs, decide_eq_false hs]
      exact Lib.hid rfl
  generalize decide (hashZ ts = hashZ us) = sm at *
  generalize frameZ (hashZ ts) (KEY i).length = fz at *
  have v1 := conv_at c11 P13.out
  have v2' := conv_at c13 F13.out
  by_cases h0 : eb = 0
  · obtain ⟨_, _, V0, V6⟩ := VB.out.1 h0
    have SE : ((strOfNums pb).toList == (strOfNums fz).toList) = (vb == 0) := by
      rw [str_eq PB.out FB.out]
      by_cases hq : pb = fz
      · rw [decide_eq_true hq, V0 hq]
        rfl
      · rw [decide_eq_false hq, V6 hq]
        rfl
    subst h0
    clear V0 V6 VB PE
    have CA := Lib.hid (verify_any a a6 p (KEY i).length c sg.length c6 tn tc 65537 (KEY i) sg ts w13 K13.out (by omega) T13.out (by omega) HC.out S13.out (by omega) A13.out)
    rw [SV.out.1] at CA
    go_wp2_with fail
    refine CA.out.mono ?_
    rintro r w14 ⟨rfl, hb14⟩
    have B14 := Lib.hid (Below.step B13.out hb14)
    have K14 := Lib.hid (K13.out.below hb14)
    have T14 := Lib.hid (T13.out.below hb14)
    have U14 := Lib.hid (U13.out.below hb14)
    have A14 := Lib.hid (A13.out.below hb14)
    have S14 := Lib.hid (S13.out.below hb14)
    have R14 := Lib.hid (R13.out.below hb14)
    have X14 := Lib.hid (X13.out.below hb14 X13.out.lt)
    have c0 := X14.out.cell 0
    have c1 := X14.out.cell 1
    simp only [List.getElem?_toArray, List.getElem?_cons_zero, List.getElem?_cons_succ] at c0 c1
    clear hb14 CA B13 K13 T13 U13 A13 S13 R13 X13 d0' d1'
    have CB := Lib.hid (verify_any a a6 u (KEY i).length c sg.length c6 un uc 65537 (KEY i) sg us w14 K14.out (by omega) U14.out (by omega) HD.out S14.out (by omega) A14.out)
    generalize verZ (KEY i) 65537 us sg = v2 at *
    go_wp2_with fail
    refine CB.out.mono ?_
    rintro r w15 ⟨rfl, hb15⟩
    have B15 := Lib.hid (Below.step B14.out hb15)
    have X15 := Lib.hid (X14.out.below hb15 X14.out.lt)
    have d0' := X15.out.cell 0
    have d1' := X15.out.cell 1
    simp only [List.getElem?_toArray, List.getElem?_cons_zero, List.getElem?_cons_succ] at d0' d1'
    have CC := Lib.hid (verify_any a (some ⟨g9, 0, none⟩) p (KEY i).length c sg.length cap9 tn tc 65537 (KEY i) bs ts w15 (K14.out.below hb15) (by omega) (T14.out.below hb15) (by omega) HC.out (R14.out.below hb15) (by omega) (A14.out.below hb15))
    rw [HVB.out] at CC
    have HS2 := HS.out
    clear hb15 CB B14 K14 T14 U14 A14 S14 R14 X14 c0 c1 SV
    go_wp2_with fail
    refine CC.out.mono ?_
    rintro r w16 ⟨rfl, hb16⟩
    have B16 := Lib.hid (Below.step B15.out hb16)
    clear hb16 CC B15 X15 d0' d1'
    go_wp2_with fail
    go_ret
    exact ⟨rfl, B16.out⟩
  · have hv := VB.out.2 h0
    have t6 : (eb == 0) = false := by simpa using h0
    have t7 : (vb == 0) = false := by rw [hv]; exact t6
    clear hv VB PE h0
    have CA := Lib.hid (verify_any a a6 p (KEY i).length c sg.length c6 tn tc 65537 (KEY i) sg ts w13 K13.out (by omega) T13.out (by omega) HC.out S13.out (by omega) A13.out)
    rw [SV.out.1] at CA
    go_wp2_with fail
    refine CA.out.mono ?_
    rintro r w14 ⟨rfl, hb14⟩
    have B14 := Lib.hid (Below.step B13.out hb14)
    have K14 := Lib.hid (K13.out.below hb14)
    have T14 := Lib.hid (T13.out.below hb14)
    have U14 := Lib.hid (U13.out.below hb14)
    have A14 := Lib.hid (A13.out.below hb14)
    have S14 := Lib.hid (S13.out.below hb14)
    have R14 := Lib.hid (R13.out.below hb14)
    have X14 := Lib.hid (X13.out.below hb14 X13.out.lt)
    have c0 := X14.out.cell 0
    have c1 := X14.out.cell 1
    simp only [List.getElem?_toArray, List.getElem?_cons_zero, List.getElem?_cons_succ] at c0 c1
    clear hb14 CA B13 K13 T13 U13 A13 S13 R13 X13 d0' d1'
    have CB := Lib.hid (verify_any a a6 u (KEY i).length c sg.length c6 un uc 65537 (KEY i) sg us w14 K14.out (by omega) U14.out (by omega) HD.out S14.out (by omega) A14.out)
    generalize verZ (KEY i) 65537 us sg = v2 at *
    go_wp2_with fail
    refine CB.out.mono ?_
    rintro r w15 ⟨rfl, hb15⟩
    have B15 := Lib.hid (Below.step B14.out hb15)
    have X15 := Lib.hid (X14.out.below hb15 X14.out.lt)
    have d0' := X15.out.cell 0
    have d1' := X15.out.cell 1
    simp only [List.getElem?_toArray, List.getElem?_cons_zero, List.getElem?_cons_succ] at d0' d1'
    have CC := Lib.hid (verify_any a (some ⟨g9, 0, none⟩) p (KEY i).length c sg.length cap9 tn tc 65537 (KEY i) bs ts w15 (K14.out.below hb15) (by omega) (T14.out.below hb15) (by omega) HC.out (R14.out.below hb15) (by omega) (A14.out.below hb15))
    rw [HVB.out] at CC
    have HS2 := HS.out
    clear hb15 CB B14 K14 T14 U14 A14 S14 R14 X14 c0 c1 SV
    go_wp2_with fail
    refine CC.out.mono ?_
    rintro r w16 ⟨rfl, hb16⟩
    have B16 := Lib.hid (Below.step B15.out hb16)
    clear hb16 CC B15 X15 d0' d1'
    go_wp2_with fail
    go_ret
    exact ⟨rfl, B16.out⟩
end Go.Proofs.YtdhablbfblkagaaDoor
