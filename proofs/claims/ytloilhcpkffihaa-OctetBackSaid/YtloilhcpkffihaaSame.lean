/-
  Bytes of as many bytes are ordered as their numbers are, for stage 1 (octet).
-/
import Derived.Test.YtloilhcpkffihaaAwake
namespace Go.Proofs.Ytloilhcpkffihaa
open Go.RowKit

theorem mod_step (a : Int) {q : Int} (hq : 0 < q) : a % (q * 256) = q * (a / q % 256) + a % q := by
  have h1 := Int.mul_ediv_add_emod a q
  have h2 := Int.mul_ediv_add_emod (a / q) 256
  have hr0 := Int.emod_nonneg a (Int.ne_of_gt hq)
  have hr1 := Int.emod_lt_of_pos a hq
  have ht0 := Int.emod_nonneg (a / q) (show (256 : Int) ≠ 0 by decide)
  have ht1 := Int.emod_lt_of_pos (a / q) (show (0 : Int) < 256 by decide)
  generalize a / q % 256 = t at h2 ht0 ht1 ⊢
  generalize a % q = r at h1 hr0 hr1 ⊢
  generalize a / q / 256 = u at h2
  have e : a = (q * t + r) + q * 256 * u := by
    rw [← h1, ← h2, Int.mul_add, Int.mul_assoc]
    omega
  have hlo : 0 ≤ q * t + r := Int.add_nonneg (Int.mul_nonneg (Int.le_of_lt hq) ht0) hr0
  have hhi : q * t + r < q * 256 := by
    have : q * t ≤ q * 255 := Int.mul_le_mul_of_nonneg_left (by omega) (Int.le_of_lt hq)
    omega
  rw [e, Int.add_mul_emod_self_left, Int.emod_eq_of_lt hlo hhi]

theorem ordZ_lex {q x y r s : Int} (hq : 0 < q) (hr0 : 0 ≤ r) (hr1 : r < q) (hs0 : 0 ≤ s) (hs1 : s < q) :
    ordZ (q * x + r) (q * y + s) = if x < y then -1 else if y < x then 1 else ordZ r s := by
  rcases Int.lt_trichotomy x y with h | h | h
  · have : q * x + q ≤ q * y := by
      have := Int.mul_le_mul_of_nonneg_left (show x + 1 ≤ y by omega) (Int.le_of_lt hq)
      rw [Int.mul_add] at this
      omega
    rw [if_pos h, ordZ, if_pos (by omega)]
  · subst h
    rw [if_neg (by omega), if_neg (by omega), ordZ, ordZ]
    by_cases c : r < s
    · rw [if_pos c, if_pos (by omega)]
    · rw [if_neg c, if_neg (by omega)]
      by_cases d : s < r
      · rw [if_pos d, if_pos (by omega)]
      · rw [if_neg d, if_neg (by omega)]
  · have : q * y + q ≤ q * x := by
      have := Int.mul_le_mul_of_nonneg_left (show y + 1 ≤ x by omega) (Int.le_of_lt hq)
      rw [Int.mul_add] at this
      omega
    rw [if_neg (by omega), if_pos h, ordZ, if_neg (by omega), if_pos (by omega)]

theorem cmp_beZ_mod (m : Nat) (a b : Int) : cmpZ (beZ m a) (beZ m b) = ordZ (a % 256 ^ m) (b % 256 ^ m) := by
  induction m with
  | zero => simp [beZ, cmpZ, ordZ]
  | succ k ih =>
    have hq : (0 : Int) < 256 ^ k := Int.pow_pos (by decide)
    rw [Int.pow_succ, mod_step a hq, mod_step b hq, ordZ_lex hq (Int.emod_nonneg _ (Int.ne_of_gt hq)) (Int.emod_lt_of_pos _ hq) (Int.emod_nonneg _ (Int.ne_of_gt hq)) (Int.emod_lt_of_pos _ hq), ← ih]
    rfl

theorem mod_of_div {a : Int} {m : Nat} (h : a / 256 ^ m = 0) : a % 256 ^ m = a := by
  have := Int.mul_ediv_add_emod a (256 ^ m)
  rw [h] at this
  omega

theorem cmp_beZ {m : Nat} {a b : Int} (h1 : a / 256 ^ m = 0) (h2 : b / 256 ^ m = 0) : cmpZ (beZ m a) (beZ m b) = ordZ a b := by
  rw [cmp_beZ_mod, mod_of_div h1, mod_of_div h2]

theorem cmp_be (r : Int) {a b : Int} (p q : Option Addr) (m ca cb : Nat) (w : World) (hm : m ≤ 64) (hp : Row w p m (beZ m a)) (hq : Row w q m (beZ m b)) (h1 : a / 256 ^ m = 0) (h2 : b / 256 ^ m = 0) (hr : ordZ a b = r) :
    Calls Try.prog 19 #[.slice p m ca, .slice q m cb] w fun e w' => e = .returned (.int .i64 r) ∧ ∃ k, w' = w.drewN k :=
  (cmp_any p q m m ca cb _ _ w hp hq (by omega) (by omega)).mono fun _ _ ⟨he, hw⟩ => ⟨by rw [he, cmp_beZ h1 h2, hr], hw⟩

theorem bytes_fail (n many : Int) (w : World) (h0 : 0 ≤ n) (h1 : n ≤ 18446744073709551615) (h : bytesZ n many = ([], false)) : Calls Try.prog 15 #[.int .u64 n, .int .i64 many] w (GivesNone w) :=
  (bytes_any n many w h0 h1).mono fun _ _ hg => by
    rw [h] at hg
    exact hg

theorem keeps_drewN {B : Nat} {w W : World} (k : Below B w W) (m : Nat) : Below B w (W.drewN m) := { k with }

end Go.Proofs.Ytloilhcpkffihaa
