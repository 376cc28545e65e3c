/-
  Digits and bytes, numbers and bytes undo one another, for stage 1 (octet): plain facts on lists.
-/
import Derived.Test.YtloilhcpkffihaaSame
import Derived.Test.YtloilhcpkffihaaUnhex
namespace Go.Proofs.Ytloilhcpkffihaa
open Go.RowKit

theorem dv_hd {v : Int} (h0 : 0 ≤ v) (h1 : v ≤ 15) : dv (hd v) = some v := by
  unfold dv hd
  by_cases h : v < 10
  · rw [if_pos h, if_pos (by omega)]
    congr 1
    omega
  · rw [if_neg h, if_neg (by omega), if_pos (by omega)]
    congr 1
    omega

theorem hd_dv {c v : Int} (h : dv c = some v) : hd v = c := by
  unfold dv at h
  unfold hd
  split at h
  · injection h with h
    rw [if_pos (by omega)]
    omega
  · split at h
    · injection h with h
      rw [if_neg (by omega)]
      omega
    · cases h

theorem unhex_hex : ∀ zs : List Int, (∀ x ∈ zs, 0 ≤ x ∧ x ≤ 255) → unhexZ (hexZ zs) = some zs
  | [], _ => rfl
  | x :: xs, h => by
    have hx := h x (by simp)
    have ih := unhex_hex xs (fun y hy => h y (by simp [hy]))
    rw [hexZ, unhexZ, dv_hd (by omega) (by omega), dv_hd (by omega) (by omega), ih]
    simp only [Option.map_some, Option.some.injEq, List.cons.injEq, and_true]
    omega

theorem hex_unhex : ∀ (n : Nat) (l zs : List Int), l.length ≤ n → unhexZ l = some zs → hexZ zs = l
  | _, [], zs, _, h => by
    rw [unhexZ] at h
    injection h with h
    subst h
    rfl
  | _, [_], zs, _, h => by
    rw [unhexZ] at h
    cases h
  | 0, _ :: _ :: _, _, hn, _ => by simp at hn
  | n + 1, c :: d :: r, zs, hn, h => by
    rw [unhexZ] at h
    cases hx : dv c with
    | none => rw [hx] at h; cases h
    | some x =>
      cases hy : dv d with
      | none => rw [hx, hy] at h; cases h
      | some y =>
        rw [hx, hy] at h
        cases hr : unhexZ r with
        | none => rw [hr] at h; cases h
        | some ys =>
          rw [hr] at h
          simp only [Option.map_some, Option.some.injEq] at h
          subst h
          have bx := dv_range hx
          have b_y := dv_range hy
          rw [hexZ, hex_unhex n r ys (by simp at hn; omega) hr, show (x * 16 + y) / 16 = x by omega, show (x * 16 + y) % 16 = y by omega, hd_dv hx, hd_dv hy]

theorem nums_str (xs : List Int) (h : ∀ x ∈ xs, 0 ≤ x ∧ x ≤ 255) : numsOf (strOfNums xs) = xs := by
  unfold numsOf
  rw [strOfNums_data, List.map_map]
  conv => rhs; rw [← List.map_id xs]
  refine List.map_congr_left fun x hx => ?_
  have hb := h x hx
  simp only [Function.comp, id]
  rw [UInt8.toNat_ofNat', Nat.mod_eq_of_lt (by omega)]
  omega

theorem str_nums (s : ByteArray) : strOfNums (numsOf s) = s := by
  unfold strOfNums numsOf
  rw [List.map_map]
  have : s.data.toList.map ((fun n : Int => UInt8.ofNat n.toNat) ∘ fun c : UInt8 => (c.toNat : Int)) = s.data.toList := by
    conv => rhs; rw [← List.map_id s.data.toList]
    refine List.map_congr_left fun c _ => ?_
    simp
  rw [this]

theorem unhexR_hex {zs : List Int} (h : ∀ x ∈ zs, 0 ≤ x ∧ x ≤ 255) : unhexR (numsOf (strOfNums (hexZ zs))) = (zs, true) := by
  rw [nums_str _ (hexZ_byte zs h), unhexR, unhex_hex zs h]

theorem str_unhex {s : ByteArray} {zs : List Int} (h : unhexZ (numsOf s) = some zs) : strOfNums (hexZ zs) = s := by
  rw [hex_unhex _ _ zs (Nat.le_refl _) h, str_nums]

theorem numZ_beZ : ∀ (m : Nat) (n s : Int), 0 ≤ s → s * 256 ^ m + n % 256 ^ m ≤ 18446744073709551615 → numZ s (beZ m n) = (s * 256 ^ m + n % 256 ^ m, true)
  | 0, n, s, _, _ => by
    simp only [beZ, numZ, Int.pow_zero, Int.mul_one, Int.emod_one, Int.add_zero]
  | k + 1, n, s, hs, hb => by
    have hq : (0 : Int) < 256 ^ k := Int.pow_pos (by decide)
    rw [Int.pow_succ, mod_step n hq] at hb ⊢
    have hd0 : 0 ≤ n / 256 ^ k % 256 := Int.emod_nonneg _ (by decide)
    have hr0 : 0 ≤ n % 256 ^ k := Int.emod_nonneg _ (Int.ne_of_gt hq)
    have ih := numZ_beZ k n (s * 256 + n / 256 ^ k % 256) (by omega)
    rw [beZ, numZ]
    generalize n / 256 ^ k % 256 = d at hb hd0 ih ⊢
    generalize n % 256 ^ k = r at hb hr0 ih ⊢
    generalize (256 : Int) ^ k = q at hq hb ih ⊢
    have key : (s * 256 + d) * q + r = s * (q * 256) + (q * d + r) := by
      rw [Int.add_mul, Int.mul_assoc, Int.mul_comm 256 q, Int.mul_comm d q, Int.add_assoc]
    have h1 : 0 ≤ q * d := Int.mul_nonneg (Int.le_of_lt hq) hd0
    have h2 : s * 256 ≤ s * (q * 256) := Int.mul_le_mul_of_nonneg_left (by omega) hs
    rw [if_neg (by unfold B56; omega), ih (by rw [key]; exact hb), key]

theorem num_back {m : Nat} {n : Int} (h1 : n ≤ 18446744073709551615) (hz : n / 256 ^ m = 0) : numZ 0 (beZ m n) = (n, true) := by
  have e := mod_of_div hz
  have := numZ_beZ m n 0 (Int.le_refl 0) (by rw [e]; omega)
  rw [this, e]
  simp

/-- The first of the fewest bytes is not 0, where there are more than one. -/
theorem least_head {m : Nat} {n : Int} (h0 : 0 ≤ n) (h : IsLeast n m) (hm : ¬ m = 1) : ((beZ m n)[0]?.getD 0 != 0) = true := by
  obtain ⟨a1, _, a3, a4⟩ := h
  obtain ⟨k, rfl⟩ : ∃ k, m = k + 1 := ⟨m - 1, by omega⟩
  have hne : ¬ n / 256 ^ k = 0 := by
    rcases a4 with a4 | a4
    · exact absurd a4 hm
    · simpa using a4
  rw [← div_step] at a3
  have hd : 0 ≤ n / 256 ^ k := Int.ediv_nonneg h0 (Int.le_of_lt (Int.pow_pos (by decide)))
  simp only [beZ, List.getElem?_cons_zero, Option.getD_some, bne_iff_ne, ne_eq]
  generalize n / 256 ^ k = t at *
  omega

end Go.Proofs.Ytloilhcpkffihaa
