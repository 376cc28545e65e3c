/-
  What clock.numberOf and fullYear answer, for stage 3 (clock); digits and numbers undo one another.
-/
import Derived.Test.YtebefamnmmbdnaaDigs
namespace Go.Proofs.Ytebefamnmmbdnaa
open Go.RowKit

/-- The number of plain digits. -/
def nz (v : Int) : List Int → Option Int
  | [] => some v
  | c :: r => if 48 ≤ c ∧ c ≤ 57 then nz (v * 10 + (c - 48)) r else none

theorem nz_snoc : ∀ (xs : List Int) (v c : Int), nz v (xs ++ [c]) = (nz v xs).bind (fun n => if 48 ≤ c ∧ c ≤ 57 then some (n * 10 + (c - 48)) else none)
  | [], v, c => by simp [nz]
  | x :: xs, v, c => by
    simp only [List.cons_append, nz]
    split
    · exact nz_snoc xs _ c
    · rfl
theorem nz_digs : ∀ (k : Nat) (n : Int), 0 ≤ n → n < 10 ^ k → nz 0 (digs k n) = some n
  | 0, n, h0, h1 => by
    simp at h1
    have : n = 0 := by omega
    subst this
    rfl
  | k + 1, n, h0, h1 => by
    have h2 : n / 10 < 10 ^ k := by
      rw [Int.pow_succ] at h1
      generalize (10 : Int) ^ k = q at *
      omega
    rw [digs, nz_snoc, nz_digs k (n / 10) (by omega) h2]
    simp only [Option.bind_some]
    rw [if_pos (by omega)]
    congr 1
    omega
theorem digs_nz : ∀ (k : Nat) (ds : List Int) (n : Int), ds.length = k → nz 0 ds = some n → digs k n = ds ∧ 0 ≤ n
  | 0, ds, n, hl, h => by
    have : ds = [] := List.eq_nil_of_length_eq_zero hl
    subst this
    simp [nz] at h
    subst h
    exact ⟨rfl, Int.le_refl _⟩
  | k + 1, ds, n, hl, h => by
    obtain ⟨xs, c, rfl⟩ : ∃ xs c, ds = xs ++ [c] := ⟨ds.dropLast, ds.getLast (by intro e; subst e; simp at hl), (List.dropLast_concat_getLast _).symm⟩
    rw [nz_snoc] at h
    cases hx : nz 0 xs with
    | none => rw [hx] at h; cases h
    | some m =>
      rw [hx] at h
      simp only [Option.bind_some] at h
      split at h
      · rename_i hc
        injection h with h
        have ih := digs_nz k xs m (by simp at hl; omega) hx
        subst h
        rw [digs, show (m * 10 + (c - 48)) / 10 = m by omega, show (m * 10 + (c - 48)) % 10 = c - 48 by omega, ih.1]
        refine ⟨?_, by omega⟩
        congr 2
        omega
      · cases h
theorem nz_rng : ∀ (ds : List Int) (v n : Int), 0 ≤ v → nz v ds = some n → 0 ≤ n ∧ n < (v + 1) * 10 ^ ds.length
  | [], v, n, h0, h => by
    simp [nz] at h
    subst h
    simp
    omega
  | c :: r, v, n, h0, h => by
    rw [nz] at h
    split at h
    · have ih := nz_rng r _ n (by omega) h
      refine ⟨ih.1, Int.lt_of_lt_of_le ih.2 ?_⟩
      rw [List.length_cons, Int.pow_succ, ← Int.mul_assoc, Int.mul_right_comm]
      exact Int.mul_le_mul_of_nonneg_right (by omega) (Int.le_of_lt (Int.pow_pos (by decide)))
    · cases h

def GivesN (w : World) (r : Option Int) (e : Ending) (w' : World) : Prop := e = .returned (.tuple #[.int .i64 (r.getD 0), .bool r.isSome]) ∧ w' = w

set_option maxHeartbeats 1000000 in
theorem number_any (a : Option Addr) (n ca : Nat) (zs : List Int) (w : World) (hx : Row w a n zs) (hn : n ≤ 4) : Calls Try.prog 32 #[.slice a n ca] w (GivesN w (nz 0 zs)) := by
  have HX := Lib.hid hx
  clear hx
  go_enter Try.func32, Try.ntmps32
  go_wp2
  go_loop [4, 9] (fun v i => ∃ (k : Nat) (x : Int), k ≤ n ∧ i = .int .i64 (k : Int) ∧ v = .int .i64 x ∧ 0 ≤ x ∧ x + 1 ≤ 10 ^ k ∧ nz 0 zs = nz x (zs.drop k)) (fun _ i => n - (intOf i).toNat)
  case atStart => exact ⟨0, 0, by omega, rfl, rfl, by omega, by simp, rfl⟩
  case round =>
    obtain ⟨k, x, hk, rfl, rfl, hx0, hx1, hr⟩ := hrel
    have HR := Lib.hid hr
    clear hr
    have hx2 : x ≤ 100000000 := by
      have : (10 : Int) ^ k ≤ 10 ^ 4 := by
        rcases (show k = 0 ∨ k = 1 ∨ k = 2 ∨ k = 3 ∨ k = 4 by omega) with rfl | rfl | rfl | rfl | rfl <;> decide
      omega
    by_cases hlt : k < n
    · obtain ⟨b, off, rfl, _, hcell⟩ := HX.out.2.2 (by omega)
      have c := hcell k hlt
      have hb := HX.out.byte k
      have HS : Hid (zs.drop k = zs[k]?.getD 0 :: zs.drop (k + 1)) := by
        have hl : k < zs.length := by rw [HX.out.1]; exact hlt
        unfold Hid
        rw [List.drop_eq_getElem_cons hl, List.getElem?_eq_getElem hl]
        rfl
      have HP : Hid ((10 : Int) ^ (k + 1) = 10 * 10 ^ k) := by unfold Hid; rw [Int.pow_succ]; omega
      generalize zs[k]?.getD 0 = z at c hb HS
      by_cases c1 : z < 48
      · have t1 : decide (z < 48) = true := by simpa using c1
        have E : Hid (nz 0 zs = none) := by unfold Hid; rw [HR.out, HS.out, nz, if_neg (by omega)]
        clear hcell hx1
        go_wp2
        go_ret2
        exact ⟨by rw [E.out]; rfl, rfl⟩
      · have t1 : decide (z < 48) = false := by simpa using c1
        by_cases c2 : 57 < z
        · have t2 : decide (57 < z) = true := by simpa using c2
          have E : Hid (nz 0 zs = none) := by unfold Hid; rw [HR.out, HS.out, nz, if_neg (by omega)]
          clear hcell hx1
          go_wp2
          go_ret2
          exact ⟨by rw [E.out]; rfl, rfl⟩
        · have t2 : decide (57 < z) = false := by simpa using c2
          have E : Hid (nz 0 zs = nz (x * 10 + (z - 48)) (zs.drop (k + 1))) := by unfold Hid; rw [HR.out, HS.out, nz, if_pos (by omega)]
          have HX1 := Lib.hid hx1
          clear hcell hx1
          go_wp2
          go_round
          case rel => exact ⟨k + 1, x * 10 + (z - 48), by omega, by go_num, rfl, by omega, by have := HX1.out; have h2 : (1 : Int) ≤ 10 ^ k := Int.pow_pos (by decide); rw [HP.out]; omega, E.out⟩
          case measure => simp [intOf]; omega
    · have E : Hid (nz 0 zs = some x) := by unfold Hid; rw [HR.out, List.drop_of_length_le (by rw [HX.out.1]; omega)]; rfl
      clear hx1
      go_wp2
      go_ret2
      exact ⟨by rw [E.out]; rfl, rfl⟩

/-- The year that ends with two digits. -/
def fullY (n : Int) : Int := if 1950 ≤ 1900 + n then 1900 + n else 2000 + n
theorem full_any (n : Int) (w : World) (h0 : 0 ≤ n) (h1 : n ≤ 1000000) : Calls Try.prog 33 #[.int .i64 n] w fun e w' => e = .returned (.int .i64 (fullY n)) ∧ w' = w := by
  have HF : Hid (fullY n = if 1950 ≤ 1900 + n then 1900 + n else 2000 + n) := rfl
  by_cases c : 1950 ≤ 1900 + n
  · rw [if_pos c] at HF
    have t : decide (1950 ≤ 1900 + n) = true := by simpa using c
    go_enter Try.func33, Try.ntmps33
    go_wp2
    go_ret
    exact ⟨same_int HF.out.symm, rfl⟩
  · rw [if_neg c] at HF
    have t : decide (1950 ≤ 1900 + n) = false := by simpa using c
    go_enter Try.func33, Try.ntmps33
    go_wp2
    go_ret
    exact ⟨same_int HF.out.symm, rfl⟩

end Go.Proofs.Ytebefamnmmbdnaa
