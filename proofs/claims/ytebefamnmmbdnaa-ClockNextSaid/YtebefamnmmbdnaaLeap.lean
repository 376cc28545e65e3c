/-
  What clock.isLeap, daysBeforeYear, yearLength, monthLengths and the reference's leap and last answer, for stage 3 (clock).
-/
import Derived.Test.YtebefamnmmbdnaaRows
import Derived.Test.YtebefamnmmbdnaaMath
import Derived.Test.YtebefamnmmbdnaaCal
import Derived.WalkSpells
import Derived.WalkLawsBesides
import Derived.Deep.WholeRow
import Derived.Lib.Hide
import Derived.Great.BuildSlice
namespace Go.Proofs.Ytebefamnmmbdnaa
open Go.RowKit

theorem lpB_val (y : Int) (a b c : Bool) (ha : (y % 4 == 0) = a) (hb : (y % 100 != 0) = b) (hc : (y % 400 == 0) = c) : lpB y = (a && (b || c)) := by
  subst ha hb hc
  unfold lpB
  rw [Bool.eq_iff_iff]
  simp

theorem leap_any (y : Int) (w : World) (h0 : 1 ≤ y) (h1 : y ≤ 10000) : Calls Try.prog 35 #[.int .i64 y] w fun e w' => e = .returned (.bool (lpB y)) ∧ w' = w := by
  have HV := Lib.hid (lpB_val y)
  cases ha : (y % 4 == 0) <;> cases hb : (y % 100 != 0) <;> cases hc : (y % 400 == 0)
  all_goals
    have HE := Lib.hid (HV.out _ _ _ ha hb hc)
    clear HV
    go_enter Try.func35, Try.ntmps35
    go_wp2
    go_ret
    exact ⟨by rw [HE.out]; rfl, rfl⟩

theorem rleap_any (y : Int) (w : World) (h0 : 1 ≤ y) (h1 : y ≤ 10000) : Calls Try.prog 36 #[.int .i64 y] w fun e w' => e = .returned (.bool (lpB y)) ∧ w' = w := by
  have HV := Lib.hid (lpB_val y)
  cases ha : (y % 4 == 0) <;> cases hb : (y % 100 != 0) <;> cases hc : (y % 400 == 0)
  all_goals
    have HE := Lib.hid (HV.out _ _ _ ha hb hc)
    clear HV
    go_enter Try.func36, Try.ntmps36
    go_wp2
  all_goals
    first
    | (go_ret; exact ⟨by rw [HE.out]; rfl, rfl⟩)
    | (exfalso; simp at ha hb hc; omega)

theorem dby_any (y : Int) (w : World) (h0 : 1 ≤ y) (h1 : y ≤ 10000) : Calls Try.prog 22 #[.int .i64 y] w fun e w' => e = .returned (.int .i64 (dby y)) ∧ w' = w := by
  have hd : Hid (dby y = (y - 1) * 365 + (y - 1) / 4 - (y - 1) / 100 + (y - 1) / 400) := rfl
  go_enter Try.func22, Try.ntmps22
  go_wp2
  go_ret
  exact ⟨same_int hd.out.symm, rfl⟩

theorem ylen_any (y : Int) (w : World) (h0 : 1 ≤ y) (h1 : y ≤ 10000) : Calls Try.prog 37 #[.int .i64 y] w fun e w' => e = .returned (.int .i64 (365 + lp y)) ∧ w' = w := by
  have HL : Hid (lp y = if lpB y = true then 1 else 0) := rfl
  cases hb : lpB y
  · have E : Hid (lp y = 0) := by rw [HL.out, hb]; exact rfl
    have C := Lib.hid (fun W => leap_any y W h0 h1)
    rw [hb] at C
    clear HL hb
    go_enter Try.func37, Try.ntmps37
    go_wp2_with fail
    refine (C.out _).mono ?_
    rintro e w1 ⟨rfl, rfl⟩
    go_wp2
    go_ret
    exact ⟨same_int (by rw [E.out]; rfl), rfl⟩
  · have E : Hid (lp y = 1) := by rw [HL.out, hb]; exact rfl
    have C := Lib.hid (fun W => leap_any y W h0 h1)
    rw [hb] at C
    clear HL hb
    go_enter Try.func37, Try.ntmps37
    go_wp2_with fail
    refine (C.out _).mono ?_
    rintro e w1 ⟨rfl, rfl⟩
    go_wp2
    go_ret
    exact ⟨same_int (by rw [E.out]; rfl), rfl⟩

/-- The lengths of a year's months, as an array. -/
def mlCells (f : Int) : Array Value := #[.int .i64 31, .int .i64 f, .int .i64 31, .int .i64 30, .int .i64 31, .int .i64 30, .int .i64 31, .int .i64 31, .int .i64 30, .int .i64 31, .int .i64 30, .int .i64 31]
theorem ml_at (y m : Int) (h1 : 1 ≤ m) (h2 : m ≤ 12) : (mlCells (28 + lp y))[(m - 1).toNat]? = some (.int .i64 (ml y m)) := by
  have : m = 1 ∨ m = 2 ∨ m = 3 ∨ m = 4 ∨ m = 5 ∨ m = 6 ∨ m = 7 ∨ m = 8 ∨ m = 9 ∨ m = 10 ∨ m = 11 ∨ m = 12 := by omega
  rcases this with rfl | rfl | rfl | rfl | rfl | rfl | rfl | rfl | rfl | rfl | rfl | rfl <;> rfl

set_option maxHeartbeats 400000 in
theorem months_any (y : Int) (w : World) (h0 : 1 ≤ y) (h1 : y ≤ 10000) : Calls Try.prog 23 #[.int .i64 y] w fun e w' => e = .returned (.agg (mlCells (28 + lp y))) ∧ Below w.heap.size w w' := by
  have HL : Hid (lp y = if lpB y = true then 1 else 0) := rfl
  cases hb : lpB y
  · have E : Hid (lp y = 0) := by rw [HL.out, hb]; exact rfl
    have C := Lib.hid (fun W => leap_any y W h0 h1)
    rw [hb] at C
    clear HL hb
    rw [E.out]
    go_enter Try.func23, Try.ntmps23
    go_wp2_with fail
    refine (C.out _).mono ?_
    rintro e w1 ⟨rfl, rfl⟩
    go_wp2
    exact bodyPost_ret (v := .agg (mlCells 28)) (by simp [results, Try.results23, go_sem, mlCells]) rfl ⟨rfl, ((Below.refl _ _).alloc (Nat.le_refl _) _).alloc (by simp) _⟩
  · have E : Hid (lp y = 1) := by rw [HL.out, hb]; exact rfl
    have C := Lib.hid (fun W => leap_any y W h0 h1)
    rw [hb] at C
    clear HL hb
    rw [E.out]
    go_enter Try.func23, Try.ntmps23
    go_wp2_with fail
    refine (C.out _).mono ?_
    rintro e w1 ⟨rfl, rfl⟩
    go_wp2
    exact bodyPost_ret (v := .agg (mlCells 29)) (by simp [results, Try.results23, go_sem, mlCells]) rfl ⟨rfl, ((Below.refl _ _).alloc (Nat.le_refl _) _).alloc (by simp) _⟩

set_option maxHeartbeats 4000000 in
theorem last_any (y m : Int) (w : World) (h0 : 1 ≤ y) (h1 : y ≤ 10000) (hm1 : 1 ≤ m) (hm2 : m ≤ 12) : Calls Try.prog 27 #[.int .i64 y, .int .i64 m] w fun e w' => e = .returned (.int .i64 (ml y m)) ∧ Below w.heap.size w w' := by
  have HL : Hid (lp y = if lpB y = true then 1 else 0) := rfl
  have C := Lib.hid (fun W => rleap_any y W h0 h1)
  have HM : Hid (ml y m = if m = 2 then 28 + lp y else if m = 4 ∨ m = 6 ∨ m = 9 ∨ m = 11 then 30 else 31) := rfl
  have : m = 2 ∨ m = 1 ∨ m = 3 ∨ m = 4 ∨ m = 5 ∨ m = 6 ∨ m = 7 ∨ m = 8 ∨ m = 9 ∨ m = 10 ∨ m = 11 ∨ m = 12 := by omega
  rcases this with rfl | this
  · cases hb : lpB y
    · have E : Hid (ml y 2 = 28) := by rw [HM.out, HL.out, hb]; exact rfl
      rw [hb] at C
      clear HL hb HM
      go_enter Try.func27, Try.ntmps27
      go_wp2_with fail
      refine (C.out _).mono ?_
      rintro e w1 ⟨rfl, rfl⟩
      go_wp2
      go_ret
      exact ⟨same_int E.out.symm, (Below.refl _ _).alloc (Nat.le_refl _) _⟩
    · have E : Hid (ml y 2 = 29) := by rw [HM.out, HL.out, hb]; exact rfl
      rw [hb] at C
      clear HL hb HM
      go_enter Try.func27, Try.ntmps27
      go_wp2_with fail
      refine (C.out _).mono ?_
      rintro e w1 ⟨rfl, rfl⟩
      go_wp2
      go_ret
      exact ⟨same_int E.out.symm, Below.refl _ _⟩
  · clear HL C
    rcases this with rfl | rfl | rfl | rfl | rfl | rfl | rfl | rfl | rfl | rfl | rfl
    all_goals
      go_enter Try.func27, Try.ntmps27
      go_wp2
      go_ret
      exact ⟨same_int (by rw [HM.out]; rfl), (Below.refl _ _).alloc (Nat.le_refl _) _⟩

end Go.Proofs.Ytebefamnmmbdnaa
