/-
  Merged texts (stage 5): CkCal, CkLeap, CkSecs, CkSecsWalk, CkDays, CkDate, CkDigs, CkTexts, CkNumber.
-/
import Derived.WalkKit
import Derived.Test.YtjhffnoddhlikaaDoorRows
import Derived.Test.YtjhffnoddhlikaaDoorGrpA
import Derived.WalkSpells
import Derived.WalkLawsBesides
import Derived.Deep.WholeRow
import Derived.Lib.Hide
import Derived.Great.BuildSlice
import Derived.Laws.CopyOwn
import Derived.Laws.ResultCell
namespace Go.Proofs.YtjhffnoddhlikaaDoor.Clk
open Go.RowKit

/-- Has a year 366 days? -/
def lpB (y : Int) : Bool := decide (y % 4 = 0 ∧ (y % 100 ≠ 0 ∨ y % 400 = 0))
def lp (y : Int) : Int := if lpB y = true then 1 else 0
theorem lp_01 (y : Int) : 0 ≤ lp y ∧ lp y ≤ 1 := by unfold lp; split <;> omega
/-- The days ahead of a year, from the beginning of year 1 on. -/
def dby (y : Int) : Int := (y - 1) * 365 + (y - 1) / 4 - (y - 1) / 100 + (y - 1) / 400
theorem dby_succ (y : Int) : dby (y + 1) = dby y + 365 + lp y := by
  unfold dby lp lpB
  by_cases h : y % 4 = 0 ∧ (y % 100 ≠ 0 ∨ y % 400 = 0)
  · rw [if_pos (by simpa using h)]
    omega
  · rw [if_neg (by simpa using h)]
    omega
theorem dby_mono {a b : Int} (h : a ≤ b) : dby a ≤ dby b := by
  unfold dby
  omega
theorem dby_1970 : dby 1970 = 719162 := by decide
theorem dby_1950 : dby 1950 = 711857 := by decide
theorem dby_2200 : dby 2200 = 803168 := by decide

/-- A month's last day. -/
def ml (y m : Int) : Int := if m = 2 then 28 + lp y else if m = 4 ∨ m = 6 ∨ m = 9 ∨ m = 11 then 30 else 31
/-- The days of a year ahead of a month. -/
def cum (y m : Int) : Int := (367 * m - 362) / 12 - (if m ≤ 2 then 0 else 2 - lp y)
theorem cum_one (y : Int) : cum y 1 = 0 := by unfold cum; omega
theorem cum_end (y : Int) : cum y 13 = 365 + lp y := by unfold cum; omega
theorem cum_succ (y m : Int) (h1 : 1 ≤ m) (h2 : m ≤ 12) : cum y (m + 1) = cum y m + ml y m := by
  have : m = 1 ∨ m = 2 ∨ m = 3 ∨ m = 4 ∨ m = 5 ∨ m = 6 ∨ m = 7 ∨ m = 8 ∨ m = 9 ∨ m = 10 ∨ m = 11 ∨ m = 12 := by omega
  unfold cum ml
  rcases this with rfl | rfl | rfl | rfl | rfl | rfl | rfl | rfl | rfl | rfl | rfl | rfl <;> simp <;> omega
theorem cum_mono {y m n : Int} (h : m ≤ n) : cum y m ≤ cum y n := by
  have := lp_01 y
  unfold cum
  split <;> split <;> omega
theorem ml_rng (y m : Int) : 28 ≤ ml y m ∧ ml y m ≤ 31 := by
  have := lp_01 y
  unfold ml
  repeat' split
  all_goals omega

/-- A date's six parts. -/
structure D6 where
  y : Int
  m : Int
  d : Int
  h : Int
  i : Int
  s : Int

/-- Is it a date? -/
def D6.ok (a : D6) : Prop := 1950 ≤ a.y ∧ a.y ≤ 2199 ∧ 1 ≤ a.m ∧ a.m ≤ 12 ∧ 1 ≤ a.d ∧ a.d ≤ ml a.y a.m ∧ 0 ≤ a.h ∧ a.h ≤ 23 ∧ 0 ≤ a.i ∧ a.i ≤ 59 ∧ 0 ≤ a.s ∧ a.s ≤ 59
/-- A date's days, from the beginning of 1950 on. -/
def D6.days (a : D6) : Int := dby a.y - 711857 + cum a.y a.m + (a.d - 1)
def D6.clk (a : D6) : Int := a.h * 3600 + a.i * 60 + a.s
def secs (a : D6) : Int := (a.days - 7305) * 86400 + a.clk

theorem D6.days_bd {a : D6} (h : a.ok) : dby a.y - 711857 ≤ a.days ∧ a.days < dby (a.y + 1) - 711857 := by
  obtain ⟨_, _, h3, h4, h5, h6, _⟩ := h
  have c1 := cum_mono (y := a.y) h3
  have c2 := cum_mono (y := a.y) (show a.m + 1 ≤ 13 by omega)
  rw [cum_succ _ _ h3 h4, cum_end] at c2
  rw [cum_one] at c1
  rw [dby_succ]
  unfold D6.days
  omega
theorem D6.days_rng {a : D6} (h : a.ok) : 0 ≤ a.days ∧ a.days ≤ 91310 := by
  have b := D6.days_bd h
  have m1 := dby_mono h.1
  have m2 := dby_mono (show a.y + 1 ≤ 2200 by have := h.2.1; omega)
  rw [dby_1950] at m1
  rw [dby_2200] at m2
  omega
theorem D6.clk_rng {a : D6} (h : a.ok) : 0 ≤ a.clk ∧ a.clk < 86400 := by
  obtain ⟨_, _, _, _, _, _, h7, h8, h9, h10, h11, h12⟩ := h
  unfold D6.clk
  omega
theorem secs_rng {a : D6} (h : a.ok) : -631152000 ≤ secs a ∧ secs a ≤ 7258118399 := by
  have b := D6.days_rng h
  have c := D6.clk_rng h
  unfold secs
  omega

/-- Which of two dates is earlier. -/
def D6.lt (a b : D6) : Prop := a.y < b.y ∨ a.y = b.y ∧ (a.m < b.m ∨ a.m = b.m ∧ (a.d < b.d ∨ a.d = b.d ∧ (a.h < b.h ∨ a.h = b.h ∧ (a.i < b.i ∨ a.i = b.i ∧ a.s < b.s))))

theorem days_lt {a b : D6} (ha : a.ok) (hb : b.ok) (h : a.y < b.y ∨ a.y = b.y ∧ (a.m < b.m ∨ a.m = b.m ∧ a.d < b.d)) : a.days < b.days := by
  rcases h with h | ⟨h, h1⟩
  · have h1 := (D6.days_bd ha).2
    have h2 := (D6.days_bd hb).1
    have h3 := dby_mono (show a.y + 1 ≤ b.y by omega)
    omega
  · obtain ⟨_, _, h3, h4, h5, h6, _⟩ := ha
    have hb1 := hb.2.2.2.2.1
    unfold D6.days
    rw [← h]
    rcases h1 with h1 | ⟨h1, h2⟩
    · have c := cum_mono (y := a.y) (show a.m + 1 ≤ b.m by omega)
      rw [cum_succ _ _ h3 h4] at c
      omega
    · rw [← h1]
      omega
theorem secs_lt {a b : D6} (ha : a.ok) (hb : b.ok) (h : a.lt b) : secs a < secs b := by
  have ca := D6.clk_rng ha
  have cb := D6.clk_rng hb
  have key : a.days < b.days ∨ a.days = b.days ∧ a.clk < b.clk := by
    rcases h with h | ⟨h1, h⟩
    · exact .inl (days_lt ha hb (.inl h))
    · rcases h with h | ⟨h2, h⟩
      · exact .inl (days_lt ha hb (.inr ⟨h1, .inl h⟩))
      · rcases h with h | ⟨h3, h⟩
        · exact .inl (days_lt ha hb (.inr ⟨h1, .inr ⟨h2, h⟩⟩))
        · refine .inr ⟨by unfold D6.days; rw [h1, h2, h3], ?_⟩
          obtain ⟨_, _, _, _, _, _, h7, h8, h9, h10, h11, h12⟩ := ha
          obtain ⟨_, _, _, _, _, _, g7, g8, g9, g10, g11, g12⟩ := hb
          unfold D6.clk
          omega
  unfold secs
  omega
theorem lt_or {a b : D6} : a.lt b ∨ a = b ∨ b.lt a := by
  cases a
  cases b
  simp only [D6.lt, D6.mk.injEq]
  omega
theorem lt_not {a b : D6} (h : a.lt b) : ¬ b.lt a ∧ a ≠ b := by
  cases a
  cases b
  simp only [D6.lt, D6.mk.injEq, ne_eq] at *
  omega
theorem secs_inj {a b : D6} (ha : a.ok) (hb : b.ok) (h : secs a = secs b) : a = b := by
  rcases lt_or (a := a) (b := b) with h1 | h1 | h1
  · have := secs_lt ha hb h1; omega
  · exact h1
  · have := secs_lt hb ha h1; omega

/-- The date with these seconds. -/
def IsDate (s : Int) (a : D6) : Prop := a.ok ∧ secs a = s
theorem IsDate.eq {s : Int} {a b : D6} (h : IsDate s a) (k : IsDate s b) : a = b := secs_inj h.1 k.1 (h.2.trans k.2.symm)

/-- A second more. -/
def D6.next (a : D6) : D6 :=
  if a.s < 59 then { a with s := a.s + 1 } else if a.i < 59 then { a with s := 0, i := a.i + 1 } else if a.h < 23 then { a with s := 0, i := 0, h := a.h + 1 }
  else if a.d < ml a.y a.m then { a with s := 0, i := 0, h := 0, d := a.d + 1 } else if a.m < 12 then { a with s := 0, i := 0, h := 0, d := 1, m := a.m + 1 } else { y := a.y + 1, m := 1, d := 1, h := 0, i := 0, s := 0 }

theorem next_is {s : Int} {a : D6} (h : IsDate s a) (hs : s ≤ 7258118398) : IsDate (s + 1) a.next := by
  obtain ⟨hok, he⟩ := h
  have hr := D6.clk_rng hok
  have hok' := hok
  obtain ⟨h1, h2, h3, h4, h5, h6, h7, h8, h9, h10, h11, h12⟩ := hok
  have l1 := ml_rng a.y (a.m + 1)
  have l2 := ml_rng (a.y + 1) 1
  unfold D6.next
  unfold secs D6.days D6.clk at he
  unfold IsDate D6.ok secs D6.days D6.clk
  by_cases c1 : a.s < 59
  · rw [if_pos c1]
    simp only
    omega
  · rw [if_neg c1]
    by_cases c2 : a.i < 59
    · rw [if_pos c2]
      simp only
      omega
    · rw [if_neg c2]
      by_cases c3 : a.h < 23
      · rw [if_pos c3]
        simp only
        omega
      · rw [if_neg c3]
        by_cases c4 : a.d < ml a.y a.m
        · rw [if_pos c4]
          simp only
          omega
        · rw [if_neg c4]
          by_cases c5 : a.m < 12
          · rw [if_pos c5]
            simp only
            rw [cum_succ _ _ h3 h4]
            omega
          · rw [if_neg c5]
            simp only
            have e12 : a.m = 12 := by omega
            have ce := cum_end a.y
            have cs := cum_succ a.y 12 (by omega) (by omega)
            have c0 := cum_one (a.y + 1)
            have ds := dby_succ a.y
            have d22 := dby_2200
            rw [e12] at he h6 c4
            have hy : a.y ≠ 2199 := by
              intro e
              rw [e] at ds he h6 c4 cs ce
              rw [show (2199 : Int) + 1 = 2200 from rfl, dby_2200] at ds
              rw [show (12 : Int) + 1 = 13 from rfl, ce] at cs
              omega
            rw [show (12 : Int) + 1 = 13 from rfl, ce] at cs
            rw [ds, c0]
            omega

end Go.Proofs.YtjhffnoddhlikaaDoor.Clk

namespace Go.Proofs.YtjhffnoddhlikaaDoor.Clk
open Go.RowKit

theorem lpB_val (y : Int) (a b c : Bool) (ha : (y % 4 == 0) = a) (hb : (y % 100 != 0) = b) (hc : (y % 400 == 0) = c) : lpB y = (a && (b || c)) := by
  subst ha hb hc
  unfold lpB
  rw [Bool.eq_iff_iff]
  simp

theorem leap_any (y : Int) (w : World) (h0 : 1 ≤ y) (h1 : y ≤ 10000) : Calls Tryd.prog 104 #[.int .i64 y] w fun e w' => e = .returned (.bool (lpB y)) ∧ w' = w := by
  have HV := Lib.hid (lpB_val y)
  cases ha : (y % 4 == 0) <;> cases hb : (y % 100 != 0) <;> cases hc : (y % 400 == 0)
  all_goals
    have HE := Lib.hid (HV.out _ _ _ ha hb hc)
    clear HV
    go_enter Tryd.func104, Tryd.ntmps104
    go_wp2
    go_ret
    exact ⟨by rw [HE.out]; rfl, rfl⟩

theorem rleap_any (y : Int) (w : World) (h0 : 1 ≤ y) (h1 : y ≤ 10000) : Calls Tryd.prog 105 #[.int .i64 y] w fun e w' => e = .returned (.bool (lpB y)) ∧ w' = w := by
  have HV := Lib.hid (lpB_val y)
  cases ha : (y % 4 == 0) <;> cases hb : (y % 100 != 0) <;> cases hc : (y % 400 == 0)
  all_goals
    have HE := Lib.hid (HV.out _ _ _ ha hb hc)
    clear HV
    go_enter Tryd.func105, Tryd.ntmps105
    go_wp2
  all_goals
    first
    | (go_ret; exact ⟨by rw [HE.out]; rfl, rfl⟩)
    | (exfalso; simp at ha hb hc; omega)

theorem dby_any (y : Int) (w : World) (h0 : 1 ≤ y) (h1 : y ≤ 10000) : Calls Tryd.prog 94 #[.int .i64 y] w fun e w' => e = .returned (.int .i64 (dby y)) ∧ w' = w := by
  have hd : Hid (dby y = (y - 1) * 365 + (y - 1) / 4 - (y - 1) / 100 + (y - 1) / 400) := rfl
  go_enter Tryd.func94, Tryd.ntmps94
  go_wp2
  go_ret
  exact ⟨same_int hd.out.symm, rfl⟩

theorem ylen_any (y : Int) (w : World) (h0 : 1 ≤ y) (h1 : y ≤ 10000) : Calls Tryd.prog 107 #[.int .i64 y] w fun e w' => e = .returned (.int .i64 (365 + lp y)) ∧ w' = w := by
  have HL : Hid (lp y = if lpB y = true then 1 else 0) := rfl
  cases hb : lpB y
  · have E : Hid (lp y = 0) := by rw [HL.out, hb]; exact rfl
    have C := Lib.hid (fun W => leap_any y W h0 h1)
    rw [hb] at C
    clear HL hb
    go_enter Tryd.func107, Tryd.ntmps107
    go_wp2_with fail
    refine (C.out _).mono ?_
    rintro e w1 ⟨rfl, rfl⟩
    go_wp2
    go_ret
    exact ⟨same_int (by rw [E.out]; rfl), rfl⟩
  · have E : Hid (lp y = 1) := by rw [HL.out, hb]; exact rfl
    have C := Lib.hid (fun W => leap_any y W h0 h1)
    rw [hb] at C
    clear HL hb
    go_enter Tryd.func107, Tryd.ntmps107
    go_wp2_with fail
    refine (C.out _).mono ?_
    rintro e w1 ⟨rfl, rfl⟩
    go_wp2
    go_ret
    exact ⟨same_int (by rw [E.out]; rfl), rfl⟩

/-- The lengths of a year's months, as an array. -/
def mlCells (f : Int) : Array Value := #[.int .i64 31, .int .i64 f, .int .i64 31, .int .i64 30, .int .i64 31, .int .i64 30, .int .i64 31, .int .i64 31, .int .i64 30, .int .i64 31, .int .i64 30, .int .i64 31]
theorem ml_at (y m : Int) (h1 : 1 ≤ m) (h2 : m ≤ 12) : (mlCells (28 + lp y))[(m - 1).toNat]? = some (.int .i64 (ml y m)) := by
  have : m = 1 ∨ m = 2 ∨ m = 3 ∨ m = 4 ∨ m = 5 ∨ m = 6 ∨ m = 7 ∨ m = 8 ∨ m = 9 ∨ m = 10 ∨ m = 11 ∨ m = 12 := by omega
  rcases this with rfl | rfl | rfl | rfl | rfl | rfl | rfl | rfl | rfl | rfl | rfl | rfl <;> rfl

set_option maxHeartbeats 400000 in
theorem months_any (y : Int) (w : World) (h0 : 1 ≤ y) (h1 : y ≤ 10000) : Calls Tryd.prog 95 #[.int .i64 y] w fun e w' => e = .returned (.agg (mlCells (28 + lp y))) ∧ Below w.heap.size w w' := by
  have HL : Hid (lp y = if lpB y = true then 1 else 0) := rfl
  cases hb : lpB y
  · have E : Hid (lp y = 0) := by rw [HL.out, hb]; exact rfl
    have C := Lib.hid (fun W => leap_any y W h0 h1)
    rw [hb] at C
    clear HL hb
    rw [E.out]
    go_enter Tryd.func95, Tryd.ntmps95
    go_wp2_with fail
    refine (C.out _).mono ?_
    rintro e w1 ⟨rfl, rfl⟩
    go_wp2
    exact bodyPost_ret (v := .agg (mlCells 28)) (by simp [results, Tryd.results95, go_sem, mlCells]) rfl ⟨rfl, ((Below.refl _ _).alloc (Nat.le_refl _) _).alloc (by simp) _⟩
  · have E : Hid (lp y = 1) := by rw [HL.out, hb]; exact rfl
    have C := Lib.hid (fun W => leap_any y W h0 h1)
    rw [hb] at C
    clear HL hb
    rw [E.out]
    go_enter Tryd.func95, Tryd.ntmps95
    go_wp2_with fail
    refine (C.out _).mono ?_
    rintro e w1 ⟨rfl, rfl⟩
    go_wp2
    exact bodyPost_ret (v := .agg (mlCells 29)) (by simp [results, Tryd.results95, go_sem, mlCells]) rfl ⟨rfl, ((Below.refl _ _).alloc (Nat.le_refl _) _).alloc (by simp) _⟩

set_option maxHeartbeats 4000000 in
theorem last_any (y m : Int) (w : World) (h0 : 1 ≤ y) (h1 : y ≤ 10000) (hm1 : 1 ≤ m) (hm2 : m ≤ 12) : Calls Tryd.prog 103 #[.int .i64 y, .int .i64 m] w fun e w' => e = .returned (.int .i64 (ml y m)) ∧ Below w.heap.size w w' := by
  have HL : Hid (lp y = if lpB y = true then 1 else 0) := rfl
  have C := Lib.hid (fun W => rleap_any y W h0 h1)
  have HM : Hid (ml y m = if m = 2 then 28 + lp y else if m = 4 ∨ m = 6 ∨ m = 9 ∨ m = 11 then 30 else 31) := rfl
  have : m = 2 ∨ m = 1 ∨ m = 3 ∨ m = 4 ∨ m = 5 ∨ m = 6 ∨ m = 7 ∨ m = 8 ∨ m = 9 ∨ m = 10 ∨ m = 11 ∨ m = 12 := by omega
  rcases this with rfl | this
  · cases hb : lpB y
    · have E : Hid (ml y 2 = 28) := by rw [HM.out, HL.out, hb]; exact rfl
      rw [hb] at C
      clear HL hb HM
      go_enter Tryd.func103, Tryd.ntmps103
      go_wp2_with fail
      refine (C.out _).mono ?_
      rintro e w1 ⟨rfl, rfl⟩
      go_wp2
      go_ret
      exact ⟨same_int E.out.symm, (Below.refl _ _).alloc (Nat.le_refl _) _⟩
    · have E : Hid (ml y 2 = 29) := by rw [HM.out, HL.out, hb]; exact rfl
      rw [hb] at C
      clear HL hb HM
      go_enter Tryd.func103, Tryd.ntmps103
      go_wp2_with fail
      refine (C.out _).mono ?_
      rintro e w1 ⟨rfl, rfl⟩
      go_wp2
      go_ret
      exact ⟨same_int E.out.symm, Below.refl _ _⟩
  · clear HL C
    rcases this with rfl | rfl | rfl | rfl | rfl | rfl | rfl | rfl | rfl | rfl | rfl
    all_goals
      go_enter Tryd.func103, Tryd.ntmps103
      go_wp2
      go_ret
      exact ⟨same_int (by rw [HM.out]; rfl), (Below.refl _ _).alloc (Nat.le_refl _) _⟩

end Go.Proofs.YtjhffnoddhlikaaDoor.Clk

namespace Go.Proofs.YtjhffnoddhlikaaDoor.Clk
open Go.RowKit

instance (a : D6) : Decidable a.ok := by unfold D6.ok; infer_instance
def okB (a : D6) : Bool := decide a.ok
theorem okB_true {a : D6} (h : a.ok) : okB a = true := by simpa [okB] using h
theorem okB_false {a : D6} (h : ¬ a.ok) : okB a = false := by simpa [okB] using h

/-- What the first k rounds have shown. -/
def Pre (a : D6) (k : Nat) : Prop := (0 < k → 1950 ≤ a.y ∧ a.y ≤ 2199) ∧ (1 < k → 1 ≤ a.m ∧ a.m ≤ 12) ∧ (2 < k → 1 ≤ a.d ∧ a.d ≤ 31) ∧ (3 < k → 0 ≤ a.h ∧ a.h ≤ 23) ∧ (4 < k → 0 ≤ a.i ∧ a.i ≤ 59) ∧ (5 < k → 0 ≤ a.s ∧ a.s ≤ 59)

theorem date_index (x0 x1 x2 x3 x4 x5 : Value) : (∀ w, (Instr.index 90 (.agg #[x0, x1, x2, x3, x4, x5]) (.int .i64 0)).run Tryd.prog w = .ok x0 w) ∧ (∀ w, (Instr.index 90 (.agg #[x0, x1, x2, x3, x4, x5]) (.int .i64 1)).run Tryd.prog w = .ok x1 w) ∧ (∀ w, (Instr.index 90 (.agg #[x0, x1, x2, x3, x4, x5]) (.int .i64 2)).run Tryd.prog w = .ok x2 w) ∧ (∀ w, (Instr.index 90 (.agg #[x0, x1, x2, x3, x4, x5]) (.int .i64 3)).run Tryd.prog w = .ok x3 w) ∧ (∀ w, (Instr.index 90 (.agg #[x0, x1, x2, x3, x4, x5]) (.int .i64 4)).run Tryd.prog w = .ok x4 w) ∧ (∀ w, (Instr.index 90 (.agg #[x0, x1, x2, x3, x4, x5]) (.int .i64 5)).run Tryd.prog w = .ok x5 w) :=
  ⟨fun _ => by kernel_rfl, fun _ => by kernel_rfl, fun _ => by kernel_rfl, fun _ => by kernel_rfl, fun _ => by kernel_rfl, fun _ => by kernel_rfl⟩

theorem box_cells (w : World) (c : Array Value) (t : TypeId) (o1 o2 : Obj) (j : Nat) : (((w.alloc (.cells c t)).alloc o1).alloc o2).cell? ⟨w.heap.size, j, none⟩ = c[j]? := by
  have h1 : (w.alloc (.cells c t)).cell? ⟨w.heap.size, j, none⟩ = c[j]? := by
    simp only [World.cell?, heap_alloc_new]
    rfl
  rw [World.cell?_alloc_lt _ _ _ (by simp; omega), World.cell?_alloc_lt _ _ _ (by simp), h1]

theorem ml_index (y m : Int) (h1 : 1 ≤ m) (h2 : m ≤ 12) (w : World) : (Instr.index 110 (.agg (mlCells (28 + lp y))) (.int .i64 (m - 1))).run Tryd.prog w = .ok (.int .i64 (ml y m)) w := by
  have h := ml_at y m h1 h2
  have h3 : (0 : Int) ≤ m - 1 ∧ m - 1 < 12 := by omega
  rw [show (m - 1).toNat = m.toNat - 1 by omega] at h
  simp [Instr.index, run_underlying Tryd.underlying110, asIntOf, h3, go_sem]
  rw [if_pos (by omega), h]
  rfl

set_option maxRecDepth 100000 in
set_option maxHeartbeats 2000000 in
theorem isdate_any (y m d h i s : Int) (w : World) : Calls Tryd.prog 93 #[.agg #[.int .i64 y, .int .i64 m, .int .i64 d, .int .i64 h, .int .i64 i, .int .i64 s]] w fun e w' => e = .returned (.bool (okB ⟨y, m, d, h, i, s⟩)) ∧ Below w.heap.size w w' := by
  obtain ⟨i0, i1, i2, i3, i4, i5⟩ := date_index (.int .i64 y) (.int .i64 m) (.int .i64 d) (.int .i64 h) (.int .i64 i) (.int .i64 s)
  go_enter Tryd.func93, Tryd.ntmps93
  go_wp2
  go_loop [10] (fun t => ∃ k : Nat, k ≤ 6 ∧ t = .int .i64 (k : Int) ∧ Pre ⟨y, m, d, h, i, s⟩ k) (fun t => 6 - (intOf t).toNat)
  case atStart => exact ⟨0, by omega, rfl, by unfold Pre; omega⟩
  case round =>
    obtain ⟨k, hk, rfl, hp⟩ := hrel
    have HP := Lib.hid hp
    clear hp
    rcases k with _ | _ | _ | _ | _ | _ | _ | k
    · by_cases c : y < 1950
      · have F : Hid (okB ⟨y, m, d, h, i, s⟩ = false) := okB_false (by unfold D6.ok; simp only; omega)
        have c1 : decide (y < 1950) = true := by simpa using c
        go_wp2
        go_ret
        exact ⟨by rw [F.out]; rfl, (((Below.refl _ _).alloc (Nat.le_refl _) _).alloc (by simp) _).alloc (by simp; omega) _⟩
      · have c1 : decide (y < 1950) = false := by simpa using c
        by_cases c' : 2199 < y
        · have F : Hid (okB ⟨y, m, d, h, i, s⟩ = false) := okB_false (by unfold D6.ok; simp only; omega)
          have c2 : decide (2199 < y) = true := by simpa using c'
          go_wp2
          go_ret
          exact ⟨by rw [F.out]; rfl, (((Below.refl _ _).alloc (Nat.le_refl _) _).alloc (by simp) _).alloc (by simp; omega) _⟩
        · have c2 : decide (2199 < y) = false := by simpa using c'
          have HN : Hid (Pre ⟨y, m, d, h, i, s⟩ 1) := by
            have := HP.out
            unfold Pre at this
            unfold Hid Pre
            simp only at this ⊢
            omega
          go_wp2
          go_round
          case rel => exact ⟨1, by omega, by go_num, HN.out⟩
          case measure => simp [intOf]
    · by_cases c : m < 1
      · have F : Hid (okB ⟨y, m, d, h, i, s⟩ = false) := okB_false (by unfold D6.ok; simp only; omega)
        have c1 : decide (m < 1) = true := by simpa using c
        go_wp2
        go_ret
        exact ⟨by rw [F.out]; rfl, (((Below.refl _ _).alloc (Nat.le_refl _) _).alloc (by simp) _).alloc (by simp; omega) _⟩
      · have c1 : decide (m < 1) = false := by simpa using c
        by_cases c' : 12 < m
        · have F : Hid (okB ⟨y, m, d, h, i, s⟩ = false) := okB_false (by unfold D6.ok; simp only; omega)
          have c2 : decide (12 < m) = true := by simpa using c'
          go_wp2
          go_ret
          exact ⟨by rw [F.out]; rfl, (((Below.refl _ _).alloc (Nat.le_refl _) _).alloc (by simp) _).alloc (by simp; omega) _⟩
        · have c2 : decide (12 < m) = false := by simpa using c'
          have HN : Hid (Pre ⟨y, m, d, h, i, s⟩ 2) := by
            have := HP.out
            unfold Pre at this
            unfold Hid Pre
            simp only at this ⊢
            omega
          go_wp2
          go_round
          case rel => exact ⟨2, by omega, by go_num, HN.out⟩
          case measure => simp [intOf]
    · by_cases c : d < 1
      · have F : Hid (okB ⟨y, m, d, h, i, s⟩ = false) := okB_false (by unfold D6.ok; simp only; omega)
        have c1 : decide (d < 1) = true := by simpa using c
        go_wp2
        go_ret
        exact ⟨by rw [F.out]; rfl, (((Below.refl _ _).alloc (Nat.le_refl _) _).alloc (by simp) _).alloc (by simp; omega) _⟩
      · have c1 : decide (d < 1) = false := by simpa using c
        by_cases c' : 31 < d
        · have F : Hid (okB ⟨y, m, d, h, i, s⟩ = false) := okB_false (by unfold D6.ok; simp only; have := ml_rng y m; omega)
          have c2 : decide (31 < d) = true := by simpa using c'
          go_wp2
          go_ret
          exact ⟨by rw [F.out]; rfl, (((Below.refl _ _).alloc (Nat.le_refl _) _).alloc (by simp) _).alloc (by simp; omega) _⟩
        · have c2 : decide (31 < d) = false := by simpa using c'
          have HN : Hid (Pre ⟨y, m, d, h, i, s⟩ 3) := by
            have := HP.out
            unfold Pre at this
            unfold Hid Pre
            simp only at this ⊢
            omega
          go_wp2
          go_round
          case rel => exact ⟨3, by omega, by go_num, HN.out⟩
          case measure => simp [intOf]
    · by_cases c : h < 0
      · have F : Hid (okB ⟨y, m, d, h, i, s⟩ = false) := okB_false (by unfold D6.ok; simp only; omega)
        have c1 : decide (h < 0) = true := by simpa using c
        go_wp2
        go_ret
        exact ⟨by rw [F.out]; rfl, (((Below.refl _ _).alloc (Nat.le_refl _) _).alloc (by simp) _).alloc (by simp; omega) _⟩
      · have c1 : decide (h < 0) = false := by simpa using c
        by_cases c' : 23 < h
        · have F : Hid (okB ⟨y, m, d, h, i, s⟩ = false) := okB_false (by unfold D6.ok; simp only; omega)
          have c2 : decide (23 < h) = true := by simpa using c'
          go_wp2
          go_ret
          exact ⟨by rw [F.out]; rfl, (((Below.refl _ _).alloc (Nat.le_refl _) _).alloc (by simp) _).alloc (by simp; omega) _⟩
        · have c2 : decide (23 < h) = false := by simpa using c'
          have HN : Hid (Pre ⟨y, m, d, h, i, s⟩ 4) := by
            have := HP.out
            unfold Pre at this
            unfold Hid Pre
            simp only at this ⊢
            omega
          go_wp2
          go_round
          case rel => exact ⟨4, by omega, by go_num, HN.out⟩
          case measure => simp [intOf]
    · by_cases c : i < 0
      · have F : Hid (okB ⟨y, m, d, h, i, s⟩ = false) := okB_false (by unfold D6.ok; simp only; omega)
        have c1 : decide (i < 0) = true := by simpa using c
        go_wp2
        go_ret
        exact ⟨by rw [F.out]; rfl, (((Below.refl _ _).alloc (Nat.le_refl _) _).alloc (by simp) _).alloc (by simp; omega) _⟩
      · have c1 : decide (i < 0) = false := by simpa using c
        by_cases c' : 59 < i
        · have F : Hid (okB ⟨y, m, d, h, i, s⟩ = false) := okB_false (by unfold D6.ok; simp only; omega)
          have c2 : decide (59 < i) = true := by simpa using c'
          go_wp2
          go_ret
          exact ⟨by rw [F.out]; rfl, (((Below.refl _ _).alloc (Nat.le_refl _) _).alloc (by simp) _).alloc (by simp; omega) _⟩
        · have c2 : decide (59 < i) = false := by simpa using c'
          have HN : Hid (Pre ⟨y, m, d, h, i, s⟩ 5) := by
            have := HP.out
            unfold Pre at this
            unfold Hid Pre
            simp only at this ⊢
            omega
          go_wp2
          go_round
          case rel => exact ⟨5, by omega, by go_num, HN.out⟩
          case measure => simp [intOf]
    · by_cases c : s < 0
      · have F : Hid (okB ⟨y, m, d, h, i, s⟩ = false) := okB_false (by unfold D6.ok; simp only; omega)
        have c1 : decide (s < 0) = true := by simpa using c
        go_wp2
        go_ret
        exact ⟨by rw [F.out]; rfl, (((Below.refl _ _).alloc (Nat.le_refl _) _).alloc (by simp) _).alloc (by simp; omega) _⟩
      · have c1 : decide (s < 0) = false := by simpa using c
        by_cases c' : 59 < s
        · have F : Hid (okB ⟨y, m, d, h, i, s⟩ = false) := okB_false (by unfold D6.ok; simp only; omega)
          have c2 : decide (59 < s) = true := by simpa using c'
          go_wp2
          go_ret
          exact ⟨by rw [F.out]; rfl, (((Below.refl _ _).alloc (Nat.le_refl _) _).alloc (by simp) _).alloc (by simp; omega) _⟩
        · have c2 : decide (59 < s) = false := by simpa using c'
          have HN : Hid (Pre ⟨y, m, d, h, i, s⟩ 6) := by
            have := HP.out
            unfold Pre at this
            unfold Hid Pre
            simp only at this ⊢
            omega
          go_wp2
          go_round
          case rel => exact ⟨6, by omega, by go_num, HN.out⟩
          case measure => simp [intOf]
    · have hp := HP.out
      unfold Pre at hp
      simp only at hp
      have hy := hp.1 (by omega)
      have hm := hp.2.1 (by omega)
      have hd := hp.2.2.1 (by omega)
      have hh := hp.2.2.2.1 (by omega)
      have hi := hp.2.2.2.2.1 (by omega)
      have hs := hp.2.2.2.2.2 (by omega)
      clear hp HP i0 i1 i2 i3 i4 i5
      have HK : Hid (okB ⟨y, m, d, h, i, s⟩ = decide (d ≤ ml y m)) := by
        by_cases c : d ≤ ml y m
        · rw [okB_true (by unfold D6.ok; simp only; omega)]; show true = _; simpa using c
        · rw [okB_false (by unfold D6.ok; simp only; omega)]; show false = _; simpa using c
      go_wp2
      obtain ⟨w3, HW3, B3⟩ : ∃ w3, w3 = ((w.alloc (.cells #[.int .i64 y, .int .i64 m, .int .i64 d, .int .i64 h, .int .i64 i, .int .i64 s] 90)).alloc (.cells #[.int .i64 1950, .int .i64 1, .int .i64 1, .int .i64 0, .int .i64 0, .int .i64 0] 90)).alloc (.cells #[.int .i64 2199, .int .i64 12, .int .i64 31, .int .i64 23, .int .i64 59, .int .i64 59] 90) ∧ Below w.heap.size w w3 := ⟨_, rfl, (((Below.refl _ _).alloc (Nat.le_refl _) _).alloc (by simp) _).alloc (by simp; omega) _⟩
      rw [← HW3]
      have q0 : w3.cell? ⟨w.heap.size, 0, none⟩ = some (.int .i64 y) := by rw [HW3]; exact box_cells _ _ _ _ _ 0
      have q1 : w3.cell? ⟨w.heap.size, 1, none⟩ = some (.int .i64 m) := by rw [HW3]; exact box_cells _ _ _ _ _ 1
      have q2 : w3.cell? ⟨w.heap.size, 2, none⟩ = some (.int .i64 d) := by rw [HW3]; exact box_cells _ _ _ _ _ 2
      have hlt : w.heap.size < w3.heap.size := by rw [HW3]; simp; omega
      clear HW3
      have k0 := fun W (hW : Ext w3.drew W) => (hW.cell (p := ⟨w.heap.size, 0, none⟩) hlt).trans q0
      have k1 := fun W (hW : Ext w3.drew W) => (hW.cell (p := ⟨w.heap.size, 1, none⟩) hlt).trans q1
      have k2 := fun W (hW : Ext w3.drew W) => (hW.cell (p := ⟨w.heap.size, 2, none⟩) hlt).trans q2
      have hml := ml_index y m hm.1 hm.2
      have hm1 : IntKind.i64.wrap (m - 1) = m - 1 := IntWalk.i64_in _ (by omega)
      clear q0 q1 q2
      refine wp_region_ord Ext Ext.refl (fun _ _ _ => Ext.trans) ((0, false) :: (1, false) :: (2, false) :: (3, false) :: (5, false) :: (6, false) :: (7, false) :: (4, true) :: (8, false) :: (9, false) :: (10, false) :: []) (by kernel_rfl) (by kernel_rfl) rfl (by kernel_rfl) (fun _ _ _ _ _ h => h) ?_
      repeat (refine ord_take _ rfl (by rfl) (fun W hW => by go_simp; first | done | rfl) ?_; simp only [Act.put, List.setIfInBounds_toArray, List.set_cons_zero, List.set_cons_succ])
      refine ord_sole rfl (by rfl) (fun K hK => ?_)
      go_simp
      refine (months_any y _ (by omega) (by omega)).mono ?_
      rintro e w4 ⟨rfl, hb4⟩
      refine hK _ _ hb4 ?_
      clear hK K k0 k1 k2
      repeat (refine ord_take _ rfl (by rfl) (fun W hW => by go_simp; first | done | rfl) ?_; simp only [Act.put, List.setIfInBounds_toArray, List.set_cons_zero, List.set_cons_succ])
      refine ord_end ?_
      go_wp2
      go_ret
      exact ⟨by rw [HK.out]; rfl, Ext.trans B3 (Ext.of_drew hb4)⟩
    · omega
end Go.Proofs.YtjhffnoddhlikaaDoor.Clk

namespace Go.Proofs.YtjhffnoddhlikaaDoor.Clk
open Go.RowKit

/-- What Seconds answers. -/
def secsR (a : D6) : Int := if okB a = true then secs a else 0
def GivesS (w : World) (a : D6) (e : Ending) (w' : World) : Prop := e = .returned (.tuple #[.int .i64 (secsR a), .bool (okB a)]) ∧ Below w.heap.size w w'

theorem new_cell (w : World) (c : Array Value) (t : TypeId) (j : Nat) : (w.alloc (.cells c t)).cell? ⟨w.heap.size, j, none⟩ = c[j]? := by
  simp only [World.cell?, heap_alloc_new]
  rfl

theorem Below.step {w w1 w2 : World} (h : Below w.heap.size w w1) (k : Below w1.heap.size w1 w2) : Below w.heap.size w w2 := h.trans (k.mono h.size)

set_option maxRecDepth 100000 in
set_option maxHeartbeats 2000000 in
theorem secs_any (y m d h i s : Int) (w : World) : Calls Tryd.prog 81 #[.agg #[.int .i64 y, .int .i64 m, .int .i64 d, .int .i64 h, .int .i64 i, .int .i64 s]] w (GivesS w ⟨y, m, d, h, i, s⟩) := by
  have C := Lib.hid (fun W => isdate_any y m d h i s W)
  have B0 := Lib.hid ((Below.refl w.heap.size w).alloc (Nat.le_refl _) (.cells #[.int .i64 y, .int .i64 m, .int .i64 d, .int .i64 h, .int .i64 i, .int .i64 s] 90))
  by_cases hok : (⟨y, m, d, h, i, s⟩ : D6).ok
  · have OT := Lib.hid (okB_true hok)
    rw [OT.out] at C
    have RS : Hid (secsR ⟨y, m, d, h, i, s⟩ = secs ⟨y, m, d, h, i, s⟩) := by unfold Hid secsR; rw [if_pos OT.out]
    have RG := secs_rng hok
    obtain ⟨h1, h2, h3, h4, h5, h6, h7, h8, h9, h10, h11, h12⟩ := hok
    simp only at h1 h2 h3 h4 h5 h6 h7 h8 h9 h10 h11 h12
    have q0 := new_cell w #[.int .i64 y, .int .i64 m, .int .i64 d, .int .i64 h, .int .i64 i, .int .i64 s] 90 0
    have q1 := new_cell w #[.int .i64 y, .int .i64 m, .int .i64 d, .int .i64 h, .int .i64 i, .int .i64 s] 90 1
    have q2 := new_cell w #[.int .i64 y, .int .i64 m, .int .i64 d, .int .i64 h, .int .i64 i, .int .i64 s] 90 2
    have q3 := new_cell w #[.int .i64 y, .int .i64 m, .int .i64 d, .int .i64 h, .int .i64 i, .int .i64 s] 90 3
    have q4 := new_cell w #[.int .i64 y, .int .i64 m, .int .i64 d, .int .i64 h, .int .i64 i, .int .i64 s] 90 4
    have q5 := new_cell w #[.int .i64 y, .int .i64 m, .int .i64 d, .int .i64 h, .int .i64 i, .int .i64 s] 90 5
    simp only [List.getElem?_toArray, List.getElem?_cons_zero, List.getElem?_cons_succ] at q0 q1 q2 q3 q4 q5
    go_enter Tryd.func81, Tryd.ntmps81
    go_wp2_with fail
    refine (C.out _).mono ?_
    rintro e w2 ⟨rfl, hb2⟩
    have bw : w.heap.size < (w.alloc (.cells #[.int .i64 y, .int .i64 m, .int .i64 d, .int .i64 h, .int .i64 i, .int .i64 s] 90)).heap.size := by simp
    have r0 := (hb2.cell (p := ⟨w.heap.size, 0, none⟩) bw).trans q0
    have r1 := (hb2.cell (p := ⟨w.heap.size, 1, none⟩) bw).trans q1
    have r2 := (hb2.cell (p := ⟨w.heap.size, 2, none⟩) bw).trans q2
    have r3 := (hb2.cell (p := ⟨w.heap.size, 3, none⟩) bw).trans q3
    have r4 := (hb2.cell (p := ⟨w.heap.size, 4, none⟩) bw).trans q4
    have r5 := (hb2.cell (p := ⟨w.heap.size, 5, none⟩) bw).trans q5
    have bw2 : w.heap.size < w2.heap.size := Nat.lt_of_lt_of_le bw hb2.size
    have BB : Hid (Below w.heap.size w w2) := Below.step B0.out hb2
    clear q0 q1 q2 q3 q4 q5 bw hb2 C B0
    go_wp2_with fail
    refine (dby_any y _ (by omega) (by omega)).mono ?_
    rintro e w3 ⟨rfl, rfl⟩
    go_wp2_with fail
    refine (dby_any 1970 _ (by omega) (by omega)).mono ?_
    rintro e w3' ⟨rfl, hw3⟩
    subst hw3
    rw [dby_1970]
    have d1 := dby_mono h1
    have d2 := dby_mono (show y + 1 ≤ 2200 by omega)
    have dl := lp_01 y
    rw [dby_succ] at d2
    rw [dby_1950] at d1
    rw [dby_2200] at d2
    have HD : Hid (dby y = dby y) := rfl
    go_wp2_with fail
    refine (months_any y _ (by omega) (by omega)).mono ?_
    rintro e w4 ⟨rfl, hb4⟩
    have B4 : Hid (Below w.heap.size w w4) := Below.step BB.out hb4
    replace r0 := (hb4.cell (p := ⟨w.heap.size, 0, none⟩) bw2).trans r0
    replace r1 := (hb4.cell (p := ⟨w.heap.size, 1, none⟩) bw2).trans r1
    replace r2 := (hb4.cell (p := ⟨w.heap.size, 2, none⟩) bw2).trans r2
    replace r3 := (hb4.cell (p := ⟨w.heap.size, 3, none⟩) bw2).trans r3
    replace r4 := (hb4.cell (p := ⟨w.heap.size, 4, none⟩) bw2).trans r4
    replace r5 := (hb4.cell (p := ⟨w.heap.size, 5, none⟩) bw2).trans r5
    have bw4 : w.heap.size < w4.heap.size := Nat.lt_of_lt_of_le bw2 hb4.size
    clear hb4 bw2
    have MC := Lib.hid (fun k (h1 : 1 ≤ k) (h2 : k ≤ 12) => (new_cell w4 (mlCells (28 + lp y)) 110 (k - 1).toNat).trans (ml_at y k h1 h2))
    simp only [mlCells] at MC ⊢
    go_wp2
    have l0 := (World.cell?_alloc_lt w4 (.cells (mlCells (28 + lp y)) 110) ⟨w.heap.size, 0, none⟩ bw4).trans r0
    have l1 := (World.cell?_alloc_lt w4 (.cells (mlCells (28 + lp y)) 110) ⟨w.heap.size, 1, none⟩ bw4).trans r1
    have l2 := (World.cell?_alloc_lt w4 (.cells (mlCells (28 + lp y)) 110) ⟨w.heap.size, 2, none⟩ bw4).trans r2
    have l3 := (World.cell?_alloc_lt w4 (.cells (mlCells (28 + lp y)) 110) ⟨w.heap.size, 3, none⟩ bw4).trans r3
    have l4 := (World.cell?_alloc_lt w4 (.cells (mlCells (28 + lp y)) 110) ⟨w.heap.size, 4, none⟩ bw4).trans r4
    have l5 := (World.cell?_alloc_lt w4 (.cells (mlCells (28 + lp y)) 110) ⟨w.heap.size, 5, none⟩ bw4).trans r5
    have B5 := Lib.hid (B4.out.alloc B4.out.size (.cells (mlCells (28 + lp y)) 110))
    simp only [mlCells] at l0 l1 l2 l3 l4 l5 B5
    clear r0 r1 r2 r3 r4 r5 B4 BB
    generalize w4.alloc (.cells #[.int .i64 31, .int .i64 (28 + lp y), .int .i64 31, .int .i64 30, .int .i64 31, .int .i64 30, .int .i64 31, .int .i64 31, .int .i64 30, .int .i64 31, .int .i64 30, .int .i64 31] 110) = w5 at l0 l1 l2 l3 l4 l5 B5 MC ⊢
    go_loop [4, 6] (fun t k => ∃ n : Int, 1 ≤ n ∧ n ≤ m ∧ k = .int .i64 n ∧ t = .int .i64 (dby y - 719162 + cum y n)) (fun _ k => (12 - intOf k).toNat)
    case atStart => exact ⟨1, by omega, by omega, rfl, by rw [cum_one, Int.add_zero]⟩
    case round =>
      obtain ⟨n, hn1, hn2, rfl, rfl⟩ := hrel
      have c1 := cum_mono (y := y) hn1
      have c2 := cum_mono (y := y) (show n ≤ 13 by omega)
      rw [cum_one] at c1
      rw [cum_end] at c2
      by_cases hlt : n < m
      · have CS := Lib.hid (cum_succ y n hn1 (by omega))
        have mc := MC.out n hn1 (by omega)
        have mr := ml_rng y n
        have mc2 : w5.cell? ⟨w4.heap.size, n.toNat - 1, none⟩ = some (.int .i64 (ml y n)) := by rw [show n.toNat - 1 = (n - 1).toNat by omega]; exact mc
        go_wp2
        go_round
        case rel => exact ⟨n + 1, by omega, by omega, rfl, by rw [CS.out]; go_num⟩
        case measure => simp [intOf]; omega
      · obtain rfl : n = m := by omega
        have HS : Hid (secs ⟨y, n, d, h, i, s⟩ = (dby y - 719162 + cum y n + (d - 1)) * 86400 + (h * 3600 + i * 60 + s)) := by unfold Hid secs D6.days D6.clk; simp only; omega
        have hl := ml_rng y n
        clear MC RG
        go_wp2
        go_ret2
        exact ⟨by rw [RS.out, HS.out, OT.out]; go_num, B5.out⟩
  · have OF := Lib.hid (okB_false hok)
    rw [OF.out] at C
    have RS : Hid (secsR ⟨y, m, d, h, i, s⟩ = 0) := by unfold Hid secsR; rw [if_neg (by rw [OF.out]; simp)]
    clear hok
    go_enter Tryd.func81, Tryd.ntmps81
    go_wp2_with fail
    refine (C.out _).mono ?_
    rintro e w2 ⟨rfl, hb2⟩
    go_wp2
    go_ret2
    exact ⟨by rw [RS.out, OF.out]; rfl, Below.step B0.out hb2⟩

end Go.Proofs.YtjhffnoddhlikaaDoor.Clk

namespace Go.Proofs.YtjhffnoddhlikaaDoor.Clk
open Go.RowKit

/-- The day that has n days from the beginning of 1950 on ahead of it. -/
def IsDay (n y m d : Int) : Prop := 1950 ≤ y ∧ y ≤ 2199 ∧ 1 ≤ m ∧ m ≤ 12 ∧ 1 ≤ d ∧ d ≤ ml y m ∧ dby y - 711857 + cum y m + (d - 1) = n

def d6c (y m d h i s : Int) : Array Value := #[.int .i64 y, .int .i64 m, .int .i64 d, .int .i64 h, .int .i64 i, .int .i64 s]
theorem d6c_size (y m d h i s : Int) : (d6c y m d h i s).size = 6 := rfl

/-- Block g holds just these cells. -/
def Blk (w : World) (g : Nat) (t : TypeId) (cs : Array Value) : Prop := w.heap[g]? = some (.cells cs t (0, 0))
theorem Blk.lt {w : World} {g : Nat} {t : TypeId} {cs : Array Value} (h : Blk w g t cs) : g < w.heap.size := (Array.getElem?_eq_some_iff.1 h).1
theorem Blk.cell {w : World} {g : Nat} {t : TypeId} {cs : Array Value} (h : Blk w g t cs) (j : Nat) : w.cell? ⟨g, j, none⟩ = cs[j]? := by
  unfold Blk at h
  simp only [World.cell?, h]
  rfl
theorem Blk.free {w : World} {g : Nat} {t : TypeId} {cs : Array Value} (h : Blk w g t cs) (j : Nat) : w.frozen? ⟨g, j, none⟩ = false := by
  unfold Blk at h
  simp [World.frozen?, h]
theorem Blk.new (w : World) (t : TypeId) (cs : Array Value) : Blk (w.alloc (.cells cs t)) w.heap.size t cs := heap_alloc_new w _
theorem Blk.below {w w' : World} {g B : Nat} {t : TypeId} {cs : Array Value} (h : Blk w g t cs) (hb : Below B w w') (hg : g < B) : Blk w' g t cs := (hb.block g hg).trans h
theorem Blk.alloc {w : World} {g : Nat} {t : TypeId} {cs : Array Value} (h : Blk w g t cs) (o : Obj) : Blk (w.alloc o) g t cs := (Below.heap_alloc w o g h.lt).trans h
theorem Blk.set {w : World} {g : Nat} {t : TypeId} {cs : Array Value} (h : Blk w g t cs) (j : Nat) (v : Value) : Blk (w.setCell ⟨g, j, none⟩ v) g t (cs.setIfInBounds j v) := heap_setCell_same w g j cs t v h
theorem Blk.far {w : World} {g g' : Nat} {t : TypeId} {cs : Array Value} (h : Blk w g t cs) (hne : g ≠ g') (j : Nat) (v : Value) : Blk (w.setCell ⟨g', j, none⟩ v) g t cs := (heap_setCell_other w ⟨g', j, none⟩ g v hne).trans h
theorem Blk.drewN {w : World} {g : Nat} {t : TypeId} {cs : Array Value} (h : Blk w g t cs) (n : Nat) : Blk (w.drewN n) g t cs := h

theorem Tryd.size22 (y m d h i s : Int) : (Tryd.prog.info? 90).map (·.size) = some (d6c y m d h i s).size := by rw [d6c_size]; kernel_rfl
theorem d6c_one (y m d h i s : Int) : (d6c y m d h i s).all (·.oneCell') = true := by simp [d6c, Value.oneCell']

/-- Where the second loop stands. -/
def Mon (w wr : World) (b1 bl : Nat) (y m : Int) : Prop :=
  Blk wr w.heap.size 90 (d6c 0 0 0 0 0 0) ∧ Blk wr b1 90 (d6c y m 1 0 0 0) ∧ Blk wr bl 110 (mlCells (28 + lp y)) ∧ Below w.heap.size w wr

theorem Mon.next {w wr : World} {b1 bl : Nat} {y m : Int} (h : Mon w wr b1 bl y m) (h1 : w.heap.size < b1) (h2 : b1 ≠ bl) : Mon w (wr.setCell ⟨b1, 1, none⟩ (.int .i64 (m + 1))) b1 bl y (m + 1) :=
  ⟨h.1.far (by omega) _ _, h.2.1.set 1 _, h.2.2.1.far (fun e => h2 e.symm) _ _, h.2.2.2.setCell (by show w.heap.size ≤ b1; omega) _⟩

set_option maxRecDepth 100000 in
set_option maxHeartbeats 2000000 in
theorem days_any (n : Int) (w : World) (h0 : 0 ≤ n) (h1 : n ≤ 91310) : Calls Tryd.prog 101 #[.int .i64 n] w fun e w' => ∃ y m d : Int, e = .returned (.agg (d6c y m d 0 0 0)) ∧ IsDay n y m d ∧ Below w.heap.size w w' := by
  go_enter Tryd.func101, Tryd.ntmps101
  go_wp2
  go_loopw [0] (fun t wr => ∃ y : Int, 1950 ≤ y ∧ y ≤ 2199 ∧ dby y - 711857 ≤ n ∧ t = .int .i64 (n - (dby y - 711857)) ∧ wr = (w.alloc (.cells #[.int .i64 0, .int .i64 0, .int .i64 0, .int .i64 0, .int .i64 0, .int .i64 0] 90)).alloc (.cells #[.int .i64 y, .int .i64 1, .int .i64 1, .int .i64 0, .int .i64 0, .int .i64 0] 90)) (fun t _ => (intOf t).toNat)
  case atStart => exact ⟨1950, by omega, by omega, by rw [dby_1950]; omega, by rw [dby_1950]; simp, rfl⟩
  case round =>
    obtain ⟨y, hy1, hy2, hy3, rfl, rfl⟩ := hrel
    have dm := dby_mono hy1
    rw [dby_1950] at dm
    have DS := Lib.hid (dby_succ y)
    have dl := lp_01 y
    by_cases hge : 365 + lp y ≤ n - (dby y - 711857)
    · have hy' : y + 1 ≤ 2199 := by
        rcases (show y < 2199 ∨ 2199 ≤ y by omega) with h | h
        · omega
        · have := dby_mono (show 2200 ≤ y + 1 by omega)
          rw [dby_2200, DS.out] at this
          omega
      go_wp2_with (go_at_call 107; refine (ylen_any y _ (by omega) (by omega)).mono ?_; rintro e w' ⟨rfl, rfl⟩)
      go_roundw
      case rel => exact ⟨y + 1, by omega, hy', by rw [DS.out]; omega, by rw [DS.out]; go_num, rfl⟩
      case measure => simp [intOf]; omega
    · have dm2 : n - (dby y - 711857) < 365 + lp y := by omega
      go_wp2_with (go_at_call 107; refine (ylen_any y _ (by omega) (by omega)).mono ?_; rintro e w' ⟨rfl, rfl⟩)
      have K0 := Lib.hid (((Blk.new w 90 (d6c 0 0 0 0 0 0)).alloc (.cells (d6c y 1 1 0 0 0) 90)))
      have K1 := Lib.hid (Blk.new (w.alloc (.cells (d6c 0 0 0 0 0 0) 90)) 90 (d6c y 1 1 0 0 0))
      have KB := Lib.hid (((Below.refl w.heap.size w).alloc (Nat.le_refl _) (.cells (d6c 0 0 0 0 0 0) 90)).alloc (by simp) (.cells (d6c y 1 1 0 0 0) 90))
      rw [show (w.alloc (.cells (d6c 0 0 0 0 0 0) 90)).heap.size = w.heap.size + 1 by simp] at K1
      simp only [d6c] at K0 K1 KB
      refine (months_any y _ (by omega) (by omega)).mono ?_
      rintro e w4 ⟨rfl, hb4⟩
      have hs4 : w.heap.size + 2 ≤ w4.heap.size := by have := hb4.size; simp at this; omega
      have HM : Hid (Mon w (w4.alloc (.cells (mlCells (28 + lp y)) 110)) (w.heap.size + 1) w4.heap.size y 1) :=
        ⟨(K0.out.below hb4 (by simp; omega)).alloc _, (K1.out.below hb4 (by simp)).alloc _, Blk.new _ _ _, (Below.step KB.out hb4).alloc (by omega) _⟩
      clear hb4 K0 K1 KB
      simp only [mlCells] at HM ⊢
      go_wp2
      have hbl : w.heap.size + 1 ≠ w4.heap.size := by omega
      generalize w4.alloc (.cells #[.int .i64 31, .int .i64 (28 + lp y), .int .i64 31, .int .i64 30, .int .i64 31, .int .i64 30, .int .i64 31, .int .i64 31, .int .i64 30, .int .i64 31, .int .i64 30, .int .i64 31] 110) = w5 at HM ⊢
      generalize w4.heap.size = bl at HM hbl ⊢
      have HBL := Lib.hid hbl
      clear hbl hs4
      obtain ⟨r, HR⟩ : ∃ r, r = n - (dby y - 711857) := ⟨_, rfl⟩
      rw [← HR]
      have hr0 : 0 ≤ r := by omega
      have hr1 : r < 365 + lp y := by omega
      have HRH := Lib.hid HR
      clear HR dm2
      go_loopw [0] (fun t wr => ∃ m : Int, 1 ≤ m ∧ m ≤ 12 ∧ cum y m ≤ r ∧ t = .int .i64 (r - cum y m) ∧ Mon w wr (w.heap.size + 1) bl y m) (fun t _ => (intOf t).toNat)
      case atStart => exact ⟨1, by omega, by omega, by rw [cum_one]; omega, by rw [cum_one]; simp, HM.out⟩
      case round =>
        obtain ⟨m, hm1, hm2, hm3, rfl, hmon⟩ := hrel
        have HN := Lib.hid hmon
        clear hmon HM
        have c0 := cum_mono (y := y) hm1
        rw [cum_one] at c0
        have mr := ml_rng y m
        have CS := Lib.hid (cum_succ y m hm1 hm2)
        have k1 : wr.cell? ⟨w.heap.size + 1, 1, none⟩ = some (.int .i64 m) := HN.out.2.1.cell 1
        have k2 : wr.cell? ⟨w.heap.size + 1, 2, none⟩ = some (.int .i64 1) := HN.out.2.1.cell 2
        have f1 := HN.out.2.1.free 1
        have f2 := HN.out.2.1.free 2
        have mc := (HN.out.2.2.1.cell (m - 1).toNat).trans (ml_at y m hm1 hm2)
        have mc2 : wr.cell? ⟨bl, m.toNat - 1, none⟩ = some (.int .i64 (ml y m)) := by rw [show m.toNat - 1 = (m - 1).toNat by omega]; exact mc
        by_cases hge' : ml y m ≤ r - cum y m
        · have hm' : m ≤ 11 := by
            rcases (show m ≤ 11 ∨ m = 12 by omega) with h | h
            · exact h
            · have e := CS.out
              rw [h, show (12 : Int) + 1 = 13 from rfl, cum_end] at e
              rw [h] at hge'
              omega
          have HX := Lib.hid (HN.out.next (by omega) HBL.out)
          clear HN
          go_wp2
          go_roundw
          case rel => exact ⟨m + 1, by omega, by omega, by rw [CS.out]; omega, by rw [CS.out]; go_num, HX.out⟩
          case measure => simp [intOf]; omega
        · have hlt' : r - cum y m < ml y m := by omega
          have L1 : Hid (Blk (wr.setCell ⟨w.heap.size + 1, 2, none⟩ (.int .i64 (1 + (r - cum y m)))) (w.heap.size + 1) 90 (d6c y m (1 + (r - cum y m)) 0 0 0)) := HN.out.2.1.set 2 _
          have L0 : Hid (Blk (wr.setCell ⟨w.heap.size + 1, 2, none⟩ (.int .i64 (1 + (r - cum y m)))) w.heap.size 90 (d6c 0 0 0 0 0 0)) := HN.out.1.far (by omega) _ _
          have LB := Lib.hid (HN.out.2.2.2.setCell (p := ⟨w.heap.size + 1, 2, none⟩) (by show w.heap.size ≤ w.heap.size + 1; omega) (.int .i64 (1 + (r - cum y m))))
          have ID : Hid (IsDay n y m (1 + (r - cum y m))) := by have := HRH.out; unfold Hid IsDay; omega
          clear HN
          go_wp2_with (first | refine wpList_load_row rfl 90 (.tmp 3) rfl (w.heap.size + 1) rfl 90 (d6c y m (1 + (r - cum y m)) 0 0 0) (0, 0) (.array 6 3) L1.out Tryd.underlying90 rfl (Tryd.size22 ..) ?_ | refine wpList_store_rowTo rfl 90 (.tmp 2) (.tmp 46) rfl rfl w.heap.size (d6c y m (1 + (r - cum y m)) 0 0 0) rfl rfl 90 (d6c 0 0 0 0 0 0) L0.out (Tryd.size22 ..) rfl (d6c_one ..) ?_)
          (try simp only [Exit.inBlock, Exit.then])
          exact bodyPost_ret (results_cell_row rfl _ _ w.heap.size 90 (d6c y m (1 + (r - cum y m)) 0 0 0) (0, 0) (.array 6 3) rfl (setRow_heap _ _ _ _ 90 _ L0.out) Tryd.underlying90 rfl (Tryd.size22 ..)) rfl ⟨y, m, _, rfl, ID.out, below_setRow LB.out (Nat.le_refl _) _⟩
end Go.Proofs.YtjhffnoddhlikaaDoor.Clk

namespace Go.Proofs.YtjhffnoddhlikaaDoor.Clk
open Go.RowKit

def D6.cells (a : D6) : Array Value := d6c a.y a.m a.d a.h a.i a.s
def zeroD : D6 := ⟨0, 0, 0, 0, 0, 0⟩
/-- What Date answers: the date and true, or zeros and false. -/
def DateR (s : Int) (a : D6) (ok : Bool) : Prop := (ok = true ∧ IsDate s a) ∨ (ok = false ∧ a = zeroD ∧ (s < -631152000 ∨ 7258118399 < s))
def GivesDate (w : World) (s : Int) (e : Ending) (w' : World) : Prop := ∃ a ok, DateR s a ok ∧ e = .returned (.tuple #[.agg a.cells, .bool ok]) ∧ Below w.heap.size w w'

theorem DateR.eq {s : Int} {a b : D6} {p q : Bool} (h : DateR s a p) (k : DateR s b q) : a = b ∧ p = q := by
  rcases h with ⟨rfl, h⟩ | ⟨rfl, rfl, h⟩ <;> rcases k with ⟨rfl, k⟩ | ⟨rfl, rfl, k⟩
  · exact ⟨h.eq k, rfl⟩
  · have := secs_rng h.1; rw [h.2] at this; omega
  · have := secs_rng k.1; rw [k.2] at this; omega
  · exact ⟨rfl, rfl⟩

theorem date_of_day {n t s y m d : Int} (h : IsDay n y m d) (h0 : 0 ≤ t) (h1 : t < 86400) (hs : s = (n - 7305) * 86400 + t) : IsDate s ⟨y, m, d, t / 3600, t % 3600 / 60, t % 60⟩ := by
  obtain ⟨a1, a2, a3, a4, a5, a6, a7⟩ := h
  refine ⟨⟨a1, a2, a3, a4, a5, a6, ?_⟩, ?_⟩
  · simp only; omega
  · unfold secs D6.days D6.clk
    simp only
    omega

/-- Two results: a whole array that lies in memory, and a value. -/
theorem results_row_tmp {P : Program} {fn : Func} {p u : Tmp} {ty : TypeId} (h : fn.results = #[.cell p ty, .tmp u]) (tmps : Array Value) (w : World) (g : Nat) (t : TypeId) (cs : Array Value) (fr : Nat × Nat) (d : TypeDesc)
    (hp : tmps.getD p undef = .pointer (some ⟨g, 0, none⟩)) (hg : w.heap[g]? = some (.cells cs t fr))
    (hu : P.underlying ty = some d) (hd : (match d with | .struct _ | .array _ _ => true | _ => false) = true) (hi : (P.info? ty).map (·.size) = some cs.size) :
    (results fn tmps).run P w = .ok (.tuple #[.agg cs, tmps.getD u undef]) w := by
  rw [results_cell_tmp h, hp]
  simp [asAddr, run_loadVar_row w g t ty cs fr d hg hu hd hi, Result.andThen]

set_option maxRecDepth 100000 in
set_option maxHeartbeats 2000000 in
theorem date_any (s : Int) (w : World) : Calls Tryd.prog 88 #[.int .i64 s] w (GivesDate w s) := by
  by_cases hlo : s < -631152000
  · have t1 : decide (s < -631152000) = true := by simpa using hlo
    go_enter Tryd.func88, Tryd.ntmps88
    go_wp2_with fail
    refine (dby_any 1950 _ (by omega) (by omega)).mono ?_
    rintro e w1 ⟨rfl, rfl⟩
    go_wp2_with fail
    refine (dby_any 1970 _ (by omega) (by omega)).mono ?_
    rintro e w1' ⟨rfl, hw⟩
    subst hw
    rw [dby_1950, dby_1970]
    go_wp2_with fail
    refine (dby_any 2200 _ (by omega) (by omega)).mono ?_
    rintro e w1' ⟨rfl, hw⟩
    subst hw
    go_wp2_with fail
    refine (dby_any 1970 _ (by omega) (by omega)).mono ?_
    rintro e w1' ⟨rfl, hw⟩
    subst hw
    rw [dby_2200, dby_1970]
    go_wp2
    exact bodyPost_ret (v := .tuple #[.agg zeroD.cells, .bool false]) (by simp [results, Tryd.results88, go_sem, D6.cells, d6c, zeroD]) rfl ⟨zeroD, false, .inr ⟨rfl, rfl, .inl hlo⟩, rfl, (Below.refl _ _).alloc (Nat.le_refl _) _⟩
  · have t1 : decide (s < -631152000) = false := by simpa using hlo
    by_cases hhi : 7258118399 < s
    · have t2 : decide (7258118400 ≤ s) = true := by simp; omega
      go_enter Tryd.func88, Tryd.ntmps88
      go_wp2_with fail
      refine (dby_any 1950 _ (by omega) (by omega)).mono ?_
      rintro e w1 ⟨rfl, rfl⟩
      go_wp2_with fail
      refine (dby_any 1970 _ (by omega) (by omega)).mono ?_
      rintro e w1' ⟨rfl, hw⟩
      subst hw
      rw [dby_1950, dby_1970]
      go_wp2_with fail
      refine (dby_any 2200 _ (by omega) (by omega)).mono ?_
      rintro e w1' ⟨rfl, hw⟩
      subst hw
      go_wp2_with fail
      refine (dby_any 1970 _ (by omega) (by omega)).mono ?_
      rintro e w1' ⟨rfl, hw⟩
      subst hw
      rw [dby_2200, dby_1970]
      go_wp2
      exact bodyPost_ret (v := .tuple #[.agg zeroD.cells, .bool false]) (by simp [results, Tryd.results88, go_sem, D6.cells, d6c, zeroD]) rfl ⟨zeroD, false, .inr ⟨rfl, rfl, .inr hhi⟩, rfl, (Below.refl _ _).alloc (Nat.le_refl _) _⟩
    · have t2 : decide (7258118400 ≤ s) = false := by simp; omega
      have hp0 : 0 ≤ s + 631152000 := by omega
      have hp1 : s + 631152000 < 7889270400 := by omega
      have K0 := Lib.hid (Blk.new w 90 (d6c 0 0 0 0 0 0))
      have KB := Lib.hid ((Below.refl w.heap.size w).alloc (Nat.le_refl _) (.cells (d6c 0 0 0 0 0 0) 90))
      simp only [d6c] at K0 KB
      go_enter Tryd.func88, Tryd.ntmps88
      go_wp2_with fail
      refine (dby_any 1950 _ (by omega) (by omega)).mono ?_
      rintro e w1 ⟨rfl, hw⟩
      subst hw
      go_wp2_with fail
      refine (dby_any 1970 _ (by omega) (by omega)).mono ?_
      rintro e w1' ⟨rfl, hw⟩
      subst hw
      rw [dby_1950, dby_1970]
      go_wp2_with fail
      refine (dby_any 2200 _ (by omega) (by omega)).mono ?_
      rintro e w1' ⟨rfl, hw⟩
      subst hw
      go_wp2_with fail
      refine (dby_any 1970 _ (by omega) (by omega)).mono ?_
      rintro e w1' ⟨rfl, hw⟩
      subst hw
      rw [dby_2200, dby_1970]
      go_wp2_with fail
      refine (days_any ((s + 631152000) / 86400) _ (by omega) (by omega)).mono ?_
      rintro e w2 ⟨y, m, d, rfl, hday, hb2⟩
      have ID := Lib.hid (date_of_day (t := (s + 631152000) % 86400) (s := s) hday (by omega) (by omega) (by omega))
      rw [show (s + 631152000) % 86400 % 3600 = (s + 631152000) % 3600 by omega, show (s + 631152000) % 86400 % 60 = (s + 631152000) % 60 by omega] at ID
      clear hday
      have K2 := Lib.hid ((K0.out.below hb2 (by simp)).alloc (.cells (d6c y m d ((s + 631152000) % 86400 / 3600) ((s + 631152000) % 3600 / 60) ((s + 631152000) % 60)) 90))
      have KC := Lib.hid ((Below.step KB.out hb2).alloc (Below.step KB.out hb2).size (.cells (d6c y m d ((s + 631152000) % 86400 / 3600) ((s + 631152000) % 3600 / 60) ((s + 631152000) % 60)) 90))
      clear hb2 K0 KB
      simp only [d6c] at K2 KC ⊢
      go_wp2_with (refine wpList_store_rowTo rfl 90 (.tmp 2) (.tmp 44) rfl rfl w.heap.size (d6c y m d ((s + 631152000) % 86400 / 3600) ((s + 631152000) % 3600 / 60) ((s + 631152000) % 60)) rfl rfl 90 (d6c 0 0 0 0 0 0) K2.out (Tryd.size22 ..) rfl (d6c_one ..) ?_)
      exact bodyPost_ret (results_row_tmp rfl _ _ w.heap.size 90 (d6c y m d ((s + 631152000) % 86400 / 3600) ((s + 631152000) % 3600 / 60) ((s + 631152000) % 60)) (0, 0) (.array 6 3) rfl (setRow_heap _ _ _ _ 90 _ K2.out) Tryd.underlying90 rfl (Tryd.size22 ..)) rfl ⟨_, true, .inl ⟨rfl, ID.out⟩, rfl, below_setRow KC.out (Nat.le_refl _) _⟩

end Go.Proofs.YtjhffnoddhlikaaDoor.Clk

namespace Go.Proofs.YtjhffnoddhlikaaDoor.Clk
open Go.RowKit

/-- The last k digits of a number. -/
def digs : Nat → Int → List Int
  | 0, _ => []
  | k + 1, n => digs k (n / 10) ++ [48 + n % 10]
theorem digs_length (k : Nat) : ∀ n, (digs k n).length = k := by
  induction k with
  | zero => intro n; rfl
  | succ k ih => intro n; rw [digs, List.length_append, ih]; rfl
theorem digs_byte (k : Nat) : ∀ n, ∀ x ∈ digs k n, 48 ≤ x ∧ x ≤ 57 := by
  induction k with
  | zero => intro n x hx; simp [digs] at hx
  | succ k ih =>
    intro n x hx
    rw [digs, List.mem_append] at hx
    rcases hx with hx | hx
    · exact ih _ x hx
    · simp at hx
      omega

/-- A row of the call's own is handed back. -/
def GivesOut (W0 : World) (L : List Int) (e : Ending) (w' : World) : Prop := ∃ V, e = .returned V ∧ Out W0 w' V L

set_option maxHeartbeats 1000000 in
theorem adig_any (W0 : World) : ∀ (k : Nat) (n : Int) (V : Value) (L : List Int) (w : World), k ≤ 4 → 0 ≤ n → n ≤ 100000 → L.length ≤ 1000 → Out W0 w V L → Calls Tryd.prog 102 #[V, .int .i64 n, .int .i64 (k : Int)] w (GivesOut W0 (L ++ digs k n))
  | 0, n, V, L, w, _, _, _, _, ho => by
    have HO := Lib.hid ho
    clear ho
    go_enter Tryd.func102, Tryd.ntmps102
    go_wp2
    go_ret
    exact ⟨V, rfl, by rw [digs, List.append_nil]; exact HO.out⟩
  | k + 1, n, V, L, w, hk, h0, h1, hl, ho => by
    have IH := Lib.hid (adig_any W0 k (n / 10) V L w (by omega) (by omega) (by omega) hl ho)
    clear ho
    have t0 : (((k + 1 : Nat) : Int) == 0) = false := by simp; omega
    have e1 : ((k + 1 : Nat) : Int) - 1 = (k : Int) := by omega
    have b0 : 0 ≤ n % 10 := by omega
    have b1 : n % 10 < 10 := by omega
    have ST : Hid (L ++ digs (k + 1) n = L ++ digs k (n / 10) ++ [48 + n % 10]) := by rw [digs, List.append_assoc]; exact rfl
    have HL : Hid ((L ++ digs k (n / 10)).length ≤ 2000) := Lib.hid (by rw [List.length_append, digs_length]; omega)
    go_enter Tryd.func102, Tryd.ntmps102
    go_wp2_with fail
    refine IH.out.mono ?_
    rintro e w1 ⟨V1, rfl, ho1⟩
    have HO := Lib.hid ho1
    clear ho1 IH
    have RW := Lib.hid (row_const w1 [48 + n % 10] (0, 0) (by simp; omega))
    go_wp2_with (at_builtin; refine out_append (W0 := W0) (L := L ++ digs k (n / 10)) (zs := [48 + n % 10]) rfl _ _ rfl rfl (HO.out.alloc _) rfl RW.out (fun e => by cases e) (by have := HL.out; omega) ?_; intro V2 w2 ho2; have HO2 := Lib.hid ho2; clear ho2)
    go_ret
    exact ⟨V2, rfl, by rw [ST.out]; exact HO2.out⟩

theorem widths_any (long : Bool) (w : World) : Calls Tryd.prog 78 #[.bool long] w fun e w' => e = .returned (.agg (d6c (if long = true then 4 else 2) 2 2 2 2 2)) ∧ Below w.heap.size w w' := by
  cases long
  · go_enter Tryd.func78, Tryd.ntmps78
    go_wp2
    exact bodyPost_ret (v := .agg (d6c 2 2 2 2 2 2)) (by simp [results, Tryd.results78, go_sem, d6c]) rfl ⟨rfl, (Below.refl _ _).alloc (Nat.le_refl _) _⟩
  · go_enter Tryd.func78, Tryd.ntmps78
    go_wp2
    exact bodyPost_ret (v := .agg (d6c 4 2 2 2 2 2)) (by simp [results, Tryd.results78, go_sem, d6c]) rfl ⟨rfl, (Below.refl _ _).alloc (Nat.le_refl _) _⟩

/-- A date's digits, with four of its year. -/
def D6.txt (a : D6) : List Int := digs 4 a.y ++ digs 2 a.m ++ digs 2 a.d ++ digs 2 a.h ++ digs 2 a.i ++ digs 2 a.s
def D6.long (a : D6) : List Int := a.txt ++ [90]
theorem D6.long_length (a : D6) : a.long.length = 15 := by
  unfold D6.long D6.txt
  simp [digs_length]
theorem D6.long_byte (a : D6) : ∀ x ∈ a.long, 0 ≤ x ∧ x ≤ 255 := by
  intro x hx
  unfold D6.long D6.txt at hx
  simp only [List.mem_append, List.mem_singleton] at hx
  rcases hx with (((((h | h) | h) | h) | h) | h) | h
  all_goals first | (have := digs_byte _ _ x h; omega) | omega

/-- The digits of its first k parts. -/
def D6.upto (a : D6) : Nat → List Int
  | 0 => []
  | 1 => digs 4 a.y
  | 2 => digs 4 a.y ++ digs 2 a.m
  | 3 => digs 4 a.y ++ digs 2 a.m ++ digs 2 a.d
  | 4 => digs 4 a.y ++ digs 2 a.m ++ digs 2 a.d ++ digs 2 a.h
  | 5 => digs 4 a.y ++ digs 2 a.m ++ digs 2 a.d ++ digs 2 a.h ++ digs 2 a.i
  | _ => a.txt
theorem D6.upto_length (a : D6) (k : Nat) : (a.upto k).length ≤ 14 := by
  rcases k with _ | _ | _ | _ | _ | _ | k
  all_goals simp [D6.upto, D6.txt, digs_length]

/-- What is newer than W1 is newer than W0. -/
theorem _root_.Go.Proofs.YtjhffnoddhlikaaDoor.Out.weaken {W0 W1 wr : World} {V : Value} {L : List Int} (h : Out W1 wr V L) (hb : Below W0.heap.size W0 W1) : Out W0 wr V L := by
  refine ⟨⟨h.1.1, ?_⟩, hb.trans (h.2.mono hb.size)⟩
  rcases h.1.2 with h' | ⟨g, cap, cur, e, h1, h2⟩
  · exact .inl h'
  · exact .inr ⟨g, cap, cur, e, Nat.le_trans hb.size h1, h2⟩

theorem make15 (W : World) : (Instr.makeSlice 23 (.int .i64 0) (.int .i64 15)).run Tryd.prog W = .ok (.slice (some ⟨W.heap.size, 0, none⟩) 0 15) (W.alloc (.cells (madeCells #[.int .u8 0] 15) 5)) := make_bytes 15 (by omega) W

set_option maxRecDepth 100000 in
set_option maxHeartbeats 2000000 in
theorem written_any (y m d h i s : Int) (w : World) (hok : (⟨y, m, d, h, i, s⟩ : D6).ok) : Calls Tryd.prog 89 #[.agg (d6c y m d h i s)] w (GivesOut w (⟨y, m, d, h, i, s⟩ : D6).long) := by
  obtain ⟨i0, i1, i2, i3, i4, i5⟩ := date_index (.int .i64 4) (.int .i64 2) (.int .i64 2) (.int .i64 2) (.int .i64 2) (.int .i64 2)
  obtain ⟨h1, h2, h3, h4, h5, h6, h7, h8, h9, h10, h11, h12⟩ := hok
  simp only at h1 h2 h3 h4 h5 h6 h7 h8 h9 h10 h11 h12
  have hl := ml_rng y m
  have hmk := make15
  have K0 := Lib.hid (Blk.new w 90 (d6c y m d h i s))
  have HS := Lib.hid (Out.made (W0 := w.alloc (.cells (d6c y m d h i s) 90)) 15 (by omega))
  rw [show (w.alloc (.cells (d6c y m d h i s) 90)).heap.size = w.heap.size + 1 by simp] at HS
  simp only [d6c] at HS K0 ⊢
  go_enter Tryd.func89, Tryd.ntmps89
  go_wp2_with fail
  refine (widths_any true _).mono ?_
  rintro e w2 ⟨rfl, hb2⟩
  rw [if_pos rfl]
  simp only [d6c]
  have HO := Lib.hid (HS.out.below hb2)
  clear hb2 HS hmk
  go_wp2
  obtain ⟨W1, HW1⟩ : ∃ W1, W1 = w.alloc (.cells #[.int .i64 y, .int .i64 m, .int .i64 d, .int .i64 h, .int .i64 i, .int .i64 s] 90) := ⟨_, rfl⟩
  have B1 : Hid (Below w.heap.size w W1) := by rw [HW1]; exact (Below.refl _ _).alloc (Nat.le_refl _) _
  have hs1 : w.heap.size + 1 = W1.heap.size := by rw [HW1]; simp
  rw [← HW1] at K0 HO
  clear HW1
  have HS1 := Lib.hid hs1
  clear hs1
  go_loopw [3, 8] (fun V t wr => ∃ k : Nat, k ≤ 6 ∧ t = .int .i64 (k : Int) ∧ Out W1 wr V ((⟨y, m, d, h, i, s⟩ : D6).upto k)) (fun _ t _ => 6 - (intOf t).toNat)
  case atStart => exact ⟨0, by omega, rfl, HO.out⟩
  case round =>
    obtain ⟨k, hk, rfl, hout⟩ := hrel
    have HR := Lib.hid hout
    clear hout HO
    have hul := (⟨y, m, d, h, i, s⟩ : D6).upto_length k
    have bw : w.heap.size < W1.heap.size := by have := HS1.out; omega
    have K2 := Lib.hid (K0.out.below HR.out.2 bw)
    clear bw
    rcases k with _ | _ | _ | _ | _ | _ | _ | k
    · have c : wr.cell? ⟨w.heap.size, 0, none⟩ = some (.int .i64 y) := K2.out.cell 0
      go_wp2_with fail
      refine (adig_any W1 4 y _ _ _ (by omega) (by omega) (by omega) (by omega) HR.out).mono ?_
      rintro e w3 ⟨V3, rfl, ho3⟩
      have HO3 := Lib.hid ho3
      clear ho3 HR
      go_wp2
      go_roundw
      case rel => exact ⟨1, by omega, by go_num, HO3.out⟩
      case measure => simp [intOf]
    · have c : wr.cell? ⟨w.heap.size, 1, none⟩ = some (.int .i64 m) := K2.out.cell 1
      go_wp2_with fail
      refine (adig_any W1 2 m _ _ _ (by omega) (by omega) (by omega) (by omega) HR.out).mono ?_
      rintro e w3 ⟨V3, rfl, ho3⟩
      have HO3 := Lib.hid ho3
      clear ho3 HR
      go_wp2
      go_roundw
      case rel => exact ⟨2, by omega, by go_num, HO3.out⟩
      case measure => simp [intOf]
    · have c : wr.cell? ⟨w.heap.size, 2, none⟩ = some (.int .i64 d) := K2.out.cell 2
      go_wp2_with fail
      refine (adig_any W1 2 d _ _ _ (by omega) (by omega) (by omega) (by omega) HR.out).mono ?_
      rintro e w3 ⟨V3, rfl, ho3⟩
      have HO3 := Lib.hid ho3
      clear ho3 HR
      go_wp2
      go_roundw
      case rel => exact ⟨3, by omega, by go_num, HO3.out⟩
      case measure => simp [intOf]
    · have c : wr.cell? ⟨w.heap.size, 3, none⟩ = some (.int .i64 h) := K2.out.cell 3
      go_wp2_with fail
      refine (adig_any W1 2 h _ _ _ (by omega) (by omega) (by omega) (by omega) HR.out).mono ?_
      rintro e w3 ⟨V3, rfl, ho3⟩
      have HO3 := Lib.hid ho3
      clear ho3 HR
      go_wp2
      go_roundw
      case rel => exact ⟨4, by omega, by go_num, HO3.out⟩
      case measure => simp [intOf]
    · have c : wr.cell? ⟨w.heap.size, 4, none⟩ = some (.int .i64 i) := K2.out.cell 4
      go_wp2_with fail
      refine (adig_any W1 2 i _ _ _ (by omega) (by omega) (by omega) (by omega) HR.out).mono ?_
      rintro e w3 ⟨V3, rfl, ho3⟩
      have HO3 := Lib.hid ho3
      clear ho3 HR
      go_wp2
      go_roundw
      case rel => exact ⟨5, by omega, by go_num, HO3.out⟩
      case measure => simp [intOf]
    · have c : wr.cell? ⟨w.heap.size, 5, none⟩ = some (.int .i64 s) := K2.out.cell 5
      go_wp2_with fail
      refine (adig_any W1 2 s _ _ _ (by omega) (by omega) (by omega) (by omega) HR.out).mono ?_
      rintro e w3 ⟨V3, rfl, ho3⟩
      have HO3 := Lib.hid ho3
      clear ho3 HR
      go_wp2
      go_roundw
      case rel => exact ⟨6, by omega, by go_num, HO3.out⟩
      case measure => simp [intOf]
    · have RW := Lib.hid (row_const wr [90] (0, 0) (by simp))
      go_wp2_with (at_builtin; refine out_append (W0 := W1) (zs := [90]) rfl _ _ rfl rfl (HR.out.alloc _) rfl RW.out (fun e => by cases e) (by omega) ?_; intro V2 w2 ho2; have HO2 := Lib.hid ho2; clear ho2)
      go_ret
      exact ⟨V2, rfl, HO2.out.weaken B1.out⟩
    · omega

end Go.Proofs.YtjhffnoddhlikaaDoor.Clk

namespace Go.Proofs.YtjhffnoddhlikaaDoor.Clk
open Go.RowKit

def LongR (s : Int) (S : ByteArray) (ok : Bool) : Prop := (ok = true ∧ ∃ a, IsDate s a ∧ S = strOfNums a.long) ∨ (ok = false ∧ S = ⟨#[]⟩ ∧ (s < -631152000 ∨ 7258118399 < s))
def ShortR (s : Int) (S : ByteArray) (ok : Bool) : Prop := (ok = true ∧ ∃ a, IsDate s a ∧ a.y < 2050 ∧ S = strOfNums (a.long.drop 2)) ∨ (ok = false ∧ S = ⟨#[]⟩ ∧ ((s < -631152000 ∨ 7258118399 < s) ∨ ∃ a, IsDate s a ∧ 2050 ≤ a.y))
def TextR (s : Int) (S : ByteArray) (ok : Bool) : Prop := (ok = true ∧ ShortR s S true) ∨ (ShortR s ⟨#[]⟩ false ∧ LongR s S ok)
def GivesT (R : ByteArray → Bool → Prop) (w : World) (e : Ending) (w' : World) : Prop := ∃ S ok, R S ok ∧ e = .returned (.tuple #[.string S, .bool ok]) ∧ Below w.heap.size w w'

theorem no_date {s : Int} {a : D6} (h : IsDate s a) : ¬ (s < -631152000 ∨ 7258118399 < s) := by
  have := secs_rng h.1
  rw [h.2] at this
  omega
theorem LongR.eq {s : Int} {S T : ByteArray} {p q : Bool} (h : LongR s S p) (k : LongR s T q) : S = T ∧ p = q := by
  rcases h with ⟨rfl, a, ha, rfl⟩ | ⟨rfl, rfl, h⟩ <;> rcases k with ⟨rfl, b, hb, rfl⟩ | ⟨rfl, rfl, k⟩
  · rw [ha.eq hb]; exact ⟨rfl, rfl⟩
  · exact absurd k (no_date ha)
  · exact absurd h (no_date hb)
  · exact ⟨rfl, rfl⟩
theorem ShortR.eq {s : Int} {S T : ByteArray} {p q : Bool} (h : ShortR s S p) (k : ShortR s T q) : S = T ∧ p = q := by
  rcases h with ⟨rfl, a, ha, hy, rfl⟩ | ⟨rfl, rfl, h⟩ <;> rcases k with ⟨rfl, b, hb, hy', rfl⟩ | ⟨rfl, rfl, k⟩
  · rw [ha.eq hb]; exact ⟨rfl, rfl⟩
  · rcases k with k | ⟨b, hb, hy'⟩
    · exact absurd k (no_date ha)
    · rw [ha.eq hb] at hy; omega
  · rcases h with h | ⟨a, ha, hy⟩
    · exact absurd h (no_date hb)
    · rw [ha.eq hb] at hy; omega
  · exact ⟨rfl, rfl⟩
theorem TextR.eq {s : Int} {S T : ByteArray} {p q : Bool} (h : TextR s S p) (k : TextR s T q) : S = T ∧ p = q := by
  rcases h with ⟨rfl, h⟩ | ⟨h, h'⟩ <;> rcases k with ⟨rfl, k⟩ | ⟨k, k'⟩
  · exact ⟨(h.eq k).1, rfl⟩
  · have := (h.eq k).2; cases this
  · have := (h.eq k).2; cases this
  · exact h'.eq k'

/-- What is cut off a row behind its first two. -/
theorem _root_.Go.Proofs.YtjhffnoddhlikaaDoor.Row.two {w : World} {g n : Nat} {zs : List Int} (h : Row w (some ⟨g, 0, none⟩) n zs) (h2 : 2 ≤ n) : Row w (some ⟨g, 2, none⟩) (n - 2) (zs.drop 2) := by
  have hl := h.1
  refine ⟨by rw [List.length_drop]; omega, fun x hx => h.2.1 x (List.mem_of_mem_drop hx), fun h0 => ?_⟩
  obtain ⟨b, off, e, hb, hc⟩ := h.2.2 (by omega)
  injection e with e
  injection e with e1 e2
  subst e1 e2
  exact ⟨g, 2, rfl, hb, fun i hi => by rw [show 2 + i = 0 + (2 + i) by omega, hc (2 + i) (by omega), List.getElem?_drop]⟩

set_option maxHeartbeats 1000000 in
theorem long_any (s : Int) (w : World) : Calls Tryd.prog 75 #[.int .i64 s] w (GivesT (LongR s) w) := by
  have C := Lib.hid (date_any s w)
  go_enter Tryd.func75, Tryd.ntmps75
  go_wp2_with fail
  refine C.out.mono ?_
  rintro e w1 ⟨a, ok, hR, rfl, hb1⟩
  clear C
  have B1 := Lib.hid hb1
  clear hb1
  rcases hR with ⟨rfl, hd⟩ | ⟨rfl, rfl, ho⟩
  · have HD := Lib.hid hd
    clear hd
    obtain ⟨y, m, d, h, i, s'⟩ := a
    simp only [D6.cells, d6c]
    go_wp2_with fail
    refine (written_any y m d h i s' _ HD.out.1).mono ?_
    rintro e w2 ⟨V, rfl, ho⟩
    obtain ⟨A, C, rfl, hrow⟩ := ho.row (D6.long_byte _)
    have kc := conv_at C hrow
    have B2 := Lib.hid (Below.step ((B1.out).alloc B1.out.size _) ho.2)
    clear ho hrow
    go_wp2
    go_ret2
    exact ⟨_, true, .inl ⟨rfl, _, HD.out, rfl⟩, rfl, B2.out⟩
  · simp only [D6.cells, d6c, zeroD]
    go_wp2
    go_ret2
    exact ⟨_, false, .inr ⟨rfl, rfl, ho⟩, rfl, B1.out.alloc B1.out.size _⟩

set_option maxHeartbeats 1000000 in
theorem short_any (s : Int) (w : World) : Calls Tryd.prog 74 #[.int .i64 s] w (GivesT (ShortR s) w) := by
  have C := Lib.hid (date_any s w)
  go_enter Tryd.func74, Tryd.ntmps74
  go_wp2_with fail
  refine C.out.mono ?_
  rintro e w1 ⟨a, ok, hR, rfl, hb1⟩
  clear C
  have B1 := Lib.hid hb1
  clear hb1
  rcases hR with ⟨rfl, hd⟩ | ⟨rfl, rfl, ho⟩
  · have HD := Lib.hid hd
    clear hd
    obtain ⟨y, m, d, h, i, s'⟩ := a
    simp only [D6.cells, d6c]
    by_cases hy : 2050 ≤ y
    · go_wp2
      go_ret2
      exact ⟨_, false, .inr ⟨rfl, rfl, .inr ⟨_, HD.out, hy⟩⟩, rfl, B1.out.alloc B1.out.size _⟩
    · have hy' : decide (2050 ≤ y) = false := by simpa using hy
      go_wp2_with fail
      refine (written_any y m d h i s' _ HD.out.1).mono ?_
      rintro e w2 ⟨V, rfl, ho⟩
      obtain ⟨g, C, hV, _⟩ := ho.form (by rw [D6.long_length]; omega)
      have hcap : (15 : Nat) ≤ C := by have := ho.1; rw [hV] at this; have := own_cap this; rw [D6.long_length] at this; exact this
      subst hV
      have hrow := Row.of_own ho.1 (D6.long_byte _)
      rw [D6.long_length] at hrow ⊢
      have kc := conv_at 13 (hrow.two (by omega))
      have B2 := Lib.hid (Below.step ((B1.out).alloc B1.out.size _) ho.2)
      clear ho hrow
      go_wp2
      go_ret2
      exact ⟨_, true, .inl ⟨rfl, _, HD.out, by simp only; omega, rfl⟩, rfl, B2.out⟩
  · simp only [D6.cells, d6c, zeroD]
    go_wp2
    go_ret2
    exact ⟨_, false, .inr ⟨rfl, rfl, .inl ho⟩, rfl, B1.out.alloc B1.out.size _⟩

set_option maxHeartbeats 1000000 in
theorem text_any (s : Int) (w : World) : Calls Tryd.prog 64 #[.int .i64 s] w (GivesT (TextR s) w) := by
  have C := Lib.hid (short_any s w)
  go_enter Tryd.func64, Tryd.ntmps64
  go_wp2_with fail
  refine C.out.mono ?_
  rintro e w1 ⟨S, ok, hR, rfl, hb1⟩
  clear C
  have B1 := Lib.hid hb1
  have HR := Lib.hid hR
  clear hb1 hR
  cases ok
  · go_wp2_with fail
    refine (long_any s _).mono ?_
    rintro e w2 ⟨S', ok', hR', rfl, hb2⟩
    have B2 := Lib.hid (Below.step B1.out hb2)
    have HT : Hid (TextR s S' ok') := .inr ⟨by
      rcases HR.out with ⟨h, _⟩ | ⟨h, e, h'⟩
      · cases h
      · rw [← e]; exact HR.out, hR'⟩
    clear hb2 hR'
    go_wp2
    go_ret2
    exact ⟨S', ok', HT.out, rfl, B2.out⟩
  · go_wp2
    go_ret2
    exact ⟨S, true, .inl ⟨rfl, HR.out⟩, rfl, B1.out⟩

end Go.Proofs.YtjhffnoddhlikaaDoor.Clk

namespace Go.Proofs.YtjhffnoddhlikaaDoor.Clk
open Go.RowKit

/-- The number of plain digits. -/
def nz (v : Int) : List Int → Option Int
  | [] => some v
  | c :: r => if 48 ≤ c ∧ c ≤ 57 then nz (v * 10 + (c - 48)) r else none

theorem nz_snoc : ∀ (xs : List Int) (v c : Int), nz v (xs ++ [c]) = (nz v xs).bind (fun n => if 48 ≤ c ∧ c ≤ 57 then some (n * 10 + (c - 48)) else none)
  | [], v, c => by simp [nz]
  | x :: xs, v, c => by
    simp only [List.cons_append, nz]
    split
    · exact nz_snoc xs _ c
    · rfl
theorem nz_digs : ∀ (k : Nat) (n : Int), 0 ≤ n → n < 10 ^ k → nz 0 (digs k n) = some n
  | 0, n, h0, h1 => by
    simp at h1
    have : n = 0 := by omega
    subst this
    rfl
  | k + 1, n, h0, h1 => by
    have h2 : n / 10 < 10 ^ k := by
      rw [Int.pow_succ] at h1
      generalize (10 : Int) ^ k = q at *
      omega
    rw [digs, nz_snoc, nz_digs k (n / 10) (by omega) h2]
    simp only [Option.bind_some]
    rw [if_pos (by omega)]
    congr 1
    omega
theorem digs_nz : ∀ (k : Nat) (ds : List Int) (n : Int), ds.length = k → nz 0 ds = some n → digs k n = ds ∧ 0 ≤ n
  | 0, ds, n, hl, h => by
    have : ds = [] := List.eq_nil_of_length_eq_zero hl
    subst this
    simp [nz] at h
    subst h
    exact ⟨rfl, Int.le_refl _⟩
  | k + 1, ds, n, hl, h => by
    obtain ⟨xs, c, rfl⟩ : ∃ xs c, ds = xs ++ [c] := ⟨ds.dropLast, ds.getLast (by intro e; subst e; simp at hl), (List.dropLast_concat_getLast _).symm⟩
    rw [nz_snoc] at h
    cases hx : nz 0 xs with
    | none => rw [hx] at h; cases h
    | some m =>
      rw [hx] at h
      simp only [Option.bind_some] at h
      split at h
      · rename_i hc
        injection h with h
        have ih := digs_nz k xs m (by simp at hl; omega) hx
        subst h
        rw [digs, show (m * 10 + (c - 48)) / 10 = m by omega, show (m * 10 + (c - 48)) % 10 = c - 48 by omega, ih.1]
        refine ⟨?_, by omega⟩
        congr 2
        omega
      · cases h
theorem nz_rng : ∀ (ds : List Int) (v n : Int), 0 ≤ v → nz v ds = some n → 0 ≤ n ∧ n < (v + 1) * 10 ^ ds.length
  | [], v, n, h0, h => by
    simp [nz] at h
    subst h
    simp
    omega
  | c :: r, v, n, h0, h => by
    rw [nz] at h
    split at h
    · have ih := nz_rng r _ n (by omega) h
      refine ⟨ih.1, Int.lt_of_lt_of_le ih.2 ?_⟩
      rw [List.length_cons, Int.pow_succ, ← Int.mul_assoc, Int.mul_right_comm]
      exact Int.mul_le_mul_of_nonneg_right (by omega) (Int.le_of_lt (Int.pow_pos (by decide)))
    · cases h

def GivesN (w : World) (r : Option Int) (e : Ending) (w' : World) : Prop := e = .returned (.tuple #[.int .i64 (r.getD 0), .bool r.isSome]) ∧ w' = w

set_option maxHeartbeats 1000000 in
theorem number_any (a : Option Addr) (n ca : Nat) (zs : List Int) (w : World) (hx : Row w a n zs) (hn : n ≤ 4) : Calls Tryd.prog 79 #[.slice a n ca] w (GivesN w (nz 0 zs)) := by
  have HX := Lib.hid hx
  clear hx
  go_enter Tryd.func79, Tryd.ntmps79
  go_wp2
  go_loop [4, 9] (fun v i => ∃ (k : Nat) (x : Int), k ≤ n ∧ i = .int .i64 (k : Int) ∧ v = .int .i64 x ∧ 0 ≤ x ∧ x + 1 ≤ 10 ^ k ∧ nz 0 zs = nz x (zs.drop k)) (fun _ i => n - (intOf i).toNat)
  case atStart => exact ⟨0, 0, by omega, rfl, rfl, by omega, by simp, rfl⟩
  case round =>
    obtain ⟨k, x, hk, rfl, rfl, hx0, hx1, hr⟩ := hrel
    have HR := Lib.hid hr
    clear hr
    have hx2 : x ≤ 100000000 := by
      have : (10 : Int) ^ k ≤ 10 ^ 4 := by
        rcases (show k = 0 ∨ k = 1 ∨ k = 2 ∨ k = 3 ∨ k = 4 by omega) with rfl | rfl | rfl | rfl | rfl <;> decide
      omega
    by_cases hlt : k < n
    · obtain ⟨b, off, rfl, _, hcell⟩ := HX.out.2.2 (by omega)
      have c := hcell k hlt
      have hb := HX.out.byte k
      have HS : Hid (zs.drop k = zs[k]?.getD 0 :: zs.drop (k + 1)) := by
        have hl : k < zs.length := by rw [HX.out.1]; exact hlt
        unfold Hid
        rw [List.drop_eq_getElem_cons hl, List.getElem?_eq_getElem hl]
        rfl
      have HP : Hid ((10 : Int) ^ (k + 1) = 10 * 10 ^ k) := by unfold Hid; rw [Int.pow_succ]; omega
      generalize zs[k]?.getD 0 = z at c hb HS
      by_cases c1 : z < 48
      · have t1 : decide (z < 48) = true := by simpa using c1
        have E : Hid (nz 0 zs = none) := by unfold Hid; rw [HR.out, HS.out, nz, if_neg (by omega)]
        clear hcell hx1
        go_wp2
        go_ret2
        exact ⟨by rw [E.out]; rfl, rfl⟩
      · have t1 : decide (z < 48) = false := by simpa using c1
        by_cases c2 : 57 < z
        · have t2 : decide (57 < z) = true := by simpa using c2
          have E : Hid (nz 0 zs = none) := by unfold Hid; rw [HR.out, HS.out, nz, if_neg (by omega)]
          clear hcell hx1
          go_wp2
          go_ret2
          exact ⟨by rw [E.out]; rfl, rfl⟩
        · have t2 : decide (57 < z) = false := by simpa using c2
          have E : Hid (nz 0 zs = nz (x * 10 + (z - 48)) (zs.drop (k + 1))) := by unfold Hid; rw [HR.out, HS.out, nz, if_pos (by omega)]
          have HX1 := Lib.hid hx1
          clear hcell hx1
          go_wp2
          go_round
          case rel => exact ⟨k + 1, x * 10 + (z - 48), by omega, by go_num, rfl, by omega, by have := HX1.out; have h2 : (1 : Int) ≤ 10 ^ k := Int.pow_pos (by decide); rw [HP.out]; omega, E.out⟩
          case measure => simp [intOf]; omega
    · have E : Hid (nz 0 zs = some x) := by unfold Hid; rw [HR.out, List.drop_of_length_le (by rw [HX.out.1]; omega)]; rfl
      clear hx1
      go_wp2
      go_ret2
      exact ⟨by rw [E.out]; rfl, rfl⟩

/-- The year that ends with two digits. -/
def fullY (n : Int) : Int := if 1950 ≤ 1900 + n then 1900 + n else 2000 + n
theorem full_any (n : Int) (w : World) (h0 : 0 ≤ n) (h1 : n ≤ 1000000) : Calls Tryd.prog 80 #[.int .i64 n] w fun e w' => e = .returned (.int .i64 (fullY n)) ∧ w' = w := by
  have HF : Hid (fullY n = if 1950 ≤ 1900 + n then 1900 + n else 2000 + n) := rfl
  by_cases c : 1950 ≤ 1900 + n
  · rw [if_pos c] at HF
    have t : decide (1950 ≤ 1900 + n) = true := by simpa using c
    go_enter Tryd.func80, Tryd.ntmps80
    go_wp2
    go_ret
    exact ⟨same_int HF.out.symm, rfl⟩
  · rw [if_neg c] at HF
    have t : decide (1950 ≤ 1900 + n) = false := by simpa using c
    go_enter Tryd.func80, Tryd.ntmps80
    go_wp2
    go_ret
    exact ⟨same_int HF.out.symm, rfl⟩

end Go.Proofs.YtjhffnoddhlikaaDoor.Clk
