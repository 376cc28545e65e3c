/-
  Plain facts on dates and seconds, for stage 3 (clock). Nothing of the program is named here.
-/
import Derived.WalkKit
namespace Go.Proofs.Ytebefamnmmbdnaa
open Go.RowKit

/-- Has a year 366 days? -/
def lpB (y : Int) : Bool := decide (y % 4 = 0 ∧ (y % 100 ≠ 0 ∨ y % 400 = 0))
def lp (y : Int) : Int := if lpB y = true then 1 else 0
theorem lp_01 (y : Int) : 0 ≤ lp y ∧ lp y ≤ 1 := by unfold lp; split <;> omega
/-- The days ahead of a year, from the beginning of year 1 on. -/
def dby (y : Int) : Int := (y - 1) * 365 + (y - 1) / 4 - (y - 1) / 100 + (y - 1) / 400
theorem dby_succ (y : Int) : dby (y + 1) = dby y + 365 + lp y := by
  unfold dby lp lpB
  by_cases h : y % 4 = 0 ∧ (y % 100 ≠ 0 ∨ y % 400 = 0)
  · rw [if_pos (by simpa using h)]
    omega
  · rw [if_neg (by simpa using h)]
    omega
theorem dby_mono {a b : Int} (h : a ≤ b) : dby a ≤ dby b := by
  unfold dby
  omega
theorem dby_1970 : dby 1970 = 719162 := by decide
theorem dby_1950 : dby 1950 = 711857 := by decide
theorem dby_2200 : dby 2200 = 803168 := by decide

/-- A month's last day. -/
def ml (y m : Int) : Int := if m = 2 then 28 + lp y else if m = 4 ∨ m = 6 ∨ m = 9 ∨ m = 11 then 30 else 31
/-- The days of a year ahead of a month. -/
def cum (y m : Int) : Int := (367 * m - 362) / 12 - (if m ≤ 2 then 0 else 2 - lp y)
theorem cum_one (y : Int) : cum y 1 = 0 := by unfold cum; omega
theorem cum_end (y : Int) : cum y 13 = 365 + lp y := by unfold cum; omega
theorem cum_succ (y m : Int) (h1 : 1 ≤ m) (h2 : m ≤ 12) : cum y (m + 1) = cum y m + ml y m := by
  have : m = 1 ∨ m = 2 ∨ m = 3 ∨ m = 4 ∨ m = 5 ∨ m = 6 ∨ m = 7 ∨ m = 8 ∨ m = 9 ∨ m = 10 ∨ m = 11 ∨ m = 12 := by omega
  unfold cum ml
  rcases this with rfl | rfl | rfl | rfl | rfl | rfl | rfl | rfl | rfl | rfl | rfl | rfl <;> simp <;> omega
theorem cum_mono {y m n : Int} (h : m ≤ n) : cum y m ≤ cum y n := by
  have := lp_01 y
  unfold cum
  split <;> split <;> omega
theorem ml_rng (y m : Int) : 28 ≤ ml y m ∧ ml y m ≤ 31 := by
  have := lp_01 y
  unfold ml
  repeat' split
  all_goals omega

/-- A date's six parts. -/
structure D6 where
  y : Int
  m : Int
  d : Int
  h : Int
  i : Int
  s : Int

/-- Is it a date? -/
def D6.ok (a : D6) : Prop := 1950 ≤ a.y ∧ a.y ≤ 2199 ∧ 1 ≤ a.m ∧ a.m ≤ 12 ∧ 1 ≤ a.d ∧ a.d ≤ ml a.y a.m ∧ 0 ≤ a.h ∧ a.h ≤ 23 ∧ 0 ≤ a.i ∧ a.i ≤ 59 ∧ 0 ≤ a.s ∧ a.s ≤ 59
/-- A date's days, from the beginning of 1950 on. -/
def D6.days (a : D6) : Int := dby a.y - 711857 + cum a.y a.m + (a.d - 1)
def D6.clk (a : D6) : Int := a.h * 3600 + a.i * 60 + a.s
def secs (a : D6) : Int := (a.days - 7305) * 86400 + a.clk

theorem D6.days_bd {a : D6} (h : a.ok) : dby a.y - 711857 ≤ a.days ∧ a.days < dby (a.y + 1) - 711857 := by
  obtain ⟨_, _, h3, h4, h5, h6, _⟩ := h
  have c1 := cum_mono (y := a.y) h3
  have c2 := cum_mono (y := a.y) (show a.m + 1 ≤ 13 by omega)
  rw [cum_succ _ _ h3 h4, cum_end] at c2
  rw [cum_one] at c1
  rw [dby_succ]
  unfold D6.days
  omega
theorem D6.days_rng {a : D6} (h : a.ok) : 0 ≤ a.days ∧ a.days ≤ 91310 := by
  have b := D6.days_bd h
  have m1 := dby_mono h.1
  have m2 := dby_mono (show a.y + 1 ≤ 2200 by have := h.2.1; omega)
  rw [dby_1950] at m1
  rw [dby_2200] at m2
  omega
theorem D6.clk_rng {a : D6} (h : a.ok) : 0 ≤ a.clk ∧ a.clk < 86400 := by
  obtain ⟨_, _, _, _, _, _, h7, h8, h9, h10, h11, h12⟩ := h
  unfold D6.clk
  omega
theorem secs_rng {a : D6} (h : a.ok) : -631152000 ≤ secs a ∧ secs a ≤ 7258118399 := by
  have b := D6.days_rng h
  have c := D6.clk_rng h
  unfold secs
  omega

/-- Which of two dates is earlier. -/
def D6.lt (a b : D6) : Prop := a.y < b.y ∨ a.y = b.y ∧ (a.m < b.m ∨ a.m = b.m ∧ (a.d < b.d ∨ a.d = b.d ∧ (a.h < b.h ∨ a.h = b.h ∧ (a.i < b.i ∨ a.i = b.i ∧ a.s < b.s))))

theorem days_lt {a b : D6} (ha : a.ok) (hb : b.ok) (h : a.y < b.y ∨ a.y = b.y ∧ (a.m < b.m ∨ a.m = b.m ∧ a.d < b.d)) : a.days < b.days := by
  rcases h with h | ⟨h, h1⟩
  · have h1 := (D6.days_bd ha).2
    have h2 := (D6.days_bd hb).1
    have h3 := dby_mono (show a.y + 1 ≤ b.y by omega)
    omega
  · obtain ⟨_, _, h3, h4, h5, h6, _⟩ := ha
    have hb1 := hb.2.2.2.2.1
    unfold D6.days
    rw [← h]
    rcases h1 with h1 | ⟨h1, h2⟩
    · have c := cum_mono (y := a.y) (show a.m + 1 ≤ b.m by omega)
      rw [cum_succ _ _ h3 h4] at c
      omega
    · rw [← h1]
      omega
theorem secs_lt {a b : D6} (ha : a.ok) (hb : b.ok) (h : a.lt b) : secs a < secs b := by
  have ca := D6.clk_rng ha
  have cb := D6.clk_rng hb
  have key : a.days < b.days ∨ a.days = b.days ∧ a.clk < b.clk := by
    rcases h with h | ⟨h1, h⟩
    · exact .inl (days_lt ha hb (.inl h))
    · rcases h with h | ⟨h2, h⟩
      · exact .inl (days_lt ha hb (.inr ⟨h1, .inl h⟩))
      · rcases h with h | ⟨h3, h⟩
        · exact .inl (days_lt ha hb (.inr ⟨h1, .inr ⟨h2, h⟩⟩))
        · refine .inr ⟨by unfold D6.days; rw [h1, h2, h3], ?_⟩
          obtain ⟨_, _, _, _, _, _, h7, h8, h9, h10, h11, h12⟩ := ha
          obtain ⟨_, _, _, _, _, _, g7, g8, g9, g10, g11, g12⟩ := hb
          unfold D6.clk
          omega
  unfold secs
  omega
theorem lt_or {a b : D6} : a.lt b ∨ a = b ∨ b.lt a := by
  cases a
  cases b
  simp only [D6.lt, D6.mk.injEq]
  omega
theorem lt_not {a b : D6} (h : a.lt b) : ¬ b.lt a ∧ a ≠ b := by
  cases a
  cases b
  simp only [D6.lt, D6.mk.injEq, ne_eq] at *
  omega
theorem secs_inj {a b : D6} (ha : a.ok) (hb : b.ok) (h : secs a = secs b) : a = b := by
  rcases lt_or (a := a) (b := b) with h1 | h1 | h1
  · have := secs_lt ha hb h1; omega
  · exact h1
  · have := secs_lt hb ha h1; omega

/-- The date with these seconds. -/
def IsDate (s : Int) (a : D6) : Prop := a.ok ∧ secs a = s
theorem IsDate.eq {s : Int} {a b : D6} (h : IsDate s a) (k : IsDate s b) : a = b := secs_inj h.1 k.1 (h.2.trans k.2.symm)

/-- A second more. -/
def D6.next (a : D6) : D6 :=
  if a.s < 59 then { a with s := a.s + 1 } else if a.i < 59 then { a with s := 0, i := a.i + 1 } else if a.h < 23 then { a with s := 0, i := 0, h := a.h + 1 }
  else if a.d < ml a.y a.m then { a with s := 0, i := 0, h := 0, d := a.d + 1 } else if a.m < 12 then { a with s := 0, i := 0, h := 0, d := 1, m := a.m + 1 } else { y := a.y + 1, m := 1, d := 1, h := 0, i := 0, s := 0 }

theorem next_is {s : Int} {a : D6} (h : IsDate s a) (hs : s ≤ 7258118398) : IsDate (s + 1) a.next := by
  obtain ⟨hok, he⟩ := h
  have hr := D6.clk_rng hok
  have hok' := hok
  obtain ⟨h1, h2, h3, h4, h5, h6, h7, h8, h9, h10, h11, h12⟩ := hok
  have l1 := ml_rng a.y (a.m + 1)
  have l2 := ml_rng (a.y + 1) 1
  unfold D6.next
  unfold secs D6.days D6.clk at he
  unfold IsDate D6.ok secs D6.days D6.clk
  by_cases c1 : a.s < 59
  · rw [if_pos c1]
    simp only
    omega
  · rw [if_neg c1]
    by_cases c2 : a.i < 59
    · rw [if_pos c2]
      simp only
      omega
    · rw [if_neg c2]
      by_cases c3 : a.h < 23
      · rw [if_pos c3]
        simp only
        omega
      · rw [if_neg c3]
        by_cases c4 : a.d < ml a.y a.m
        · rw [if_pos c4]
          simp only
          omega
        · rw [if_neg c4]
          by_cases c5 : a.m < 12
          · rw [if_pos c5]
            simp only
            rw [cum_succ _ _ h3 h4]
            omega
          · rw [if_neg c5]
            simp only
            have e12 : a.m = 12 := by omega
            have ce := cum_end a.y
            have cs := cum_succ a.y 12 (by omega) (by omega)
            have c0 := cum_one (a.y + 1)
            have ds := dby_succ a.y
            have d22 := dby_2200
            rw [e12] at he h6 c4
            have hy : a.y ≠ 2199 := by
              intro e
              rw [e] at ds he h6 c4 cs ce
              rw [show (2199 : Int) + 1 = 2200 from rfl, dby_2200] at ds
              rw [show (12 : Int) + 1 = 13 from rfl, ce] at cs
              omega
            rw [show (12 : Int) + 1 = 13 from rfl, ce] at cs
            rw [ds, c0]
            omega

end Go.Proofs.Ytebefamnmmbdnaa
