/-
  What the reference's Write answers, for stage 4 (tlv).
-/
import Derived.Test.YtefdfdnfpacfjaaLay
namespace Go.Proofs.Ytefdfdnfpacfjaa
open Go.RowKit

/-- Write's answer: the bytes, and the error's number. -/
def writeZ (t : T) : List Int × Int := if rightT t = false then ([], 2) else if 32 < deepT t then ([], 4) else if 20000 < bytesT t then ([], 5) else (layT t, 0)
def GivesWrite (x : List Int × Int) (w : World) (e : Ending) (w' : World) : Prop :=
  ∃ a c, e = .returned (.tuple #[.slice a x.1.length c, .int .i64 x.2]) ∧ Row w' a x.1.length x.1 ∧ (a = none → c = 0) ∧ Below w.heap.size w w'
theorem gives_none {x : List Int × Int} {w w' : World} {z : Int} (h : x = ([], z)) (hb : Below w.heap.size w w') : GivesWrite x w (.returned (.tuple #[.slice none 0 0, .int .i64 z])) w' := by
  subst h
  exact ⟨none, 0, rfl, Row.nil _ _, fun _ => rfl, hb⟩
theorem write_right {t : T} (h : rightT t = false) : writeZ t = ([], 2) := if_pos h
theorem write_deep {t : T} (h : rightT t = true) (h1 : 32 < deepT t) : writeZ t = ([], 4) := by rw [writeZ, if_neg (by rw [h]; simp), if_pos h1]
theorem write_large {t : T} (h : rightT t = true) (h1 : ¬ 32 < deepT t) (h2 : 20000 < bytesT t) : writeZ t = ([], 5) := by rw [writeZ, if_neg (by rw [h]; simp), if_neg h1, if_pos h2]
theorem write_ok {t : T} (h : rightT t = true) (h1 : ¬ 32 < deepT t) (h2 : ¬ 20000 < bytesT t) : writeZ t = (layT t, 0) := by rw [writeZ, if_neg (by rw [h]; simp), if_neg h1, if_neg h2]

set_option maxHeartbeats 2000000 in
theorem write_any (t : T) (v : Value) (w : World) (hin : t.In w v) (hwt : wt t < 30000) : Calls Try.prog 15 #[v] w (GivesWrite (writeZ t) w) := by
  obtain ⟨A, n, c, K, m, d, rfl, _⟩ := hin.open
  have BX := Lib.hid (Box.start hin)
  clear hin
  cases hrt : rightT t
  · have F := Lib.hid (write_right hrt)
    have RT := Lib.hid hrt
    clear hrt
    go_enter Try.func15, Try.ntmps15
    go_wp2_with fail
    refine (right_any t _ _ BX.out.has).mono ?_
    rintro e w2 ⟨rfl, hb2⟩
    rw [RT.out]
    have B2 := Lib.hid (Below.step BX.out.below hb2)
    clear hb2
    go_wp2_with fail
    go_ret2
    exact gives_none F.out B2.out
  have RT := Lib.hid hrt
  have hsz := size_le t
  have key : ∃ x, x = writeZ t ∧ ((32 < deepT t ∧ x = ([], 4)) ∨ (¬ 32 < deepT t ∧ 20000 < bytesT t ∧ x = ([], 5)) ∨ (¬ 32 < deepT t ∧ ¬ 20000 < bytesT t ∧ x = (layT t, 0))) := by
    refine ⟨_, rfl, ?_⟩
    by_cases h1 : 32 < deepT t
    · exact .inl ⟨h1, write_deep hrt h1⟩
    · by_cases h2 : 20000 < bytesT t
      · exact .inr (.inl ⟨h1, h2, write_large hrt h1 h2⟩)
      · exact .inr (.inr ⟨h1, h2, write_ok hrt h1 h2⟩)
  obtain ⟨x, hx, hways⟩ := key
  rw [← hx]
  clear hx hrt
  rcases hways with ⟨h1, hx⟩ | ⟨h1, h2, hx⟩ | ⟨h1, h2, hx⟩
  all_goals
    have HX := Lib.hid hx
    clear hx
    go_enter Try.func15, Try.ntmps15
    go_wp2_with fail
    refine (right_any t _ _ BX.out.has).mono ?_
    rintro e w2 ⟨rfl, hb2⟩
    rw [RT.out]
    have BX2 := Lib.hid (BX.out.go hb2)
    obtain ⟨g0, g1, g2⟩ := BX2.out.cells
    clear hb2
    go_wp2_with fail
    refine (size_any t _ _ BX2.out.has hwt).mono ?_
    rintro e w3 ⟨rfl, hb3⟩
    have BX3 := Lib.hid (BX2.out.go hb3)
    clear g0 g1 g2 hb3
    obtain ⟨g0, g1, g2⟩ := BX3.out.cells
    go_wp2_with fail
  · go_ret2
    exact gives_none HX.out BX3.out.below
  · go_ret2
    exact gives_none HX.out BX3.out.below
  · refine (lay_any t _ _ BX3.out.has (right_parts RT.out).1 RT.out hwt).mono ?_
    rintro e w4 ⟨a, cc, rfl, hrow, hnil, hb4⟩
    have B4 := Lib.hid (Below.step BX3.out.below hb4)
    have R4 := Lib.hid hrow
    have N4 := Lib.hid hnil
    clear hrow hnil hb4
    go_wp2_with fail
    go_ret2
    rw [HX.out]
    exact ⟨a, cc, rfl, R4.out, N4.out, B4.out⟩

end Go.Proofs.Ytefdfdnfpacfjaa
