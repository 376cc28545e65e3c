/-
  The walk of the law TlvWrites; what the package's Write, its Size and awake answer is asked as premises of this walk alone (the proof gives them by the landed code's own contracts).
-/
import Derived.Test.YtefdfdnfpacfjaaReadT
import Derived.Test.YtefdfdnfpacfjaaWriteT
import Derived.Test.YtefdfdnfpacfjaaSizeT
import Derived.Test.YtefdfdnfpacfjaaWeigh
namespace Go.Proofs.Ytefdfdnfpacfjaa
open Go.RowKit
set_option linter.unusedVariables false

set_option maxHeartbeats 1000000 in
theorem writes_walk (AW0 : ∀ w : World, Calls Try.prog 9 #[] w fun e w' => e = .returned (.bool true) ∧ Below w.heap.size w w')
    (WR0 : ∀ (t : T) (v : Value) (w : World), t.In w v → wt t < 30000 → Calls Try.prog 14 #[v] w (GivesWrite (writeZ t) w))
    (SZ0 : ∀ (t : T) (v : Value) (w : World), t.In w v → wt t < 30000 → Calls Try.prog 16 #[v] w (GivesSize t w))
    (t : T) (v : Value) (w : World) (hin : t.In w v) : Calls Try.prog 4 #[v] w fun e w' => e = .returned (.bool true) ∧ Below w.heap.size w w' := by
  obtain ⟨A, n, c, K, m, d, rfl, _⟩ := hin.open
  have AW := Lib.hid AW0
  have WR := Lib.hid WR0
  have SZ := Lib.hid SZ0
  have I0 := Lib.hid (T.In.below ((Below.refl _ _).alloc (Nat.le_refl _) (.cells #[.int .i64 t.tag, .slice A n c, .slice K m d] 26)) _ hin)
  have K0 := Lib.hid (Blk.new w 26 #[.int .i64 t.tag, .slice A n c, .slice K m d])
  have B0 : Hid (Below w.heap.size w (w.alloc (.cells #[.int .i64 t.tag, .slice A n c, .slice K m d] 26))) := (Below.refl _ _).alloc (Nat.le_refl _) _
  clear hin AW0 WR0 SZ0
  go_enter Try.func4, Try.ntmps4
  go_wp2_with fail
  refine (AW.out _).mono ?_
  rintro e w2 ⟨rfl, hb2⟩
  have B2 := Lib.hid (Below.step B0.out hb2)
  have K2 := Lib.hid (K0.out.below hb2 (by simp))
  have I2 := Lib.hid (T.In.below hb2 _ I0.out)
  obtain ⟨p0, p1, p2, _, _, _⟩ := K2.out.facts
  clear hb2 B0 K0 I0
  go_wp2_with fail
  refine (light_any t _ _ I2.out).mono ?_
  rintro e w3 ⟨rfl, hb3⟩
  have B3 := Lib.hid (Below.step B2.out hb3)
  have K3 := Lib.hid (K2.out.below hb3 (Blk.lt K2.out))
  have I3 := Lib.hid (T.In.below hb3 _ I2.out)
  obtain ⟨p0, p1, p2, _, _, _⟩ := K3.out.facts
  clear hb3 B2 K2 I2
  rcases Bool.eq_false_or_eq_true (lightT t) with hl | hl
  rotate_left
  · rw [hl]
    clear hl
    go_wp2
    go_ret
    exact ⟨rfl, B3.out⟩
  have hwt := (light_wt hl).1
  rw [hl]
  clear hl
  go_wp2_with fail
  refine (WR.out t _ _ I3.out hwt).mono ?_
  rintro e w4 ⟨a4, c4, rfl, hr4, _, hb4⟩
  have B4 := Lib.hid (Below.step B3.out hb4)
  have K4 := Lib.hid (K3.out.below hb4 (Blk.lt K3.out))
  have I4 := Lib.hid (T.In.below hb4 _ I3.out)
  have R4 := Lib.hid hr4
  obtain ⟨p0, p1, p2, _, _, _⟩ := K4.out.facts
  clear hb4 hr4 B3 K3 I3
  go_wp2_with fail
  refine (write_any t _ _ I4.out hwt).mono ?_
  rintro e w5 ⟨a5, c5, rfl, hr5, _, hb5⟩
  have B5 := Lib.hid (Below.step B4.out hb5)
  have K5 := Lib.hid (K4.out.below hb5 (Blk.lt K4.out))
  have I5 := Lib.hid (T.In.below hb5 _ I4.out)
  have R5 := Lib.hid hr5
  have Q5 := Lib.hid (R4.out.below hb5)
  obtain ⟨p0, p1, p2, _, _, _⟩ := K5.out.facts
  clear hb5 hr5 B4 K4 I4 R4
  go_wp2_with fail
  refine (SZ.out t _ _ I5.out hwt).mono ?_
  rintro e w6 ⟨rfl, hb6⟩
  have B6 := Lib.hid (Below.step B5.out hb6)
  have K6 := Lib.hid (K5.out.below hb6 (Blk.lt K5.out))
  have I6 := Lib.hid (T.In.below hb6 _ I5.out)
  have R6 := Lib.hid (R5.out.below hb6)
  have Q6 := Lib.hid (Q5.out.below hb6)
  obtain ⟨p0, p1, p2, _, _, _⟩ := K6.out.facts
  clear hb6 B5 K5 I5 R5 Q5
  go_wp2_with fail
  refine (size_any t _ _ I6.out hwt).mono ?_
  rintro e w7 ⟨rfl, hb7⟩
  have B7 := Lib.hid (Below.step B6.out hb7)
  have kc := conv_at c4 (Q6.out.below hb7)
  have kd := conv_at c5 (R6.out.below hb7)
  clear hb7 B6 K6 I6 R6 Q6 hwt
  go_wp2
  go_ret
  exact ⟨by simp, B7.out⟩
end Go.Proofs.Ytefdfdnfpacfjaa
