/-
  Proved: for every array of six ints and every 64-bit integer the law ClockMoments returns true, and each argument reads afterwards as it read before. No condition. (The frame is the guide's; the walk is by hand.)
-/
import Derived.Test.YtebefamnmmbdnaaRows
import Derived.Test.YtebefamnmmbdnaaTexts
import Derived.Test.YtebefamnmmbdnaaSame
import Derived.Test.YtebefamnmmbdnaaRefSecs
import Derived.Test.YtebefamnmmbdnaaRefDate
import Derived.Test.YtebefamnmmbdnaaArr
import Derived.WalkKit
import Derived.ProofKit
import Derived.OpenShut
import Derived.ShutString
import Derived.ChangeOld
import Derived.Below
namespace Go.Proofs.Ytebefamnmmbdnaa.clockMoments
open Go.ChangeShapes Go.WideShapes Go.ChangeAt Go.RowKit
open Go.ChangeMaps (open_string shut_string)
set_option linter.unusedVariables false

theorem own : ownKnob Try.prog.godebug = none := by kernel_rfl
theorem laidOut : laidOutB Try.prog = true := by kernel_rfl

/-! ### STEP 1: THE WALK -/
set_option maxRecDepth 100000 in
set_option maxHeartbeats 4000000 in
theorem walk (xy0 xm0 xd0 xh0 xn0 xs0 : Int) (a1 : Int) (w : World) (w1 : (Lit.int .i64 a1).wf = true) :
    Calls Try.prog 3 #[.agg #[.int .i64 xy0, .int .i64 xm0, .int .i64 xd0, .int .i64 xh0, .int .i64 xn0, .int .i64 xs0], .int .i64 a1] w fun e w' => e = .returned (.bool true) ∧ Below w.heap.size w w' := by
  have S1 := Lib.hid (fun W => secs_any xy0 xm0 xd0 xh0 xn0 xs0 W)
  have S2 := Lib.hid (fun W => rsecs_any xy0 xm0 xd0 xh0 xn0 xs0 W)
  have BX := Lib.hid ((Below.refl w.heap.size w).alloc (Nat.le_refl _) (.cells #[.int .i64 xy0, .int .i64 xm0, .int .i64 xd0, .int .i64 xh0, .int .i64 xn0, .int .i64 xs0] 22))
  have KX := Lib.hid (Blk.new w 22 (d6c xy0 xm0 xd0 xh0 xn0 xs0))
  simp only [d6c] at KX
  unfold GivesS at S1 S2
  generalize secsR ⟨xy0, xm0, xd0, xh0, xn0, xs0⟩ = v at S1 S2
  generalize okB ⟨xy0, xm0, xd0, xh0, xn0, xs0⟩ = ok at S1 S2
  go_enter Try.func3, Try.ntmps3
  go_wp2_with fail
  refine (awake_any _).mono ?_
  rintro e w1 ⟨rfl, hb1⟩
  have K1 : Hid (Blk w1 w.heap.size 22 (d6c xy0 xm0 xd0 xh0 xn0 xs0)) := Lib.hid (KX.out.below hb1 (by simp))
  have B1 := Lib.hid (Below.step BX.out hb1)
  clear hb1 KX BX
  have q0 : w1.cell? ⟨w.heap.size, 0, none⟩ = some (.int .i64 xy0) := K1.out.cell 0
  have q1 : w1.cell? ⟨w.heap.size, 1, none⟩ = some (.int .i64 xm0) := K1.out.cell 1
  have q2 : w1.cell? ⟨w.heap.size, 2, none⟩ = some (.int .i64 xd0) := K1.out.cell 2
  have q3 : w1.cell? ⟨w.heap.size, 3, none⟩ = some (.int .i64 xh0) := K1.out.cell 3
  have q4 : w1.cell? ⟨w.heap.size, 4, none⟩ = some (.int .i64 xn0) := K1.out.cell 4
  have q5 : w1.cell? ⟨w.heap.size, 5, none⟩ = some (.int .i64 xs0) := K1.out.cell 5
  go_wp2_with fail
  refine (S1.out _).mono ?_
  rintro e w2 ⟨rfl, hb2⟩
  have K2 := Lib.hid (K1.out.below hb2 K1.out.lt)
  have B2 := Lib.hid (Below.step B1.out hb2)
  clear hb2 K1 B1 q0 q1 q2 q3 q4 q5 S1
  have q0 : w2.cell? ⟨w.heap.size, 0, none⟩ = some (.int .i64 xy0) := K2.out.cell 0
  have q1 : w2.cell? ⟨w.heap.size, 1, none⟩ = some (.int .i64 xm0) := K2.out.cell 1
  have q2 : w2.cell? ⟨w.heap.size, 2, none⟩ = some (.int .i64 xd0) := K2.out.cell 2
  have q3 : w2.cell? ⟨w.heap.size, 3, none⟩ = some (.int .i64 xh0) := K2.out.cell 3
  have q4 : w2.cell? ⟨w.heap.size, 4, none⟩ = some (.int .i64 xn0) := K2.out.cell 4
  have q5 : w2.cell? ⟨w.heap.size, 5, none⟩ = some (.int .i64 xs0) := K2.out.cell 5
  go_wp2_with fail
  refine (S2.out _).mono ?_
  rintro e w3 ⟨rfl, hb3⟩
  have B3 := Lib.hid (Below.step B2.out hb3)
  clear hb3 K2 B2 q0 q1 q2 q3 q4 q5 S2
  go_wp2_with fail
  refine (date_any a1 _).mono ?_
  rintro e w4 ⟨a, p, hR, rfl, hb4⟩
  have B4 := Lib.hid (Below.step B3.out hb4)
  clear hb4 B3
  have HR := Lib.hid hR
  clear hR
  have KA := Lib.hid (Blk.new w4 22 a.cells)
  have BA := Lib.hid (B4.out.alloc B4.out.size (.cells a.cells 22))
  obtain ⟨y, m, d, h, i, s⟩ := a
  simp only [D6.cells, d6c] at KA BA ⊢
  go_wp2_with fail
  refine (rdate_any a1 _).mono ?_
  rintro e w5 ⟨b, q, hR', rfl, hb5⟩
  obtain ⟨rfl, rfl⟩ := HR.out.eq hR'
  have KB : Hid (Blk w5 w4.heap.size 22 (d6c y m d h i s)) := Lib.hid (KA.out.below hb5 (by simp))
  have B5 := Lib.hid (Below.step BA.out hb5)
  clear hb5 hR' HR KA BA B4
  simp only [D6.cells, d6c]
  have q0 : w5.cell? ⟨w4.heap.size, 0, none⟩ = some (.int .i64 y) := KB.out.cell 0
  have q1 : w5.cell? ⟨w4.heap.size, 1, none⟩ = some (.int .i64 m) := KB.out.cell 1
  have q2 : w5.cell? ⟨w4.heap.size, 2, none⟩ = some (.int .i64 d) := KB.out.cell 2
  have q3 : w5.cell? ⟨w4.heap.size, 3, none⟩ = some (.int .i64 h) := KB.out.cell 3
  have q4 : w5.cell? ⟨w4.heap.size, 4, none⟩ = some (.int .i64 i) := KB.out.cell 4
  have q5 : w5.cell? ⟨w4.heap.size, 5, none⟩ = some (.int .i64 s) := KB.out.cell 5
  have hz := KB.out.lt
  have hq := fun W => eq6 y m d h i s y m d h i s W
  rw [same6_refl] at hq
  cases ok <;> cases p
  all_goals
    go_wp2
    go_ret
    exact ⟨rfl, B5.out.alloc B5.out.size _⟩

/-! ### THE ROW's STEP -/
set_option maxRecDepth 100000 in
theorem lifted (os : Os) (started : os.Started) (H : Type) (enc : TypeId × Value → H) :
    ReturnsInHanded {} Try.checked os 3 .any (Rows.clockMomentsSpec.pre6 enc Try.prog Try.f3 Rows.clockMomentsRow.domain false) (Rows.clockMomentsSpec.post enc Try.prog Try.f3 false true false false) := by
  refine returnsInHanded_of_change (C := Try.checked) own started (by kernel_rfl) Try.func3
    (ChangeSpec.witness6 (enc := enc) (C := Try.checked) false ⟨#[], #[.agg #[.int .i64 0, .int .i64 0, .int .i64 0, .int .i64 0, .int .i64 0, .int .i64 0], .int .i64 0], []⟩ 8 (by kernel_rfl) (by kernel_rfl) (by kernel_rfl) (by kernel_rfl)) ?_
  intro W base args ds gs before hval0 hW hcnd _
  have hval : ∀ (j : Nat) t v, Try.f3.params[j]? = some t → args[j]? = some v → Value.okWide Try.prog W .any base t v := hval0
  have hW' := hW
  obtain ⟨p, q, hA0, hV, rfl, hfz, hnd⟩ := hW
  have hA : DataW.TrodAll enc Try.prog W 0 (fun _ => true) true Try.f3.params.toList args.toList ds p := hA0
  rw [Try.params3] at hA hval
  obtain ⟨v0, vs0, d0, ds0, p0, q0, hargs, rfl, rfl, h0, r0⟩ := trodAll_cons hA
  obtain ⟨v1, vs1, d1, ds1, p1, q1, rfl, rfl, rfl, h1, r1⟩ := trodAll_cons r0
  obtain ⟨rfl, rfl, rfl⟩ := trodAll_nil r1
  obtain rfl : args = #[v0, v1] := by cases args; simp_all
  obtain ⟨rfl, rfl⟩ := trodVars_none hV
  have k0 := h0
  have lt0 : ∀ x ∈ p0, x.block < W.heap.size := by obtain ⟨m, hm⟩ := k0; exact DataW.trod_lt m _ _ _ hm
  obtain ⟨xy0, xm0, xd0, xh0, xn0, xs0, rfl⟩ := open6 (hval 0 22 v0 rfl rfl) h0
  obtain ⟨a1, rfl, rfl, rfl, w1⟩ := open_int Try.underlying2 (hval 1 2 v1 rfl rfl) h1
  clear hA0 hval0
  refine (walk xy0 xm0 xd0 xh0 xn0 xs0 a1 W w1).mono fun e W' ⟨he, bel⟩ => ?_
  subst he
  exact ⟨_, rfl, _, _, _, [], _, [], hW', trodAll_mk1 (shut_bool Try.underlying4 _), (trodAll_cons_mk (Below.trod laidOut (by kernel_rfl) (of_decide_eq_true (by kernel_rfl)) k0 bel lt0) (trodAll_cons_mk (shut_int Try.underlying2 w1) trodAll_mk0)), rfl, bel.frame _, fun h => by cases h⟩

theorem over : Rows.clockMomentsRow.holds Try.pinned (OpenSpec.ofChange Rows.clockMomentsSpec) :=
  OpenClaim.holds_of_wide 3 Try.f3 rfl rfl rfl rfl rfl rfl rfl ⟨rfl, rfl, rfl, rfl, rfl⟩ rfl rfl rfl rfl rfl (by kernel_rfl) Try.func3 (by kernel_rfl)
    (of_decide_eq_true (by kernel_rfl)) (by unfold Func.isWrapper; first | (rw [if_pos (by decide +kernel)]; kernel_rfl) | (rw [if_neg (by decide +kernel)]; exact ⟨rfl, rfl⟩))
    (fun os started H enc _ => lifted os started H enc)

theorem proved : Rows.ClockMomentsSaid := over
#print axioms proved
end Go.Proofs.Ytebefamnmmbdnaa.clockMoments
