/-
  Proved: for every 64-bit integer, every string and every bool the law ClockTexts returns true, and each argument reads afterwards as it read before. No condition. (The frame is the guide's; the walk is by hand.)
-/
import Derived.Test.YtebefamnmmbdnaaRows
import Derived.Test.YtebefamnmmbdnaaRefTexts
import Derived.Test.YtebefamnmmbdnaaRefRead
import Derived.WalkKit
import Derived.ProofKit
import Derived.OpenShut
import Derived.ShutString
import Derived.ChangeOld
import Derived.Below
namespace Go.Proofs.Ytebefamnmmbdnaa.clockTexts
open Go.ChangeShapes Go.WideShapes Go.ChangeAt Go.RowKit
open Go.ChangeMaps (open_string shut_string)
set_option linter.unusedVariables false

theorem own : ownKnob Try.prog.godebug = none := by kernel_rfl
theorem laidOut : laidOutB Try.prog = true := by kernel_rfl

theorem rread_any (t : ByteArray) (long : Bool) (w : World) (ht : t.size ≤ 100) : Calls Try.prog 20 #[.string t, .bool long] w (GivesR w (readD (numsOf t) long)) := by
  have NL := Lib.hid (numsOf_length t)
  cases long
  · by_cases h1 : t.size = 13
    · by_cases h2 : nth t 12 = 90
      · exact rread_short t w h1 h2
      · have RD : Hid (readD (numsOf t) false = none) := by
          unfold Hid
          rw [readD_false, if_neg (fun h => h2 h.2)]
        have hi := str_at t 12 (by omega) 12 rfl
        have h1' : (t.size : Int) = 13 := by omega
        generalize nth t 12 = c at hi h2
        have t2 : (c != 90) = true := by simpa using h2
        clear h1
        go_enter Try.func20, Try.ntmps20
        go_wp2
        go_ret2
        exact GivesR.bad RD.out (Below.refl _ _)
    · have RD : Hid (readD (numsOf t) false = none) := by
        unfold Hid
        rw [readD_false, if_neg (fun h => h1 (by have := h.1; rw [NL.out] at this; exact this))]
      have t1 : ((t.size : Int) != 13) = true := by simp; omega
      go_enter Try.func20, Try.ntmps20
      go_wp2
      go_ret2
      exact GivesR.bad RD.out (Below.refl _ _)
  · by_cases h1 : t.size = 15
    · by_cases h2 : nth t 14 = 90
      · exact rread_long t w h1 h2
      · have RD : Hid (readD (numsOf t) true = none) := by
          unfold Hid
          rw [readD_true, if_neg (fun h => h2 h.2)]
        have hi := str_at t 14 (by omega) 14 rfl
        have h1' : (t.size : Int) = 15 := by omega
        generalize nth t 14 = c at hi h2
        have t2 : (c != 90) = true := by simpa using h2
        clear h1
        go_enter Try.func20, Try.ntmps20
        go_wp2
        go_ret2
        exact GivesR.bad RD.out (Below.refl _ _)
    · have RD : Hid (readD (numsOf t) true = none) := by
        unfold Hid
        rw [readD_true, if_neg (fun h => h1 (by have := h.1; rw [NL.out] at this; exact this))]
      have t1 : ((t.size : Int) != 15) = true := by simp; omega
      go_enter Try.func20, Try.ntmps20
      go_wp2
      go_ret2
      exact GivesR.bad RD.out (Below.refl _ _)

/-! ### STEP 1: THE WALK -/
set_option maxRecDepth 100000 in
set_option maxHeartbeats 8000000 in
theorem walk (a0 : Int) (a1 : ByteArray) (a2 : Bool) (w : World) (w0 : (Lit.int .i64 a0).wf = true) (w1 : a1.size ≤ maxLen) :
    Calls Try.prog 4 #[.int .i64 a0, .string a1, .bool a2] w fun e w' => e = .returned (.bool true) ∧ Below w.heap.size w w' := by
  unfold maxLen at w1
  by_cases h1 : 100 < a1.size
  · go_enter Try.func4, Try.ntmps4
    go_wp2_with fail
    refine (awake_any w).mono ?_
    rintro e w9 ⟨rfl, hb⟩
    go_wp2
    go_ret
    exact ⟨rfl, hb⟩
  · have RA := Lib.hid (fun W => read_any a1 a2 W)
    have RB := Lib.hid (fun W => rread_any a1 a2 W (by omega))
    unfold GivesR at RA RB
    generalize readV (readD (numsOf a1) a2) = v at RA RB
    generalize readB (readD (numsOf a1) a2) = q at RA RB
    go_enter Try.func4, Try.ntmps4
    go_wp2_with fail
    refine (awake_any w).mono ?_
    rintro e w2 ⟨rfl, hb2⟩
    have B0 := Lib.hid hb2
    clear hb2
    go_wp2_with fail
    refine (short_any a0 _).mono ?_
    rintro e u1 ⟨S1, p1, hR1, rfl, hb1⟩
    have B1 := Lib.hid (Below.step B0.out hb1)
    have R1 := Lib.hid hR1
    clear hb1 hR1
    go_wp2_with fail
    refine (rshort_any a0 _).mono ?_
    rintro e v1 ⟨S', p', hR', rfl, hb'⟩
    obtain ⟨rfl, rfl⟩ := R1.out.eq hR'
    have B2 := Lib.hid (Below.step B1.out hb')
    clear hb' hR' R1
    go_wp2_with fail
    refine (long_any a0 _).mono ?_
    rintro e u3 ⟨S3, p3, hR3, rfl, hb3⟩
    have B3 := Lib.hid (Below.step B2.out hb3)
    have R3 := Lib.hid hR3
    clear hb3 hR3
    go_wp2_with fail
    refine (rlong_any a0 _).mono ?_
    rintro e v3 ⟨S', p', hR', rfl, hb'⟩
    obtain ⟨rfl, rfl⟩ := R3.out.eq hR'
    have B4 := Lib.hid (Below.step B3.out hb')
    clear hb' hR' R3
    go_wp2_with fail
    refine (text_any a0 _).mono ?_
    rintro e u5 ⟨S5, p5, hR5, rfl, hb5⟩
    have B5 := Lib.hid (Below.step B4.out hb5)
    have R5 := Lib.hid hR5
    clear hb5 hR5
    go_wp2_with fail
    refine (rtext_any a0 _).mono ?_
    rintro e v5 ⟨S', p', hR', rfl, hb'⟩
    obtain ⟨rfl, rfl⟩ := R5.out.eq hR'
    have B6 := Lib.hid (Below.step B5.out hb')
    clear hb' hR' R5
    go_wp2_with fail
    refine (RA.out _).mono ?_
    rintro e w7 ⟨rfl, hb7⟩
    have B7 := Lib.hid (Below.step B6.out hb7)
    clear hb7 RA
    go_wp2_with fail
    refine (RB.out _).mono ?_
    rintro e w8 ⟨rfl, hb8⟩
    have B8 := Lib.hid (Below.step B7.out hb8)
    clear hb8 RB
    go_wp2
    go_ret
    exact ⟨rfl, B8.out⟩

/-! ### THE ROW's STEP -/
set_option maxRecDepth 100000 in
theorem lifted (os : Os) (started : os.Started) (H : Type) (enc : TypeId × Value → H) :
    ReturnsInHanded {} Try.checked os 4 .any (Rows.clockTextsSpec.pre6 enc Try.prog Try.f4 Rows.clockTextsRow.domain false) (Rows.clockTextsSpec.post enc Try.prog Try.f4 false true false false) := by
  refine returnsInHanded_of_change (C := Try.checked) own started (by kernel_rfl) Try.func4
    (ChangeSpec.witness6 (enc := enc) (C := Try.checked) false ⟨#[], #[.int .i64 0, .string ByteArray.empty, .bool false], []⟩ 8 (by kernel_rfl) (by kernel_rfl) (by kernel_rfl) (by kernel_rfl)) ?_
  intro W base args ds gs before hval0 hW hcnd _
  have hval : ∀ (j : Nat) t v, Try.f4.params[j]? = some t → args[j]? = some v → Value.okWide Try.prog W .any base t v := hval0
  have hW' := hW
  obtain ⟨p, q, hA0, hV, rfl, hfz, hnd⟩ := hW
  have hA : DataW.TrodAll enc Try.prog W 0 (fun _ => true) true Try.f4.params.toList args.toList ds p := hA0
  rw [Try.params4] at hA hval
  obtain ⟨v0, vs0, d0, ds0, p0, q0, hargs, rfl, rfl, h0, r0⟩ := trodAll_cons hA
  obtain ⟨v1, vs1, d1, ds1, p1, q1, rfl, rfl, rfl, h1, r1⟩ := trodAll_cons r0
  obtain ⟨v2, vs2, d2, ds2, p2, q2, rfl, rfl, rfl, h2, r2⟩ := trodAll_cons r1
  obtain ⟨rfl, rfl, rfl⟩ := trodAll_nil r2
  obtain rfl : args = #[v0, v1, v2] := by cases args; simp_all
  obtain ⟨rfl, rfl⟩ := trodVars_none hV
  obtain ⟨a0, rfl, rfl, rfl, w0⟩ := open_int Try.underlying2 (hval 0 2 v0 rfl rfl) h0
  obtain ⟨a1, rfl, rfl, rfl, w1⟩ := open_string Try.underlying9 (hval 1 9 v1 rfl rfl) h1
  obtain ⟨a2, rfl, rfl, rfl⟩ := open_bool Try.underlying4 (hval 2 4 v2 rfl rfl) h2
  clear hA0 hval0
  refine (walk a0 a1 a2 W w0 w1).mono fun e W' ⟨he, bel⟩ => ?_
  subst he
  exact ⟨_, rfl, _, _, _, [], _, [], hW', trodAll_mk1 (shut_bool Try.underlying4 _), (trodAll_cons_mk (shut_int Try.underlying2 w0) (trodAll_cons_mk (shut_string Try.underlying9 w1) (trodAll_cons_mk (shut_bool Try.underlying4 _) trodAll_mk0))), rfl, bel.frame _, fun h => by cases h⟩

theorem over : Rows.clockTextsRow.holds Try.pinned (OpenSpec.ofChange Rows.clockTextsSpec) :=
  OpenClaim.holds_of_wide 4 Try.f4 rfl rfl rfl rfl rfl rfl rfl ⟨rfl, rfl, rfl, rfl, rfl⟩ rfl rfl rfl rfl rfl (by kernel_rfl) Try.func4 (by kernel_rfl)
    (of_decide_eq_true (by kernel_rfl)) (by unfold Func.isWrapper; first | (rw [if_pos (by decide +kernel)]; kernel_rfl) | (rw [if_neg (by decide +kernel)]; exact ⟨rfl, rfl⟩))
    (fun os started H enc _ => lifted os started H enc)

theorem proved : Rows.ClockTextsSaid := over
#print axioms proved
end Go.Proofs.Ytebefamnmmbdnaa.clockTexts
