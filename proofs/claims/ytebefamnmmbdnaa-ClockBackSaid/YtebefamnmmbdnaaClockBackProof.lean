/-
  Proved: for every 64-bit integer, every string and every bool the law ClockBack returns true, and each argument reads afterwards as it read before. No condition. (The frame is the guide's; the walk is by hand.)
-/
import Derived.Test.YtebefamnmmbdnaaRows
import Derived.Test.YtebefamnmmbdnaaBack
import Derived.WalkKit
import Derived.ProofKit
import Derived.OpenShut
import Derived.ShutString
import Derived.ChangeOld
import Derived.Below
namespace Go.Proofs.Ytebefamnmmbdnaa.clockBack
open Go.ChangeShapes Go.WideShapes Go.ChangeAt Go.RowKit
open Go.ChangeMaps (open_string shut_string)
set_option linter.unusedVariables false

theorem own : ownKnob Try.prog.godebug = none := by kernel_rfl
theorem laidOut : laidOutB Try.prog = true := by kernel_rfl

/-! ### STEP 1: THE WALK -/
set_option maxRecDepth 100000 in
set_option maxHeartbeats 8000000 in
theorem walk (a0 : Int) (a1 : ByteArray) (a2 : Bool) (w : World) (w0 : (Lit.int .i64 a0).wf = true) (w1 : a1.size ≤ maxLen) :
    Calls Try.prog 5 #[.int .i64 a0, .string a1, .bool a2] w fun e w' => e = .returned (.bool true) ∧ Below w.heap.size w w' := by
  unfold maxLen at w1
  by_cases h1 : 100 < a1.size
  · go_enter Try.func5, Try.ntmps5
    go_wp2_with fail
    refine (awake_any w).mono ?_
    rintro e w9 ⟨rfl, hb⟩
    go_wp2
    go_ret
    exact ⟨rfl, hb⟩
  · have C := Lib.hid (fun W => date_any a0 W)
    go_enter Try.func5, Try.ntmps5
    go_wp2_with fail
    refine (awake_any w).mono ?_
    rintro e w2 ⟨rfl, hb2⟩
    go_wp2_with fail
    refine (C.out _).mono ?_
    rintro e w3 ⟨a, ok, hR, rfl, hb3⟩
    have B3 := Lib.hid (Below.step hb2 hb3)
    clear C hb2 hb3
    rcases hR with ⟨rfl, hd⟩ | ⟨rfl, rfl, ho⟩
    · obtain ⟨y, m, d, h, i, s⟩ := a
      have HD := Lib.hid hd
      clear hd
      have B4 := Lib.hid (B3.out.alloc B3.out.size (.cells (d6c y m d h i s) 22))
      have L15 : Hid ((strOfNums (⟨y, m, d, h, i, s⟩ : D6).long).size = 15) := Lib.hid (by rw [strOfNums_size, D6.long_length])
      simp only [D6.cells, d6c] at B4 ⊢
      go_wp2_with fail
      refine (secs_is HD.out _).mono ?_
      rintro e w4 ⟨rfl, hb4⟩
      have B5 := Lib.hid (Below.step B4.out hb4)
      clear hb4 B4 B3
      have CL := Lib.hid (fun W => long_is HD.out W)
      have CR := Lib.hid (fun W => read_back HD.out W)
      generalize strOfNums (⟨y, m, d, h, i, s⟩ : D6).long = S at L15 CL CR
      go_wp2_with fail
      refine (CL.out _).mono ?_
      rintro e w5 ⟨rfl, hb5⟩
      have B6 := Lib.hid (Below.step B5.out hb5)
      clear hb5 B5 CL
      go_wp2_with fail
      refine (CR.out _).mono ?_
      rintro e w6 ⟨rfl, hb6⟩
      have BT := Lib.hid (Below.step B6.out hb6)
      clear hb6 B6 CR
      have l15 : ((S.size : Int) != 15) = false := by have := L15.out; simp; omega
      have RB := Lib.hid (fun W => read_any a1 a2 W)
      cases hk : readB (readD (numsOf a1) a2) with
      | false =>
        have V0 := Lib.hid (readV_no hk)
        unfold GivesR at RB
        rw [V0.out, hk] at RB
        clear hk V0
        go_wp2_with fail
        refine (RB.out _).mono ?_
        rintro e w7 ⟨rfl, hb7⟩
        have B7 := Lib.hid (Below.step BT.out hb7)
        clear hb7 RB
        go_wp2
        go_ret
        exact ⟨rfl, B7.out⟩
      | true =>
        obtain ⟨b, hr, hb⟩ := readV_of hk
        unfold GivesR at RB
        rw [hk] at RB
        have HB := Lib.hid hb
        have HR := Lib.hid hr
        generalize readV (readD (numsOf a1) a2) = v at RB HB
        clear hk hb hr
        cases a2
        · have RS := Lib.hid (read_short HR.out)
          have ES : Hid (strOfNums (b.long.drop 2) = a1) := Lib.hid (by rw [← RS.out.1, str_nums])
          have CS := Lib.hid (fun W => short_is HB.out RS.out.2 W)
          rw [ES.out] at CS
          go_wp2_with fail
          refine (RB.out _).mono ?_
          rintro e w7 ⟨rfl, hb7⟩
          have B7 := Lib.hid (Below.step BT.out hb7)
          clear hb7 RB
          go_wp2_with fail
          refine (long_any v _).mono ?_
          rintro e w8 ⟨S, ok, _, rfl, hb8⟩
          have B8 := Lib.hid (Below.step B7.out hb8)
          clear hb8 B7
          go_wp2_with fail
          refine (CS.out _).mono ?_
          rintro e w9 ⟨rfl, hb9⟩
          have B9 := Lib.hid (Below.step B8.out hb9)
          clear hb9 B8 CS
          go_wp2
          go_ret
          exact ⟨rfl, B9.out⟩
        · have ES : Hid (strOfNums b.long = a1) := Lib.hid (by rw [← read_long HR.out, str_nums])
          have CL := Lib.hid (fun W => long_is HB.out W)
          rw [ES.out] at CL
          go_wp2_with fail
          refine (RB.out _).mono ?_
          rintro e w7 ⟨rfl, hb7⟩
          have B7 := Lib.hid (Below.step BT.out hb7)
          clear hb7 RB
          go_wp2_with fail
          refine (CL.out _).mono ?_
          rintro e w8 ⟨rfl, hb8⟩
          have B8 := Lib.hid (Below.step B7.out hb8)
          clear hb8 B7 CL
          go_wp2_with fail
          refine (short_any v _).mono ?_
          rintro e w9 ⟨S, ok, _, rfl, hb9⟩
          have B9 := Lib.hid (Below.step B8.out hb9)
          clear hb9 B8
          go_wp2
          go_ret
          exact ⟨rfl, B9.out⟩
    · have BT := Lib.hid (B3.out.alloc B3.out.size (.cells (d6c 0 0 0 0 0 0) 22))
      simp only [d6c] at BT
      simp only [D6.cells, d6c, zeroD]
      have RB := Lib.hid (fun W => read_any a1 a2 W)
      cases hk : readB (readD (numsOf a1) a2) with
      | false =>
        have V0 := Lib.hid (readV_no hk)
        unfold GivesR at RB
        rw [V0.out, hk] at RB
        clear hk V0
        go_wp2_with fail
        refine (RB.out _).mono ?_
        rintro e w7 ⟨rfl, hb7⟩
        have B7 := Lib.hid (Below.step BT.out hb7)
        clear hb7 RB
        go_wp2
        go_ret
        exact ⟨rfl, B7.out⟩
      | true =>
        obtain ⟨b, hr, hb⟩ := readV_of hk
        unfold GivesR at RB
        rw [hk] at RB
        have HB := Lib.hid hb
        have HR := Lib.hid hr
        generalize readV (readD (numsOf a1) a2) = v at RB HB
        clear hk hb hr
        cases a2
        · have RS := Lib.hid (read_short HR.out)
          have ES : Hid (strOfNums (b.long.drop 2) = a1) := Lib.hid (by rw [← RS.out.1, str_nums])
          have CS := Lib.hid (fun W => short_is HB.out RS.out.2 W)
          rw [ES.out] at CS
          go_wp2_with fail
          refine (RB.out _).mono ?_
          rintro e w7 ⟨rfl, hb7⟩
          have B7 := Lib.hid (Below.step BT.out hb7)
          clear hb7 RB
          go_wp2_with fail
          refine (long_any v _).mono ?_
          rintro e w8 ⟨S, ok, _, rfl, hb8⟩
          have B8 := Lib.hid (Below.step B7.out hb8)
          clear hb8 B7
          go_wp2_with fail
          refine (CS.out _).mono ?_
          rintro e w9 ⟨rfl, hb9⟩
          have B9 := Lib.hid (Below.step B8.out hb9)
          clear hb9 B8 CS
          go_wp2
          go_ret
          exact ⟨rfl, B9.out⟩
        · have ES : Hid (strOfNums b.long = a1) := Lib.hid (by rw [← read_long HR.out, str_nums])
          have CL := Lib.hid (fun W => long_is HB.out W)
          rw [ES.out] at CL
          go_wp2_with fail
          refine (RB.out _).mono ?_
          rintro e w7 ⟨rfl, hb7⟩
          have B7 := Lib.hid (Below.step BT.out hb7)
          clear hb7 RB
          go_wp2_with fail
          refine (CL.out _).mono ?_
          rintro e w8 ⟨rfl, hb8⟩
          have B8 := Lib.hid (Below.step B7.out hb8)
          clear hb8 B7 CL
          go_wp2_with fail
          refine (short_any v _).mono ?_
          rintro e w9 ⟨S, ok, _, rfl, hb9⟩
          have B9 := Lib.hid (Below.step B8.out hb9)
          clear hb9 B8
          go_wp2
          go_ret
          exact ⟨rfl, B9.out⟩

/-! ### THE ROW's STEP -/
set_option maxRecDepth 100000 in
theorem lifted (os : Os) (started : os.Started) (H : Type) (enc : TypeId × Value → H) :
    ReturnsInHanded {} Try.checked os 5 .any (Rows.clockBackSpec.pre6 enc Try.prog Try.f5 Rows.clockBackRow.domain false) (Rows.clockBackSpec.post enc Try.prog Try.f5 false true false false) := by
  refine returnsInHanded_of_change (C := Try.checked) own started (by kernel_rfl) Try.func5
    (ChangeSpec.witness6 (enc := enc) (C := Try.checked) false ⟨#[], #[.int .i64 0, .string ByteArray.empty, .bool false], []⟩ 8 (by kernel_rfl) (by kernel_rfl) (by kernel_rfl) (by kernel_rfl)) ?_
  intro W base args ds gs before hval0 hW hcnd _
  have hval : ∀ (j : Nat) t v, Try.f5.params[j]? = some t → args[j]? = some v → Value.okWide Try.prog W .any base t v := hval0
  have hW' := hW
  obtain ⟨p, q, hA0, hV, rfl, hfz, hnd⟩ := hW
  have hA : DataW.TrodAll enc Try.prog W 0 (fun _ => true) true Try.f5.params.toList args.toList ds p := hA0
  rw [Try.params5] at hA hval
  obtain ⟨v0, vs0, d0, ds0, p0, q0, hargs, rfl, rfl, h0, r0⟩ := trodAll_cons hA
  obtain ⟨v1, vs1, d1, ds1, p1, q1, rfl, rfl, rfl, h1, r1⟩ := trodAll_cons r0
  obtain ⟨v2, vs2, d2, ds2, p2, q2, rfl, rfl, rfl, h2, r2⟩ := trodAll_cons r1
  obtain ⟨rfl, rfl, rfl⟩ := trodAll_nil r2
  obtain rfl : args = #[v0, v1, v2] := by cases args; simp_all
  obtain ⟨rfl, rfl⟩ := trodVars_none hV
  obtain ⟨a0, rfl, rfl, rfl, w0⟩ := open_int Try.underlying2 (hval 0 2 v0 rfl rfl) h0
  obtain ⟨a1, rfl, rfl, rfl, w1⟩ := open_string Try.underlying9 (hval 1 9 v1 rfl rfl) h1
  obtain ⟨a2, rfl, rfl, rfl⟩ := open_bool Try.underlying4 (hval 2 4 v2 rfl rfl) h2
  clear hA0 hval0
  refine (walk a0 a1 a2 W w0 w1).mono fun e W' ⟨he, bel⟩ => ?_
  subst he
  exact ⟨_, rfl, _, _, _, [], _, [], hW', trodAll_mk1 (shut_bool Try.underlying4 _), (trodAll_cons_mk (shut_int Try.underlying2 w0) (trodAll_cons_mk (shut_string Try.underlying9 w1) (trodAll_cons_mk (shut_bool Try.underlying4 _) trodAll_mk0))), rfl, bel.frame _, fun h => by cases h⟩

theorem over : Rows.clockBackRow.holds Try.pinned (OpenSpec.ofChange Rows.clockBackSpec) :=
  OpenClaim.holds_of_wide 5 Try.f5 rfl rfl rfl rfl rfl rfl rfl ⟨rfl, rfl, rfl, rfl, rfl⟩ rfl rfl rfl rfl rfl (by kernel_rfl) Try.func5 (by kernel_rfl)
    (of_decide_eq_true (by kernel_rfl)) (by unfold Func.isWrapper; first | (rw [if_pos (by decide +kernel)]; kernel_rfl) | (rw [if_neg (by decide +kernel)]; exact ⟨rfl, rfl⟩))
    (fun os started H enc _ => lifted os started H enc)

theorem proved : Rows.ClockBackSaid := over
#print axioms proved
end Go.Proofs.Ytebefamnmmbdnaa.clockBack
